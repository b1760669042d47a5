import PyProof.Rows.All
import Wide.All
import OpenK.KSplit
import OpenK.KApp
import KE.RegKMod
import KE.KJoinElse
import KE.KTops
import KE.RegKSuper
import KE.RegLcAnyAll
import KE.KCells
import KE.KPassesOwn
import KE.KNestStore
import KE.KStopIter
import KE.RegKBase
import KE.KDictOne
import KE.KxDecode
import KE.RegKMathGB
import KE.KNestM
import KE.KDflt
import KE.KOwnIterCall
import KE.KSortedM
import KE.KxLen
import KE.RegKMathGC
import KE.KIsClose
import KE.KDisp
import KE.KSetIn
import KE.KRevSl
import KE.KEqDeep
import KE.KAnyBase
import KE.KWhile
import KE.KRevIter
import KE.KTreeR
import KE.KxStill
import KE.KFinally
import KE.KTopLam
import KE.KWithOwn
import KE.KOpsOwn
import KE.KDictNew
import KE.KWhileD
import KE.KSumEnd
import KE.KPopAny
import KE.KGrown
import KE.KItemAt
import KE.KTextLit
import KE.KTupDict
import KE.KFmtOwn
import KE.KMinKey
import KE.KExtendNil
import KE.KMethU
import KE.KDictAnyTail
import KE.RegKStar
import KE.RegKTupTruth
import KE.RegKTupSum
import KE.KMethJoin
import KE.KPathRangeEnd
import KE.RegKParC
import KE.KxAffix
import KE.KxField
import KE.RegKMatchCls
import KE.KLcPair
import KE.KJoinL
import KE.RegKNeg
import KE.KxPercentT
import KE.KBytesCut
import KE.KCompIf
import KE.KxFormat
import KE.KTypeName
import KE.KCompText
import KE.BytesMulAny
import KE.KPairAssign
import KE.KTypeOf
import KE.KMulAny
import KE.KBytesMenu
import KE.KTextDict
import KE.KPathShort
import KE.KSplitRange
import KE.KKinds
import KE.KxPart
import KE.KRangeItem
import KE.KRangeNest
import KE.KSetAt
import KE.KxTruthy
import KE.KPairRows
import KE.KBytesMore
import KE.KRangePlain
import KE.KBitsMul
import KE.KTextTable
import KE.KForList
import KE.KIdxIf
import KE.KAssignIn
import KE.KFirstTurn
import KE.KOwnRange
import KE.KLooksOwn
import KE.KDictWord
import KE.KTurnsGround
import KE.KFinFacts
import KE.RegKTryOn
import KE.KCenter
import KE.KStrWords
import KE.KStateTextK
import KE.KStateWGiven
import KE.KCallTup
import KE.KTreeF
import KE.KEndWord
import KE.KStateBytes
import KE.KRangeEnd
import KE.KOf
import KE.KRepItem
import KE.KListLetter
import KE.KSliceSign
import KE.KToBytes
import KE.KPathText
import KE.KMinBuiltin
import KE.KFromBytes
import KE.KEqDat
import KE.KBytesUnr
import KE.KIsBytes
import KE.KCallRec
import KE.KEndW
import KE.RegLGeC
import Wide.FinOn
import Lean
import PyProof.EqAt
import PyProof.EqKinds
import PyProof.TupleCall
import PyProof.ReprRoads
import PyProof.ReprBulk
import PyProof.Rows.RegStrFacts
import PyProof.StrBlockH
import PyProof.FitsBits
import KE.KTurns
import PyProof.NeKinds
import KE.KNest
import KE.KSortKey
import PyProof.ListRange
import PyProof.Rows.SortWalk
import KE.KListMore
import KE.KSortTup
import PyProof.Rows.SumAny
import PyProof.MinMaxWalk
import PyProof.WalkInts
import PySem.Challenge.RW_bestheads_k96_whole_rooms_of_a_book
set_option exponentiation.threshold 6000
set_option Elab.async false
set_option bootstrap.genMatcherCode false
set_option genSizeOf false
set_option compiler.extract_closed false
set_option linter.all false
set_option maxRecDepth 100000
set_option maxHeartbeats 4000000
set_option hygiene false in
local macro_rules | `(tactic| walk_at "O")=>`(tactic| with_reducible repeat((first|replace h:=JC h|replace h:=JD h|replace h:=JF h|replace h:=JG h|replace h:=JH h|replace h:=JK h|replace h:=JL h|replace h:=JM h|replace h:=JN h|replace h:=JQ h|replace h:=JR h|replace h:=JT h|replace h:=wj h|replace h:=JV h|replace h:=JW h|replace h:=JX h|replace h:=JZ h|replace h:=J0 h|replace h:=J1 h|replace h:=J2 h|replace h:=J3 h|replace h:=J4 h|replace h:=J5 h|replace h:=J6 h|replace h:=J7 h|replace h:=J8 h|replace h:=J9 h|replace h:=Ka h|replace h:=Kc h|replace h:=Kd h); (repeat obtain⟨_,h⟩:=h); rename_i ee; first|subst ee|cases ee))
set_option hygiene false in
local macro_rules | `(tactic| walk_at "o")=>`(tactic| with_reducible repeat first|refine Yw h λ_ _ h=>?_|refine Yx h λ_ _ _ _ h=>?_|refine Yy h λ_ _ _ h=>?_|refine Yz h λ_ _ _ _ h=>?_|refine YB h λ_ _ _ h=>?_|refine YC h λ_ _ _ _ h=>?_|refine YD h λ_ _ _ h=>?_|refine YF h λ_ _ _ h=>?_|refine YG h λ_ _ h=>?_|refine YH h λ_ _ _ _ h=>?_|refine YJ h λ_ _ _ _ h=>?_|refine YK h λ_ _ _ h=>?_|refine YL h λ_ _ _ _ h=>?_|refine YM h λ_ _ _ _ h=>?_|refine YQ h λ_ _ _ h=>?_|refine YS h λ_ _ h=>?_|refine YT h λ_ _ h=>?_|refine YW h λ_ _ _ _ h=>?_|refine YX h λ_ _ _ h=>?_|refine YZ h λ_ _ _ _ h=>?_|refine Y0 h λ_ _ _ _ _ h=>?_|refine Y4 h λ_ _ _ _ h=>?_|refine Y5 h λ_ _ _ h=>?_|refine Y6 h λ_ _ _ h=>?_|refine Y7 h λ_ _ _ _ _ _ _ h=>?_|refine Y8 h λ_ _ h=>?_|refine Y9 h λh=>?_|refine Za h λ_ h=>?_|refine Zb h λh=>?_|refine Zc h λh=>?_|refine Zd h λ_ _ _ h=>?_|refine Ze h λ_ h=>?_|refine Zf h λ_ h=>?_|refine Zg h λ_ h=>?_|refine Zh h λh=>?_)
set_option hygiene false in
local macro_rules | `(tactic| exists $t)=>`(tactic| (refine(?h:VB ?f->SF) ?g; (case g=>exact $t); (case h=>exact λ_=>?f)))
set_option hygiene false in
local macro_rules | `(tactic| walk_at "b")=>`(tactic| first|with_reducible assumption|exact decide_eq_true (by first|assumption|omega)|exact decide_eq_false (by first|assumption|omega)|((with_reducible apply L2.Zi); walk_at "b")|((with_reducible apply L2.Zj); walk_at "b")|exact rfl)
set_option hygiene false in
local macro_rules | `(tactic| walk_at "u")=>`(tactic| fail)
set_option hygiene false in
local macro_rules | `(tactic| walk_at "w")=>`(tactic| fail)
set_option hygiene false in
local macro_rules | `(tactic| walk_at "q")=>`(tactic| repeat' (first|with_reducible rfl|((with_reducible change _=List.getD _ _ _); exact rfl)|(with_reducible apply L2.Zk)|(with_reducible refine congrArg L2.Sl.ow ?_)|(with_reducible refine congrArg L2.Sl.sh ?_)|(with_reducible refine congrArg L2.Sl.dp ?_)))
set_option hygiene false in
local macro_rules | `(tactic| walk_at "1")=>`(tactic| first|(with_reducible first|assumption|apply L2.Zm|apply L2.Zn|apply L2.Zo|apply L2.wk|apply L2.Zq|apply L2.Zr)|walk_at "u" |walk_at "w" | ((with_reducible first | change L2.bY _ _=_ | change L2.eC _ _=_ | change L2.fL _=_ | change L2.dr _ _=_ | change L2.drs _ _=_ | change L2.con _ _=_ | change L2.cls _=_ | change L2.Bd _ _=_ | change L2.Bf _=_ | change L2.gW _=_ | change L2.Rs.ok _=_ | change L2.Kf _=_ | change L2.Bg _=_ | change L2.ou _=_ | change L2.qp _=_ | change _=some _ | change _=List.map _ _ | change L2.cO _ _=_ | change _=Tr.lst _ | change _=Tr.int _ | change _=Tr.tup _ | change L2.oA _ _ _=_ | change L2.Kg _ _=_ | change (_ && _)=_); exact rfl) | (with_reducible first | exact L2.st0 | exact L2.st1 | exact L2.st2 | exact L2.st3 | exact L2.wu | exact L2.mO | exact L2.Zt | exact L2.oE | apply L2.tM) | (with_reducible first | exact L2.Zu | exact L2.Zv | exact L2.Zw | exact L2.Zx | exact L2.Zy | exact L2.Zz | exact L2.ZC | exact L2.Kh | exact L2.Bh | exact L2.ZD | exact L2.Km | exact L2.ZF | exact L2.ZG | apply L2.ZJ | apply L2.ZK | apply L2.Ko | apply L2.ZL | apply L2.ZM) | (with_reducible first | apply L2.ZP | apply L2.ZQ | apply L2.ZR | apply L2.ZS | apply L2.ZV | apply L2.ZW | apply L2.ZX | apply L2.xBA | apply L2.Z0 | apply L2.Z1 | apply L2.xC1 | apply L2.Z2 | apply L2.Z4 | apply L2.Z5 | apply L2.Z6 | apply L2.Z7 | apply L2.Z8 | apply L2.Z9 | apply L2.xAp | apply L2.wOw | apply L2.wON | apply L2.oV1 | apply L2.oV2 | apply L2.xEI | apply L2.xEA | apply L2.xEO | apply L2.xEN | apply L2.xUn | apply L2.xC2 | apply L2.xCh | apply L2.xCk | apply L2.wPa | apply L2.wFr | apply L2.xFz | apply L2.wDw | apply L2.xVw | apply L2.xSl | apply L2.xOS | apply L2.xRg | apply L2.xMp | apply L2.xM2 | apply L2.xZi | apply L2.xFl | apply L2.xLR | apply L2.xFO | apply L2.xIn | apply L2.xG2 | apply L2.xG3 | apply L2.xGN | apply L2.wAg) | ((with_reducible first | apply L2.xT | apply L2.wT | apply L2.pT); (walk_at "b"))|((with_reducible first|apply L2.xF|apply L2.wF|apply L2.pF); (walk_at "b"))|(with_reducible first|apply L2.xOv|apply L2.xAv|apply L2.xOV|apply L2.xAV)|((with_reducible change L2.fX _=_); exact rfl)|((with_reducible change L2.vw _=_); (dsimp only[L2.vw,L2.Kq,List.map] <;> exact rfl))|((with_reducible change L2.Bj _ _ _=_); exact rfl)|((with_reducible change L2.aX _ _=_); exact rfl)|((with_reducible change L2.kJ _ _=_); exact rfl)|((with_reducible change L2.qw _=_); exact rfl)|((with_reducible change L2.aac _=_); exact rfl)|((with_reducible change L2.wz _ _=_); exact rfl)|((with_reducible change L2.wC _ _=_); exact rfl)|((with_reducible change L2.wD _=_); exact rfl)|((with_reducible first|apply L2.jt|apply L2.xSN); decide +kernel)|exact λ_=>rfl|((with_reducible first|change ∀_ _,L2.dG _ _ _=_|change ∀_ _,L2.aY _ _ _=_); exact λ_ _=>rfl)|(dsimp only; (with_reducible apply L2.exV); walk_at "q")|((change ∀_,_∈_->_=_); intro x hx; try rw[List.mem_range]at hx)|((with_reducible change L2.cV _ _=_); (first|(with_reducible first|exact c1 _|exact c2 _|exact c3 _)|exact L2.cMr (by omega)|exact L2.cMl (by omega)))|((with_reducible change L2.iI _ _=_); first|(with_reducible first|exact c1 _|exact c2 _|exact c3 _)|exact L2.cDl (by omega) (by omega))|omega|((with_reducible change _≠_); decide)|(rw[List.length_map]; exact List.length_filter_le ..)|((with_reducible first|change _<=_|change _<_); simp only[List.length_map,List.length_range,List.length_take,List.length_append,List.length_cons,List.length_nil]; omega))
set_option hygiene false in
local macro_rules | `(tactic| walk_at "p")=>`(tactic| (dsimp only[L2.pt,List.map,List.set]; (try with_reducible apply L2.wG); walk_at "r"))
set_option hygiene false in
local macro_rules | `(tactic| walk_at "r")=>`(tactic| (repeat(walk_at "1")))
set_option hygiene false in
local macro_rules | `(tactic| walk_at "e")=>`(tactic| (apply L2.wFe; (dsimp only[L2.gY,List.map,List.length,List.replicate,List.append,HAppend.hAppend,Append.append,Nat.reduceSub,Nat.reduceAdd] <;> exact rfl); walk_at "r"))
set_option hygiene false in
local macro_rules | `(tactic| walk_at "d")=>`(tactic| (apply L2.Bl; (dsimp only[L2.gY,List.map,List.length,List.replicate,List.append,HAppend.hAppend,Append.append,Nat.reduceSub,Nat.reduceAdd] <;> exact rfl); walk_at "r"))
set_option hygiene false in
local macro_rules | `(tactic| walk_at "w")=>`(tactic| first|(with_reducible first|apply L2.Bm|apply L2.Bo|apply L2.Bp|apply L2.Br|apply L2.Bs|apply L2.Bt|apply L2.Bu|apply L2.Bv|apply L2.xCD|apply L2.Bw|apply L2.Bx|apply L2.BJ|apply L2.BK|apply L2.BL)|((with_reducible change L2.oF _ _=_); first|(apply L2.BP; exact rfl)|(apply L2.BR; exact rfl))|((with_reducible change L2.mQ _ _ _=_); first|(apply L2.BW; exact rfl)|(apply L2.BX; exact rfl; exact rfl))|((with_reducible first|change L2.BZ _=_|change L2.cJ _ _=_|change L2.aZ _=_|change L2.fM _=_); exact rfl))
set_option hygiene false in
local macro_rules | `(tactic| walk_at "m")=>`(tactic| (apply L2.dFn; (dsimp only[L2.gY,List.map,List.length,List.replicate,List.append,HAppend.hAppend,Append.append,Nat.reduceSub,Nat.reduceAdd] <;> exact rfl); walk_at "r"))
set_option hygiene false in
local macro_rules | `(tactic| walk_at "n")=>`(tactic| (apply L2.dFe; (dsimp only[L2.gY,List.map,List.length,List.replicate,List.append,HAppend.hAppend,Append.append,Nat.reduceSub,Nat.reduceAdd] <;> exact rfl); walk_at "r"))
set_option hygiene false in
local macro_rules | `(tactic| walk_at "w")=>`(tactic| first|(with_reducible first|apply L2.Bm|apply L2.Bo|apply L2.Bp|apply L2.Br|apply L2.Bs|apply L2.Bt|apply L2.Bu|apply L2.Bv|apply L2.xCD|apply L2.Bw|apply L2.Bx|apply L2.BJ|apply L2.Kr|apply L2.Ks|apply L2.Ku|apply L2.Ky|apply L2.Kz|apply L2.KC|apply L2.BK|apply L2.BL)|((with_reducible change L2.oF _ _=_); first|(apply L2.BP; exact rfl)|(apply L2.BR; exact rfl))|((with_reducible change L2.mQ _ _ _=_); first|(apply L2.BW; exact rfl)|(apply L2.BX; exact rfl; exact rfl))|((with_reducible first|change L2.BZ _=_|change L2.cJ _ _=_|change L2.aZ _=_|change L2.jJ _ _=_|change L2.fM _=_); exact rfl))
set_option hygiene false in
local macro_rules | `(tactic| walk_at "w")=>`(tactic| first|(with_reducible first|apply L2.mSq|apply L2.mSn|apply L2.mNo|apply L2.mIf|apply L2.xEs|apply L2.xMh|apply L2.xCM|apply L2.wFs|apply L2.wFw|apply L2.wFa|apply L2.wSO|apply L2.wRf|apply L2.wNw|apply L2.wOt|apply L2.aad|apply L2.Bm|apply L2.Bo|apply L2.Bp|apply L2.Br|apply L2.Bs|apply L2.Bt|apply L2.Bu|apply L2.Bv|apply L2.xCD|apply L2.Bw|apply L2.Bx|apply L2.BJ|apply L2.Kr|apply L2.Ks|apply L2.Ku|apply L2.Ky|apply L2.Kz|apply L2.KC|apply L2.BK|apply L2.BL)|((with_reducible change L2.mU _ _ _ _=_); first|(apply L2.xFo; exact rfl)|(apply L2.xFv; exact rfl))|((with_reducible change L2.WM _ _); first|(apply L2.mT; walk_at "b")|(apply L2.mF; walk_at "b")|apply L2.mRt)|((with_reducible change L2.oF _ _=_); first|(apply L2.BP; exact rfl)|(apply L2.BR; exact rfl))|((with_reducible change L2.mQ _ _ _=_); first|(apply L2.BW; exact rfl)|(apply L2.BX; exact rfl; exact rfl))|((with_reducible first|change L2.gC _ _=_|change L2.tO _ _=_|change L2.dH _ _ _=_|change L2.kO _ _=_|change L2.back _ _=_|change L2.ju _=_|change L2.Ca _ _=_|change L2.BZ _=_|change L2.cJ _ _=_|change L2.aZ _=_|change L2.jJ _ _=_|change L2.fM _=_); exact rfl))
set_option hygiene false in
local macro_rules | `(tactic| walk_at "f")=>`(tactic| (apply L2.mFn; (dsimp only[L2.kW,List.map,List.length,List.replicate,List.append,HAppend.hAppend,Append.append,HSub.hSub,Sub.sub,Nat.reduceSub,Nat.reduceAdd] <;> exact rfl); walk_at "r"))
set_option hygiene false in
local macro_rules | `(tactic| walk_at "u")=>`(tactic| with_reducible first|exact jK _|exact gZ _|apply mV)
set_option hygiene false in
local macro_rules | `(tactic| walk_at "u")=>`(tactic| with_reducible first|exact jK _|exact gZ _|apply mV|apply KD)
set_option hygiene false in
local macro_rules | `(tactic| walk_at "u")=>`(tactic| with_reducible first|exact jK _|exact gZ _|apply mV|apply KD|apply KH|apply aae|apply aaf|exact aag|exact aah|exact aai)
set_option hygiene false in
local macro_rules | `(tactic| walk_at "u")=>`(tactic| with_reducible first|exact aaj|apply aak|exact jL _ _ _)
set_option hygiene false in
local macro_rules | `(tactic| walk_at "u")=>`(tactic| with_reducible first|exact jK _|exact gZ _|apply mV|apply jw|apply wH|exact jL _ _ _|exact K96.mW|apply kY (0:Nat)|apply kY ((0,1):Int × Int))
set_option hygiene false in
local macro_rules | `(tactic| walk_at "u")=>`(tactic| first|(with_reducible first|exact jK _|exact gZ _|apply mV|apply jw|apply wH|exact K96.inN _ _|exact jL _ _ _|exact K96.mW|apply kY (0:Nat)|apply kY ((0,1):Int × Int)|exact K96.KJ|exact K96.KN|exact K96.KQ|exact K96.KR|exact K96.kl|exact K96.kn (.inl rfl)|exact K96.kn (.inr rfl)|exact K96.Cd _|exact K96.noI _|apply cp)|((with_reducible apply K96.KY); exact rfl))
set_option hygiene false in
local macro_rules | `(tactic| walk_at "u")=>`(tactic| with_reducible first|exact jK _|exact gZ _|apply mV|apply jw|apply wH|exact jL _ _ _|exact K96.mW|apply kY (0:Nat)|apply kY ((0,1):Int × Int)|apply cp)
set_option hygiene false in
local macro_rules | `(tactic| walk_at "u")=>`(tactic| first|(with_reducible first|exact jK _|exact gZ _|apply mV|apply jw|apply wH|exact K96.inN _ _|exact jL _ _ _|exact K96.mW|apply kY (0:Nat)|apply kY ((0,1):Int × Int)|exact K96.KJ|exact K96.KN|exact K96.KQ|exact K96.KR|exact K96.kl|exact K96.kn (.inl rfl)|exact K96.kn (.inr rfl)|exact K96.Cd _|exact K96.noI _|apply cp)|((with_reducible apply K96.KY); exact rfl))
section
namespace L2
open PySem PySem.Spec PyProof.Rows
inductive V where
 |non|bl (b:Bool)|int (i:Int)|str (x:Str)|qx (b:Array UInt8)|flt (b:UInt64)|ref (a:Addr)|ty (n:String)
 deriving DecidableEq
noncomputable def RelV:V->Value->Prop
 |.non,u=>u=Value.none
 |.bl b,u=>u=Value.bool b
 |.int i,u=>∃t,u=Value.int i t
 |.str x,u=>∃t,u=Value.str x t
 |.qx b,u=>∃t,u=Value.bytes b t
 |.flt b,u=>∃t,u=Value.float b t
 |.ref a,u=>u=Value.ref a
 |.ty n,u=>u=Value.type n
noncomputable abbrev Vals:List V->List Value->Prop:=Paired RelV
theorem Vals.length{xs:List V}{us:List Value}(r:Vals xs us):xs.length=us.length:=Paired.length r
theorem Vals.get:∀{xs:List V} {us:List Value} {i:Nat} {x:V},Vals xs us->xs[i]?=some x->∃u,us[i]?=some u/\RelV x u
 |_,_,_,_,.nil,e=>by simp at e
 |_,_,0,_,.cons r _,e=>by simp at e; subst e; exact⟨_,rfl,r⟩
 |_,_,i+1,x,.cons _ t,e=>by
  obtain⟨u,h1,h2⟩:=Vals.get (i:=i) (x:=x) t (by simpa using e)
  exact⟨u,by simpa using h1,h2⟩
theorem Vals.set{x:V}{u:Value}(r:RelV x u):∀{xs:List V} {us:List Value} (i:Nat),Vals xs us->Vals (xs.set i x) (us.set i u)
 |_,_,_,.nil=>.nil
 |_,_,0,.cons _ t=>.cons r t
 |_,_,i+1,.cons q t=>.cons q (Vals.set r i t)
theorem Vals.append:∀{xs ys:List V} {us ws:List Value},Vals xs us->Vals ys ws->Vals (xs++ys) (us++ws)
 |_,_,_,_,.nil,s=>s
 |_,_,_,_,.cons r t,s=>.cons r (Vals.append t s)
theorem Vals.take:∀{xs:List V} {us:List Value} (n:Nat),Vals xs us->Vals (xs.take n) (us.take n)
 |_,_,0,_=>.nil
 |_,_,_+1,.nil=>.nil
 |_,_,n+1,.cons r t=>.cons r (Vals.take n t)
theorem Vals.drop:∀{xs:List V} {us:List Value} (n:Nat),Vals xs us->Vals (xs.drop n) (us.drop n)
 |_,_,0,r=>r
 |_,_,_+1,.nil=>.nil
 |_,_,n+1,.cons _ t=>Vals.drop n t
theorem Vals.none_of:∀{xs:List V} {us:List Value} {i:Nat},Vals xs us->xs[i]?=none->us[i]?=none:=λ{xs us i} r e=>by
 have h1:=r.length
 have h2:xs.length<=i:=List.getElem?_eq_none_iff.mp e
 exact List.getElem?_eq_none_iff.mpr (by lia)
noncomputable def kZ:Option V->Option Value->Prop
 |some v,some u=>RelV v u
 |none,none=>True
 |_,_=>False
inductive HO where
 |lst (xs:List V)
 |tup (xs:List V)
 |ins (C dx:Addr) (fs:List (Str × V))
 |own (x:Addr)
 |rng (lo hi:Int)
 |cL (o:Obj) (u:HO)
 |bM (ps:Array Value)
 |ext (φ : Heap->Prop)
noncomputable abbrev Hp:=Addr->Option HO
noncomputable def upd(H:Hp)(a:Addr)(o:HO):Hp:=λb=>if b=a then some o else H b
theorem bN{H:Hp}{a:Addr}{o:HO}:upd H a o a=some o:=by unfold upd; rw[if_pos rfl]
theorem aH{H:Hp}{a b:Addr}{o:HO}(h:b≠a):upd H a o b=H b:=by unfold upd; rw[if_neg h]
theorem iJ{H:Hp}{a b:Addr}{o:HO}(h:H a=some o)(h':H b=none):a≠b:=by
 intro e; subst e; rw[h]at h'; cases h'
section
variable (P:Program)(w:World)
noncomputable def fO(P:Program)(w:World)(H:Hp)(h:Heap)(a:Addr):HO->Prop
 |.lst xs=>xs.length<=sizeLine/\∃(its:List Value) (n:Nat),Vals xs its/\h.get? a=some {cls:=.type "list",data:=.seq its.toArray n }
 |.tup xs=>xs.length<=sizeLine/\∃its:List Value,Vals xs its/\IsTup h a its.toArray
 |.ins C dx fs=>H dx=some (.own a)/\fs.length<=1000/\dx≠a/\h.get? a=some (PySem.W.instObj C dx) /\
   ∃mA,h.Ns1 dx mA/\(∀f,kZ (fs.lookup f) (mA f))/\PySem.Within mA (fs.map (·.1))
 |.own _=>∃o,h.get? a=some o
 |.rng lo hi=>∃t u v,h.get? a=some {cls:=.type "range",data:=.fields #[.int lo t,.int hi u,.int 1 v] }
 |.cL o u=>h.get? a=some o/\fO P w H h a u
 |.bM ps=>h.get? a=some {cls:=.none,data:=.fields ps }
 |.ext φ=>φ h/\(∃o,h.get? a=some o)/\∀h1 h2:Heap,φ h1->(∀o,h1.get? a=some o->h2.get? a=some o) -> φ h2
noncomputable def bZ(H:Hp)(h:Heap):Prop:=∀a o,H a=some o->fO P w H h a o
end
section
variable {P:Program}{w:World}{H H':Hp}{h h':Heap}{a:Addr}{o:HO}
theorem fO.lt(x:fO P w H h a o):a<h.objs.size:=by
 cases o with
 |lst xs=>obtain⟨_,_,_,_,e⟩:=x; exact Heap.lt_size e
 |tup xs=>obtain⟨_,_,_,p⟩:=x; exact p.lt
 |ins C dx fs=>obtain⟨_,_,_,e,_⟩:=x; exact Heap.lt_size e
 |own y=>obtain⟨_,e⟩:=x; exact Heap.lt_size e
 |rng lo hi=>obtain⟨_,_,_,e⟩:=x; exact Heap.lt_size e
 |cL ob u=>obtain⟨e,_⟩:=x; exact Heap.lt_size e
 |bM ps=>exact Heap.lt_size (show h.get? a=some _ from x)
 |ext φ=>obtain⟨_,⟨_,e⟩,_⟩:=x; exact Heap.lt_size e
theorem Paired.aal{α β : Type}{F G : α -> β -> Prop}:∀{l₁ : List α} {l₂ : List β},Paired F l₁ l₂ -> (∀a b,F a b->G a b)->Paired G l₁ l₂
 |_,_,.nil,_=>.nil
 |_,_,.cons r t,f=>.cons (f _ _ r) (Paired.aal t f)
theorem fO.stay(x:fO P w H h a o)(k:∀b u,(b=a\/H b=some (.own a))->h.get? b=some u->h'.get? b=some u)
  (ho:∀b,H b=some (.own a)->H' b=some (.own a)) (ht:∀b xs,H b=some (.tup xs)->H' b=some (.tup xs)):fO P w H' h' a o:=by
 induction o with
 |lst xs=>obtain⟨z,its,n,r,e⟩:=x; exact⟨z,its,n,r,k _ _ (.inl rfl) e⟩
 |tup xs=>obtain⟨z,its,r,ob,e,c⟩:=x; exact⟨z,its,r,ob,k _ _ (.inl rfl) e,c⟩
 |ins C dx fs =>
  obtain⟨d,z,ne,e,mA,⟨od,es,ep,e2,c⟩,r⟩:=x
  exact⟨ho _ d,z,ne,k _ _ (.inl rfl) e,mA,⟨od,es,ep,k _ _ (.inr d) e2,c⟩,r⟩
 |own y=>obtain⟨ob,e⟩:=x; exact⟨ob,k _ _ (.inl rfl) e⟩
 |rng lo hi=>obtain⟨t,u,v,e⟩:=x; exact⟨t,u,v,k _ _ (.inl rfl) e⟩
 |cL ob u ih=>obtain⟨e,q⟩:=x; exact⟨k _ _ (.inl rfl) e,ih q⟩
 |bM ps =>
  have e:h.get? a=some {cls:=.none,data:=.fields ps }:=x
  show h'.get? a=some {cls:=.none,data:=.fields ps }
  exact k a _ (.inl rfl) e
 |ext φ=>obtain⟨p,⟨o,e⟩,st⟩:=x; exact⟨st _ _ p λo q=>k _ _ (.inl rfl) q,⟨o,k _ _ (.inl rfl) e⟩,st⟩
theorem bZ.lt(x:bZ P w H h)(e:H a=some o):a<h.objs.size:=(x a o e).lt
theorem bZ.fresh(x:bZ P w H h)(e:h.objs.size<=a):H a=none:=by
 cases q:H a with
 |none=>rfl
 |some u=>exact absurd (Nat.lt_of_lt_of_le (x.lt q) e) (Nat.lt_irrefl _)
theorem bZ.kept(x:bZ P w H h)(k:∀b u,h.get? b=some u->h'.get? b=some u):bZ P w H h':=λa o e =>
 (x a o e).stay (λb u _ q=>k b u q) (λ_ q=>q) λ_ _ q=>q
theorem bZ.laid(x:bZ P w H h)(k:∀b u,h.get? b=some u->h'.get? b=some u)(hp:h.objs.size<=a)(new:fO P w (upd H a o) h' a o):bZ P w (upd H a o) h':=λb u e=>by
 have hn:=x.fresh hp
 by_cases hb:b=a
 .subst hb; rw[bN]at e; cases e; exact new
 .rw[aH hb]at e
  exact(x b u e).stay (λc v _ q=>k c v q) (λc q=>by rw[aH (iJ q hn)]; exact q) λc xs q=>by rw[aH (iJ q hn)]; exact q
end
noncomputable def Rd(H:Hp)(a:Addr)(u:HO):Prop:=H a=some u\/∃o,H a=some (.cL o u)
theorem Rd.of(h:H a=some u):Rd H a u:=.inl h
theorem Rd.ok{P:Program}{w:World}{H:Hp}{h:Heap}{a:Addr}{u:HO}(r:Rd H a u)(x:bZ P w H h):fO P w H h a u:=by
 rcases r with r|⟨o,r⟩
 .exact x a u r
 .obtain⟨_,q⟩:=x a _ r
  exact q
noncomputable def wI:Option HO->Prop
 |some (.lst _)=>True
 |some (.ins _ _ _)=>True
 |some (.ext _)=>True
 |_=>False
section
variable {P:Program}{w:World}{H:Hp}{h h':Heap}{x e:Addr}{o':HO}
theorem bZ.write(ok:bZ P w H h)(mu:wI (H x))(he:e=x\/H e=some (.own x))(k:∀b u,b≠e->h.get? b=some u->h'.get? b=some u)(heo:∃u,h'.get? e=some u)
  (new:fO P w (upd H x o') h' x o'):bZ P w (upd H x o') h':=λb u q=>by
 have KZ:∀c y,H c=some (.own y)->c≠x:=λc y r z=>by subst z; rw[r]at mu; exact mu
 have aam:∀c xs,H c=some (.tup xs)->c≠x:=λc xs r z=>by subst z; rw[r]at mu; exact mu
 by_cases hb:b=x
 .subst hb; rw[bN]at q; cases q; exact new
 .rw[aH hb]at q
  by_cases hbe:b=e
  .have q':H b=some (.own x):=by
    rcases he with z|z
    .exact absurd (hbe.trans z) hb
    .rw[hbe]; exact z
   rw[q]at q'; cases q'
   obtain⟨v,hv⟩:=heo
   exact⟨v,by rw[hbe]; exact hv⟩
  .refine(ok b u q).stay (λc v hc r=>k c v ?_ r) (λc r=>by rw[aH (KZ c b r)]; exact r) λc xs r=>by rw[aH (aam c xs r)]; exact r
   rcases hc with rfl|hc
   .exact hbe
   .rintro rfl
    rcases he with z|z
    .exact KZ c b hc z
    .rw[hc]at z; cases z; exact hb rfl
end
structure Un(fs ex:List Addr)(H H':Hp)(h h':Heap):Prop where
 keep:∀b o,h.get? b=some o->H b=none->b∉fs->b∉ex->h'.get? b=some o
 slot:∀b o,h.get? b=some o->H b=none->b∈fs->b∉ex->∃sl,h'.get? b=some {o with slots:=sl }
 free:∀b o,h.get? b=some o->H b=none->b∉ex->H' b=none
 there:∀b o,h.get? b=some o->b∉ex->∃o',h'.get? b=some o'
 tups:∀b xs,H b=some (.tup xs)->H' b=some (.tup xs)
 gD:∀b o u,H b=some (.cL o u)->H' b=some (.cL o u)
 gF:∀b ps,H b=some (.bM ps)->∃more,H' b=some (.bM (ps++more))
section
variable {fs fs' ex ex':List Addr}{H H1 H2:Hp}{h h1 h2 h':Heap}{a x e:Addr}{o:HO}
theorem Un.any(u:Un fs ex H H1 h h1)(q:h.get? b=some ob)(n:H b=none)(hx:b∉ex):∃sl,h1.get? b=some {ob with slots:=sl }:=by
 by_cases hb:b∈fs
 .exact u.slot b ob q n hb hx
 .exact⟨ob.slots,u.keep b ob q n hb hx⟩
theorem Un.trans(a:Un fs ex H H1 h h1)(b:Un fs ex H1 H2 h1 h2):Un fs ex H H2 h h2 where
 keep:=λc ob q n hc hx=>b.keep c ob (a.keep c ob q n hc hx) (a.free c ob q n hx) hc hx
 slot:=λc ob q n hc hx=>by
  obtain⟨sl,e1⟩:=a.slot c ob q n hc hx
  obtain⟨sl',e2⟩:=b.slot c _ e1 (a.free c ob q n hx) hc hx
  exact⟨sl',e2⟩
 free:=λc ob q n hx=>by
  obtain⟨o',e1⟩:=a.there c ob q hx
  exact b.free c o' e1 (a.free c ob q n hx) hx
 there:=λc ob q hx=>by
  obtain⟨o',e1⟩:=a.there c ob q hx
  exact b.there c o' e1 hx
 tups:=λc xs q=>b.tups c xs (a.tups c xs q)
 gD:=λc ob xs q=>b.gD c ob xs (a.gD c ob xs q)
 gF:=λc ps q=>by
  obtain⟨m1,e1⟩:=a.gF c ps q
  obtain⟨m2,e2⟩:=b.gF c _ e1
  exact⟨m1++m2,by rw[e2,Array.append_assoc]⟩
theorem Un.kept(k:∀b u,h.get? b=some u->h'.get? b=some u):Un fs ex H H h h' :=
 ⟨λb ob q _ _ _=>k b ob q,λb ob q _ _ _=>⟨ob.slots,k b ob q⟩,λ_ _ _ n _=>n,λb ob q _=>⟨ob,k b ob q⟩,λ_ _ q=>q,λ_ _ _ q=>q,λ_ ps q=>⟨#[],by rw[q]; simp⟩⟩
theorem Un.refl:Un fs ex H H h h:=Un.kept λ_ _ q=>q
theorem Un.laid(k:∀b u,h.get? b=some u->h'.get? b=some u)(hp:h.objs.size<=a)(hn:H a=none):Un fs ex H (upd H a o) h h' where
 keep:=λb u q _ _ _=>k b u q
 slot:=λb u q _ _ _=>⟨u.slots,k b u q⟩
 free:=λb u q n _=>by rw[aH (Nat.ne_of_lt (Nat.lt_of_lt_of_le (Heap.lt_size q) hp))]; exact n
 there:=λb u q _=>⟨u,k b u q⟩
 tups:=λb xs q=>by rw[aH (iJ q hn)]; exact q
 gD:=λb u xs q=>by rw[aH (iJ q hn)]; exact q
 gF:=λb ps q=>⟨#[],by rw[aH (iJ q hn),q]; simp⟩
theorem Un.write(mu:wI (H x))(he:e=x\/H e=some (.own x))(k:∀b u,b≠e->h.get? b=some u->h'.get? b=some u)(heo:∃u,h'.get? e=some u):Un fs ex H (upd H x o) h h':=by
 have hx:∀b,H b=none->b≠x:=λb n z=>by subst z; rw[n]at mu; exact mu
 have hb:∀b,H b=none->b≠e:=λb n z=>by
  subst z
  rcases he with r|r
  .exact hx b n r
  .rw[n]at r; cases r
 have hm:∀b u,H b=some u->¬wI (some u)->b≠x:=λb u q nm z=>by subst z; rw[q]at mu; exact nm mu
 refine⟨λb u q n _ _=>k b u (hb b n) q,λb u q n _ _=>⟨u.slots,k b u (hb b n) q⟩,λb u q n _=>by rw[aH (hx b n)]; exact n,λb u q _=>?_,
  λb xs q=>by rw[aH (hm b _ q λz=>z)]; exact q,λb u xs q=>by rw[aH (hm b _ q λz=>z)]; exact q,λb ps q=>⟨#[],by rw[aH (hm b _ q λz=>z),q]; simp⟩⟩
 by_cases hbe:b=e
 .subst hbe; exact heo
 .exact⟨u,k b u hbe q⟩
theorem Un.mono(u:Un fs ex H H1 h h1)(hs:∀b∈fs,b∈fs')(hx:∀b∈ex,b∈ex'):Un fs' ex' H H1 h h1 :=
 ⟨λb ob q n hb he=>u.keep b ob q n (λz=>hb (hs b z)) λz=>he (hx b z),λ_ _ q n _ he=>u.any q n λz=>he (hx _ z),λb ob q n he=>u.free b ob q n λz=>he (hx b z),λb ob q he=>u.there b ob q λz=>he (hx b z),u.tups,u.gD,u.gF⟩
end
noncomputable def wJ(h:Heap)(H:Hp):List Addr:=(List.range h.objs.size).filter λa=>(H a).isSome
noncomputable def lg(h:Heap)(H:Hp):Heap:=PySem.W.hideAll h (wJ h H)
theorem aan(h:Heap)(H:Hp):(lg h H).objs.size=h.objs.size:=PySem.W.hideAll_size _ _
theorem aao(e:h.get? b=some o)(n:H b=none):(lg h H).get? b=some o :=
 PySem.W.hideAll_get _ e λhm=>by
  have q:(H b).isSome=true:=(List.mem_filter.mp hm).2
  rw[n]at q; simp at q
theorem aap(e:(lg h H).get? b=some o):h.get? b=some o/\H b=none:=by
 have e':h.get? b=some o:=PySem.W.of_hideAll (wJ h H) e
 refine⟨e',?_⟩
 cases q:H b with
 |none=>rfl
 |some x =>
  have hm:b∈wJ h H:=List.mem_filter.mpr ⟨List.mem_range.mpr (Heap.lt_size e'),by simp[q]⟩
  have z:(lg h H).get? b=none:=PySem.W.hideAll_none (wJ h H) hm
  rw[z]at e; cases e
noncomputable def aaq(g h:Heap)(L:Addr):List (Addr × Obj):=(List.range h.objs.size).filterMap λa=>if a=L\/(g.get? a).isSome=true then none else(h.get? a).map λo=>(a,o)
noncomputable def rest(g h:Heap)(L d:Addr):List (Addr × Obj):=(aaq g h L).filter λp=>decide (p.1≠d)
structure Mod(K:PySem.W.Frag)(mg:Str->Option Value)(base:Heap):Prop where
 tQ:K.In base
 glob:base.Ns mainGlobals mg
 blt:∃mb,base.Ns builtinsNs mb/\∀x:Str,x ≠ "__name__" -> mb x=bootBuiltins x
 nolimit:base.NoLimit
structure Cx where
 prog:Program
 w:World
 K:PySem.W.Frag
 mg:Str->Option Value
 base:Heap
 A:Around
 N:List Str
 s₀ : Shared
 H₀ : Hp
 env:Env
 outer:List Env
 stack:List Env
 ex:List Addr
 fn:Str->Bool
 calm:Bool
 pn:List (Addr × Obj)
 xe:Value->Shared->Prop
noncomputable def frs(l:List Env):List Addr:=l.filterMap (·.frame)
noncomputable abbrev Cx.fs(X:Cx):List Addr:=frs X.outer
noncomputable def wK(sc:Scope)(x:Str):Prop:=sc.names.lookup x=some .local\/sc.names.lookup x=some .cell\/sc.names.lookup x=some .free
noncomputable def Loc(sc:Scope)(x:Str):Prop:=sc.names.lookup x=some .local\/sc.names.lookup x=some .cell
noncomputable def Look(env:Env)(h:Heap)(m:Str->Option Value)(x:Str)(u:Value):Prop :=
 (env.kindOf x=some .local/\m x=some u)\/((env.kindOf x=some .cell\/env.kindOf x=some .free)/\∃c,env.cells.lookup x=some c/\h.IsCell c (some u))
structure Cx.Ok(X:Cx):Prop where
 mod:Mod X.K X.mg X.base
 kind:X.env.scope.kind=.function
 glob:X.env.globals=mainGlobals
 blt:X.env.builtins=builtinsNs
 above:X.s₀.heap.objs.size<=X.env.locals
 inj:∀x y c,X.env.cells.lookup x=some c->X.env.cells.lookup y=some c->x=y
 has:∀x,(X.env.kindOf x=some .cell\/X.env.kindOf x=some .free)->∃c,X.env.cells.lookup x=some c
 cab:∀x c,X.fn x=true->X.env.cells.lookup x=some c->X.s₀.heap.objs.size<=c
 hd:X.calm=true->X.A.handled=none
 frames:X.A.frames=some X.stack
 stk:X.stack=X.outer\/(X.stack=X.env::X.outer/\X.env.frame=some X.env.locals)
 K1:∀b∈X.ex,b≠X.env.locals/\∀x c,X.env.cells.lookup x=some c->c≠b
 bs:∀b o,X.base.get? b=some o->X.s₀.heap.get? b=some o/\X.H₀ b=none
 jx:X.base.objs.size<=X.s₀.heap.objs.size
 tR:∀b o,X.base.get? b=some o->b∉X.ex
 wM:∀b∈X.ex,b∉X.fs
 ig:X.s₀.heap.FunFrames X.base X.outer
 lq:∀b∈X.fs,X.H₀ b=none
structure Inv(X:Cx)(pins:List (Addr × Obj))(σ : List (Option V))(H:Hp)(s:Shared):Prop where
 ok:X.Ok
 os:s.os=X.s₀.os
 bare:AllBare s.gens
 base:Un X.fs X.ex X.H₀ H X.s₀.heap s.heap
 loc:∃m,s.heap.Ns X.env.locals m/\∀(i:Nat) (x:Str) (v:V),X.N[i]?=some x -> σ[i]?=some (some v)->wK X.env.scope x->∃u,RelV v u/\Look X.env s.heap m x u
 cell:∀x c,X.env.cells.lookup x=some c->∃v,s.heap.IsCell c v
 free:H X.env.locals=none
 jy:∀x c,X.env.cells.lookup x=some c->H c=none
 pin:∀p∈X.pn++pins,s.heap.get? p.1=some p.2/\H p.1=none/\p.1≠X.env.locals/\p.1∉X.fs/\∀v,p.2.data ≠ .cell v
 hok:bZ X.prog X.w H s.heap
 len : σ.length=X.N.length
section
variable {X:Cx}{pins:List (Addr × Obj)}{σ : List (Option V)}{H H':Hp}{s:Shared}{h':Heap}
theorem Cx.Ok.qz(ok:X.Ok)(e:X.base.get? b=some o):b∉X.fs:=λhb=>by
 have:=(ok.ig.mem hb).1
 rw[e]at this; cases this
theorem Inv.bs(I:Inv X pins σ H s):∀b o,X.base.get? b=some o->s.heap.get? b=some o/\H b=none:=λb o e =>
 ⟨I.base.keep b o (I.ok.bs b o e).1 (I.ok.bs b o e).2 (I.ok.qz e) (I.ok.tR b o e),I.base.free b o (I.ok.bs b o e).1 (I.ok.bs b o e).2 (I.ok.tR b o e)⟩
theorem Inv.bk(I:Inv X pins σ H s):∀b o,X.base.get? b=some o->s.heap.get? b=some o:=λb o e=>(I.bs b o e).1
theorem Inv.mod(I:Inv X pins σ H s):Mod X.K X.mg X.base:=I.ok.mod
theorem Inv.cZ(I:Inv X pins σ H s):X.K.In s.heap:=I.ok.mod.tQ.keeps I.bk
theorem Inv.nolimit(I:Inv X pins σ H s):s.heap.NoLimit:=I.ok.mod.nolimit.keeps I.bk
theorem Inv.fr(I:Inv X pins σ H s):∃m,Fr X.base X.env.locals s.heap m :=
 let⟨m,hn,_⟩:=I.loc
 ⟨m,hn,I.bk,Nat.le_trans I.ok.jx I.ok.above⟩
theorem Inv.lt(I:Inv X pins σ H s):X.env.locals<s.heap.objs.size:=let⟨_,hn,_⟩:=I.loc; hn.lt
theorem Inv.sz(I:Inv X pins σ H s):X.s₀.heap.objs.size<=s.heap.objs.size:=Nat.le_trans I.ok.above (Nat.le_of_lt I.lt)
theorem Inv.aar(I:Inv X pins σ H s)(h:s.heap.objs.size<=a):a∉X.fs:=λhb=>by
 obtain⟨_,o,ho,_⟩:=I.ok.ig.mem hb
 exact absurd (Nat.lt_of_lt_of_le (Heap.lt_size ho) (Nat.le_trans I.sz h)) (Nat.lt_irrefl _)
theorem Inv.oG(I:Inv X pins σ H s):∀x c,X.env.cells.lookup x=some c->c≠X.env.locals:=λx c e z=>by
 obtain⟨v,o,ho,hd⟩:=I.cell x c e
 obtain⟨m,⟨o',es,ep,ho',hd',_⟩,_⟩:=I.loc
 rw[z,ho']at ho; cases ho; rw[hd']at hd; cases hd
theorem Inv.ig(I:Inv X pins σ H s):s.heap.FunFrames X.base X.outer:=by
 have all:∀(l:List Env),(∀b∈frs l,b∈X.fs)->X.s₀.heap.FunFrames X.base l->s.heap.FunFrames X.base l:=by
  intro l
  induction l with
  |nil=>intro _ _; trivial
  |cons env r ih =>
   intro hs hl
   obtain⟨hk,⟨L,o,hf,hn,ho,hd⟩,hr⟩:=hl
   have hL:L∈X.fs:=hs L (by unfold frs; rw[List.filterMap_cons,hf]; exact List.mem_cons_self)
   obtain⟨sl,e⟩:=I.base.slot L o ho (I.ok.lq L hL) hL λz=>I.ok.wM L z hL
   exact⟨hk,⟨L,_,hf,hn,e,hd⟩,ih (λb hb=>hs b (by unfold frs; rw[List.filterMap_cons,hf]; exact List.mem_cons_of_mem _ hb)) hr⟩
 exact all X.outer (λ_ hb=>hb) I.ok.ig
theorem Inv.stack(I:Inv X pins σ H s):s.heap.FunFrames X.base X.stack:=by
 rcases I.ok.stk with e|⟨e,hf⟩
 .rw[e]; exact I.ig
 .rw[e]
  obtain⟨m,hn,_⟩:=I.loc
  refine .cons (by rw[I.ok.kind]; decide) hf hn ?_ I.ig
  exact Heap.get?_none_of_le (Nat.le_trans I.ok.jx I.ok.above)
theorem Inv.wN(I:Inv X pins σ H s):∀b∈frs X.stack,b∈X.env.locals::X.fs:=λb hb=>by
 rcases I.ok.stk with e|⟨e,hf⟩
 .rw[e]at hb; exact List.mem_cons_of_mem _ hb
 .rw[e]at hb
  unfold frs at hb
  rw[List.filterMap_cons,hf]at hb
  exact hb
theorem Inv.wQ(I:Inv X pins σ H s):∀b∈frs X.stack,H b=none:=λb hb=>by
 rcases List.mem_cons.mp (I.wN b hb)with e|hb
 .rw[e]; exact I.free
 .obtain⟨_,o,ho,_⟩:=I.ok.ig.mem hb
  exact I.base.free b o ho (I.ok.lq b hb) λz=>I.ok.wM b z hb
theorem Inv.step{g':Array GenState}{t':Nat}{d':Drawn}{ch:List Addr}(I:Inv X pins σ H s)
  (hch:∀b∈ch,(b∈X.ex\/X.s₀.heap.objs.size<=b)/\b≠X.env.locals/\(∀x c,X.env.cells.lookup x=some c->c≠b)/\∀p∈X.pn++pins,p.1≠b)
  (keep:∀b o,b≠X.env.locals->b∉X.fs->b∉ch->s.heap.get? b=some o->H b=none->h'.get? b=some o)
  (slot:∀b o,b≠X.env.locals->b∈X.fs->b∉ch->s.heap.get? b=some o->H b=none->∃sl,h'.get? b=some {o with slots:=sl }) (free:∀b o,b∉ch->s.heap.get? b=some o->H b=none->H' b=none)
  (there:∀b o,b∉ch->s.heap.get? b=some o->∃o',h'.get? b=some o')
  (tups:∀b xs,H b=some (.tup xs)->H' b=some (.tup xs)) (gD:∀b o u,H b=some (.cL o u)->H' b=some (.cL o u)) (gF:∀b ps,H b=some (.bM ps)->∃more,H' b=some (.bM (ps++more)))
  (ns:∀m,s.heap.Ns X.env.locals m->h'.Ns X.env.locals m) (hok:bZ X.prog X.w H' h') (hg:AllBare g') :
  Inv X pins σ H' {s with heap:=h',gens:=g',drawn:=d',toks:=t' }:=by
 have K3:∀b o,X.s₀.heap.get? b=some o->b≠X.env.locals:=λb o e=>Nat.ne_of_lt (Nat.lt_of_lt_of_le (Heap.lt_size e) I.ok.above)
 have wR:∀b o,X.s₀.heap.get? b=some o->b∉X.ex->b∉ch:=λb o e hx hb=>by
  rcases(hch b hb).1 with z|z
  .exact hx z
  .exact absurd (Nat.lt_of_lt_of_le (Heap.lt_size e) z) (Nat.lt_irrefl _)
 have cellK:∀x c,X.env.cells.lookup x=some c->∀v,s.heap.IsCell c v->h'.IsCell c v:=λx c e v ⟨o,ho,hd⟩=>by
  have tU:c∉ch:=λz=>(hch c z).2.2.1 x c e rfl
  by_cases hc:c∈X.fs
  .obtain⟨sl,q⟩:=slot c o (I.oG x c e) hc tU ho (I.jy x c e)
   exact⟨_,q,hd⟩
  .exact⟨o,keep c o (I.oG x c e) hc tU ho (I.jy x c e),hd⟩
 refine⟨I.ok,I.os,hg,⟨λb o e n hb hx=>?_,λb o e n hb hx=>?_,λb o e n hx=>?_,λb o e hx=>?_,λb xs e=>tups b xs (I.base.tups b xs e),λb o xs e=>gD b o xs (I.base.gD b o xs e),λb ps e=>?_⟩,?_,λx c e=>?_,?_,λx c e=>?_,λp hp=>?_,hok,I.len⟩
 .exact keep b o (K3 b o e) hb (wR b o e hx) (I.base.keep b o e n hb hx) (I.base.free b o e n hx)
 .obtain⟨sl,e1⟩:=I.base.slot b o e n hb hx
  obtain⟨sl',e2⟩:=slot b _ (K3 b o e) hb (wR b o e hx) e1 (I.base.free b o e n hx)
  exact⟨sl',e2⟩
 .obtain⟨o',e1⟩:=I.base.there b o e hx
  exact free b o' (wR b o e hx) e1 (I.base.free b o e n hx)
 .obtain⟨o',e1⟩:=I.base.there b o e hx
  exact there b o' (wR b o e hx) e1
 .obtain⟨m1,e1⟩:=I.base.gF b ps e
  obtain⟨m2,e2⟩:=gF b _ e1
  exact⟨m1++m2,by rw[e2,Array.append_assoc]⟩
 .obtain⟨m,hn,hl⟩:=I.loc
  refine⟨m,ns m hn,λi x v e1 e2 e3=>?_⟩
  obtain⟨u,r,l⟩:=hl i x v e1 e2 e3
  refine⟨u,r,?_⟩
  rcases l with l|⟨k,c,e,z⟩
  .exact .inl l
  .exact .inr ⟨k,c,e,cellK x c e _ z⟩
 .obtain⟨v,z⟩:=I.cell x c e
  exact⟨v,cellK x c e v z⟩
 .obtain⟨m,⟨o,_,_,ho,_⟩,_⟩:=I.loc
  exact free _ o (λz=>(hch _ z).2.1 rfl) ho I.free
 .obtain⟨v,o,ho,hd⟩:=I.cell x c e
  exact free c o (λz=>(hch c z).2.2.1 x c e rfl) ho (I.jy x c e)
 .obtain⟨e,n,ne,nf,d⟩:=I.pin p hp
  have tU:p.1∉ch:=λz=>(hch p.1 z).2.2.2 p hp rfl
  exact⟨keep p.1 p.2 ne nf tU e n,free p.1 p.2 tU e n,ne,nf,d⟩
theorem Inv.un{t':Nat}(I:Inv X pins σ H s)(u:Un X.fs [] H H' s.heap h')(hok:bZ X.prog X.w H' h'):Inv X pins σ H' {s with heap:=h',toks:=t' }:=by
 obtain⟨m,⟨o,es,ep,ho,r⟩,_⟩:=id I.loc
 obtain⟨sl,hL⟩:=u.any ho I.free (by simp)
 exact I.step (g':=s.gens) (d':=s.drawn) (ch:=[]) (λ_ z=>nomatch z) (λb o _ hb _ e n=>u.keep b o e n hb (by simp)) (λb o _ hb _ e n=>u.slot b o e n hb (by simp)) (λb o _ e n=>u.free b o e n (by simp)) (λb o _ e=>u.there b o e (by simp)) u.tups u.gD u.gF (λm' hm=>by
  obtain⟨o',es',ep',ho',r'⟩:=hm
  rw[ho]at ho'; cases ho'
  exact⟨_,es',ep',hL,r'⟩) hok I.bare
theorem Inv.call{g':Array GenState}{t':Nat}{d':Drawn}{ch:List Addr}(I:Inv X pins σ H s)(u:Un (frs X.stack) ch H H' s.heap h')(hok:bZ X.prog X.w H' h')(hg:AllBare g')
  (hch:∀b∈ch,(b∈X.ex\/X.s₀.heap.objs.size<=b)/\b≠X.env.locals/\(∀x c,X.env.cells.lookup x=some c->c≠b)/\∀p∈X.pn++pins,p.1≠b) :
  Inv X pins σ H' {s with heap:=h',gens:=g',drawn:=d',toks:=t' }:=by
 obtain⟨m,⟨o,es,ep,ho,r⟩,_⟩:=id I.loc
 obtain⟨sl,hL⟩:=u.any ho I.free λz=>(hch _ z).2.1 rfl
 exact I.step (ch:=ch) hch (λb o hL hb hc e n=>u.keep b o e n (λz=>(List.mem_cons.mp (I.wN b z)).elim hL hb) hc) (λb o _ _ hc e n=>u.any e n hc) (λb o hc e n=>u.free b o e n hc) (λb o hc e=>u.there b o e hc) u.tups u.gD u.gF (λm' hm=>by
  obtain⟨o',es',ep',ho',r'⟩:=hm
  rw[ho]at ho'; cases ho'
  exact⟨_,es',ep',hL,r'⟩) hok hg
theorem Inv.turned{t':Nat}{it:Addr}(I:Inv X pins σ H s)(k:∀b o,b≠it->s.heap.get? b=some o->h'.get? b=some o)(hn:H it=none)(hL:it≠X.env.locals)
  (h1:it∈X.ex\/X.s₀.heap.objs.size<=it) (h2:∀x c,X.env.cells.lookup x=some c->c≠it) (h3:∀p∈X.pn++pins,p.1≠it):Inv X pins σ H {s with heap:=h',toks:=t' }:=by
 have K4:∀b u,H b=some u->b≠it:=λb u e z=>by rw[z,hn]at e; cases e
 refine I.step (g':=s.gens) (d':=s.drawn) (ch:=[it]) (λb hb=>?_) (λb o _ _ hc e _=>k b o (λz=>hc (by simp[z])) e) (λb o _ _ hc e _=>⟨o.slots,k b o (λz=>hc (by simp[z])) e⟩) (λ_ _ _ _ n=>n)
  (λb o hc e=>⟨o,k b o (λz=>hc (by simp[z])) e⟩) (λ_ _ e=>e) (λ_ _ _ e=>e) (λb ps e=>⟨#[],by rw[e]; simp⟩) (λm hm=>?_) (λb u e=>?_) I.bare
 .have e:b=it:=by simpa using hb
  subst e
  exact⟨h1,hL,h2,h3⟩
 .obtain⟨o,es,ep,ho,r⟩:=hm
  exact⟨o,es,ep,k _ o (Ne.symm hL) ho,r⟩
 .refine(I.hok b u e).stay (λc v hc q=>k c v ?_ q) (λ_ q=>q) λ_ _ q=>q
  rcases hc with z|z
  .rw[z]; exact K4 b u e
  .exact K4 c _ z
theorem Inv.tok(I:Inv X pins σ H s)(t:Nat):Inv X pins σ H {s with toks:=t }:=I.un (h':=s.heap) (t':=t) Un.refl I.hok
theorem Inv.kept(I:Inv X pins σ H s)(k:∀b u,s.heap.get? b=some u->h'.get? b=some u):Inv X pins σ H {s with heap:=h',toks:=t' }:=I.un (Un.kept k) (I.hok.kept k)
theorem Inv.laid{a:Addr}{o:HO}{t':Nat}(I:Inv X pins σ H s)(k:∀b u,s.heap.get? b=some u->h'.get? b=some u)(hp:s.heap.objs.size<=a)(new:fO X.prog X.w (upd H a o) h' a o) :
  Inv X pins σ (upd H a o) {s with heap:=h',toks:=t' }:=I.un (Un.laid k hp (I.hok.fresh hp)) (I.hok.laid k hp new)
theorem Inv.write(I:Inv X pins σ H s)(mu:wI (H x))(he:e=x\/H e=some (.own x))(k:∀b u,b≠e->s.heap.get? b=some u->h'.get? b=some u)(heo:∃u,h'.get? e=some u)
  (new:fO X.prog X.w (upd H x o) h' x o):Inv X pins σ (upd H x o) {s with heap:=h',toks:=t' }:=I.un (Un.write mu he k heo) (I.hok.write mu he k heo new)
theorem Inv.wU(I:Inv X pins σ H s)(h:∀p∈mX,s.heap.get? p.1=some p.2/\H p.1=none/\p.1≠X.env.locals/\p.1∉X.fs/\∀v,p.2.data ≠ .cell v):Inv X mX σ H s :=
 ⟨I.ok,I.os,I.bare,I.base,I.loc,I.cell,I.free,I.jy,λp hp=>(List.mem_append.mp hp).elim (λz=>I.pin p (List.mem_append_left _ z)) (h p),I.hok,I.len⟩
theorem K5{N:List Str}(hN:N.Nodup){i j:Nat}{x:Str}(a:N[i]?=some x)(b:N[j]?=some x):i=j:=by
 obtain⟨h1,e1⟩:=List.getElem?_eq_some_iff.mp a
 obtain⟨h2,e2⟩:=List.getElem?_eq_some_iff.mp b
 exact(List.getElem_inj hN).mp (e1.trans e2.symm)
theorem K6{M:Model}{A:Around}{E:Value->Shared->Prop}{i:Nat}{x:Str}{v:V}{u:Value}{Q:Unit->Shared->Prop}(I:Inv X pins σ H s)(hN:X.N.Nodup)(hi:X.N[i]?=some x)(hx:Loc X.env.scope x)(r:RelV v u)
  (h:∀s',Inv X pins (σ.set i (some v)) H s'->(∃a,Heap.SameBut a s.heap s'.heap/\(a=X.env.locals\/X.env.cells.lookup x=some a))->Q () s') (hf:X.fn x=true\/X.env.scope.names.lookup x=some .local:=by first|exact .inl rfl|exact .inr rfl|assumption):wpAny M A (storeName X.env x u) Q E s:=by
 obtain⟨m,hn,hl⟩:=id I.loc
 have hcls:(X.env.scope.kind == .class || (X.env.scope.kind == .module&&X.env.locals != X.env.globals))=false:=by rw[I.ok.kind]; rfl
 have K7:i < σ.length:=by rw[I.len]; exact(List.getElem?_eq_some_iff.mp hi).1
 have oG:=I.oG
 have tracked:∀{a:Addr} {h':Heap},(∃o,s.heap.get? a=some o/\H a=none)->Heap.SameBut a s.heap h'->bZ X.prog X.w H h':=λ{a h'} ha hs b ob e=>by
  obtain⟨_,_,hfree⟩:=ha
  refine(I.hok b ob e).stay (λc w' hc q=>(hs.2 c ?_).trans q) (λ_ q=>q) λ_ _ q=>q
  rintro rfl
  rcases hc with rfl|hc
  .rw[hfree]at e; cases e
  .rw[hfree]at hc; cases hc
 rcases hx with hk|hk
 .refine wpAny_storeName_local hk hn (λh' hn' hs=>?_) hcls
  obtain⟨oL,_,_,hoL,_⟩:=id hn
  refine h _ ⟨I.ok,I.os,I.bare,⟨λb o e n hb hx=>?_,λb o e n hb hx=>?_,I.base.free,λb o e hx=>?_,I.base.tups,I.base.gD,I.base.gF⟩,⟨_,hn',λj y v' e1 e2 e3=>?_⟩,λy c e=>?_,I.free,I.jy,λp hp=>?_,tracked ⟨oL,hoL,I.free⟩ hs,by simpa using I.len⟩ ⟨_,hs,.inl rfl⟩
  .exact(hs.2 b (Nat.ne_of_lt (Nat.lt_of_lt_of_le (Heap.lt_size e) I.ok.above))).trans (I.base.keep b o e n hb hx)
  .obtain⟨sl,e1⟩:=I.base.slot b o e n hb hx
   exact⟨sl,(hs.2 b (Nat.ne_of_lt (Nat.lt_of_lt_of_le (Heap.lt_size e) I.ok.above))).trans e1⟩
  .obtain⟨o',e1⟩:=I.base.there b o e hx
   exact⟨o',(hs.2 b (Nat.ne_of_lt (Nat.lt_of_lt_of_le (Heap.lt_size e) I.ok.above))).trans e1⟩
  .by_cases hj:j=i
   .subst hj
    rw[hi]at e1; cases e1
    rw[List.getElem?_set_self K7]at e2
    cases e2
    exact⟨u,r,.inl ⟨hk,by simp⟩⟩
   .rw[List.getElem?_set_ne (Ne.symm hj)]at e2
    obtain⟨u',r',q⟩:=hl j y v' e1 e2 e3
    refine⟨u',r',?_⟩
    rcases q with⟨k,e⟩|⟨k,c,e,z⟩
    .refine .inl ⟨k,?_⟩
     have:y≠x:=λe=>hj (K5 hN e1 (e▸hi))
     simp[this,e]
    .exact .inr ⟨k,c,e,z.sameBut hs (oG y c e)⟩
  .obtain⟨w',z⟩:=I.cell y c e
   exact⟨w',z.sameBut hs (oG y c e)⟩
  .obtain⟨e,n,ne,nf,d⟩:=I.pin p hp
   exact⟨(hs.2 p.1 ne).trans e,n,ne,nf,d⟩
 .have hfn:X.fn x=true:=by
   rcases hf with z|z
   .exact z
   .rw[z]at hk; cases hk
  obtain⟨c,hc⟩:=I.ok.has x (.inl hk)
  obtain⟨w',z⟩:=I.cell x c hc
  refine wpAny_storeName_cell I.ok.kind hk hc z (λh' hc' hs=>?_)
  obtain⟨oc,hoc,aas⟩:=id z
  refine h {s with heap:=h' } ⟨I.ok,I.os,I.bare,⟨λb o e n hb hx=>?_,λb o e n hb hx=>?_,I.base.free,λb o e hx=>?_,I.base.tups,I.base.gD,I.base.gF⟩,⟨m,hn.sameBut hs (Ne.symm (oG x c hc)),λj y v' e1 e2 e3=>?_⟩,λy c' e=>?_,I.free,I.jy,λp hp=>?_,tracked ⟨oc,hoc,I.jy x c hc⟩ hs,by simpa using I.len⟩ ⟨c,hs,.inr hc⟩
  .exact(hs.2 b (Nat.ne_of_lt (Nat.lt_of_lt_of_le (Heap.lt_size e) (I.ok.cab x c hfn hc)))).trans (I.base.keep b o e n hb hx)
  .obtain⟨sl,e1⟩:=I.base.slot b o e n hb hx
   exact⟨sl,(hs.2 b (Nat.ne_of_lt (Nat.lt_of_lt_of_le (Heap.lt_size e) (I.ok.cab x c hfn hc)))).trans e1⟩
  .obtain⟨o',e1⟩:=I.base.there b o e hx
   exact⟨o',(hs.2 b (Nat.ne_of_lt (Nat.lt_of_lt_of_le (Heap.lt_size e) (I.ok.cab x c hfn hc)))).trans e1⟩
  .by_cases hj:j=i
   .subst hj
    rw[hi]at e1; cases e1
    rw[List.getElem?_set_self K7]at e2
    cases e2
    exact⟨u,r,.inr ⟨.inl hk,c,hc,hc'⟩⟩
   .rw[List.getElem?_set_ne (Ne.symm hj)]at e2
    obtain⟨u',r',q⟩:=hl j y v' e1 e2 e3
    refine⟨u',r',?_⟩
    rcases q with q|⟨k,c',e,z'⟩
    .exact .inl q
    .refine .inr ⟨k,c',e,z'.sameBut hs ?_⟩
     rintro rfl
     exact hj (K5 hN e1 (I.ok.inj _ _ _ e hc▸hi))
  .by_cases hcc:c'=c
   .subst hcc; exact⟨_,hc'⟩
   .obtain⟨w2,z2⟩:=I.cell y c' e
    exact⟨w2,z2.sameBut hs hcc⟩
  .obtain⟨e,n,ne,nf,d⟩:=I.pin p hp
   refine⟨(hs.2 p.1 ?_).trans e,n,ne,nf,d⟩
   intro q
   rw[q,hoc]at e
   have q':oc=p.2:=Option.some.inj e
   exact d w' (by rw[<-q']; exact aas)
theorem wV(I:Inv X pins σ H s)(hN:X.N.Nodup)(hi:X.N[i]?=some x)(hx:Loc X.env.scope x)(r:RelV v u)
  (h:∀s',Inv X pins (σ.set i (some v)) H s'->Q () s') (hf:X.fn x=true\/X.env.scope.names.lookup x=some .local:=by first|exact .inl rfl|exact .inr rfl|assumption):wpAny M A (storeName X.env x u) Q E s :=
 K6 I hN hi hx r (λs' I' _=>h s' I') hf
theorem Inv.call'(I:Inv X pins σ H s)(ho:s'.os=s.os)(u:Un (frs X.stack) ch H H' s.heap s'.heap)(hok:bZ X.prog X.w H' s'.heap)(hg:AllBare s'.gens)
  (hch:∀b∈ch,(b∈X.ex\/X.s₀.heap.objs.size<=b)/\b≠X.env.locals/\(∀x c,X.env.cells.lookup x=some c->c≠b)/\∀p∈X.pn++pins,p.1≠b):Inv X pins σ H' s':=by
 obtain⟨h',g',d',t',o'⟩:=s'
 have e:o'=s.os:=ho
 subst e
 exact I.call (g':=g') (t':=t') (d':=d') u hok hg hch
end
noncomputable abbrev XK:=Value->Option Addr->Hp->Prop
noncomputable abbrev St:=List (Option V)
noncomputable abbrev VK:=V->Hp->Prop
noncomputable abbrev TE:=St->Hp->VK->Prop
noncomputable abbrev TT:=St->Hp->(Bool->Hp->Prop)->Prop
noncomputable abbrev TA:=St->Hp->(List V->Hp->Prop)->Prop
structure Ends where
 nx:St->Hp->Prop
 rt:VK
 bk:St->Hp->Prop:=λ_ _=>False
 ct:St->Hp->Prop:=λ_ _=>False
noncomputable abbrev TS:=Ends->St->Hp->Prop
noncomputable def EP(X:Cx)(pins:List (Addr × Obj))(σ : St)(Q:VK)(u:Value)(s':Shared):Prop:=∃v H',Inv X pins σ H' s'/\RelV v u/\Q v H'
noncomputable def TP(X:Cx)(pins:List (Addr × Obj))(σ : St)(Q:Bool->Hp->Prop)(b:Bool)(s':Shared):Prop:=∃H',Inv X pins σ H' s'/\Q b H'
noncomputable def AP(X:Cx)(pins:List (Addr × Obj))(σ : St)(Q:List V->Hp->Prop)(us:List Value)(s':Shared):Prop:=∃vs H',Inv X pins σ H' s'/\Vals vs us/\Q vs H'
noncomputable def SP(X:Cx)(pins:List (Addr × Obj))(D:Ends)(f:Flow)(s':Shared):Prop :=
 match f with
 |.next=>∃σ' H',Inv X pins σ' H' s'/\D.nx σ' H'
 |.brk=>∃σ' H',Inv X pins σ' H' s'/\D.bk σ' H'
 |.cont=>∃σ' H',Inv X pins σ' H' s'/\D.ct σ' H'
 |.ret u=>∃v σ' H',Inv X pins σ' H' s'/\RelV v u/\D.rt v H'
structure PE(X:Cx)(e:Expr)(t:TE):Prop where
 run:∀(pins:List (Addr × Obj)) (s:Shared) (σ : St) (H:Hp) (Q:VK),Inv X pins σ H s->t σ H Q->wpAny (model X.prog X.w) X.A (eval e X.env) (EP X pins σ Q) X.xe s
noncomputable instance {X:Cx}{e:Expr}{t:TE}:CoeFun (PE X e t) λ_=>∀(pins:List (Addr × Obj)) (s:Shared) (σ : St) (H:Hp) (Q:VK),Inv X pins σ H s->t σ H Q->wpAny (model X.prog X.w) X.A (eval e X.env) (EP X pins σ Q) X.xe s:=⟨PE.run⟩
structure PT(X:Cx)(e:Expr)(t:TT):Prop where
 run:∀(pins:List (Addr × Obj)) (s:Shared) (σ : St) (H:Hp) (Q:Bool->Hp->Prop),Inv X pins σ H s->t σ H Q->wpAny (model X.prog X.w) X.A (isTrue e X.env (eval e X.env)) (TP X pins σ Q) X.xe s
noncomputable instance {X:Cx}{e:Expr}{t:TT}:CoeFun (PT X e t) λ_=>∀(pins:List (Addr × Obj)) (s:Shared) (σ : St) (H:Hp) (Q:Bool->Hp->Prop),Inv X pins σ H s->t σ H Q->wpAny (model X.prog X.w) X.A (isTrue e X.env (eval e X.env)) (TP X pins σ Q) X.xe s:=⟨PT.run⟩
structure PW(X:Cx)(e:Expr)(t:TT):Prop where
 run:∀(whole:Sem Value) (pins:List (Addr × Obj)) (s:Shared) (σ : St) (H:Hp) (Q:Bool->Hp->Prop),Inv X pins σ H s->t σ H Q->wpAny (model X.prog X.w) X.A (isTrue e X.env whole) (TP X pins σ Q) X.xe s
noncomputable instance {X:Cx}{e:Expr}{t:TT}:CoeFun (PW X e t) λ_=>∀(whole:Sem Value) (pins:List (Addr × Obj)) (s:Shared) (σ : St) (H:Hp) (Q:Bool->Hp->Prop),Inv X pins σ H s->t σ H Q->wpAny (model X.prog X.w) X.A (isTrue e X.env whole) (TP X pins σ Q) X.xe s:=⟨PW.run⟩
theorem PW.pt(h:PW X e t):PT X e t:=⟨h.run _⟩
structure PA(X:Cx)(es:List Expr)(t:TA):Prop where
 run:∀(pos:Pos) (pins:List (Addr × Obj)) (s:Shared) (σ : St) (H:Hp) (Q:List V->Hp->Prop),Inv X pins σ H s->t σ H Q->wpAny (model X.prog X.w) X.A (spliced (backTo pos (starEach es X.env))) (AP X pins σ Q) X.xe s
noncomputable instance {X:Cx}{es:List Expr}{t:TA}:CoeFun (PA X es t) λ_=>∀(pos:Pos) (pins:List (Addr × Obj)) (s:Shared) (σ : St) (H:Hp) (Q:List V->Hp->Prop),Inv X pins σ H s->t σ H Q->wpAny (model X.prog X.w) X.A (spliced (backTo pos (starEach es X.env))) (AP X pins σ Q) X.xe s:=⟨PA.run⟩
structure PS(X:Cx)(st:Stmt)(t:TS):Prop where
 run:∀(pins:List (Addr × Obj)) (s:Shared) (σ : St) (H:Hp) (D:Ends),Inv X pins σ H s->t D σ H->wpAny (model X.prog X.w) X.A (exec st X.env) (SP X pins D) X.xe s
noncomputable instance {X:Cx}{st:Stmt}{t:TS}:CoeFun (PS X st t) λ_=>∀(pins:List (Addr × Obj)) (s:Shared) (σ : St) (H:Hp) (D:Ends),Inv X pins σ H s->t D σ H->wpAny (model X.prog X.w) X.A (exec st X.env) (SP X pins D) X.xe s:=⟨PS.run⟩
structure cQ(X:Cx)(st:List Stmt)(t:TS):Prop where
 run:∀(pins:List (Addr × Obj)) (s:Shared) (σ : St) (H:Hp) (D:Ends),Inv X pins σ H s->t D σ H->wpAny (model X.prog X.w) X.A (execs st X.env) (SP X pins D) X.xe s
noncomputable instance {X:Cx}{st:List Stmt}{t:TS}:CoeFun (cQ X st t) λ_=>∀(pins:List (Addr × Obj)) (s:Shared) (σ : St) (H:Hp) (D:Ends),Inv X pins σ H s->t D σ H->wpAny (model X.prog X.w) X.A (execs st X.env) (SP X pins D) X.xe s:=⟨cQ.run⟩
theorem aD{α : Type}{t:Sem α}{Q Q' : α -> Shared->Prop}{M:Model}{A:Around}{E:Value->Shared->Prop}{s:Shared}(h:wpAny M A t Q E s)(hQ:∀a s,Q a s->Q' a s):wpAny M A t Q' E s:=wpAny_mono h hQ λ_ _ x=>x
section
variable {X:Cx}
noncomputable def tV(i:Nat):TE:=λσ H Q=>∃v,σ[i]?=some (some v)/\Q v H
noncomputable def tC(v:V):TE:=λ_ H Q=>Q v H
theorem K8(hN:X.N[i]?=some x)(hv:wK X.env.scope x)(hd:(x == ("__debug__" : Str))=false:=by decide) (hcd:(x == ("__classdict__" : Str))=false:=by decide):PE X (.Name x pos) (tV i):=by
 refine⟨λpins s σ H Q I h=>?_⟩
 obtain⟨v,e,h⟩:=h
 obtain⟨m,hn,hl⟩:=I.loc
 obtain⟨u,r,l⟩:=hl i x v hN e hv
 have fin:EP X pins σ Q u s:=⟨v,H,I,r,h⟩
 rcases l with⟨hk,hm⟩|⟨hk,c,hc,hcell⟩
 .exact wpAny_Name (wpAny_loadName_local I.ok.kind hk hn hm fin) hd
 .rcases hk with hk|hk
  .exact wpAny_Name (wpAny_loadName_cell I.ok.kind hk hc hcell fin) hd
  .exact wpAny_Name (wpAny_loadName_free I.ok.kind hk hc hcell fin hcd) hd
theorem Ce{i j pos}:PE X (.Constant (.int i) j pos) (tC (.int i)):=⟨λ_ _ _ H _ I h=>wpAny_Constant_int ⟨.int i,H,I.tok _,⟨_,rfl⟩,h⟩⟩
theorem K9{b j pos}:PE X (.Constant (.bool b) j pos) (tC (.bl b)):=⟨λ_ _ _ H _ I h=>Constant_bool ⟨.bl b,H,I,rfl,h⟩⟩
theorem La{j pos}:PE X (.Constant .none j pos) (tC .non):=⟨λ_ _ _ H _ I h=>Constant_none ⟨.non,H,I,rfl,h⟩⟩
theorem Lb{x j pos}:PE X (.Constant (.str x) j pos) (tC (.str x)):=⟨λ_ _ _ H _ I h=>Calls.Constant_str ⟨.str x,H,I.tok _,⟨_,rfl⟩,h⟩⟩
noncomputable def Gl(X:Cx)(x:Str):Prop:=X.env.kindOf x=some .globalImplicit
theorem wW(I:Inv X pins σ H s)(hg:Gl X x)(hm:X.mg x=some u)(h:Q u s)
  (hd:(x == ("__debug__" : Str))=false:=by decide):wpAny (model X.prog X.w) X.A (eval (.Name x pos) X.env) Q E s :=
 Calls.Name_function_global I.ok.kind hg (Calls.loadGlobal_global (by rw[I.ok.glob]; exact I.mod.glob.keeps I.bk) hm h) hd
theorem oH(I:Inv X pins σ H s)(hg:Gl X x)(hm:X.mg x=none)(hv:bootBuiltins x=some u)(h:Q u s)
  (hn:x ≠ "__name__" := by decide) (hd:(x == ("__debug__" : Str))=false:=by decide):wpAny (model X.prog X.w) X.A (eval (.Name x pos) X.env) Q E s:=by
 obtain⟨mb,h1,h2⟩:=I.mod.blt
 exact Calls.Name_function_global I.ok.kind hg (Calls.loadGlobal_builtin (by rw[I.ok.glob]; exact I.mod.glob.keeps I.bk) hm (by rw[I.ok.blt]; exact h1.keeps I.bk) ((h2 x hn).trans hv) h) hd
theorem aat(hg:Gl X x)(hm:X.mg x=some u)(r:RelV v u)(hd:(x == ("__debug__" : Str))=false:=by decide):PE X (.Name x pos) (tC v) :=
 ⟨λ_ _ _ H _ I h=>wW I hg hm ⟨v,H,I,r,h⟩ hd⟩
theorem aau(hg:Gl X x)(hm:X.mg x=none)(hv:bootBuiltins x=some u)(r:RelV v u)(hn:x ≠ "__name__" := by decide) (hd:(x == ("__debug__" : Str))=false:=by decide):PE X (.Name x pos) (tC v) :=
 ⟨λ_ _ _ H _ I h=>oH I hg hm hv ⟨v,H,I,r,h⟩ hn hd⟩
variable {a b:Expr}{ta tb:TE}{pos:Pos}
variable {tA wX:TT}{rest:List Expr}
noncomputable def Ld(t u:TT):TT:=λσ H Q=>t σ H λc H1=>if c=true then u σ H1 Q else Q false H1
noncomputable def Le(t u:TT):TT:=λσ H Q=>t σ H λc H1=>if c=true then Q true H1 else u σ H1 Q
noncomputable def Lf(t:TT):TT:=λσ H Q=>t σ H λc H1=>Q (!c) H1
theorem aav(ha:PT X a tA):PW X (.BoolOp .And [a] pos) tA:=by
 refine⟨λwh pins s σ H Q I h=>?_⟩
 refine isTrue_and (aD (ha pins s σ H Q I h) λc s1 e=>?_)
 cases c with
 |true=>exact isTrue_and_nil e
 |false=>exact e
theorem aaw(ha:PT X a tA):PW X (.BoolOp .Or [a] pos) tA:=by
 refine⟨λwh pins s σ H Q I h=>?_⟩
 refine isTrue_or (aD (ha pins s σ H Q I h) λc s1 e=>?_)
 cases c with
 |false=>exact isTrue_or_nil e
 |true=>exact e
theorem aax(ha:PT X a tA)(hb:PW X (.BoolOp .And (b::rest) pos) wX):PW X (.BoolOp .And (a::b::rest) pos) (Ld tA wX):=by
 refine⟨λwh pins s σ H Q I h=>?_⟩
 refine isTrue_and (aD (ha pins s σ H _ I h) λc s1 ⟨H1,I1,q1⟩=>?_)
 cases c with
 |true=>exact hb wh pins s1 σ H1 Q I1 q1
 |false=>exact⟨H1,I1,q1⟩
theorem aay(ha:PT X a tA)(hb:PW X (.BoolOp .Or (b::rest) pos) wX):PW X (.BoolOp .Or (a::b::rest) pos) (Le tA wX):=by
 refine⟨λwh pins s σ H Q I h=>?_⟩
 refine isTrue_or (aD (ha pins s σ H _ I h) λc s1 ⟨H1,I1,q1⟩=>?_)
 cases c with
 |true=>exact⟨H1,I1,q1⟩
 |false=>exact hb wh pins s1 σ H1 Q I1 q1
theorem aaz(ha:PT X a tA):PT X (.UnaryOp .Not a pos) (Lf tA):=by
 refine⟨λpins s σ H Q I h=>?_⟩
 exact isTrue_not (ha pins s σ H (λc H1=>Q (!c) H1) I h)
noncomputable def Lg(ta tb:TE):TE:=λσ H Q=>ta σ H λx H1=>∃c,x=.bl c/\if c=true then tb σ H1 Q else Q (.bl false) H1
noncomputable def Lh(ta:TE):TE:=λσ H Q=>ta σ H λx H1=>∃c,x=.bl c/\Q (.bl (!c)) H1
theorem aaA{op}{t:TE}(h:PE X a t):PE X (.BoolOp op [a] pos) t:=⟨λpins s σ H Q I hw=>BoolOp_one (h pins s σ H Q I hw)⟩
theorem aaB(ha:PE X a ta)(hb:PE X (.BoolOp .And (b::rest) pos) tb):PE X (.BoolOp .And (a::b::rest) pos) (Lg ta tb):=by
 refine⟨λpins s σ H Q I h=>?_⟩
 refine BoolOp_and (aD (ha pins s σ H _ I h) λv s1 ⟨x,H1,I1,r1,q1⟩=>?_)
 obtain⟨c,rfl,q1⟩:=q1
 cases r1
 refine wpAny_truthy_bool ?_
 cases c with
 |true=>exact hb pins s1 σ H1 Q I1 q1
 |false=>exact⟨.bl false,H1,I1,rfl,q1⟩
theorem aaC(ha:PE X a ta):PE X (.UnaryOp .Not a pos) (Lh ta):=by
 refine⟨λpins s σ H Q I h=>?_⟩
 refine UnaryOp_ (aD (ha pins s σ H _ I h) λv s1 ⟨x,H1,I1,r1,q1⟩=>?_)
 obtain⟨c,rfl,q1⟩:=q1
 cases r1
 exact not_of (wpAny_truthy_bool ⟨.bl (!c),H1,I1,rfl,q1⟩)
noncomputable def Li(t:TT)(ta tb:TE):TE:=λσ H Q=>t σ H λc H1=>if c=true then ta σ H1 Q else tb σ H1 Q
theorem aaD{c:Expr}(hc:PT X c tA)(ha:PE X a ta)(hb:PE X b tb):PE X (.IfExp c a b pos) (Li tA ta tb):=by
 refine⟨λpins s σ H Q I h=>?_⟩
 refine wpAny_IfExp (aD (hc pins s σ H _ I h) λd s1 ⟨H1,I1,q1⟩=>?_)
 cases d with
 |true=>exact ha pins s1 σ H1 Q I1 q1
 |false=>exact hb pins s1 σ H1 Q I1 q1
end
noncomputable def aM(K:PySem.W.Frag)(H:Hp)(a:Addr)(xs:List V):Prop :=
 Rd H a (.lst xs) \/
  ∃(o:Obj) (its:Array Value) (n:Nat),K.lookup a=some o/\o.cls=.type "list" /\ o.dict=none/\o.data=.seq its n/\its.size<=sizeLine/\Vals xs its.toList
noncomputable def aW(K:PySem.W.Frag)(H:Hp)(a:Addr)(xs:List V):Prop :=
 Rd H a (.tup xs) \/
  ∃(o:Obj) (its:Array Value) (n:Nat),K.lookup a=some o/\o.cls=.type "tuple" /\ o.data=.seq its n/\its.size<=sizeLine/\Vals xs its.toList
noncomputable def aaE:Value->Option V
 |.none=>some .non
 |.bool b=>some (.bl b)
 |.int i _=>some (.int i)
 |.str x _=>some (.str x)
 |.bytes b _=>some (.qx b)
 |.float b _=>some (.flt b)
 |.ref a=>some (.ref a)
 |.type n=>some (.ty n)
 |_=>none
theorem RelV.abs(r:RelV x u):aaE u=some x:=by
 cases x with
 |non=>cases r; rfl
 |bl _=>cases r; rfl
 |int _=>obtain⟨t,rfl⟩:=r; rfl
 |str _=>obtain⟨t,rfl⟩:=r; rfl
 |qx _=>obtain⟨t,rfl⟩:=r; rfl
 |flt _=>obtain⟨t,rfl⟩:=r; rfl
 |ref _=>cases r; rfl
 |ty _=>cases r; rfl
theorem RelV.inj{x y:V}{u:Value}(r:RelV x u)(q:RelV y u):x=y:=Option.some.inj (r.abs.symm.trans q.abs)
theorem Vals.inj:∀{xs ys:List V} {us:List Value},Vals xs us->Vals ys us->xs=ys
 |_,_,_,.nil,.nil=>rfl
 |_,_,_,.cons r t,.cons r' t'=>by rw[r.inj r',Vals.inj t t']
section
variable {X:Cx}{pins:List (Addr × Obj)}{σ : St}{H:Hp}{s:Shared}{a:Addr}{xs ys:List V}
theorem aM.of{K:PySem.W.Frag}(h:H a=some (.lst xs)):aM K H a xs:=.inl (.inl h)
theorem aW.of{K:PySem.W.Frag}(h:H a=some (.tup xs)):aW K H a xs:=.inl (.inl h)
theorem Inv.list(I:Inv X pins σ H s)(h:aM X.K H a xs):∃its:List Value,Vals xs its/\PlainL s.heap a its.toArray/\xs.length<=sizeLine:=by
 rcases h with h|⟨o,its,n,hk,hc,hd,hs,hz,r⟩
 .obtain⟨z,its,n,r,e⟩:=h.ok I.hok
  exact⟨its,r,⟨_,n,e,rfl,rfl,rfl⟩,z⟩
 .refine⟨its.toList,r,⟨o,n,I.cZ a o hk,hc,hd,by simpa using hs⟩,?_⟩
  have e:=r.length
  simp only[Array.length_toList]at e
  lia
theorem Inv.tuple(I:Inv X pins σ H s)(h:aW X.K H a xs):∃its:List Value,Vals xs its/\IsTup s.heap a its.toArray/\xs.length<=sizeLine:=by
 rcases h with h|⟨o,its,n,hk,hc,hs,hz,r⟩
 .obtain⟨z,its,r,p⟩:=h.ok I.hok
  exact⟨its,r,p,z⟩
 .refine⟨its.toList,r,⟨o,I.cZ a o hk,hc,n,by simpa using hs⟩,?_⟩
  have e:=r.length
  simp only[Array.length_toList]at e
  lia
theorem Inv.wY(I:Inv X pins σ H s)(h:aM X.K H a xs)(h':aM X.K H a ys):xs=ys:=by
 obtain⟨its,r,⟨o,n,e,_,_,d⟩,_⟩:=I.list h
 obtain⟨its',r',⟨o',n',e',_,_,d'⟩,_⟩:=I.list h'
 rw[e]at e'; cases e'
 rw[d]at d'
 injection d' with d1 _
 have:its=its':=by simpa using congrArg Array.toList d1
 subst this
 exact r.inj r'
theorem Inv.Lj(I:Inv X pins σ H s)(h:aW X.K H a xs)(h':aW X.K H a ys):xs=ys:=by
 obtain⟨its,r,⟨o,e,_,n,d⟩,_⟩:=I.tuple h
 obtain⟨its',r',⟨o',e',_,n',d'⟩,_⟩:=I.tuple h'
 rw[e]at e'; cases e'
 rw[d]at d'
 injection d' with d1 _
 have:its=its':=by simpa using congrArg Array.toList d1
 subst this
 exact r.inj r'
end
noncomputable abbrev Cx.wish(X:Cx)(E:Value->Shared->Prop):Cx:={X with xe:=E }
noncomputable abbrev Cx.iK(X:Cx):Cx:=X.wish λ_ _=>False
theorem Cx.Ok.wish{X:Cx}(ok:X.Ok)(E:Value->Shared->Prop):(X.wish E).Ok :=
 ⟨ok.mod,ok.kind,ok.glob,ok.blt,ok.above,ok.inj,ok.has,ok.cab,ok.hd,ok.frames,ok.stk,ok.K1,ok.bs,ok.jx,ok.tR,ok.wM,ok.ig,ok.lq⟩
theorem Cx.Ok.jz{X:Cx}{E:Value->Shared->Prop}(ok:(X.wish E).Ok):X.Ok :=
 ⟨ok.mod,ok.kind,ok.glob,ok.blt,ok.above,ok.inj,ok.has,ok.cab,ok.hd,ok.frames,ok.stk,ok.K1,ok.bs,ok.jx,ok.tR,ok.wM,ok.ig,ok.lq⟩
section
variable {X:Cx}{pins:List (Addr × Obj)}{σ : St}{H:Hp}{s:Shared}{E:Value->Shared->Prop}
theorem Inv.wish(I:Inv X pins σ H s)(E:Value->Shared->Prop):Inv (X.wish E) pins σ H s:=⟨I.ok.wish E,I.os,I.bare,I.base,I.loc,I.cell,I.free,I.jy,I.pin,I.hok,I.len⟩
theorem Inv.jz(I:Inv (X.wish E) pins σ H s):Inv X pins σ H s:=⟨I.ok.jz,I.os,I.bare,I.base,I.loc,I.cell,I.free,I.jy,I.pin,I.hok,I.len⟩
theorem SP.jz{D:Ends}{f:Flow}{s':Shared}(h:SP (X.wish E) pins D f s'):SP X pins D f s':=by
 cases f with
 |next=>obtain⟨σ',H',I,q⟩:=h; exact⟨σ',H',I.jz,q⟩
 |brk=>obtain⟨σ',H',I,q⟩:=h; exact⟨σ',H',I.jz,q⟩
 |cont=>obtain⟨σ',H',I,q⟩:=h; exact⟨σ',H',I.jz,q⟩
 |ret u=>obtain⟨v,σ',H',I,r,q⟩:=h; exact⟨v,σ',H',I.jz,r,q⟩
theorem PE.iK(h:PE X.iK e t):PE X e t:=⟨λpins s σ H Q I hw =>
 wpAny_mono (h pins s σ H Q (I.wish _) hw) (λ_ _ ⟨v,H',I',r,q⟩=>⟨v,H',I'.jz,r,q⟩) λ_ _ z=>False.elim z⟩
theorem PT.iK(h:PT X.iK e t):PT X e t:=⟨λpins s σ H Q I hw =>
 wpAny_mono (h pins s σ H Q (I.wish _) hw) (λ_ _ ⟨H',I',q⟩=>⟨H',I'.jz,q⟩) λ_ _ z=>False.elim z⟩
theorem cQ.iK{st:List Stmt}{t:TS}(h:cQ X.iK st t):cQ X st t:=⟨λpins s σ H D I hw =>
 wpAny_mono (h pins s σ H D (I.wish _) hw) (λ_ _ q=>q.jz) λ_ _ z=>False.elim z⟩
end
section
variable {X:Cx}{st:Stmt}{rest:List Stmt}{t u:TS}{e:Expr}{te:TE}{pos:Pos}
noncomputable def aaF:TS:=λD σ H=>D.nx σ H
noncomputable def Ln(t u:TS):TS:=λD σ H=>t {D with nx:=u D } σ H
theorem Lp:cQ X [] aaF:=⟨λ_ _ σ H _ I h=>wpAny_execs_nil ⟨σ,H,I,h⟩⟩
theorem Lr(h1:PS X st t)(h2:cQ X rest u):cQ X (st::rest) (Ln t u):=by
 refine⟨λpins s σ H D I h=>?_⟩
 refine wpAny_execs_cons (aD (h1 pins s σ H {D with nx:=u D } I h) λf s1 q=>?_)
 cases f with
 |next =>
  obtain⟨σ',H',I',q⟩:=q
  exact h2 pins s1 σ' H' D I' q
 |ret v=>exact q
 |brk=>exact q
 |cont=>exact q
theorem Cg(h1:PS X st t):cQ X [st] t:=by
 refine⟨λpins s σ H D I h=>?_⟩
 refine wpAny_execs_cons (aD (h1 pins s σ H D I h) λf s1 q=>?_)
 cases f with
 |next=>exact wpAny_execs_nil q
 |ret v=>exact q
 |brk=>exact q
 |cont=>exact q
theorem Inv.quiet{pins:List (Addr × Obj)}{σ : St}{H:Hp}{s:Shared}(I:Inv X pins σ H s):interactive X.env=false:=by simp[interactive,I.ok.kind]
noncomputable def aaG(te:TE):TS:=λD σ H=>te σ H λ_ H1=>D.nx σ H1
theorem aaH(he:PE X e te)(hs:swapsWith e none pos.line X.env=pure false:=by rfl):PS X (.Expr e pos) (aaG te):=by
 refine⟨λpins s σ H D I h=>?_⟩
 exact wpAny_Expr_any (aD (he pins s σ H _ I h) λv s1 ⟨x,H1,I1,r1,q1⟩=>⟨σ,H1,I1,q1⟩) I.quiet hs
noncomputable def aaI(te:TE):TS:=λD σ H=>te σ H D.rt
theorem Ci(he:PE X e te):PS X (.Return (some e) pos) (aaI te):=by
 refine⟨λpins s σ H D I h=>?_⟩
 exact wpAny_Return_some (aD (he pins s σ H _ I h) λv s1 ⟨x,H1,I1,r1,q1⟩=>⟨x,σ,H1,I1,r1,q1⟩)
noncomputable def aaJ(c:TT)(t u:TS):TS:=λD σ H=>c σ H λb H1=>if b=true then t D σ H1 else u D σ H1
theorem aaK{c:Expr}{a b:List Stmt}{tc:TT}(hc:PT X c tc)(ha:cQ X a t)(hb:cQ X b u):PS X (.If c a b pos) (aaJ tc t u):=by
 refine⟨λpins s σ H D I h=>?_⟩
 refine wpAny_If (aD (hc pins s σ H _ I h) λd s1 ⟨H1,I1,q1⟩=>?_)
 cases d with
 |true=>exact ha pins s1 σ H1 D I1 q1
 |false=>exact hb pins s1 σ H1 D I1 q1
end
noncomputable abbrev TG:=V->St->Hp->(St->Hp->Prop)->Prop
noncomputable abbrev oJ:=List V->St->Hp->(St->Hp->Prop)->Prop
noncomputable def PG(X:Cx)(target:Expr)(t:TG):Prop :=
 ∀(pins:List (Addr × Obj)) (s:Shared) (σ : St) (H:Hp) (v:V) (u:Value) (Q:St->Hp->Prop),Inv X pins σ H s->RelV v u->t v σ H Q ->
  wpAny (model X.prog X.w) X.A (assign target X.env u) (λ_ s'=>∃σ' H',Inv X pins σ' H' s'/\Q σ' H') X.xe s
noncomputable def mY(X:Cx)(ts:List Expr)(t:oJ):Prop :=
 ∀(pins:List (Addr × Obj)) (s:Shared) (σ : St) (H:Hp) (vs:List V) (us:List Value) (Q:St->Hp->Prop),Inv X pins σ H s->Vals vs us->t vs σ H Q ->
  wpAny (model X.prog X.w) X.A (assignInOrder ((assignEach ts X.env).map (·.2)) us) (λ_ s'=>∃σ' H',Inv X pins σ' H' s'/\Q σ' H') X.xe s
noncomputable abbrev Cj:=V->V->V->Hp->(Hp->Prop)->Prop
noncomputable def Ls(X:Cx)(t:Cj):Prop :=
 ∀(pins:List (Addr × Obj)) (s:Shared) (σ : St) (H:Hp) (o i v:V) (ov iv u:Value) (Q:Hp->Prop),Inv X pins σ H s->RelV o ov->RelV i iv->RelV v u->t o i v H Q ->
  wpAny (model X.prog X.w) X.A (setItem ov iv u) (λ_ s'=>∃H',Inv X pins σ H' s'/\Q H') X.xe s
section
variable {X:Cx}{pos:Pos}
noncomputable def jM(i:Nat):TG:=λv σ H Q=>Q (σ.set i (some v)) H
theorem aaL(hN:X.N.Nodup)(hi:X.N[i]?=some x)(hx:Loc X.env.scope x)(hf:X.fn x=true\/X.env.scope.names.lookup x=some .local:=by first|exact .inl rfl|exact .inr rfl|assumption):PG X (.Name x pos) (jM i):=by
 intro pins s σ H v u Q I r h
 exact wpAny_assign_Name (wV I hN hi hx r (λs' I'=>⟨_,H,I',h⟩) hf)
noncomputable def aaM:oJ:=λvs σ H Q=>vs=[]/\Q σ H
noncomputable def aaN(t:TG)(u:oJ):oJ:=λvs σ H Q=>∃v r,vs=v::r/\t v σ H λσ' H'=>u r σ' H' Q
theorem aaO:mY X [] aaM:=by
 intro pins s σ H vs us Q I r h
 obtain⟨e,h⟩:=h
 subst e
 cases r
 exact assignInOrder_nil ⟨σ,H,I,h⟩
theorem aaP{e:Expr}{es:List Expr}{t:TG}{u:oJ}(h1:PG X e t)(h2:mY X es u)
  (hs:(assignEach (e::es) X.env).map (·.2)=assign e X.env::(assignEach es X.env).map (·.2):=by rfl):mY X (e::es) (aaN t u):=by
 intro pins s σ H vs us Q I r h
 obtain⟨v,vr,e1,h⟩:=h
 subst e1
 cases r with
 |cons r rr =>
  rw[hs]
  refine assignInOrder_cons (aD (h1 pins s σ H _ _ _ I r h) λ_ s1 ⟨σ1,H1,I1,q1⟩=>?_)
  exact h2 pins s1 σ1 H1 _ _ Q I1 rr q1
noncomputable def aaQ(K:PySem.W.Frag)(n:Nat)(t:oJ):TG:=λv σ H Q=>∃a xs,v=.ref a/\aW K H a xs/\xs.length=n/\t xs σ H Q
theorem aaR(hc:X.calm=true)(h:mY X es t)
  (hn:(assignEach es X.env).length=n:=by rfl) (hst:(assignEach es X.env).findIdx? (·.1)=none:=by rfl):PG X (.Tuple es k pos) (aaQ X.K n t):=by
 intro pins s σ H v u Q I r hw
 obtain⟨a,xs,e1,hq,hl,hw⟩:=hw
 subst e1
 cases r
 obtain⟨its,rv,ht,hz⟩:=I.tuple hq
 refine assign_Tuple_tuple (I.ok.hd hc) ht (by simp[hn,<-hl,rv.length]) hst λh' hx=>?_
 have I1:Inv X pins σ H {s with heap:=h' }:=I.kept (t':=s.toks) λb o e=>hx b o (Nat.ne_of_lt (Heap.lt_size e)) e
 exact h pins _ σ H xs _ Q I1 (by simpa using rv) hw
noncomputable def aaS(to ti:TE)(t:Cj):TG:=λv σ H Q=>to σ H λo H1=>ti σ H1 λi H2=>t o i v H2 λH3=>Q σ H3
theorem Lw{o i:Expr}{to ti:TE}{t:Cj}(ho:PE X o to)(hi:PE X i ti)(hs:Ls X t)
  (ha:∀v,assign (.Subscript o i pos) X.env v=(do
   let ov <-holding [v] (eval o X.env)
   let iv <-holding [v,ov] (eval i X.env)
   standAt pos
   holding [v,ov,iv] (setItem ov iv v)
   release [v,ov,iv] []):=by intro _; rfl):PG X (.Subscript o i pos) (aaS to ti t):=by
 intro pins s σ H v u Q I r h
 rw[ha]
 refine wpAny_bind (wpAny_holding (aD (ho pins s σ H _ I h) λov s1 ⟨x,H1,I1,r1,q1⟩=>?_))
 refine wpAny_bind (wpAny_holding (aD (hi pins s1 σ H1 _ I1 q1) λiv s2 ⟨y,H2,I2,r2,q2⟩=>?_))
 refine wpAny_bind (wpAny_standAt (wpAny_bind (wpAny_holding (aD (hs pins s2 σ H2 x y v ov iv u _ I2 r1 r2 r q2) λ_ s3 ⟨H3,I3,q3⟩=>?_))))
 exact wpAny_release ⟨σ,H3,I3,q3⟩
noncomputable def jN(te:TE)(g:TG):TS:=λD σ H=>te σ H λx H1=>g x σ H1 D.nx
theorem Ck{tg e:Expr}{te:TE}{g:TG}(he:PE X e te)(hg:PG X tg g)(hs:swapsWithSole [tg] e pos.line X.env=pure false:=by rfl)(hw:swappedStores [tg] e X.env=pure none:=by rfl)
  (h1:(assignEach [tg] X.env).map (·.2)=[assign tg X.env]:=by rfl):PS X (.Assign [tg] e pos) (jN te g):=by
 refine⟨λpins s σ H D I h=>?_⟩
 refine wpAny_Assign_stores (aD (he pins s σ H _ I h) λv s1 ⟨x,H1,I1,r1,q1⟩=>?_) hs hw
 rw[h1]
 exact aD (hg pins s1 σ H1 x v _ I1 r1 q1) λ_ s2 q=>q
theorem Cm{i:Nat}{x:Str}{e:Expr}{te:TE}{pos':Pos}(hN:X.N.Nodup)(hi:X.N[i]?=some x)(hx:Loc X.env.scope x)(he:PE X e te)(hs:swapsWith e (some (.Name x pos')) pos.line X.env=pure false:=by rfl)(hf:X.fn x=true\/X.env.scope.names.lookup x=some .local:=by first|exact .inl rfl|exact .inr rfl|assumption) :
  PS X (.Assign [.Name x pos'] e pos) (jN te (jM i)):=by
 refine⟨λpins s σ H D I h=>?_⟩
 refine wpAny_Assign_Name (aD (he pins s σ H _ I h) λv s1 ⟨y,H1,I1,r1,q1⟩=>?_) hs
 exact wV I1 hN hi hx r1 (λs2 I2=>⟨_,H1,I2,q1⟩) hf
noncomputable def aaT(i j:Nat)(ta:TA):TS:=λD σ H=>ta σ H λvs H1=>∃v w,vs=[v,w]/\D.nx ((σ.set i (some v)).set j (some w)) H1
theorem aaU{kt k2 Cp}(hc:X.calm=true)(hN:X.N.Nodup)(hi:X.N[i]?=some x)(hj:X.N[j]?=some y)(hij:i≠j)
  (hx:X.env.scope.names.lookup x=some .local) (hy:X.env.scope.names.lookup y=some .local) (ha:PA X [a,b] ta)
  (hw:swappedStores [.Tuple [.Name x px,.Name y py] kt pt] (.Tuple [a,b] k2 Cp) X.env=pure (some [x,y]))
  (hs:swapsWithSole [.Tuple [.Name x px,.Name y py] kt pt] (.Tuple [a,b] k2 Cp) pos.line X.env=pure false:=by rfl) :
  PS X (.Assign [.Tuple [.Name x px,.Name y py] kt pt] (.Tuple [a,b] k2 Cp) pos) (aaT i j ta):=by
 refine⟨λpins s σ H D I h=>?_⟩
 rw[exec_Assign_arm]
 refine wpAny_bind (wpAny_standAt ?_)
 rw[hs]
 refine wpAny_bind (wpAny_pure ?_)
 rw[if_neg (by decide)]
 refine wpAny_bind (Tuple_ (aD (ha _ pins s σ H _ I h) λus s1 ⟨vs,H1,I1,r1,q1⟩=>?_))
 obtain⟨v,w,e1,q1⟩:=q1
 subst e1
 obtain⟨u1,u2,rfl,rv,oK⟩:∃u1 u2,us=[u1,u2]/\RelV v u1/\RelV w u2:=by
  cases r1 with
  |cons p q =>
   cases q with
   |cons p' q' =>
    cases q'
    exact⟨_,_,rfl,p,p'⟩
 refine wpAny_newObj_type ?_ (by show 2<=sizeLine; decide)
 have I2:Inv X pins σ H1 {s1 with heap:=s1.heap.push {cls:=.type "tuple",data:=.seq [u1,u2].toArray } }:=I1.kept (t':=s1.toks) λb o e=>Heap.get?_push_of_some _ e
 rw[hw]
 refine wpAny_bind (wpAny_pure ?_)
 show wpAny (model X.prog X.w) X.A (do rule "assign.swapped-stores"; let items <-unpackItems (.ref s1.heap.objs.size) 2 none; assignInOrder [λv=>bindName X.env y v,λv=>bindName X.env x v] items.reverse; pure Flow.next) _ _ _
 refine wpAny_bind (wpAny_rule (wpAny_bind (unpackItems_tuple (items:=#[u1,u2]) (I.ok.hd hc) (IsTup.new s1.heap _) λh' hx'=>?_)))
 have I3:=I2.kept (h':=h') (t':=s1.toks) λb o e=>hx' b o (Nat.ne_of_lt (Heap.lt_size e)) e
 show wpAny _ _ (assignInOrder [λv=>bindName X.env y v,λv=>bindName X.env x v] [u2,u1] >>= λ_=>pure Flow.next) _ _ _
 refine wpAny_bind (assignInOrder_cons (wpAny_bindName (wV I3 hN hj (.inl hy) oK (λs2 I4=>?_) (.inr hy))))
 refine assignInOrder_cons (wpAny_bindName (wV I4 hN hi (.inl hx) rv (λs3 I5=>assignInOrder_nil (wpAny_pure ?_)) (.inr hx)))
 rw[List.set_comm _ _ (Ne.symm hij)]at I5
 exact⟨_,H1,I5,q1⟩
end
section
variable {X:Cx}{pos:Pos}
noncomputable def aaV(c:TT)(tb:TS):TS:=λD σ H=>∃W:Nat->St->Hp->Prop,(∃m,W m σ H)/\∀m σ H,W m σ H ->
 c σ H λb H1=>if b=true then ∃N:St->Hp->Prop,(∀σ' H',N σ' H'->∃m',m'<m/\W m' σ' H')/\tb {D with nx:=N,ct:=N,bk:=D.nx } σ H1 else D.nx σ H1
theorem aaW(hp:PassesOwn (model X.prog X.w) X.A X.env X.xe)(hc:PT X c tc)(hb:cQ X body tb):PS X (.While c body [] pos) (aaV tc tb):=by
 refine⟨λpins s σ H D I h=>?_⟩
 obtain⟨W,⟨m0,w0⟩,turn⟩:=h
 refine wpAny_While (codeAny_whileLoop (λn s'=>∃σ' H',Inv X pins σ' H' s'/\W n σ' H') ?_ m0 ⟨σ,H,I,w0⟩)
 rintro n s1 ⟨σ1,H1,I1,w1⟩
 refine wpAny_passesOwn hp (aD (hc pins s1 σ1 H1 _ I1 (turn n σ1 H1 w1)) λb s2 ⟨H2,I2,q2⟩=>?_)
 cases b with
 |true =>
  obtain⟨N,hN,q2⟩:=q2
  rw[if_pos rfl]
  refine wpAny_passesOwn hp (aD (hb pins s2 σ1 H2 _ I2 q2) λf s3 q3=>?_)
  cases f with
  |next =>
   obtain⟨σ3,H3,I3,n3⟩:=q3
   obtain⟨m',hm,w3⟩:=hN σ3 H3 n3
   exact⟨m',hm,σ3,H3,I3,w3⟩
  |cont =>
   obtain⟨σ3,H3,I3,n3⟩:=q3
   obtain⟨m',hm,w3⟩:=hN σ3 H3 n3
   exact⟨m',hm,σ3,H3,I3,w3⟩
  |brk=>exact q3
  |ret v=>exact q3
 |false =>
  rw[if_neg Bool.false_ne_true]
  exact wpAny_execs_nil ⟨σ1,H2,I2,q2⟩
end
structure It where
 go:Nat->Hp->Prop
 oM:Nat->Hp->V->Hp->Prop
 stop:Nat->Hp->Prop
noncomputable def cA(X:Cx)(pins:List (Addr × Obj))(H:Hp)(b:Addr):Prop :=
 H b=none/\b≠X.env.locals/\b∉X.fs/\(b∈X.ex\/X.s₀.heap.objs.size<=b)/\(∀x c,X.env.cells.lookup x=some c->c≠b)/\∀p∈X.pn++pins,p.1≠b
theorem Inv.lA(I:Inv X pins σ H s)(hb:s.heap.objs.size<=b)(hn:H' b=none):cA X pins H' b:=by
 refine⟨hn,Nat.ne_of_gt (Nat.lt_of_lt_of_le I.lt hb),I.aar hb,.inr (Nat.le_trans I.sz hb),λx c e z=>?_,λp hp z=>?_⟩
 .obtain⟨v,q⟩:=I.cell x c e
  exact absurd (Nat.lt_of_lt_of_le q.lt (by rw[z]; exact hb)) (Nat.lt_irrefl _)
 .exact absurd (Nat.lt_of_lt_of_le (Heap.lt_size (I.pin p hp).1) (by rw[z]; exact hb)) (Nat.lt_irrefl _)
structure Turn(P:Program)(w:World)(K:PySem.W.Frag)(tg:Expr)(J:It)(fp:List Addr)(it:Addr)(tn:Nat->Heap->Prop):Prop where
 mem:it∈fp
 obj:∀i h,tn i h->∀b∈fp,∃o,h.get? b=some o/\∀v,o.data ≠ .cell v
 keep:∀i h h',tn i h->(∀b∈fp,∀o,h.get? b=some o->h'.get? b=some o)->tn i h'
 item:∀(X:Cx),X.prog=P->X.w=w->X.K=K->X.calm=true->∀(i:Nat) (pins:List (Addr × Obj)) (s:Shared) (σ : St) (H:Hp) (E:Value->Shared->Prop),Inv X pins σ H s->(∀b∈fp,cA X pins H b)->tn i s.heap->J.go i H ->
  wpAny (model P w) X.A (pyNext (.ref it)) (λr s1=>∃u,r=some u /\
   wpAny (model P w) X.A (letOwnedTupleGo tg (.ref it) u) (λ_ s2=>∃x H',Inv X pins σ H' s2/\RelV x u/\J.oM i H x H'/\tn (i+1) s2.heap/\∀b∈fp,H' b=none) E s1) E s
 done:∀(X:Cx),X.prog=P->X.w=w->X.K=K->X.calm=true->∀(i:Nat) (pins:List (Addr × Obj)) (s:Shared) (σ : St) (H:Hp) (E:Value->Shared->Prop),Inv X pins σ H s->(∀b∈fp,cA X pins H b)->tn i s.heap->J.stop i H ->
  wpAny (model P w) X.A (pyNext (.ref it)) (λr s1=>r=none/\Inv X pins σ H s1) E s
 self:∀(A:Around) (i:Nat) (s:Shared) (Q:Value->Shared->Prop) (E:Value->Shared->Prop),tn i s.heap->Q (.ref it) s->wpAny (model P w) A (pyIter (.ref it)) Q E s
noncomputable abbrev TI:=St->Hp->(It->Hp->Prop)->Prop
noncomputable def PIE(X:Cx)(pins:List (Addr × Obj))(σ : St)(tg:Expr)(R:It->Hp->Prop)(itv:Value)(s2:Shared):Prop :=
 ∃(it:Addr) (fp:List Addr) (tn:Nat->Heap->Prop) (J:It) (H':Hp),itv=.ref it/\Inv X pins σ H' s2/\Turn X.prog X.w X.K tg J fp it tn/\tn 0 s2.heap/\(∀b∈fp,cA X pins H' b)/\R J H'
noncomputable def PI(X:Cx)(tg iter:Expr)(wi:TI):Prop :=
 ∀(pins:List (Addr × Obj)) (s:Shared) (σ : St) (H:Hp) (R:It->Hp->Prop),Inv X pins σ H s->wi σ H R ->
  wpAny (model X.prog X.w) X.A (eval iter X.env) (λv s1=>wpAny (model X.prog X.w) X.A (pyIter v) (PIE X pins σ tg R) X.xe s1) X.xe s
theorem Cr(ho:s.heap.get? it=some o)(hc:o.cls=.type n)(hd:o.data=.fields vs)
    (hn : ["enumerate", "zip", "dict_itemiterator", "dict_reverseitemiterator", "odict_iterator", "itertools.zip_longest", "itertools.pairwise"].contains n=false) (hQ:Q () s):wpAny M A (letOwnedTupleGo tg (.ref it) u) Q E s:=by
  unfold letOwnedTupleGo
  cases tg <;> first
    |exact wpAny_pure hQ
    | (cases u <;> first
        |exact wpAny_pure hQ
        | (refine wpAny_bind (wpAny_load ho ?_)
           rw[hc,hd]
           show wpAny M A (if(["enumerate", "zip", "dict_itemiterator", "dict_reverseitemiterator", "odict_iterator", "itertools.zip_longest", "itertools.pairwise"].contains n&&vs[0]? == some (rawInt _))=true then _ else _) Q E s
           rw[if_neg (by intro h; rw[hn,Bool.false_and]at h; cases h)]
           exact wpAny_pure hQ))
noncomputable def Cu(K:PySem.W.Frag)(a:Addr):It :=
 ⟨λi H=>∃xs x,aM K H a xs/\xs[i]?=some x,λi H x H'=>H'=H/\∀xs,aM K H a xs->xs[i]?=some x,λi H=>∃xs,aM K H a xs/\xs.length<=i⟩
noncomputable def Cv(K:PySem.W.Frag)(a:Addr):It :=
 ⟨λi H=>∃xs x,aW K H a xs/\xs[i]?=some x,λi H x H'=>H'=H/\∀xs,aW K H a xs->xs[i]?=some x,λi H=>∃xs,aW K H a xs/\xs.length<=i⟩
noncomputable def wZ(lo:Int)(n:Nat):It:=⟨λi _=>i<n,λi H x H'=>H'=H/\x=.int (lo+i),λi _=>n<=i⟩
theorem aaX{P:Program}{w:World}{K:PySem.W.Frag}{tg:Expr}(a it:Addr):Turn P w K tg (Cu K a) [it] it (λi h=>h.IsListIter it a i) where
 mem:=by simp
 obj:=λi h st b hb=>by
  have e:b=it:=by simpa using hb
  subst e
  obtain⟨o,e,c,d⟩:=st
  exact⟨o,e,λv z=>by rw[d]at z; cases z⟩
 keep:=λi h h' st k=>st.at λo e=>k it (by simp) o e
 item:=by
  intro X hP hw hK hc i pins s σ H E I hf st hg
  subst hP hw hK
  obtain⟨xs,x,hq,hx⟩:=hg
  obtain⟨its,rv,p,hz⟩:=I.list hq
  obtain⟨u,hu,ru⟩:=rv.get hx
  obtain⟨f0,f1,f2,f3,f4,f5⟩:=hf it (by simp)
  refine wpAny_pyNext_list_item st p.isList (x:=u) (by simpa using hu) λh' st' sb=>?_
  have I1:Inv X pins σ H {s with heap:=h' }:=I.turned (t':=s.toks) (λb o hb e=>(sb.2 b hb).trans e) f0 f1 f3 f4 f5
  obtain⟨o,e,c,d⟩:=id st'
  exact⟨u,rfl,Cr (s:={s with heap:=h' }) e c d (by decide) ⟨x,H,I1,ru,⟨rfl,λys hy=>by rw[I.wY hy hq]; exact hx⟩,st',λb hb=>(hf b hb).1⟩⟩
 done:=by
  intro X hP hw hK hc i pins s σ H E I hf st hg
  subst hP hw hK
  obtain⟨xs,hq,hx⟩:=hg
  obtain⟨its,rv,p,hz⟩:=I.list hq
  obtain⟨f0,f1,f2,f3,f4,f5⟩:=hf it (by simp)
  have hl:=rv.length
  exact wpAny_pyNext_list_end (I.ok.hd hc) st p.isList (by simp; lia) λh' eb=>⟨rfl,I.turned (t':=s.toks) (λb o hb e=>eb b o hb e) f0 f1 f3 f4 f5⟩
 self:=λ_ _ _ _ _ st h=>wpAny_pyIter_listiter st h
theorem aaY{P:Program}{w:World}{K:PySem.W.Frag}{tg:Expr}(a it:Addr):Turn P w K tg (Cv K a) [it] it (λi h=>h.IsTupleIter it a i) where
 mem:=by simp
 obj:=λi h st b hb=>by
  have e:b=it:=by simpa using hb
  subst e
  obtain⟨o,e,c,d⟩:=st
  exact⟨o,e,λv z=>by rw[d]at z; cases z⟩
 keep:=λi h h' st k=>st.at λo e=>k it (by simp) o e
 item:=by
  intro X hP hw hK hc i pins s σ H E I hf st hg
  subst hP hw hK
  obtain⟨xs,x,hq,hx⟩:=hg
  obtain⟨its,rv,p,hz⟩:=I.tuple hq
  obtain⟨u,hu,ru⟩:=rv.get hx
  obtain⟨f0,f1,f2,f3,f4,f5⟩:=hf it (by simp)
  refine wpAny_pyNext_tuple_item st (show s.heap.IsTuple a its.toArray from p) (x:=u) (by simpa using hu) λh' st' sb=>?_
  have I1:Inv X pins σ H {s with heap:=h' }:=I.turned (t':=s.toks) (λb o hb e=>(sb.2 b hb).trans e) f0 f1 f3 f4 f5
  obtain⟨o,e,c,d⟩:=id st'
  exact⟨u,rfl,Cr (s:={s with heap:=h' }) e c d (by decide) ⟨x,H,I1,ru,⟨rfl,λys hy=>by rw[I.Lj hy hq]; exact hx⟩,st',λb hb=>(hf b hb).1⟩⟩
 done:=by
  intro X hP hw hK hc i pins s σ H E I hf st hg
  subst hP hw hK
  obtain⟨xs,hq,hx⟩:=hg
  obtain⟨its,rv,p,hz⟩:=I.tuple hq
  obtain⟨f0,f1,f2,f3,f4,f5⟩:=hf it (by simp)
  have hl:=rv.length
  exact wpAny_pyNext_tuple_end (I.ok.hd hc) st (show s.heap.IsTuple a its.toArray from p) (by simp; lia) λh' eb=>⟨rfl,I.turned (t':=s.toks) (λb o hb e=>eb b o hb e) f0 f1 f3 f4 f5⟩
 self:=λ_ _ _ _ _ st h=>wpAny_pyIter_tupleiter st h
theorem aaZ{P:Program}{w:World}{K:PySem.W.Frag}{tg:Expr}(it:Addr)(lo:Int)(n:Nat):Turn P w K tg (wZ lo n) [it] it (λi h=>IsRangeIter h it (lo+(i:Nat)*1) ((n:Int)-(i:Nat)) 1) where
 mem:=by simp
 obj:=λi h st b hb=>by
  have e:b=it:=by simpa using hb
  subst e
  exact⟨_,st,λv z=>by
   have z':Data.fields _=Data.cell v:=z
   cases z'⟩
 keep:=λi h h' st k=>k it (by simp) _ st
 item:=by
  intro X hP hw hK hc i pins s σ H E I hf st hg
  subst hP hw hK
  obtain⟨f0,f1,f2,f3,f4,f5⟩:=hf it (by simp)
  have W:=Walks.range (prog:=X.prog) (w:=X.w) (I.ok.hd hc) it lo 1 n
  refine W.item i s _ _ hg st λv h' tk hv st' kk=>?_
  obtain⟨t,rfl⟩:=hv
  have I1:Inv X pins σ H {s with heap:=h',toks:=tk }:=I.turned (λb o hb e=>kk b o (by simpa using hb) e) f0 f1 f3 f4 f5
  refine⟨_,rfl,Cr (s:={s with heap:=h',toks:=tk }) (n := "range_iterator") st' rfl rfl (by decide) ⟨.int (lo+i),H,I1,⟨t,?_⟩,⟨rfl,rfl⟩,st',λb hb=>(hf b hb).1⟩⟩
  rw[Int.mul_one]
 done:=by
  intro X hP hw hK hc i pins s σ H E I hf st hg
  subst hP hw hK
  obtain⟨f0,f1,f2,f3,f4,f5⟩:=hf it (by simp)
  exact wpAny_pyNext_range_end (I.ok.hd hc) st (by have:n<=i:=hg; lia) λh' eb=>⟨rfl,I.turned (t':=s.toks) (λb o hb e=>eb b o hb e) f0 f1 f3 f4 f5⟩
 self:=λ_ _ _ _ _ st h=>wpAny_pyIter_rangeiter st h
section
variable {X:Cx}{tg:Expr}
noncomputable def Ly(K:PySem.W.Frag)(tl:TE):TI:=λσ H R=>tl σ H λx H1=>∃a,x=.ref a/\(∃xs,aM K H1 a xs)/\R (Cu K a) H1
noncomputable def Lz(K:PySem.W.Frag)(tl:TE):TI:=λσ H R=>tl σ H λx H1=>∃a,x=.ref a/\(∃xs,aW K H1 a xs)/\R (Cv K a) H1
theorem aa0{l:Expr}{tl:TE}(hl:PE X l tl):PI X tg l (Ly X.K tl):=by
 intro pins s σ H R I h
 refine aD (hl pins s σ H _ I h) λv s1 ⟨x,H1,I1,r1,q1⟩=>?_
 obtain⟨a,e,⟨xs,hq⟩,q⟩:=q1
 subst e
 cases r1
 obtain⟨its,rv,p,hz⟩:=I1.list hq
 refine wpAny_pyIter_list p.isList ?_
 refine⟨s1.heap.objs.size,[s1.heap.objs.size],_,_,H1,rfl,I1.kept (t':=s1.toks) λb o e=>Heap.get?_push_of_some _ e,aaX a _,⟨_,Heap.get?_push_size _ rfl,rfl,rfl⟩,λb hb=>?_,q⟩
 have e:b=s1.heap.objs.size:=by simpa using hb
 subst e
 exact I1.lA (Nat.le_refl _) (I1.hok.fresh (Nat.le_refl _))
theorem aa1{l:Expr}{tl:TE}(hl:PE X l tl):PI X tg l (Lz X.K tl):=by
 intro pins s σ H R I h
 refine aD (hl pins s σ H _ I h) λv s1 ⟨x,H1,I1,r1,q1⟩=>?_
 obtain⟨a,e,⟨xs,hq⟩,q⟩:=q1
 subst e
 cases r1
 obtain⟨its,rv,p,hz⟩:=I1.tuple hq
 refine wpAny_pyIter_tuple (show s1.heap.IsTuple a its.toArray from p) ?_
 refine⟨s1.heap.objs.size,[s1.heap.objs.size],_,_,H1,rfl,I1.kept (t':=s1.toks) λb o e=>Heap.get?_push_of_some _ e,aaY a _,⟨_,Heap.get?_push_size _ rfl,rfl,rfl⟩,λb hb=>?_,q⟩
 have e:b=s1.heap.objs.size:=by simpa using hb
 subst e
 exact I1.lA (Nat.le_refl _) (I1.hok.fresh (Nat.le_refl _))
theorem aa2{pins:List (Addr × Obj)}{σ : St}{H:Hp}{s:Shared}{R:It->Hp->Prop}{E:Value->Shared->Prop}{lo hi:Int}{t u v:Tok}{tk:Nat}(I:Inv X pins σ H s)(h1 : -(2 ^ 62)<=lo)(h2:lo<2 ^ 62)(h3 : -(2 ^ 62)<=hi)(h4:hi<2 ^ 62)
  (q:R (wZ lo (hi-lo).toNat) H):wpAny (model X.prog X.w) X.A (pyIter (.ref s.heap.objs.size)) (PIE X pins σ tg R) E {s with heap:=s.heap.push {cls:=.type "range",data:=.fields #[.int lo t,.int hi u,.int 1 v] },toks:=tk }:=by
 refine wpAny_pyIter_range (IsRange.new ..) (small_one h1 h2 h3 h4) ?_
 have I1:Inv X pins σ H {s with heap:=s.heap.push {cls:=.type "range",data:=.fields #[.int lo t,.int hi u,.int 1 v] },toks:=tk }:=I.kept λb o e=>Heap.get?_push_of_some _ e
 refine⟨(s.heap.push {cls:=.type "range",data:=.fields #[.int lo t,.int hi u,.int 1 v] }).objs.size,[(s.heap.push {cls:=.type "range",data:=.fields #[.int lo t,.int hi u,.int 1 v] }).objs.size],_,_,H,rfl,
  I1.kept (t':=tk) λb o e=>Heap.get?_push_of_some _ e,aaZ _ lo (hi-lo).toNat,?_,λb hb=>?_,q⟩
 .have e1:lo+((0:Nat):Int)*1=lo:=by simp
  have e2:(((hi-lo).toNat:Nat):Int)-((0:Nat):Int)=Builtin.Range.rangeSize lo hi 1:=by rw[rangeSize_one]; split <;> lia
  show IsRangeIter _ _ (lo+((0:Nat):Int)*1) ((((hi-lo).toNat:Nat):Int)-((0:Nat):Int)) 1
  rw[e1,e2]
  exact Heap.get?_push_size _ rfl
 .have e:b=(s.heap.push {cls:=.type "range",data:=.fields #[.int lo t,.int hi u,.int 1 v] }).objs.size:=by simpa using hb
  subst e
  exact I1.lA (Nat.le_refl _) (I1.hok.fresh (Nat.le_refl _))
noncomputable def aa3(ta:TA):TI:=λσ H R=>ta σ H λvs H1=>∃j:Int,vs=[.int j] /\ -(2 ^ 62)<=j/\j<2 ^ 62/\R (wZ 0 j.toNat) H1
theorem aa4{a:Expr}{ta:TA}{p pos:Pos}(hg:Gl X "range") (hm:X.mg "range" = none) (ha:PA X [a] ta) (hs:starEach [a] X.env=[(false,eval a X.env)]:=by rfl):PI X tg (.Call (.Name "range" p) [a] [] pos) (aa3 ta):=by
 intro pins s σ H R I h
 refine Call_ (oH I hg hm boot_range (PyProof.Rows.callWith_type1 (aD (ha pos pins s σ H _ I h) λus s1 ⟨vs,H1,I1,r1,q1⟩=>?_) hs rfl))
 obtain⟨j,e,q1,q2,q⟩:=q1
 subst e
 cases r1 with
 |cons r rr =>
  cases rr
  obtain⟨t,rfl⟩:=r
  exact call_range_1 (aa2 I1 (by lia) (by lia) q1 q2 (by simpa using q))
noncomputable def aa5(wi:TI)(g:TG)(tb:TS):TS:=λD σ H=>wi σ H λJ H1=>∃W:Nat->Nat->St->Hp->Prop,(∃m,W 0 m σ H1)/\∀i m σ H,W i m σ H ->
 (J.stop i H/\D.nx σ H)\/(J.go i H/\∃N:St->Hp->Prop,(∀σ' H',N σ' H'->∃m',m'<m/\W (i+1) m' σ' H')/\∀x H',J.oM i H x H'->g x σ H' λσ2 H2=>tb {D with nx:=N,ct:=N,bk:=D.nx } σ2 H2)
noncomputable def w6(fp:List Addr)(h:Heap):List (Addr × Obj):=fp.filterMap λb=>(h.get? b).map λo=>(b,o)
theorem qC(hb:b∈fp)(e:h.get? b=some o):(b,o)∈w6 fp h:=List.mem_filterMap.mpr ⟨b,hb,by rw[e]; rfl⟩
theorem aa6(hp:p∈w6 fp h):p.1∈fp/\h.get? p.1=some p.2:=by
 obtain⟨b,hb,e⟩:=List.mem_filterMap.mp hp
 cases q:h.get? b with
 |none=>rw[q]at e; cases e
 |some o =>
  rw[q]at e
  have e':(b,o)=p:=Option.some.inj e
  subst e'
  exact⟨hb,q⟩
theorem Inv.pinned(I:Inv X pins σ H s)(hf:∀b∈fp,cA X pins H b)(ho:∀b∈fp,∃o,s.heap.get? b=some o/\∀v,o.data ≠ .cell v):Inv X (pins++w6 fp s.heap) σ H s :=
 I.wU λp hp=>(List.mem_append.mp hp).elim (λz=>I.pin p (List.mem_append_right _ z)) λz=>by
  obtain⟨hb,e⟩:=aa6 z
  obtain⟨f0,f1,f2,_⟩:=hf p.1 hb
  obtain⟨o,e',d⟩:=ho p.1 hb
  rw[e]at e'; cases e'
  exact⟨e,f0,f1,f2,d⟩
theorem Inv.tX(I:Inv X (pins++pl) σ H s):Inv X pins σ H s:=I.wU λp hp=>I.pin p (List.mem_append_right _ (List.mem_append_left _ hp))
theorem aa7(hp:PassesOwn (model X.prog X.w) X.A X.env X.xe)(hc:X.calm=true)(hi:PI X tg iter wi)(hg:PG X tg g)(hb:cQ X body tb)
  (hs:∀x,foldedSetIterable iter X.env x=pure x:=by intro _; rfl):PS X (.For tg iter body [] pos) (aa5 wi g tb):=by
 refine⟨λpins s σ H D I h=>?_⟩
 refine wpAny_For (aD (hi pins s σ H _ I h) λv s1 h1=>aD h1 λitv s2 h2=>?_) hs
 obtain⟨it,fp,tn,J,H2,e,I2,T,st2,f2,W,⟨m0,w0⟩,turn⟩:=h2
 subst e
 -- what stays true of the iterator's objects through the loop
 have stat:∀{H':Hp},(∀b∈fp,H' b=none)->∀b∈fp,cA X pins H' b:=λhn b hb=>⟨hn b hb,(f2 b hb).2⟩
 refine codeAny_forLoop_any (λn s'=>∃i σ' H',Inv X pins σ' H' s'/\tn i s'.heap/\(∀b∈fp,H' b=none)/\W i n σ' H') ?_ m0 ⟨0,σ,H2,I2,st2,λb hb=>(f2 b hb).1,w0⟩
 rintro n s3 ⟨i,σ3,H3,I3,st3,LC,w3⟩
 rcases turn i n σ3 H3 w3 with⟨stop,qn⟩|⟨go,N,hN,step⟩
 .refine wpAny_passesOwn hp (aD (T.done X rfl rfl rfl hc i pins s3 σ3 H3 X.xe I3 (stat LC) st3 stop) λr s4 ⟨hr,I4⟩=>?_)
  subst hr
  exact wpAny_execs_nil ⟨σ3,H3,I4,qn⟩
 .refine wpAny_passesOwn hp (aD (T.item X rfl rfl rfl hc i pins s3 σ3 H3 X.xe I3 (stat LC) st3 go) λr s4 ⟨u,hr,h4⟩=>?_)
  subst hr
  refine wpAny_passesOwn hp (aD h4 λ_ s5 ⟨x,H5,I5,r5,y5,mO,xg⟩=>?_)
  have I5':=I5.pinned (stat xg) (T.obj _ _ mO)
  refine wpAny_passesOwn hp (aD (hg _ s5 σ3 H5 x u _ I5' r5 (step x H5 y5)) λ_ s6 ⟨σ6,H6,I6,q6⟩=>?_)
  refine wpAny_passesOwn hp (aD (hb _ s6 σ6 H6 _ I6 q6) λf s7 q7=>?_)
  have again:∀{σ7:St} {H7:Hp},Inv X (pins++w6 fp s5.heap) σ7 H7 s7->N σ7 H7->∃m,m<n/\∃i σ' H',Inv X pins σ' H' s7/\tn i s7.heap/\(∀b∈fp,H' b=none)/\W i m σ' H':=λ{σ7 H7} I7 n7=>by
   obtain⟨m',hm,w7⟩:=hN σ7 H7 n7
   refine⟨m',hm,i+1,σ7,H7,I7.tX,T.keep _ _ _ mO λb hb o e=>(I7.pin (b,o) (List.mem_append_right _ (List.mem_append_right _ (qC hb e)))).1,λb hb=>?_,w7⟩
   obtain⟨o,e,d⟩:=T.obj _ _ mO b hb
   exact(I7.pin (b,o) (List.mem_append_right _ (List.mem_append_right _ (qC hb e)))).2.1
  cases f with
  |next=>obtain⟨σ7,H7,I7,n7⟩:=q7; exact again I7 n7
  |cont=>obtain⟨σ7,H7,I7,n7⟩:=q7; exact again I7 n7
  |brk=>obtain⟨σ7,H7,I7,q7⟩:=q7; exact⟨σ7,H7,I7.tX,q7⟩
  |ret v=>obtain⟨x7,σ7,H7,I7,r7,q7⟩:=q7; exact⟨x7,σ7,H7,I7.tX,r7,q7⟩
end
noncomputable abbrev R2:=V->V->Hp->VK->Prop
noncomputable def bh(X:Cx)(f:Value->Value->Sem Value)(r:R2):Prop :=
 ∀(pins:List (Addr × Obj)) (s:Shared) (σ : St) (H:Hp) (x y:V) (v u:Value) (Q:VK),Inv X pins σ H s->RelV x v->RelV y u->r x y H Q ->
  wpAny (model X.prog X.w) X.A (f v u) (EP X pins σ Q) X.xe s
noncomputable def Cw(X:Cx)(f:Value->Sem Value)(r:V->Hp->VK->Prop):Prop :=
 ∀(pins:List (Addr × Obj)) (s:Shared) (σ : St) (H:Hp) (x:V) (v:Value) (Q:VK),Inv X pins σ H s->RelV x v->r x H Q ->
  wpAny (model X.prog X.w) X.A (f v) (EP X pins σ Q) X.xe s
noncomputable def eN(X:Cx)(f:Value)(r:List V->Hp->VK->Prop):Prop :=
 ∀(pins:List (Addr × Obj)) (s:Shared) (σ : St) (H:Hp) (xs:List V) (us:List Value) (Q:VK),Inv X pins σ H s->Vals xs us->r xs H Q ->
  wpAny (model X.prog X.w) X.A (call f us) (EP X pins σ Q) X.xe s
noncomputable def aa8(X:Cx)(r:V->Hp->(Bool->Hp->Prop)->Prop):Prop :=
 ∀(pins:List (Addr × Obj)) (s:Shared) (σ : St) (H:Hp) (x:V) (v:Value) (Q:Bool->Hp->Prop),Inv X pins σ H s->RelV x v->r x H Q ->
  wpAny (model X.prog X.w) X.A (truthy v) (TP X pins σ Q) X.xe s
noncomputable def tY(r:R2)(ta tb:TE):TE:=λσ H Q=>ta σ H λx H1=>tb σ H1 λy H2=>r x y H2 Q
noncomputable def LK(r:V->Hp->VK->Prop)(ta:TE):TE:=λσ H Q=>ta σ H λx H1=>r x H1 Q
noncomputable def rI(C:Int->Int->Prop)(g:Int->Int->V):R2:=λx y H Q=>∃i j,x=.int i/\y=.int j/\C i j/\Q (g i j) H
noncomputable def fP(g:Int->Int->V):R2:=λx y H Q=>∃i j,x=.int i/\y=.int j/\Q (g i j) H
noncomputable def rU(g:Int->V):V->Hp->VK->Prop:=λx H Q=>∃i,x=.int i/\Q (g i) H
section
variable {X:Cx}{a b c:Expr}{ta tb tc:TE}{pos:Pos}
theorem Cy(ha:PE X a ta)(hb:PE X b tb){pins:List (Addr × Obj)}{s:Shared}{σ : St}{H:Hp}{R:V->V->Hp->Prop}(I:Inv X pins σ H s)
  (h:ta σ H λx H1=>tb σ H1 λy H2=>R x y H2) {Q:Value->Shared->Prop} {f:Value->Value->Sem Value}
  (hf:∀v u s2 x y H2,Inv X pins σ H2 s2->RelV x v->RelV y u->R x y H2->wpAny (model X.prog X.w) X.A (f v u) Q X.xe s2) :
  wpAny (model X.prog X.w) X.A (eval a X.env) (λv s₁=>wpAny (model X.prog X.w) X.A (eval b X.env) (λu s₂=>wpAny (model X.prog X.w) X.A (f v u) Q X.xe s₂) X.xe s₁) X.xe s:=by
 refine aD (ha pins s σ H _ I h) λv s1 ⟨x,H1,I1,r1,q1⟩=>?_
 refine aD (hb pins s1 σ H1 _ I1 q1) λu s2 ⟨y,H2,I2,r2,q2⟩=>?_
 exact hf v u s2 x y H2 I2 r1 r2 q2
theorem xq{op:Operator}{r:R2}(ho:bh X (binaryOp op) r)(ha:PE X a ta)(hb:PE X b tb):PE X (.BinOp a op b pos) (tY r ta tb):=by
 refine⟨λpins s σ H Q I h=>?_⟩
 exact wpAny_BinOp (Cy ha hb I h λv u s2 x y H2 I2 rx ry q=>ho pins s2 σ H2 x y v u Q I2 rx ry q)
theorem Cz(ho:Cw X (unaryOp op) r)(ha:PE X a ta):PE X (.UnaryOp op a pos) (LK r ta):=by
 refine⟨λpins s σ H Q I h=>?_⟩
 exact UnaryOp_ (aD (ha pins s σ H _ I h) λv s1 ⟨x,H1,I1,r1,q1⟩=>ho pins s1 σ H1 x v Q I1 r1 q1)
theorem xr{f:Value->Value->Sem Value}{C:Int->Int->Prop}{g:Int->Int->Int}
  (rule:∀(i j:Int) (t u:Tok) (s:Shared) (Q:Value->Shared->Prop) (E:Value->Shared->Prop),C i j->Q (.int (g i j) s.toks) {s with toks:=s.toks+1 }->wpAny (model X.prog X.w) X.A (f (.int i t) (.int j u)) Q E s) :
  bh X f (rI C λi j=>.int (g i j)):=by
 intro pins s σ H x y v u Q I rx ry h
 obtain⟨i,j,rfl,rfl,hc,q⟩:=h
 obtain⟨t,rfl⟩:=rx
 obtain⟨t',rfl⟩:=ry
 exact rule i j t t' s _ _ hc ⟨.int (g i j),H,I.tok _,⟨_,rfl⟩,q⟩
theorem LQ{f:Value->Value->Sem Value}{g:Int->Int->Int}
  (rule:∀(i j:Int) (t u:Tok) (s:Shared) (Q:Value->Shared->Prop) (E:Value->Shared->Prop),Q (.int (g i j) s.toks) {s with toks:=s.toks+1 }->wpAny (model X.prog X.w) X.A (f (.int i t) (.int j u)) Q E s) :
  bh X f (fP λi j=>.int (g i j)):=by
 intro pins s σ H x y v u Q I rx ry h
 obtain⟨i,j,rfl,rfl,q⟩:=h
 obtain⟨t,rfl⟩:=rx
 obtain⟨t',rfl⟩:=ry
 exact rule i j t t' s _ _ ⟨.int (g i j),H,I.tok _,⟨_,rfl⟩,q⟩
theorem CG{f:Value->Value->Sem Value}{g:Int->Int->Bool}
  (rule:∀(i j:Int) (t u:Tok) (s:Shared) (Q:Value->Shared->Prop) (E:Value->Shared->Prop),Q (.bool (g i j)) s->wpAny (model X.prog X.w) X.A (f (.int i t) (.int j u)) Q E s) :
  bh X f (fP λi j=>.bl (g i j)):=by
 intro pins s σ H x y v u Q I rx ry h
 obtain⟨i,j,rfl,rfl,q⟩:=h
 obtain⟨t,rfl⟩:=rx
 obtain⟨t',rfl⟩:=ry
 exact rule i j t t' s _ _ ⟨.bl (g i j),H,I,rfl,q⟩
noncomputable def xu(i j:Int):Prop:=0<=j/\j<=1000000/\i.natAbs<2 ^ 64
noncomputable def LR(i j:Int):Prop:=(-(2 ^ 64)<i/\i<2 ^ 64)\/(-(2 ^ 64)<j/\j<2 ^ 64)
theorem LR.ok{i j:Int}(h:LR i j):IntMulOk i j:=by
 rcases h with⟨h1,h2⟩|⟨h1,h2⟩
 .exact .of_left (intBits_le_64 h1 h2)
 .exact .of_right (intBits_le_64 h1 h2)
theorem Ma:bh X (binaryOp .Add) (fP λi j=>.int (i+j)):=LQ λ_ _ _ _ _ _ _ q=>add_int q
theorem Mf:bh X (binaryOp .Sub) (fP λi j=>.int (i-j)):=LQ λ_ _ _ _ _ _ _ q=>sub_int q
theorem aa9:bh X (binaryOp .Mod) (rI (λ_ j=>j≠0) λi j=>.int (i.fmod j)):=xr λ_ _ _ _ _ _ _ hc q=>mod_int' hc q
theorem Mg:bh X (binaryOp .Pow) (rI xu λi j=>.int (i ^ j.toNat)):=xr λ_ _ _ _ _ _ _ hc q=>pow_int_small hc.1 hc.2.1 hc.2.2 q
theorem unI{f:Value->Sem Value}{g:Int->Int}
  (rule:∀(i:Int) (t:Tok) (s:Shared) (Q:Value->Shared->Prop) (E:Value->Shared->Prop),Q (.int (g i) s.toks) {s with toks:=s.toks+1 }->wpAny (model X.prog X.w) X.A (f (.int i t)) Q E s) :
  Cw X f (rU λi=>.int (g i)):=by
 intro pins s σ H x v Q I rx h
 obtain⟨i,rfl,q⟩:=h
 obtain⟨t,rfl⟩:=rx
 exact rule i t s _ _ ⟨.int (g i),H,I.tok _,⟨_,rfl⟩,q⟩
theorem CJ:Cw X (unaryOp .USub) (rU λi=>.int (-i)):=unI λ_ _ _ _ _ q=>neg_int q
end
section
variable {X:Cx}{a b c:Expr}{ta tb tc:TE}{pos:Pos}
theorem abb:bh X (compareOp .Lt) (fP λi j=>.bl (decide (i<j))):=CG λ_ _ _ _ _ _ _ q=>lt_int q
theorem abd:bh X (compareOp .LtE) (fP λi j=>.bl (decide (i<=j))):=CG λ_ _ _ _ _ _ _ q=>le_int q
theorem abe:bh X (compareOp .GtE) (fP λi j=>.bl (decide (j<=i))):=CG λ_ _ _ _ _ _ _ q=>ge_int q
theorem bh.or(h:bh X f r)(h':bh X f r'):bh X f (λx y H Q=>r x y H Q\/r' x y H Q):=by
 intro pins s σ H x y v u Q I rx ry q
 rcases q with q|q
 .exact h pins s σ H x y v u Q I rx ry q
 .exact h' pins s σ H x y v u Q I rx ry q
theorem abf{op:CmpOp}{r:R2}(ho:bh X (compareOp op) r)(ha:PE X a ta)(hb:PE X b tb)(hm:behindInMarks op b=false):PE X (.Compare a [op] [b] pos) (tY r ta tb):=by
 refine⟨λpins s σ H Q I h=>?_⟩
 exact wpAny_Compare1 (Cy ha hb I h λv u s2 x y H2 I2 rx ry q=>ho pins s2 σ H2 x y v u Q I2 rx ry q) hm
noncomputable def mZ(t:TE):TT:=λσ H Q=>t σ H λx H'=>∃k,x=.bl k/\Q k H'
theorem abg(ho:bh X (compareOp op) r)(ha:PE X a ta)(hb:PE X b tb)(hm:behindInMarks op b=false):PT X (.Compare a [op] [b] pos) (mZ (tY r ta tb)):=by
 refine⟨λpins s σ H Q I h=>?_⟩
 refine wpAny_isTrue_Compare1 (aD (ha pins s σ H _ I h) λv s1 ⟨x,H1,I1,r1,q1⟩=>aD (hb pins s1 σ H1 _ I1 q1) λu s2 ⟨y,H2,I2,r2,q2⟩ =>
  aD (ho pins s2 σ H2 x y v u _ I2 r1 r2 q2) λc s3 ⟨z,H3,I3,r3,k,e,q3⟩=>?_) hm
 subst e
 cases r3
 exact wpAny_truthy_bool ⟨H3,I3,q3⟩
noncomputable def CK(r r':R2)(ta tb tc:TE):TE:=λσ H Q=>ta σ H λx H1=>tb σ H1 λy H2=>r x y H2 λz H3=>∃k,z=.bl k /\
 (if k=true then tc σ H3 λw' H4=>r' y w' H4 Q else Q (.bl false) H3)
theorem abh(ho:bh X (compareOp op) r)(ho':bh X (compareOp op') r')(ha:PE X a ta)(hb:PE X b tb)(hc:PE X c tc)
  (hm:lastMarks [op,op'] [b,c]=false:=by with_unfolding_all rfl):PE X (.Compare a [op,op'] [b,c] pos) (CK r r' ta tb tc):=by
 refine⟨λpins s σ H Q I h=>?_⟩
 refine Compare_chain (aD (ha pins s σ H _ I h) λv s1 ⟨x,H1,I1,r1,q1⟩=>chain_link (aD (hb pins s1 σ H1 _ I1 q1) λu s2 ⟨y,H2,I2,r2,q2⟩ =>
  aD (ho pins s2 σ H2 x y v u _ I2 r1 r2 q2) λd s3 ⟨z,H3,I3,r3,k,e,q3⟩=>?_)) hm
 subst e
 cases r3
 refine wpAny_truthy_bool ?_
 cases k with
 |false=>exact ite_ff ⟨.bl false,H3,I3,rfl,q3⟩
 |true=>exact ite_tt (chain_last (aD (hc pins s3 σ H3 _ I3 q3) λw' s4 ⟨z',H4,I4,r4,q4⟩=>ho' pins s4 σ H4 y z' u w' Q I4 r2 r4 q4))
theorem abj(ho:bh X (compareOp op) r)(ho':bh X (compareOp op') r')(ha:PE X a ta)(hb:PE X b tb)(hc:PE X c tc)
  (hm:lastMarks [op,op'] [b,c]=false:=by with_unfolding_all rfl):PT X (.Compare a [op,op'] [b,c] pos) (mZ (CK r r' ta tb tc)):=by
 refine⟨λpins s σ H Q I h=>?_⟩
 refine isTrue_chain (aD (ha pins s σ H _ I h) λv s1 ⟨x,H1,I1,r1,q1⟩=>test_link (aD (hb pins s1 σ H1 _ I1 q1) λu s2 ⟨y,H2,I2,r2,q2⟩ =>
  aD (ho pins s2 σ H2 x y v u _ I2 r1 r2 q2) λd s3 ⟨z,H3,I3,r3,k,e,q3⟩=>?_)) hm
 subst e
 cases r3
 refine wpAny_truthy_bool ?_
 cases k with
 |false =>
  obtain⟨k',e',q'⟩:=q3
  cases e'
  exact ite_ff ⟨H3,I3,q'⟩
 |true =>
  refine ite_tt (test_last (aD (hc pins s3 σ H3 _ I3 q3) λw' s4 ⟨z',H4,I4,r4,q4⟩=>aD (ho' pins s4 σ H4 y z' u w' _ I4 r2 r4 q4) λd' s5 ⟨z2,H5,I5,r5,k2,e2,q5⟩=>?_))
  subst e2
  cases r5
  exact wpAny_truthy_bool ⟨H5,I5,q5⟩
noncomputable def CN(K:PySem.W.Frag)(x:V)(H:Hp)(k:Bool):Prop :=
 match x with
 |.non=>k=false
 |.bl b=>k=b
 |.int i=>k=(i != 0)
 |.str y=>y.length<=sizeLine/\k=((y.length:Int) != 0)
 |.qx y=>y.size<=sizeLine/\k=((y.size:Int) != 0)
 |.ref p=>(∃xs,aM K H p xs/\k = !xs.isEmpty)\/(∃xs,aW K H p xs/\k = !xs.isEmpty)
 |_=>False
theorem Mh{xs:List V}{its:List Value}(r:Vals xs its):(!its.toArray.isEmpty) = !xs.isEmpty:=by
 cases r <;> simp
theorem oO:(sizeLine:Nat)<2 ^ 63:=by rw[sizeLine_eq]; decide
theorem abk:aa8 X (λx H Q=>∃k,CN X.K x H k/\Q k H):=by
 intro pins s σ H x v Q I rx h
 obtain⟨k,e,q⟩:=h
 have hl:=oO
 have hs:sizeLine=16777216:=sizeLine_eq
 cases x with
 |non =>
  cases rx
  have e':k=false:=e
  subst e'
  exact truthy_none ⟨H,I,q⟩
 |bl b =>
  cases rx
  have e':k=b:=e
  subst e'
  exact wpAny_truthy_bool ⟨H,I,q⟩
 |int i =>
  obtain⟨t,rfl⟩:=rx
  have e':k=(i != 0):=e
  subst e'
  exact PySem.P.truthy_int ⟨H,I,q⟩
 |str y =>
  obtain⟨t,rfl⟩:=rx
  obtain⟨hy,e'⟩:y.length<=sizeLine/\k=((y.length:Int) != 0):=e
  subst e'
  exact PySem.P.truthy_str (by lia) ⟨H,I.tok _,q⟩
 |qx y =>
  obtain⟨t,rfl⟩:=rx
  obtain⟨hy,e'⟩:y.size<=sizeLine/\k=((y.size:Int) != 0):=e
  subst e'
  exact PySem.W.truthy_bytes (by lia) ⟨H,I.tok _,q⟩
 |ref p =>
  cases rx
  have e':(∃xs,aM X.K H p xs/\k = !xs.isEmpty)\/(∃xs,aW X.K H p xs/\k = !xs.isEmpty):=e
  rcases e' with⟨xs,hx,e'⟩|⟨xs,hx,e'⟩
  .subst e'
   obtain⟨its,r,pl,hz⟩:=I.list hx
   have hlen:=r.length
   exact wpAny_truthy_list pl.isList (by simp only[List.size_toArray]; lia) ⟨H,I.tok _,by rw[Mh r]; exact q⟩
  .subst e'
   obtain⟨its,r,pl,hz⟩:=I.tuple hx
   have hlen:=r.length
   exact truthy_tuple pl (by simp only[List.size_toArray]; lia) ⟨H,I.tok _,by rw[Mh r]; exact q⟩
 |_=>exact(show False from e).elim
theorem abl(ha:PE X a ta)(he:∀whole,isTrue a X.env whole=(do let v <-whole; standAt a.pos; holding [v] (truthy v))) :
  PT X a (λσ H Q=>ta σ H λx H'=>∃k,CN X.K x H' k/\Q k H'):=by
 refine⟨λpins s σ H Q I h=>?_⟩
 exact isTrue_plain (aD (ha pins s σ H _ I h) λv s1 ⟨x,H1,I1,r1,q1⟩=>abk pins s1 σ H1 x v Q I1 r1 q1) (he _)
theorem abm:bh X (binaryOp .Add) (λx y H Q=>∃i j,x=.str i/\y=.str j/\i.length+j.length<=sizeLine/\Q (.str (i++j)) H):=by
 intro pins s σ H x y v u Q I rx ry h
 obtain⟨i,j,rfl,rfl,hz,q⟩:=h
 obtain⟨t,rfl⟩:=rx
 obtain⟨t',rfl⟩:=ry
 exact add_str (λt' tk=>⟨.str (i++j),H,I.tok _,⟨_,rfl⟩,q⟩) hz
theorem vals1(r:Vals [x] us):∃u,us=[u]/\RelV x u:=by
 cases r with
 |cons r1 r2=>cases r2; exact⟨_,rfl,r1⟩
theorem vals2(r:Vals [x,y] us):∃u w',us=[u,w']/\RelV x u/\RelV y w':=by
 cases r with
 |cons r1 r2 =>
  cases r2 with
  |cons r3 r4=>cases r4; exact⟨_,_,rfl,r1,r3⟩
theorem abn:eN X (.builtin "abs") (λxs H Q=>∃i,xs=[.int i]/\Q (.int (if i<0 then -i else i)) H):=by
 intro pins s σ H xs us Q I r h
 obtain⟨i,rfl,q⟩:=h
 obtain⟨u,rfl,t,rfl⟩:=vals1 r
 exact call_abs_int λu tk=>⟨.int (if i<0 then -i else i),H,I.tok _,⟨_,rfl⟩,q⟩
theorem abo(hc:X.calm=true):eN X (.builtin "max") (λxs H Q=>∃i j,xs=[.int i,.int j]/\Q (.int (if j > i then j else i)) H):=by
 intro pins s σ H xs us Q I r h
 obtain⟨i,j,rfl,q⟩:=h
 obtain⟨u,w',rfl,⟨t,rfl⟩,⟨t',rfl⟩⟩:=vals2 r
 refine max_two_ints (I.ok.hd hc) λh' tk k=>⟨_,H,I.kept k,?_,q⟩
 by_cases hj:j > i
 .rw[if_pos hj,if_pos hj]; exact⟨_,rfl⟩
 .rw[if_neg hj,if_neg hj]; exact⟨_,rfl⟩
theorem abp(hc:X.calm=true):eN X (.builtin "min") (λxs H Q=>∃i j,xs=[.int i,.int j]/\Q (.int (if j<i then j else i)) H):=by
 intro pins s σ H xs us Q I r h
 obtain⟨i,j,rfl,q⟩:=h
 obtain⟨u,w',rfl,⟨t,rfl⟩,⟨t',rfl⟩⟩:=vals2 r
 refine min_two_ints (I.ok.hd hc) λh' tk k=>⟨_,H,I.kept k,?_,q⟩
 by_cases hj:j<i
 .rw[if_pos hj,if_pos hj]; exact⟨_,rfl⟩
 .rw[if_neg hj,if_neg hj]; exact⟨_,rfl⟩
end
structure oR(h:Heap)(x dx C:Addr)(mA:Str->Option Value):Prop where
 obj:h.get? x=some (PySem.W.instObj C dx)
 ns:h.Ns1 dx mA
 ne:dx≠x
theorem abq{h:Heap}{dx:Addr}{mA:Str->Option Value}(n:h.Ns1 dx mA):∃od,h.get? dx=some od/\∀name,PySem.W.lookIn name od=some (mA name):=by
 obtain⟨o,es,ep,ho,hd,hk,_,hm⟩:=n
 refine⟨o,ho,λname=>?_⟩
 have e:=hm name
 unfold nsFind findBy at e
 rw[<-Array.find?_toList]at e
 unfold PySem.W.lookIn
 rw[hd]
 dsimp only
 split
 .rename_i y q
  rw[q]at e
  exact congrArg some e
 .rename_i q
  rw[q]at e
  have a:es.toList.any (·.refKey)=false:=by
   rw[List.any_eq_false]
   intro y hy
   obtain⟨z,t,hkey⟩:=hk y (Array.mem_toList_iff.mp hy)
   simp[DictEntry.refKey,hkey]
  have a':¬es.toList.any (·.refKey)=true:=by rw[a]; exact Bool.false_ne_true
  rw[if_neg a']
  exact congrArg some e
theorem oR.look(I:oR h x dx C mA):∃od,PySem.W.InstAt h x (PySem.W.instObj C dx) C (some od)/\∀name,PySem.W.lookIn name od=some (mA name) :=
 let⟨od,ho,hl⟩:=abq I.ns
 ⟨od,⟨I.obj,rfl,rfl,ho⟩,hl⟩
section
variable {prog:Program}{w:World}{A:Around}{E:Value->Shared->Prop}{s:Shared}{K:PySem.W.Frag}{x dx C f:Addr}{mA:Str->Option Value}{name:Str}{v:Value}
theorem get_map(X:K.In s.heap)(I:oR s.heap x dx C mA)(hg:PySem.W.plainGet K C name=true)(hh:PySem.W.hasDictIn K C=true)
  (ha:PySem.W.findIn K (.ref C) name=some none) (hv:mA name=some v) (hv':PySem.W.handedIn v=true) (h:Q v {s with toks:=s.toks+1 }) :
  wpAny (model prog w) A (getAttr (.ref x) name expr) Q E s:=by
 obtain⟨od,J,hl⟩:=I.look
 exact PySem.W.get_value X J (PySem.W.plainGet_of hg).1 (PySem.W.findObj_own hh ha rfl (by rw[hl,hv])) hv' h
theorem abr(X:K.In s.heap)(I:oR s.heap x dx C mA)(hg:PySem.W.plainGet K C name=true)
  (hf:PySem.W.findIn K (.ref C) name=some (some (.ref f))) (ht:PySem.W.isFn K (.ref f)=true) (hv:mA name=none) (h:Q (.ref f,[.ref x]) s) :
  wpAny (model prog w) A (getMethod (.ref x) name pl) Q E s:=by
 obtain⟨od,J,hl⟩:=I.look
 exact PySem.W.method_fn X J (PySem.W.plainGet_of hg).1 (PySem.W.plainGet_of hg).2 hf (beq_iff_eq.mp ht) (by show(PySem.W.lookIn name od).map (·.isSome)=some false; rw[hl,hv]; rfl) h
theorem abt(X:K.In s.heap)(I:oR s.heap x dx C mA)
  (hs:PySem.W.findIn K (.ref C) "__setattr__" = some (some (.builtin "object.__setattr__"))) (hp:PySem.W.plainOver K C=true) (ht:PySem.W.takerIn K C name=some none) (hh:PySem.W.hasDictIn K C=true)
  (hw:PySem.Within mA ns) (hsz:ns.length<=sizeLine)
  (h:∀h',oR h' x dx C (λy=>if y=name then some v else mA y)->Heap.SameBut dx s.heap h'->Q () {s with heap:=h',toks:=s.toks+2 }) :
  wpAny (model prog w) A (setAttr (.ref x) name v) Q E s:=by
 obtain⟨od,J,hl⟩:=I.look
 refine PySem.W.set_plain X J hs (PySem.W.osa_open (s:={s with toks:=s.toks+1 }) (r:=none) X J hp ht λb=>?_)
 obtain⟨cd,hc,hd'⟩:=PySem.W.any_some hh
 have hx:s.heap.get? x=some ⟨.ref C,some dx,.plain,#[]⟩:=I.obj
 refine wpAny_bind (wpAny_pure (wpAny_bind (wpAny_bind (wpAny_loadPart hx (wpAny_bind (PySem.W.Looks.here (s:={s with toks:=s.toks+1 }) (PySem.W.looks_clsIn X hc) ?_))))))
 rw[hd']
 refine wpAny_pure (a:=some dx) (wpAny_bind (wpAny_pure (wpAny_bind ?_)))
 refine wpAny_nsSet1 (s:={s with toks:=s.toks+1 }) I.ns λh' hn2 hs2=>?_
 obtain⟨oD,esD,epD,hoD,hdD,hcD⟩:=hn2.count (PySem.Within.cons name v hw)
 refine wpAny_bind (wpAny_lookBehind hoD (by rw[hdD]; exact pastItsLine_dict (Nat.le_trans hcD (by rw[List.length_cons]; lia))) ?_)
 exact wpAny_pure (h _ ⟨(hs2.2 _ (Ne.symm I.ne)).trans I.obj,hn2,I.ne⟩ hs2)
theorem abu(X:K.In s.heap)(hm:PySem.W.makesIn K C=true)
  (hi:PySem.W.findIn K (.ref C) "__init__" = some (some (.ref f))) (hf:PySem.W.typeIn K (.ref f)=some (.type "function"))
  (h:codeAny (model prog w) (A.under (.builtin "type.__call__" ⟨.ref C::vs,kw⟩)) (.call (.ref f) ⟨.ref (s.heap.objs.size+1)::vs,kw⟩) (PySem.W.InitBack (s.heap.objs.size+1) R)
   {s with heap:=(s.heap.push PySem.W.emptyDict).push (PySem.W.instObj C s.heap.objs.size) }) :
  codeAny (model prog w) A (.call (.ref C) ⟨vs,kw⟩) R s:=by
 obtain⟨hh,g,d,t,os⟩:=s
 exact PySem.W.make_core (PySem.W.makes_of X hm) (PySem.W.looks_findIn X hi) (λself=>PySem.W.bind_fn X self hf) (.inl rfl) h
end
noncomputable def c7(f:Str)(v:V):List (Str × V)->List (Str × V)
 | []=>[(f,v)]
 |(g,x)::r=>if g=f then(g,v)::r else(g,x)::c7 f v r
theorem Mi(f g:Str)(v:V):∀fs:List (Str × V),(c7 f v fs).lookup g=if g=f then some v else fs.lookup g
 | []=>by
  show List.lookup g [(f,v)]=_
  by_cases h:g=f
  .have hb:(g == f)=true:=beq_iff_eq.mpr h
   simp only[List.lookup,hb,if_pos h]
  .have hb:(g == f)=false:=beq_eq_false_iff_ne.mpr h
   simp only[List.lookup,hb,if_neg h]
 |(k,x)::r=>by
  have ih:=Mi f g v r
  rw[show c7 f v ((k,x)::r)=(if k=f then(k,v)::r else(k,x)::c7 f v r)from rfl]
  by_cases hk:k=f
  .rw[if_pos hk]
   by_cases h:g=k
   .have hb:(g == k)=true:=beq_iff_eq.mpr h
    simp only[List.lookup,hb,if_pos (h.trans hk)]
   .have hb:(g == k)=false:=beq_eq_false_iff_ne.mpr h
    simp only[List.lookup,hb,if_neg (λe:g=f=>h (e.trans hk.symm))]
  .rw[if_neg hk]
   by_cases h:g=k
   .have hb:(g == k)=true:=beq_iff_eq.mpr h
    simp only[List.lookup,hb,if_neg (λe:g=f=>hk (h.symm.trans e))]
   .have hb:(g == k)=false:=beq_eq_false_iff_ne.mpr h
    simp only[List.lookup,hb]
    exact ih
theorem CP(f:Str)(v:V):∀fs:List (Str × V),f∈(c7 f v fs).map (·.1)/\∀g,g∈fs.map (·.1)->g∈(c7 f v fs).map (·.1)
 | []=>⟨by simp[c7],λg h=>by simp at h⟩
 |(k,x)::r=>by
  obtain⟨i1,i2⟩:=CP f v r
  rw[show c7 f v ((k,x)::r)=(if k=f then(k,v)::r else(k,x)::c7 f v r)from rfl]
  by_cases hk:k=f
  .rw[if_pos hk]
   subst hk
   exact⟨by simp,λg h=>by simpa using h⟩
  .rw[if_neg hk]
   refine⟨?_,λg h=>?_⟩
   .rw[List.map_cons]
    exact List.mem_cons_of_mem _ i1
   .rw[List.map_cons]at h ⊢
    rcases List.mem_cons.mp h with e|e
    .exact List.mem_cons.mpr (.inl e)
    .exact List.mem_cons_of_mem _ (i2 g e)
theorem Mj(f:Str)(v:V):∀fs:List (Str × V),(c7 f v fs).length<=fs.length+1
 | []=>by simp[c7]
 |(k,x)::r=>by
  have ih:=Mj f v r
  rw[show c7 f v ((k,x)::r)=(if k=f then(k,v)::r else(k,x)::c7 f v r)from rfl]
  by_cases hk:k=f
  .rw[if_pos hk,List.length_cons,List.length_cons]; lia
  .rw[if_neg hk,List.length_cons,List.length_cons]; lia
theorem kZ.some_of(r:kZ (some v) o):∃u,o=some u/\RelV v u:=by
 cases o with
 |none=>exact(show False from r).elim
 |some u=>exact⟨u,rfl,r⟩
theorem kZ.none_of(r:kZ none o):o=none:=by
 cases o with
 |none=>rfl
 |some u=>exact(show False from r).elim
theorem abv(r:RelV v u):PySem.W.handedIn u=true:=by
 cases v with
 |non=>cases(show u=Value.none from r); rfl
 |bl b=>cases(show u=Value.bool b from r); rfl
 |int i=>obtain⟨t,e⟩:=(show ∃t,u=Value.int i t from r); cases e; rfl
 |str x=>obtain⟨t,e⟩:=(show ∃t,u=Value.str x t from r); cases e; rfl
 |qx b=>obtain⟨t,e⟩:=(show ∃t,u=Value.bytes b t from r); cases e; rfl
 |flt b=>obtain⟨t,e⟩:=(show ∃t,u=Value.float b t from r); cases e; rfl
 |ref a=>cases(show u=Value.ref a from r); rfl
 |ty n=>cases(show u=Value.type n from r); rfl
section
variable {P:Program}{w:World}{H H':Hp}{h h':Heap}{a C dx:Addr}{fs fs':List (Str × V)}
theorem CQ(hok:bZ P w H h)(e:H a=some (.ins C dx fs)):∃mA,oR h a dx C mA/\(∀f,kZ (fs.lookup f) (mA f))/\PySem.Within mA (fs.map (·.1))/\fs.length<=1000/\H dx=some (.own a):=by
 obtain⟨d,z,ne,ob,mA,n,r,q⟩:=(show fO P w H h a (.ins C dx fs)from hok a _ e)
 exact⟨mA,⟨ob,n,ne⟩,r,q,z,d⟩
end
structure Cls(K:PySem.W.Frag)(C:Addr):Prop where
 pg:PySem.W.plainGet K C Str.empty=true
 hd:PySem.W.hasDictIn K C=true
 po:PySem.W.plainOver K C=true
 sa:PySem.W.findIn K (.ref C) "__setattr__" = some (some (.builtin "object.__setattr__"))
theorem Cls.get{K:PySem.W.Frag}{C:Addr}(c:Cls K C)(f:Str):PySem.W.plainGet K C f=true:=c.pg
noncomputable def oU(K:PySem.W.Frag)(C:Addr)(f:Str):Prop:=PySem.W.findIn K (.ref C) f=some none
theorem oU.taker{K:PySem.W.Frag}{C:Addr}{f:Str}(n:oU K C f):PySem.W.takerIn K C f=some none:=by
 unfold PySem.W.takerIn
 rw[show PySem.W.findIn K (.ref C) f=some none from n]
 rfl
structure Meth(K:PySem.W.Frag)(C:Addr)(m:Str)(f:Addr):Prop where
 at_:PySem.W.findIn K (.ref C) m=some (some (.ref f))
 fn:PySem.W.isFn K (.ref f)=true
 kp:PySem.W.keepIn K (.ref f)=true
section
variable {X:Cx}{pins:List (Addr × Obj)}{σ : St}{H:Hp}{s:Shared}{a C dx:Addr}{fs:List (Str × V)}{f:Str}{v:V}{A:Around}{E:Value->Shared->Prop}
theorem abw(I:Inv X pins σ H s)(e:H a=some (.ins C dx fs))(c:Cls X.K C)(n:oU X.K C f)(l:fs.lookup f=some v)
  (h:∀u s',Inv X pins σ H s'->RelV v u->Q u s'):wpAny (model X.prog X.w) A (getAttr (.ref a) f b) Q E s:=by
 obtain⟨mA,O,r,_,_,_⟩:=CQ I.hok e
 obtain⟨u,hu,ru⟩:=kZ.some_of (v:=v) (o:=mA f) (by rw[<-l]; exact r f)
 exact get_map I.cZ O (c.get f) c.hd n hu (abv ru) (h u _ (I.tok _) ru)
theorem Ml(I:Inv X pins σ H s)(e:H a=some (.ins C dx fs))(c:Cls X.K C)(k:Meth X.K C m g)(l:fs.lookup m=none)
  (h:Q (.ref g,[.ref a]) s):wpAny (model X.prog X.w) A (getMethod (.ref a) m pl) Q E s:=by
 obtain⟨mA,O,r,_,_,_⟩:=CQ I.hok e
 have hn:mA m=none:=kZ.none_of (by rw[<-l]; exact r m)
 exact abr I.cZ O (c.get m) k.at_ k.fn hn h
theorem abx(I:Inv X pins σ H s)(e:H a=some (.ins C dx fs))(c:Cls X.K C)(n:oU X.K C f)(hl:fs.length<1000)(ry:RelV y u)
  (h:∀s',Inv X pins σ (upd H a (.ins C dx (c7 f y fs))) s'->Q () s'):wpAny (model X.prog X.w) A (setAttr (.ref a) f u) Q E s:=by
 obtain⟨mA,O,r,wi,_,ho⟩:=CQ I.hok e
 have hz:(fs.map (·.1)).length<=sizeLine:=by rw[List.length_map,sizeLine_eq]; lia
 refine abt I.cZ O c.sa c.po n.taker c.hd wi hz λh' O' sb=>h _ ?_
 have hd:∃o,h'.get? dx=some o:=let⟨o,_,_,e',_⟩:=O'.ns; ⟨o,e'⟩
 refine I.write (x:=a) (e:=dx) (by rw[e]; exact True.intro) (.inr ho) (λb q hb z=>(sb.2 b hb).trans z) hd ?_
 refine⟨by rw[aH O.ne]; exact ho,?_,O.ne,O'.obj,_,O'.ns,λg=>?_,λg hg=>?_⟩
 .have:=Mj f y fs; lia
 .show kZ ((c7 f y fs).lookup g) (if g=f then some u else mA g)
  rw[Mi]
  by_cases q:g=f
  .rw[if_pos q,if_pos q]; exact ry
  .rw[if_neg q,if_neg q]; exact r g
 .by_cases q:g=f
  .rw[q]; exact(CP f y fs).1
  .refine(CP f y fs).2 g (wi g λz=>hg ?_)
   show(if g=f then some u else mA g)=none
   rw[if_neg q]; exact z
theorem Inv.made(I:Inv X pins σ H s):Inv X pins σ (upd (upd H s.heap.objs.size (.own (s.heap.objs.size+1))) (s.heap.objs.size+1) (.ins C s.heap.objs.size []))
  {s with heap:=(s.heap.push PySem.W.emptyDict).push (PySem.W.instObj C s.heap.objs.size) }:=by
 have e1:(s.heap.push PySem.W.emptyDict).get? s.heap.objs.size=some PySem.W.emptyDict:=Heap.get?_push_size s.heap rfl
 have e2:((s.heap.push PySem.W.emptyDict).push (PySem.W.instObj C s.heap.objs.size)).get? (s.heap.objs.size+1)=some (PySem.W.instObj C s.heap.objs.size):=by
  have:=Heap.get?_push_size (s.heap.push PySem.W.emptyDict) (o:=PySem.W.instObj C s.heap.objs.size) rfl
  rwa[Heap.size_push]at this
 have e3:(s.heap.push PySem.W.emptyDict).Ns s.heap.objs.size (λ_=>none):=⟨PySem.W.emptyDict,#[],_,e1,rfl,(λe he=>absurd he (by simp)),λ_=>rfl⟩
 have I1:=I.laid (a:=s.heap.objs.size) (o:=.own (s.heap.objs.size+1)) (h':=s.heap.push PySem.W.emptyDict) (t':=s.toks) (λb u q=>Heap.get?_push_of_some _ q) (Nat.le_refl _) ⟨_,e1⟩
 refine I1.laid (a:=s.heap.objs.size+1) (o:=.ins C s.heap.objs.size []) (t':=s.toks) (λb u q=>Heap.get?_push_of_some _ q) (Nat.le_of_eq (Heap.size_push _ _)) ?_
 have ne:s.heap.objs.size≠s.heap.objs.size+1:=Nat.ne_of_lt (Nat.lt_succ_self _)
 refine⟨by rw[aH ne,bN],Nat.zero_le _,ne,e2,λ_=>none,(Heap.Ns1.of_empty e3).at λo q=>Heap.get?_push_of_some _ q,λ_=>True.intro,λy hy=>absurd rfl hy⟩
theorem aby(hb:attributeBase e f env (eval e env)=eval e env)
  (h:wpAny (model prog w) A (eval e env) (λo s₁=>wpAny (model prog w) A (getAttr o f true) Q E s₁) E s):wpAny (model prog w) A (eval (.Attribute e f pos) env) Q E s :=
 Attribute_any_ h (by rw[arm_eval_Attribute,hb])
end
noncomputable def Mp(K:PySem.W.Frag)(ta:TE)(f:Str):TE:=λσ H Q=>ta σ H λx H1=>∃a C dx fs v,x=.ref a/\H1 a=some (.ins C dx fs)/\Cls K C/\oU K C f/\fs.lookup f=some v/\Q v H1
noncomputable def abz(K:PySem.W.Frag)(ta tv:TE)(f:Str):TS:=λD σ H=>tv σ H λy H1=>ta σ H1 λx H2=>∃a C dx fs,x=.ref a/\H2 a=some (.ins C dx fs)/\Cls K C/\oU K C f/\fs.length<1000 /\
 D.nx σ (upd H2 a (.ins C dx (c7 f y fs)))
section
variable {X:Cx}{o e value:Expr}{f:Str}{pos pos' tpos:Pos}{ta tv:TE}
theorem abA(he:PE X e ta)(hb:attributeBase e f X.env (eval e X.env)=eval e X.env):PE X (.Attribute e f pos) (Mp X.K ta f):=by
 refine⟨λpins s σ H Q I h=>?_⟩
 refine aby hb (aD (he pins s σ H _ I h) λu s1 ⟨x,H1,I1,rx,a,C,dx,fs,v,ex,ea,c,n,l,q⟩=>?_)
 subst ex
 obtain rfl:u=Value.ref a:=rx
 exact abw I1 ea c n l λu' s2 I2 ru=>⟨v,H1,I2,ru,q⟩
theorem Mq(ha:PE X o ta)(hv:PE X value tv)(hs:swapsWith value (some (.Attribute o f pos')) pos.line X.env=pure false):PS X (.Assign [.Attribute o f pos'] value pos) (abz X.K ta tv f):=by
 refine⟨λpins s σ H D I h=>?_⟩
 refine plainObj_wpAny_Assign_Attribute (aD (hv pins s σ H _ I h) λu s1 ⟨y,H1,I1,ry,q⟩=>aD (ha pins s1 σ H1 _ I1 q) λov s2 ⟨x,H2,I2,rx,a,C,dx,fs,ex,ea,c,n,l,q2⟩=>?_) hs
 subst ex
 obtain rfl:ov=Value.ref a:=rx
 exact abx I2 ea c n l ry λs3 I3=>⟨σ,_,I3,q2⟩
end
structure bO(k:Nat)(A:Around):Prop where
 hd:A.handled=none
 dp:A.depth+3*k+5<recursionLimit
 un:A.units+16*k+200<cLine
 gd:A.guards=some []:=by rfl
theorem bO.mono(r:bO k A)(h:j<=k):bO j A:=⟨r.hd,by have:=r.dp; lia,by have:=r.un; lia,r.gd⟩
theorem bO.deeper(r:bO (k+1) A)(env:Env):bO k (A.deeper env) :=
 ⟨r.hd,by have:=r.dp; show A.depth+1+3*k+5<_; lia,by have:=r.un; show A.units+3+16*k+200<_; lia,r.gd⟩
theorem bO.in1(r:bO (k+1) A):bO k A.in1 :=
 ⟨r.hd,by have:=r.dp; show A.depth+3*k+5<_; lia,by have:=r.un; show A.units+1+16*k+200<_; lia,r.gd⟩
theorem abB{A:Around}{C:Addr}{us:List Value}{kw:List (Str × Value)}:(A.under (.builtin "type.__call__" ⟨.ref C::us,kw⟩)).depth=A.depth+1:=by
 first|rfl|simp[Around.under,Code.weight,Code.isCreation,Code.isGuard,Code.isCaller,Code.frames,Code.isFrame,guardIds]
theorem abC{A:Around}{C:Addr}{us:List Value}{kw:List (Str × Value)}:(A.under (.builtin "type.__call__" ⟨.ref C::us,kw⟩)).units=A.units+1:=by
 first|rfl|simp[Around.under,Code.cUnits,Code.frames,Code.isFrame]
theorem bO.make(r:bO (k+1) A)(C:Addr)(us:List Value)(kw:List (Str × Value)):bO k (A.under (.builtin "type.__call__" ⟨.ref C::us,kw⟩)) :=
 ⟨r.hd,by have:=r.dp; rw[abB]; lia,by have:=r.un; rw[abC]; lia,by first|exact r.gd|simpa[Around.under,Code.guards,Code.isGuard,guardIds,pushGuards]using r.gd⟩
theorem bO.depth(r:bO k A):A.depth<recursionLimit:=by have:=r.dp; lia
theorem bO.units(r:bO k A):A.units+64<cLine:=by have:=r.un; lia
noncomputable def CT:TA:=λ_ H Q=>Q [] H
noncomputable def CV(ta:TE)(tr:TA):TA:=λσ H Q=>ta σ H λx H1=>tr σ H1 λxs H2=>Q (x::xs) H2
section
variable {X:Cx}{e:Expr}{es:List Expr}{te:TE}{t:TA}{pos:Pos}
theorem xG:PA X [] CT:=⟨λ_ _ _ _ H Q I h=>Calls.spliced_nil ⟨[],H,I,.nil,h⟩⟩
theorem qD(ha:PE X e te)(hr:PA X es t)(hs:starEach (e::es) X.env=(false,eval e X.env)::starEach es X.env:=by rfl):PA X (e::es) (CV te t):=by
 refine⟨λpos pins s σ H Q I h=>?_⟩
 rw[hs]
 show wpAny _ _ (spliced ((false,eval e X.env)::backTo pos (starEach es X.env))) _ _ s
 refine Calls.spliced_cons (aD (ha pins s σ H _ I h) λu s1 ⟨x,H1,I1,r1,q1⟩=>?_)
 exact aD (hr pos pins s1 σ H1 _ I1 q1) λus s2 ⟨xs,H2,I2,r2,q2⟩=>⟨x::xs,H2,I2,.cons r1 r2,q2⟩
noncomputable def abD(t:TA):TE:=λσ H Q=>t σ H λxs H1=>xs.length<=sizeLine/\∀p,H1 p=none->Q (.ref p) (upd H1 p (.tup xs))
noncomputable def abE(t:TA):TE:=λσ H Q=>t σ H λxs H1=>xs.length<=sizeLine/\∀p,H1 p=none->Q (.ref p) (upd H1 p (.lst xs))
theorem Mr{x1}(h:PA X es t):PE X (.Tuple es x1 pos) (abD t):=by
 refine⟨λpins s σ H Q I hq=>?_⟩
 refine wpAny_Tuple_spliced (aD (h pos pins s σ H _ I hq) λus s1 ⟨xs,H1,I1,r,z,q⟩=>⟨by rw[<-r.length]; exact z,?_⟩)
 have hf:H1 s1.heap.objs.size=none:=I1.hok.fresh (Nat.le_refl _)
 refine⟨.ref s1.heap.objs.size,upd H1 s1.heap.objs.size (.tup xs),I1.laid (t':=s1.toks) (λb u e=>Heap.get?_push_of_some _ e) (Nat.le_refl _) ?_,rfl,q _ hf⟩
 exact⟨z,us,r,⟨_,Heap.get?_push_size _ rfl,rfl,_,rfl⟩⟩
theorem Ms(h:PA X es t):PE X (.List es pos) (abE t):=by
 refine⟨λpins s σ H Q I hq=>?_⟩
 refine wpAny_List_spliced (aD (h pos pins s σ H _ I hq) λus s1 ⟨xs,H1,I1,r,z,q⟩=>⟨by rw[<-r.length]; exact z,?_⟩)
 have hf:H1 s1.heap.objs.size=none:=I1.hok.fresh (Nat.le_refl _)
 refine⟨.ref s1.heap.objs.size,upd H1 s1.heap.objs.size (.lst xs),I1.laid (t':=s1.toks) (λb u e=>Heap.get?_push_of_some _ e) (Nat.le_refl _) ?_,rfl,q _ hf⟩
 exact⟨z,us,0,r,Heap.get?_push_size _ rfl⟩
end
noncomputable abbrev Sp:=List V->Hp->VK->XK->Prop
noncomputable abbrev gG:=List Env->Hp->Shared->XK->Value->Shared->Prop
structure jO(P:Program)(w:World)(K:PySem.W.Frag)(mg:Str->Option Value)(base:Heap)(A:Around)(outer:List Env)(s:Shared)(H:Hp):Prop where
 frames:A.frames=some outer
 mod:Mod K mg base
 bs:∀b o,base.get? b=some o->s.heap.get? b=some o/\H b=none
 jx:base.objs.size<=s.heap.objs.size
 ig:s.heap.FunFrames base outer
 lq:∀b∈frs outer,H b=none
 hok:bZ P w H s.heap
 bare:AllBare s.gens
noncomputable def CE(outer:List Env)(P:Program)(w:World)(H:Hp)(s:Shared)(Q:VK)(u:Value)(s':Shared):Prop :=
 ∃v H',s'.os=s.os/\AllBare s'.gens/\Un (frs outer) [] H H' s.heap s'.heap/\bZ P w H' s'.heap/\RelV v u/\Q v H'
noncomputable def CR(CX:gG)(outer:List Env)(P:Program)(w:World)(H:Hp)(s:Shared)(Q:VK)(E:XK)(r:Result)(s':Shared):Prop :=
 match r with
 |.ok (.ret u)=>CE outer P w H s Q u s'
 |.ok _=>False
 |.error e=>CX outer H s E e s'
structure dg(P:Program)(w:World)(K:PySem.W.Frag)(mg:Str->Option Value)(base:Heap)(CX:gG)(k:Nat)(f:Addr)(fd:FuncData)(ps:List Str)(sp:Sp):Prop where
 len:∀vs H Q E,sp vs H Q E->vs.length=ps.length
 run:∀(A:Around) (outer:List Env) (s:Shared) (H:Hp) (args:Args) (us:List Value) (vs:List V) (Q:VK) (E:XK),bO k A->jO P w K mg base A outer s H->BindsTo s fd args (ps.zip us)->Vals vs us->sp vs H Q E ->
  codeAny (model P w) A (.call (.ref f) args) (CR CX outer P w H s Q E) s
theorem dg.mono{P:Program}{w:World}{K:PySem.W.Frag}{mg:Str->Option Value}{base:Heap}{CX:gG}{j k:Nat}{f:Addr}{fd:FuncData}{ps:List Str}{sp:Sp}(F:dg P w K mg base CX j f fd ps sp)(h:j<=k) :
  dg P w K mg base CX k f fd ps sp:=⟨F.len,λA outer s H args us vs Q E hr=>F.run A outer s H args us vs Q E (hr.mono h)⟩
theorem dg.imp{P:Program}{w:World}{K:PySem.W.Frag}{mg:Str->Option Value}{base:Heap}{CX:gG}{k:Nat}{f:Addr}{fd:FuncData}{ps:List Str}{sp Mt:Sp}(F:dg P w K mg base CX k f fd ps sp)
  (h:∀vs H Q E,Mt vs H Q E->sp vs H Q E):dg P w K mg base CX k f fd ps Mt :=
 ⟨λvs H Q E q=>F.len vs H Q E (h _ _ _ _ q),λA outer s H args us vs Q E hr he hb hv hs=>F.run A outer s H args us vs Q E hr he hb hv (h _ _ _ _ hs)⟩
theorem jO.make{P:Program}{w:World}{K:PySem.W.Frag}{mg:Str->Option Value}{base:Heap}{A:Around}{outer:List Env}{s:Shared}{H:Hp}(e:jO P w K mg base A outer s H)(C:Addr)(us:List Value)(kw:List (Str × Value)) :
  jO P w K mg base (A.under (.builtin "type.__call__" ⟨.ref C::us,kw⟩)) outer s H:=⟨by first|exact e.frames|(simpa[Around.under,Code.envs,Code.isFrame,pushEnvs]using e.frames),e.mod,e.bs,e.jx,e.ig,e.lq,e.hok,e.bare⟩
theorem jO.in1{P:Program}{w:World}{K:PySem.W.Frag}{mg:Str->Option Value}{base:Heap}{A:Around}{outer:List Env}{s:Shared}{H:Hp}(e:jO P w K mg base A outer s H) :
  jO P w K mg base A.in1 outer s H:=⟨e.frames,e.mod,e.bs,e.jx,e.ig,e.lq,e.hok,e.bare⟩
section
variable {X:Cx}{pins:List (Addr × Obj)}{σ : St}{H:Hp}{s s':Shared}
theorem Inv.env0(I:Inv X pins σ H s):jO X.prog X.w X.K X.mg X.base X.A X.stack s H :=
 ⟨I.ok.frames,I.ok.mod,I.bs,Nat.le_trans I.ok.jx I.sz,I.stack,I.wQ,I.hok,I.bare⟩
theorem Inv.after(I:Inv X pins σ H s)(h:CE X.stack X.prog X.w H s Q u s'):EP X pins σ Q u s':=by
 obtain⟨v,H',os,bare,un,hok,r,q⟩:=h
 obtain⟨hh,g,d,t,os'⟩:=s'
 obtain rfl:os'=s.os:=os
 exact⟨v,H',I.call (h':=hh) (g':=g) (d':=d) (t':=t) (ch:=[]) un hok bare (λb z=>absurd z (by simp)),r,q⟩
end
noncomputable def CW(sp:Sp)(dJ:List V)(E:XK)(t:TA):TE:=λσ H Q=>t σ H λvs H1=>sp (vs++dJ) H1 Q E
noncomputable def CZ(C:Addr)(m:Str)(sp:Sp)(dJ:List V)(E:XK)(ta:TE)(t:TA):TE:=λσ H Q=>ta σ H λx H1=>∃a dx fs,x=.ref a/\H1 a=some (.ins C dx fs)/\fs.lookup m=none /\
 t σ H1 λvs H2=>sp (x::(vs++dJ)) H2 Q E
noncomputable def Mv(C:Addr)(sp:Sp)(dJ:List V)(E:XK)(t:TA):TE:=λσ H Q=>t σ H λvs H1=>∀x dx,H1 x=none->H1 dx=none->dx≠x ->
 sp (.ref x::(vs++dJ)) (upd (upd H1 dx (.own x)) x (.ins C dx [])) (λv H2=>v=.non/\Q (.ref x) H2) E
noncomputable def Binds(K:PySem.W.Frag)(fd:FuncData)(ps:List Str)(ds:List Value):Prop :=
 ∀(s:Shared) (us:List Value),K.In s.heap->(us++ds).length=ps.length->BindsTo s fd ⟨us,[]⟩ (ps.zip (us++ds))
theorem Binds.all{K:PySem.W.Frag}{fd:FuncData}{ps:List Str}(h:∀us:List Value,us.length=ps.length->bindArgs fd ⟨us,[]⟩=pure (ps.zip us)):Binds K fd ps []:=λs us _ hl=>by
 rw[List.append_nil]at hl ⊢
 exact .of_eq (h us hl)
noncomputable def Passes(CX:gG)(X:Cx)(E:XK):Prop:=∀(pins:List (Addr × Obj)) (σ : St) (H:Hp) (s:Shared) (e:Value) (s':Shared),Inv X pins σ H s->CX X.stack H s E e s'->X.xe e s'
section
variable {X:Cx}{CX:gG}{k:Nat}{f C:Addr}{fd:FuncData}{ps:List Str}{sp:Sp}{dJ:List V}{ds:List Value}{E:XK}{x m:Str}{p pos apos:Pos}{e o:Expr}{es:List Expr}{ta:TE}{t:TA}
theorem Dc(F:dg X.prog X.w X.K X.mg X.base CX k f fd ps sp)(hr:bO k X.A)(hb:Binds X.K fd ps ds)(hd:Vals dJ ds)(hx:Passes CX X E)
  (I:Inv X pins σ H s) (r:Vals vs us) (h:sp (vs++dJ) H Q E):wpAny (model X.prog X.w) X.A (call (.ref f) us) (EP X pins σ Q) X.xe s:=by
 have r2:Vals (vs++dJ) (us++ds):=r.append hd
 have hl:(us++ds).length=ps.length:=by rw[<-r2.length]; exact F.len _ _ _ _ h
 refine wpAny_call (codeAny_mono (F.run X.A X.stack s H ⟨us,[]⟩ (us++ds) (vs++dJ) Q E hr I.env0 (hb s us I.cZ hl) r2 h) λr s' hq=>?_)
 cases r with
 |error e=>exact hx pins σ H s e s' I hq
 |ok fl =>
  cases fl with
  |ret u=>exact I.after hq
  |next=>exact False.elim hq
  |brk=>exact False.elim hq
  |cont=>exact False.elim hq
theorem Dd(F:dg X.prog X.w X.K X.mg X.base CX k f fd ps sp)(hr:bO k X.A)(hg:Gl X x)(hm:X.mg x=some (.ref f))(hk:PySem.W.keepIn X.K (.ref f)=true)(hb:Binds X.K fd ps ds)(hd:Vals dJ ds)(hx:Passes CX X E)
  (ha:PA X (e::es) t) (hdb:(x == ("__debug__" : Str))=false:=by decide) (he:starEach (e::es) X.env=(false,eval e X.env)::starEach es X.env:=by rfl) (hpl:(backTo pos (starEach es X.env)).any (·.1)=false:=by rfl) :
  PE X (.Call (.Name x p) (e::es) [] pos) (CW sp dJ E t):=by
 refine⟨λpins s σ H Q I h=>?_⟩
 refine wpAny_Call_Name_kw (wW I hg hm ?_ hdb)
 refine PySem.W.callWith_K (h₀ := X.base) I.ok.mod.tQ hk (aD (ha pos pins s σ H _ I h) λus s1 ⟨vs,H1,I1,r,q⟩=>⟨I1.cZ,?_⟩) he hpl
 exact Dc F hr hb hd hx I1 r q
theorem abF(he:PE X o ta)(c:Cls X.K C)(hm:Meth X.K C m f)(F:dg X.prog X.w X.K X.mg X.base CX k f fd ps sp)(hr:bO k X.A)(hb:Binds X.K fd ps ds)(hd:Vals dJ ds)(hx:Passes CX X E)(ha:PA X (e::es) t)
  (hst:starEach (e::es) X.env=(false,eval e X.env)::starEach es X.env:=by rfl) (hpl:(backTo pos (starEach es X.env)).any (·.1)=false:=by rfl)
  (ht:eval (.Call (.Attribute o m apos) (e::es) [] pos) X.env=(do
   let ov <-eval o X.env
   standAt apos.atName
   let(f,first) <-holding [ov] (getMethod ov m pl)
   callWith pos f first (backTo pos (starEach (e::es) X.env)) (backToKw pos (keywordEach [] X.env))):=by rfl) :
  PE X (.Call (.Attribute o m apos) (e::es) [] pos) (CZ C m sp dJ E ta t):=by
 refine⟨λpins s σ H Q I h=>?_⟩
 refine PySem.W.methodCall_KW (pl:=pl) (aD (he pins s σ H _ I h) λu s1 ⟨x,H1,I1,rx,a,dx,fs,ex,ea,l,q⟩=>?_) ht
 subst ex
 obtain rfl:u=Value.ref a:=rx
 refine Ml I1 ea c hm l ?_
 refine PySem.W.callWith_K (first:=[.ref a]) (h₀ := X.base) I.ok.mod.tQ hm.kp (aD (ha pos pins s1 σ H1 _ I1 q) λus s2 ⟨vs,H2,I2,r,q2⟩=>⟨I2.cZ,?_⟩) hst hpl
 exact Dc (us:=.ref a::us) (vs:=.ref a::vs) F hr hb hd hx I2 (.cons rfl r) q2
theorem abG(he:PE X o ta)(c:Cls X.K C)(hm:Meth X.K C m f)(F:dg X.prog X.w X.K X.mg X.base CX k f fd ps sp)(hr:bO k X.A)(hb:Binds X.K fd ps ds)(hd:Vals dJ ds)(hx:Passes CX X E)
  (ht:eval (.Call (.Attribute o m apos) [] [] pos) X.env=(do
   let ov <-eval o X.env
   standAt apos.atName
   let(f,first) <-holding [ov] (getMethod ov m pl)
   callWith pos f first (backTo pos (starEach [] X.env)) (backToKw pos (keywordEach [] X.env))):=by rfl) :
  PE X (.Call (.Attribute o m apos) [] [] pos) (CZ C m sp dJ E ta CT):=by
 refine⟨λpins s σ H Q I h=>?_⟩
 refine PySem.W.methodCall_KW (pl:=pl) (aD (he pins s σ H _ I h) λu s1 ⟨x,H1,I1,rx,a,dx,fs,ex,ea,l,q⟩=>?_) ht
 subst ex
 obtain rfl:u=Value.ref a:=rx
 refine Ml I1 ea c hm l ?_
 exact PySem.W.callWith_K0 (first:=[.ref a]) I1.cZ hm.kp (Dc (us:=[.ref a]) (vs:=[.ref a]) F hr hb hd hx I1 (.cons rfl .nil) q)
structure Mk(K:PySem.W.Frag)(C f:Addr):Prop where
 makes:PySem.W.makesIn K C=true
 init:PySem.W.findIn K (.ref C) "__init__" = some (some (.ref f))
 fn:PySem.W.isFn K (.ref f)=true
 kp:PySem.W.keepIn K (.ref C)=true
theorem abH(M:Mk X.K C f)(F:dg X.prog X.w X.K X.mg X.base CX k f fd ps sp)(hr:bO (k+1) X.A)(hb:Binds X.K fd ps ds)(hd:Vals dJ ds)
  (hx:Passes CX X E) (I:Inv X pins σ H s) (r:Vals vs us)
  (h:∀x dx,H x=none->H dx=none->dx≠x->sp (.ref x::(vs++dJ)) (upd (upd H dx (.own x)) x (.ins C dx [])) (λv H2=>v=.non/\Q (.ref x) H2) E) :
  wpAny (model X.prog X.w) X.A (call (.ref C) us) (EP X pins σ Q) X.xe s:=by
 have hq:=h (s.heap.objs.size+1) s.heap.objs.size (I.hok.fresh (Nat.le_succ _)) (I.hok.fresh (Nat.le_refl _)) (Nat.ne_of_lt (Nat.lt_succ_self _))
 have I2:=Inv.made (C:=C) I
 have r2:Vals (V.ref (s.heap.objs.size+1)::(vs++dJ)) (Value.ref (s.heap.objs.size+1)::(us++ds)):=.cons rfl (r.append hd)
 have hl:(Value.ref (s.heap.objs.size+1)::us++ds).length=ps.length:=by
  have e:=r2.length
  rw[F.len _ _ _ _ hq]at e
  exact e.symm
 refine wpAny_call (abu (f:=f) I.cZ M.makes M.init (beq_iff_eq.mp M.fn) (codeAny_mono (F.run _ X.stack _ _ ⟨Value.ref (s.heap.objs.size+1)::us,[]⟩ (Value.ref (s.heap.objs.size+1)::(us++ds)) _ _ E (hr.make C us [])
  (I2.env0.make C us []) (hb _ (Value.ref (s.heap.objs.size+1)::us) I2.cZ hl) r2 hq) λr s' hq'=>?_))
 cases r with
 |error e=>exact hx pins σ _ _ e s' I2 hq'
 |ok fl =>
  cases fl with
  |ret u =>
   obtain⟨v,H',I3,rv,ev,q3⟩:=I2.after hq'
   subst ev
   exact⟨rv,⟨V.ref (s.heap.objs.size+1),H',I3,rfl,q3⟩⟩
  |next=>exact False.elim hq'
  |brk=>exact False.elim hq'
  |cont=>exact False.elim hq'
theorem abI(M:Mk X.K C f)(F:dg X.prog X.w X.K X.mg X.base CX k f fd ps sp)(hr:bO (k+1) X.A)(hg:Gl X x)(hm:X.mg x=some (.ref C))(hb:Binds X.K fd ps ds)(hd:Vals dJ ds)(hx:Passes CX X E)
  (ha:PA X (e::es) t) (hdb:(x == ("__debug__" : Str))=false:=by decide) (he:starEach (e::es) X.env=(false,eval e X.env)::starEach es X.env:=by rfl) (hpl:(backTo pos (starEach es X.env)).any (·.1)=false:=by rfl) :
  PE X (.Call (.Name x p) (e::es) [] pos) (Mv C sp dJ E t):=by
 refine⟨λpins s σ H Q I h=>?_⟩
 refine wpAny_Call_Name_kw (wW I hg hm ?_ hdb)
 refine PySem.W.callWith_K (h₀ := X.base) I.ok.mod.tQ M.kp (aD (ha pos pins s σ H _ I h) λus s1 ⟨vs,H1,I1,r,q⟩=>⟨I1.cZ,?_⟩) he hpl
 exact abH M F hr hb hd hx I1 r q
end
structure oV(N P:List Str)(sc:Scope):Prop where
 kind:sc.kind=.function
 co:sc.isCoroutine=false
 gen:sc.isGenerator=false
 nd:N.Nodup
 pre:N.take P.length=P
 par:∀x∈P,sc.names.lookup x=some .local\/sc.names.lookup x=some .cell
 abJ:∀y∈sc.names,y.2 ≠ .free
theorem Mw{kindOf:Str->Option NameKind}{x:Str}:∀{binds:List (Str × Value)} {m:Str->Option Value},(∀v,(x,v)∉binds)->bindL kindOf binds m x=m x
 | [],_,_=>rfl
 |(n,v)::r,m,h=>by
  unfold bindL
  rw[Mw λw hw=>h w (List.mem_cons_of_mem _ hw)]
  split
  .have:x≠n:=by rintro rfl; exact h v List.mem_cons_self
   simp[this]
  .rfl
theorem Mx{kindOf:Str->Option NameKind}{x:Str}:∀{binds:List (Str × Value)} {m:Str->Option Value},(∀v,(x,v)∉binds)->bindC kindOf binds m x=m x
 | [],_,_=>rfl
 |(n,v)::r,m,h=>by
  unfold bindC
  rw[Mx λw hw=>h w (List.mem_cons_of_mem _ hw)]
  split
  .rfl
  .have:x≠n:=by rintro rfl; exact h v List.mem_cons_self
   simp[this]
theorem Mz{kindOf:Str->Option NameKind}{x:Str}{v:Value}:∀{P:List Str} {vs:List Value} {i:Nat} {m:Str->Option Value},P.Nodup->P[i]?=some x->vs[i]?=some v->kindOf x=some .local ->
  bindL kindOf (P.zip vs) m x=some v
 | [],_,_,_,_,h,_,_=>by simp at h
 |_::_,[],_,_,_,_,h,_=>by simp at h
 |p::P,w::vs,0,m,nd,h1,h2,hk=>by
  simp at h1 h2; subst h1; subst h2
  show bindL kindOf ((p,w)::P.zip vs) m p=_
  unfold bindL
  rw[Mw λv hv=>(List.nodup_cons.mp nd).1 (List.of_mem_zip hv).1,if_pos hk]
  simp
 |p::P,w::vs,i+1,m,nd,h1,h2,hk=>by
  show bindL kindOf ((p,w)::P.zip vs) m x=_
  unfold bindL
  exact Mz (i:=i) (List.nodup_cons.mp nd).2 (by simpa using h1) (by simpa using h2) hk
theorem MF{kindOf:Str->Option NameKind}{x:Str}{v:Value}:∀{P:List Str} {vs:List Value} {i:Nat} {m:Str->Option Value},P.Nodup->P[i]?=some x->vs[i]?=some v->kindOf x≠some .local ->
  bindC kindOf (P.zip vs) m x=some v
 | [],_,_,_,_,h,_,_=>by simp at h
 |_::_,[],_,_,_,_,h,_=>by simp at h
 |p::P,w::vs,0,m,nd,h1,h2,hk=>by
  simp at h1 h2; subst h1; subst h2
  show bindC kindOf ((p,w)::P.zip vs) m p=_
  unfold bindC
  rw[Mx λv hv=>(List.nodup_cons.mp nd).1 (List.of_mem_zip hv).1,if_neg hk]
  simp
 |p::P,w::vs,i+1,m,nd,h1,h2,hk=>by
  show bindC kindOf ((p,w)::P.zip vs) m x=_
  unfold bindC
  exact MF (i:=i) (List.nodup_cons.mp nd).2 (by simpa using h1) (by simpa using h2) hk
noncomputable def start(N:List Str)(vs:List V):St:=vs.map some++List.replicate (N.length-vs.length) none
noncomputable def fY(CX:gG)(P:Program)(w:World)(K:PySem.W.Frag)(mg:Str->Option Value)(base:Heap)(N:List Str)(qual:Str)(scope:Scope)(f:Addr)(cd:Value)(A:Around)(outer:List Env)(s:Shared)(H:Hp)(E:XK):Cx where
 prog:=P
 w:=w
 K:=K
 mg:=mg
 base:=base
 A:=A.deeper (envOfC qual scope s.heap.objs.size f cd)
 N:=N
 s₀ := s
 H₀ := H
 env:=envOfC qual scope s.heap.objs.size f cd
 outer:=outer
 stack:=envOfC qual scope s.heap.objs.size f cd::outer
 ex:=[]
 calm:=true
 fn:=λ_=>true
 pn:=[]
 xe:=λe s'=>wpAny (model P w) (A.deeper (envOfC qual scope s.heap.objs.size f cd)) (leaving (envOfC qual scope s.heap.objs.size f cd) e) (λ_ s''=>CX outer H s E e s'') (λe' s''=>CX outer H s E e' s'') s'
theorem MJ{sc:Scope}{n:Nat}{x:Str}(h:sc.names.lookup x=some .cell):∃c,(cellsFrom n sc.names []).lookup x=some c:=by
 have q:=PySem.W.cellsFrom_some sc.names n [] (.inl h)
 exact Option.isSome_iff_exists.mp q
theorem abK{CX:gG}{P:Program}{w:World}{K:PySem.W.Frag}{mg:Str->Option Value}{base:Heap}{N ps:List Str}{qual:Str}{scope:Scope}{f:Addr}{cd:Value}{A:Around}{outer:List Env}{s s1:Shared}{H:Hp}{E:XK}{us:List Value}{vs:List V}
  (S:oV N ps scope) (hd:A.handled=none) (e0:jO P w K mg base A outer s H) (hl:vs.length=ps.length) (r:Vals vs us)
  (x:InCallC s s.heap.objs.size (bindL (envOfC qual scope s.heap.objs.size f cd).kindOf (ps.zip us) λ_=>none) (cellsFrom (s.heap.objs.size+1) scope.names []) (bindC (envOfC qual scope s.heap.objs.size f cd).kindOf (ps.zip us) λ_=>none) s1) :
  Inv (fY CX P w K mg base N qual scope f cd A outer s H E) [] (start N vs) H s1:=by
 have hpl:ps.length<=N.length:=by have:=congrArg List.length S.pre; rw[List.length_take]at this; lia
 obtain⟨h1,tk,rfl,hk⟩:=x.done
 have tZ:∀b:Addr,b∉(fY CX P w K mg base N qual scope f cd A outer s H E).ex:=λb z=>absurd (show b∈([]:List Addr)from z) (by simp)
 refine⟨⟨e0.mod,S.kind,rfl,rfl,Nat.le_refl _,λy z c h1 h2=>?_,λy hy=>?_,λy c _ h=>?_,λ_=>hd,Around.frames_deeper e0.frames,.inr ⟨rfl,rfl⟩,λb z=>absurd z (tZ b),e0.bs,e0.jx,λb _ _=>tZ b,λb z=>absurd z (tZ b),e0.ig,e0.lq⟩,
  rfl,e0.bare,Un.kept hk,⟨_,x.toInCall.ns,λi y v h1 h2 h3=>?_⟩,λy c h=>⟨_,x.cell y c h⟩,e0.hok.fresh (Nat.le_refl _),λy c h=>?_,λp hp=>absurd (show p∈([]:List (Addr × Obj))from hp) (by simp),e0.hok.kept hk,?_⟩
 .exact name_of_addr x.apart (PySem.mem_of_lookup h1) (PySem.mem_of_lookup h2)
 .have hy:scope.names.lookup y=some .cell\/scope.names.lookup y=some .free:=hy
  rcases hy with hy|hy
  .exact MJ hy
  .exact absurd rfl (S.abJ _ (PySem.mem_of_lookup hy))
 .exact Nat.le_of_lt (x.above y c (PySem.mem_of_lookup h))
 .have hi:i<vs.length:=by
   unfold start at h2
   by_cases hi:i<vs.length
   .exact hi
   .rw[List.getElem?_append_right (by simpa using hi)]at h2
    rw[List.getElem?_replicate]at h2
    split at h2 <;> cases h2
  have ha:vs[i]?=some v:=by
   unfold start at h2
   rw[List.getElem?_append_left (by simpa using hi),List.getElem?_map]at h2
   cases e:vs[i]? with
   |none=>rw[e]at h2; cases h2
   |some a=>rw[e]at h2; cases h2; rfl
  obtain⟨u,hu,rv⟩:=r.get ha
  have hp:ps[i]?=some y:=by
   rw[<-S.pre,List.getElem?_take_of_lt (by lia)]; exact h1
  have MK:ps.Nodup:=by rw[<-S.pre]; exact S.nd.sublist (List.take_sublist _ _)
  refine⟨u,rv,?_⟩
  rcases S.par y (List.mem_of_getElem? hp)with k|k
  .exact .inl ⟨k,Mz MK hp hu k⟩
  .obtain⟨c,e⟩:=MJ (n:=s.heap.objs.size+1) k
   refine .inr ⟨.inl k,c,e,?_⟩
   have q:=x.cell y c e
   rw[MF MK hp hu (by show scope.names.lookup y≠_; rw[k]; decide)]at q
   exact q
 .exact e0.hok.fresh (Nat.le_of_lt (x.above y c (PySem.mem_of_lookup h)))
 .unfold start
  show _=N.length
  rw[List.length_append,List.length_map,List.length_replicate]
  lia
theorem Dg{CX:gG}{P:Program}{w:World}{K:PySem.W.Frag}{mg:Str->Option Value}{base:Heap}{k:Nat}{f:Addr}{name qual:Str}{params:Arguments}{body:List Stmt}{scope:Scope}{dV kV doc pm cdv ct oc:Value}{an od:Option Addr}
  {osl:Array (Option Value)} {N ps:List Str} {sp:Sp} (lk:K.lookup f=some ⟨oc,od,.func (PySem.W.fnOf name qual params body scope dV kV doc pm an cdv ct),osl⟩) (hcd:PySem.W.codeIn K cdv qual=true) (S:oV N ps scope)
  (len:∀vs H Q E,sp vs H Q E->vs.length=ps.length)
  (hbody:∀(A:Around) (outer:List Env) (s:Shared) (H:Hp) (vs:List V) (Q:VK) (E:XK),bO k (A.deeper (envOfC qual scope s.heap.objs.size f cdv))->sp vs H Q E ->
   ∃t,cQ (fY CX P w K mg base N qual scope f cdv A outer s H E) body t/\t {nx:=λ_ H'=>Q .non H',rt:=Q } (start N vs) H) :
  dg P w K mg base CX (k+1) f (PySem.W.fnOf name qual params body scope dV kV doc pm an cdv ct) ps sp:=by
 refine⟨len,λA outer s H args us vs Q E hr e0 hb r hsp=>?_⟩
 have hl:=len _ _ _ _ hsp
 have KX:K.In s.heap:=e0.mod.tQ.keeps λb o e=>(e0.bs b o e).1
 have lim:s.heap.NoLimit:=e0.mod.nolimit.keeps λb o e=>(e0.bs b o e).1
 have hkind:∀y∈ps.zip us,scope.names.lookup y.1=some .local\/(scope.names.lookup y.1=some .cell/\((cellsFrom (s.heap.objs.size+1) scope.names []).lookup y.1).isSome=true):=λ⟨n,v⟩ hy=>by
  rcases S.par n (List.of_mem_zip hy).1 with q|q
  .exact .inl q
  .exact .inr ⟨q,PySem.W.cellsFrom_some _ _ _ (.inl q)⟩
 refine codeAny_call_function hr.depth (KX _ _ lk) rfl S.co S.gen rfl (PySem.W.codeRec_of KX hcd) (hb _ _ _ _ ?_)
 refine wpAny_newFunctionEnv_cells S.kind hkind λenv he s1 x=>?_
 subst he
 refine⟨lim.keeps x.toInCall.keep,codeAny_func ?_⟩
 obtain⟨t,ht,hq⟩:=hbody A outer s H vs Q E (hr.deeper _) hsp
 have I:Inv (fY CX P w K mg base N qual scope f cdv A outer s H E) [] (start N vs) H s1:=abK S hr.hd e0 hl r x
 refine wpAny_mono (ht [] s1 (start N vs) H _ I hq) (λfl s' hs=>?_) λe s' hs=>hs
 have fin:∀{σ':St} {H':Hp} {v:V} {u:Value},Inv (fY CX P w K mg base N qual scope f cdv A outer s H E) [] σ' H' s'->RelV v u->Q v H'->CE outer P w H s Q u s' :=
  λ{σ' H' v u} J rv q=>⟨v,H',J.os,J.bare,J.base,J.hok,rv,q⟩
 cases fl with
 |ret u =>
  obtain⟨v,σ',H',J,rv,q⟩:=hs
  exact fin J rv q
 |next =>
  obtain⟨σ',H',J,q⟩:=hs
  exact fin (v:=V.non) (u:=Value.none) J rfl q
 |brk =>
  obtain⟨_,_,_,q⟩:=hs
  exact False.elim q
 |cont =>
  obtain⟨_,_,_,q⟩:=hs
  exact False.elim q
section
variable {X:Cx}{x:Str}{p pos:Pos}{e:Expr}{es:List Expr}{t:TA}{id T:String}{r:List V->Hp->VK->Prop}
noncomputable def xH(r:List V->Hp->VK->Prop)(t:TA):TE:=λσ H Q=>t σ H λvs H1=>r vs H1 Q
theorem MN(hc:eN X (.builtin id) r)(hg:Gl X x)(hm:X.mg x=none)(hv:bootBuiltins x=some (.builtin id))(ha:PA X (e::es) t)(hn:x ≠ "__name__" := by decide) (hdb:(x == ("__debug__" : Str))=false:=by decide)
  (he:starEach (e::es) X.env=(false,eval e X.env)::starEach es X.env:=by rfl) (hpl:(backTo pos (starEach es X.env)).any (·.1)=false:=by rfl):PE X (.Call (.Name x p) (e::es) [] pos) (xH r t):=by
 refine⟨λpins s σ H Q I h=>?_⟩
 refine wpAny_Call_Name_kw (oH I hg hm hv ?_ hn hdb)
 exact PyProof.Rows.callWith_builtin1 (aD (ha pos pins s σ H _ I h) λus s1 ⟨vs,H1,I1,r1,q1⟩=>hc pins s1 σ H1 vs us Q I1 r1 q1) he hpl
theorem abL(hc:eN X (.type T) r)(hg:Gl X x)(hm:X.mg x=none)(hv:bootBuiltins x=some (.type T))(ha:PA X (e::es) t)(hn:x ≠ "__name__" := by decide) (hdb:(x == ("__debug__" : Str))=false:=by decide)
  (he:starEach (e::es) X.env=(false,eval e X.env)::starEach es X.env:=by rfl) (hpl:(backTo pos (starEach es X.env)).any (·.1)=false:=by rfl):PE X (.Call (.Name x p) (e::es) [] pos) (xH r t):=by
 refine⟨λpins s σ H Q I h=>?_⟩
 refine wpAny_Call_Name_kw (oH I hg hm hv ?_ hn hdb)
 exact PyProof.Rows.callWith_type1 (aD (ha pos pins s σ H _ I h) λus s1 ⟨vs,H1,I1,r1,q1⟩=>hc pins s1 σ H1 vs us Q I1 r1 q1) he hpl
end
end L2
namespace HT
open PySem PyProof.Rows
noncomputable def lexLt:List Int->List Int->Bool
 | [],[]=>false
 | [],_::_=>true
 |_::_,[]=>false
 |x::xs,y::ys=>if x=y then lexLt xs ys else decide (x<y)
theorem abM(x y:Int)(xs ys:List Int):lexLt (x::xs) (y::ys)=if x=y then lexLt xs ys else decide (x<y):=rfl
theorem abN:lexLt [] []=false:=rfl
theorem abO(y:Int)(ys:List Int):lexLt [] (y::ys)=true:=rfl
theorem abP(x:Int)(xs:List Int):lexLt (x::xs) []=false:=rfl
theorem abQ(A:Around)(s:Shared)(a:Int)(t:Tok)(c:Int)(u:Tok):∃e,SeqAt.EqAt A s (.int a t) (.int c u) e/\(e=true↔a=c) :=
 ⟨(a == c),SeqAt.EqAt.int_int a t c u,by simp⟩
theorem abR(A:Around)(s:Shared)(a:Int)(t:Tok)(c:Int)(u:Tok)(prog:Program)(w:World)(E:Value->Shared->Prop)(Q:Value->Shared->Prop)(h:Q (.bool (decide (a<c))) s) :
  wpAny (model prog w) A (richCompare .Lt (.int a t) (.int c u)) Q E s :=
 (PyProof.Rows.lt_int h:wpAny (model prog w) A (compareOp .Lt (.int a t) (.int c u)) Q E s)
section
open PySem.SeqAt
open PySem.AutoSeq1 (wpAny_loadPart')
open PySem.MeetsSeq PySem.MeetsSeq2 PySem.MeetsSeq3
theorem abS(l b:Addr)(items items2:Array Value)(n n2:Nat)(dd dd2:Option Addr)(sl sl2:Array (Option Value))(ns ms:List Int)(hi:IntsAre items.toList ns)(hj:IntsAre items2.toList ms) :
  Meets (Builtin.«tuple.__lt__» ⟨[.ref l,.ref b],[]⟩)
   (λ_ R s=>s.heap.get? l=some {cls:=.type "tuple",dict:=dd,data:=.seq items n,slots:=sl }∧s.heap.get? b=some {cls:=.type "tuple",dict:=dd2,data:=.seq items2 n2,slots:=sl2 } ∧
    R (.ok (.ret (.bool (lexLt ns ms)))) s) :=
 .of_wp λprog w A R s h=>by
  obtain⟨hp,g,d,tk,os⟩:=s; obtain⟨hl,hb,h⟩:=h
  have f2:=AutoSeq1.sub_tuple_tuple
  have z1:items.size=ns.length:=by rw[<-hi.length]; simp
  have z2:items2.size=ms.length:=by rw[<-hj.length]; simp
  wp_walk using wpAny_loadPart' hl,wpAny_loadPart' hb,wpAny_forIn_list _ (λrest b s'=>b.1=none/\s'=⟨hp,g,d,tk,os⟩/\∃(vs ws:List Value) (ns' qF:List Int),rest=vs.zip ws /\
   IntsAre vs ns'/\IntsAre ws qF/\ns'.length+items2.size=qF.length+items.size/\R (.ok (.ret (.bool (lexLt ns' qF)))) ⟨hp,g,d,tk,os⟩) _
  case turn =>
   rintro⟨y,x⟩ rest b s' ⟨hb',rfl,vs,ws,ns',qF,hz,Dh,hwi,hlen,hR⟩
   cases Dh with
   |nil=>rw[List.zip_nil_left]at hz; cases hz
   |cons a t abT =>
    cases hwi with
    |nil=>rw[List.zip_nil_right]at hz; cases hz
    |cons c u abU =>
     rw[List.zip_cons_cons]at hz
     injection hz with hyx hrest
     injection hyx with hy hx
     subst hy hx
     rw[abM]at hR
     simp only[List.length_cons]at hlen
     obtain⟨e,he,hiff⟩:=abQ A.in1 ⟨hp,g,d,tk,os⟩ a t c u
     refine wpAny_bind (he prog w _ _ ?_)
     cases e with
     |true =>
      rw[if_pos (hiff.mp rfl)]at hR
      wp_walk
      exact⟨rfl,rfl,_,_,_,_,hrest,abT,abU,by lia,hR⟩
     |false =>
      rw[if_neg (λq=>absurd (hiff.mpr q) Bool.false_ne_true)]at hR
      have hri:=abR A.in1 ⟨hp,g,d,tk,os⟩ a t c u prog w
      wp_walk using hri
      exact⟨_,rfl,by simpa using hR⟩
  case fin =>
   rintro⟨b1,b2⟩ s' ⟨hb',rfl,vs,ws,ns',qF,hz,Dh,hwi,hlen,hR⟩
   simp only at hb'
   subst hb'
   have hv:lexLt ns' qF=decide (items.size<items2.size):=by
    cases Dh with
    |nil =>
     cases hwi with
     |nil =>
      simp only[List.length_nil]at hlen
      rw[abN]
      exact(decide_eq_false (by lia)).symm
     |cons c u hw =>
      simp only[List.length_nil,List.length_cons]at hlen
      rw[abO]
      exact(decide_eq_true (by lia)).symm
    |cons a t hv =>
     cases hwi with
     |nil =>
      simp only[List.length_nil,List.length_cons]at hlen
      rw[abP]
      exact(decide_eq_false (by lia)).symm
     |cons c u hw =>
      rw[List.zip_cons_cons]at hz
      cases hz
   rw[hv]at hR
   wp_walk
   exact⟨_,rfl,by simpa[Builtin.Tuple.tupleCompareSizes]using hR⟩
  case h =>
   exact⟨rfl,rfl,items.toList,items2.toList,ns,ms,rfl,hi,hj,by lia,h⟩
end
section
variable {prog:Program}{w:World}{A:Around}{E:Value->Shared->Prop}{s:Shared}
theorem abV(hl:IsTup s.heap l items)(hb:IsTup s.heap b items2)(hi:IntsAre items.toList ns)(hj:IntsAre items2.toList ms)
  (hu:A.units<cLine) (h:Q (.bool (lexLt ns ms)) s):wpAny (model prog w) A (compareOp .Lt (.ref l) (.ref b)) Q E s:=by
 obtain⟨⟨cls,dd,data,sl⟩,ho,hc,n,hd⟩:=id hl
 obtain⟨⟨cls2,dd2,data2,sl2⟩,ho2,hc2,n2,hd2⟩:=id hb
 simp only at hc hd hc2 hd2
 subst hc hd hc2 hd2
 exact richCompare_meets_room (op:=.Lt) ⟨_,ho,rfl⟩ ⟨_,ho2,rfl⟩ PySem.F.slot_tuple_lt PySem.F.entry_tuple_lt (PySem.F.args_tuple_lt_2 _ _) (abS l b items items2 n n2 dd dd2 sl sl2 ns ms hi hj)
  ⟨ho,ho2,show Value.bool (lexLt ns ms)≠Value.notImplemented/\Q (.bool (lexLt ns ms)) s from⟨(λx=>nomatch x),h⟩⟩ hu
theorem abW(ht:IsTup s.heap t vs.toArray)(hb:IsTup s.heap b ws.toArray)(hv:vs≠[])
  (h1:ws=[]->Q (.ref t) s) (h2:ws≠[]->Q (.ref s.heap.objs.size) {s with heap:=s.heap.push {cls:=.type "tuple",data:=.seq (vs++ws).toArray } })
  (hsz:vs.length+ws.length<=sizeLine):wpAny (model prog w) A (binaryOp .Add (.ref t) (.ref b)) Q E s:=by
 obtain⟨⟨cls,dd,data,sl⟩,ho,hc,n,hd⟩:=id ht
 obtain⟨⟨cls2,dd2,data2,sl2⟩,ho2,hc2,n2,hd2⟩:=id hb
 simp only at hc hd hc2 hd2
 subst hc hd hc2 hd2
 have e:vs.toArray++ws.toArray=(vs++ws).toArray:=by simp
 by_cases hw:ws=[]
 .exact concat_meets ⟨_,ho,rfl⟩ ⟨_,ho2,rfl⟩ noFill_tuple_add seq_tuple_add PySem.F.slot_tuple_add PySem.F.entry_tuple_add (PySem.F.args_tuple_add_2 _ _)
   (tuple_addW1 t b vs.toArray ws.toArray n n2 dd dd2 sl sl2 (by simpa using hv) (by simp[hw])) ⟨ho,ho2,h1 hw⟩
 .refine concat_meets ⟨_,ho,rfl⟩ ⟨_,ho2,rfl⟩ noFill_tuple_add seq_tuple_add PySem.F.slot_tuple_add PySem.F.entry_tuple_add (PySem.F.args_tuple_add_2 _ _)
   (tuple_addW2 t b vs.toArray ws.toArray n n2 dd dd2 sl sl2 (by simpa using hv) (by simpa using hw) (by rw[List.size_toArray,List.size_toArray]; exact hsz)) ⟨ho,ho2,?_⟩
  rw[e]
  exact h2 hw
noncomputable def aO(n d:Nat):Option Int->Nat
 |none=>d
 |some v=>if v<0 then(v+(n:Int)).toNat else min v.toNat n
theorem abX(n d:Nat)(hd:d<=n)(o:Option Int):aO n d o<=n:=by
 cases o with
 |none=>exact hd
 |some v =>
  show(if v<0 then(v+(n:Int)).toNat else min v.toNat n)<=n
  by_cases hv:v<0
  .rw[if_pos hv]; lia
  .rw[if_neg hv]; exact Nat.min_le_right _ _
theorem MP(v:Int)(n d:Nat):(if v<0 then max (v+(n:Int)) 0 else min v (n:Int))=((aO n d (some v):Nat):Int):=by
 show(if v<0 then max (v+(n:Int)) 0 else min v (n:Int))=(((if v<0 then(v+(n:Int)).toNat else min v.toNat n):Nat):Int)
 by_cases hv:v<0
 .simp only[if_pos hv]; lia
 .simp only[if_neg hv]; lia
theorem abY(lo hi:Option Int)(n:Nat):Builtin.Slice.sliceAdjust lo hi 1 (n:Int)=(((aO n 0 lo:Nat):Int),((aO n n hi:Nat):Int)):=by
 have h1:¬((1:Int)<0):=by lia
 unfold Builtin.Slice.sliceAdjust
 simp only[h1,if_false]
 refine Prod.ext ?_ ?_
 .cases lo with
  |none=>rfl
  |some v=>exact MP v n 0
 .cases hi with
  |none=>rfl
  |some v=>exact MP v n n
theorem abZ(i j:Nat):Builtin.Slice.slicePlaces (i:Int) (j:Int) 1=j-i:=by
 unfold Builtin.Slice.slicePlaces
 have h1:(1:Int) > 0:=by lia
 simp only[h1,if_true,Int.ediv_one]
 split <;> lia
theorem M4(p:IsPart v o)(h:Q o s):wpAny (model prog w) A (Builtin.Slice.slicePartIndex v) Q E s:=by
 cases p with
 |none=>exact slicePart_none h
 |int i t=>exact slicePart_int h
theorem ab0{sl:Addr}{vl vu:Value}{lo hi:Option Int}{n:Nat}{Q:Int × Int × Nat->Shared->Prop}(hs:s.heap.IsSliceOf sl vl vu .none)(pl:IsPart vl lo)(pu:IsPart vu hi)
  (h:Q (((aO n 0 lo:Nat):Int),1,aO n n hi-aO n 0 lo) s):wpAny (model prog w) A (Builtin.Slice.sliceApplied (.ref sl) (pure (n:Int))) Q E s:=by
 obtain⟨os,hos,hcs,hds⟩:=id hs
 unfold Builtin.Slice.sliceApplied Builtin.Slice.sliceFields
 refine wpAny_bind (wpAny_bind (wpAny_field hos hds (x:=vl) rfl (wpAny_bind (wpAny_field hos hds (x:=vu) rfl (wpAny_bind (wpAny_field hos hds (x:=.none) rfl (wpAny_pure ?_)))))))
 refine wpAny_bind (slicePart_none ?_)
 show wpAny _ _ (if((1:Int) == 0)=true then _ else _) _ _ s
 rw[if_neg (by decide)]
 refine wpAny_bind (M4 pl (wpAny_bind (M4 pu (wpAny_bind (wpAny_pure ?_)))))
 show wpAny _ _ (match Builtin.Slice.sliceAdjust lo hi 1 (n:Int)with|(lo,hi)=>pure (lo,(1:Int),Builtin.Slice.slicePlaces lo hi 1)) _ _ s
 rw[abY lo hi n]
 show wpAny _ _ (pure (((aO n 0 lo:Nat):Int),(1:Int),Builtin.Slice.slicePlaces ((aO n 0 lo:Nat):Int) ((aO n n hi:Nat):Int) 1)) _ _ s
 rw[abZ]
 exact wpAny_pure h
theorem ab1(xs:Array Value)(i k:Nat):((List.range k).filterMap λ(m:Nat)=>xs[((i:Int)+(m:Int)*1).toNat]?).toArray=((xs.toList.drop i).take k).toArray:=by
 have e:(λ(m:Nat)=>xs[((i:Int)+(m:Int)*1).toNat]?)=λm=>xs[i+m]? := by
  funext m
  have:((i:Int)+(m:Int)*1).toNat=i+m:=by lia
  rw[this]
 rw[e]
 have:=pick_run xs i k
 rw[List.filterMap_map]at this
 have e2:((λx=>xs[x]?) ∘ λx=>i+x)=λm=>xs[i+m]? := rfl
 rw[e2]at this
 rw[this]
theorem ab2{t sl:Addr}{items:Array Value}{vl vu:Value}{lo hi:Option Int}{Q:Value->Shared->Prop}(ht:IsTup s.heap t items)(hs:s.heap.IsSliceOf sl vl vu .none)(pl:IsPart vl lo)(pu:IsPart vu hi)
  (hw:¬(aO items.size 0 lo=0/\aO items.size items.size hi=items.size))
  (h:Q (.ref s.heap.objs.size) {s with heap:=s.heap.push {cls:=.type "tuple",data:=.seq ((items.toList.drop (aO items.size 0 lo)).take (aO items.size items.size hi-aO items.size 0 lo)).toArray } })
  (hsz:items.size<=sizeLine):wpAny (model prog w) A (getItem (.ref t) (.ref sl)) Q E s:=by
 have xJ:sizeOk (.seq ((items.toList.drop (aO items.size 0 lo)).take (aO items.size items.size hi-aO items.size 0 lo)).toArray):=by
  show((items.toList.drop (aO items.size 0 lo)).take (aO items.size items.size hi-aO items.size 0 lo)).toArray.size<=sizeLine
  rw[List.size_toArray,List.length_take,List.length_drop,Array.length_toList]
  lia
 have hj:aO items.size items.size hi<=items.size:=abX _ _ (Nat.le_refl _) hi
 obtain⟨os,hos,hcs,hds⟩:=id hs
 have hTs:s.TypeIs (.ref sl) "slice" := ⟨os,hos,hcs⟩
 unfold getItem
 try with_reducible refine wpAny_holding ?_
 first|refine wpAny_bind (wpAny_pure ?_)|skip
 refine wpAny_bind (wpAny_sequenceKey ht.typeIs (by decide) ?_)
 refine wpAny_bind (wpAny_callSpecial?_slot (name:=Str.ofString "__getitem__") ht.typeIs PyProof.Rows.slot_tuple_getitem
  (wpAny_call_entry PyProof.Rows.slot_tuple_getitem ht.typeIs entry_tuple_getitem ?_ (args_tuple_getitem _ _)))
 show wpAny _ _ (Builtin.Tuple.tupleItemsOf (.ref t) >>= _) _ _ s
 refine wpAny_bind (tupleItemsOf_ ht ?_)
 refine wpAny_bind (wpAny_typeOf hTs ?_)
 rw[if_pos (by decide)]
 refine wpAny_bind (ab0 hs pl pu ?_)
 have hno:¬((((aO items.size 0 lo:Nat):Int) == 0&&(1:Int) == 1&&(aO items.size items.size hi-aO items.size 0 lo) == items.size)=true):=by
  intro q
  rw[Bool.and_eq_true,Bool.and_eq_true]at q
  have q1:((aO items.size 0 lo:Nat):Int)=0:=eq_of_beq q.1.1
  have q2:aO items.size items.size hi-aO items.size 0 lo=items.size:=eq_of_beq q.2
  exact hw ⟨by lia,by lia⟩
 show wpAny _ _ (if(((aO items.size 0 lo:Nat):Int) == 0&&(1:Int) == 1&&(aO items.size items.size hi-aO items.size 0 lo) == items.size)=true then _ else _) _ _ s
 rw[if_neg hno,ab1]
 first
  |exact wpAny_bind (m:=Builtin.Tuple.tupleExact _) (wpAny_newObj_type (wpAny_pure ⟨_,rfl,wpAny_pure h⟩) xJ)
  |exact wpAny_bind (m:=Builtin.Tuple.tupleExact _) (wpAny_newObj_type (wpAny_bind (wpAny_pure (wpAny_pure ⟨_,rfl,wpAny_pure h⟩))) xJ)
  |exact wpAny_bind (wpAny_bind (m:=Builtin.Tuple.tupleExact _) (wpAny_newObj_type (wpAny_pure (wpAny_pure ⟨_,rfl,wpAny_pure h⟩)) xJ))
  |exact wpAny_bind (wpAny_bind (m:=Builtin.Tuple.tupleExact _) (wpAny_newObj_type (wpAny_pure ⟨_,rfl,wpAny_pure h⟩) xJ))
end
end HT
namespace L2
open PySem PySem.Spec PyProof.Rows
noncomputable abbrev TO:=St->Hp->(Option Int->Hp->Prop)->Prop
noncomputable def PO(X:Cx)(e:Option Expr)(t:TO):Prop :=
 ∀(pins:List (Addr × Obj)) (s:Shared) (σ : St) (H:Hp) (Q:Option Int->Hp->Prop),Inv X pins σ H s->t σ H Q ->
  wpAny (model X.prog X.w) X.A (evalPart e X.env) (λu s'=>∃o H',Inv X pins σ H' s'/\IsPart u o/\Q o H') X.xe s
noncomputable def ab3:TO:=λ_ H Q=>Q none H
noncomputable def ab4(t:TE):TO:=λσ H Q=>t σ H λx H1=>∃i,x=.int i/\Q (some i) H1
theorem intsAre_of:∀{us:List Value},Vals (ns.map V.int) us->IntsAre us ns:=by
 induction ns with
 |nil=>intro us r; rw[List.map_nil]at r; cases r; exact .nil
 |cons n ns ih =>
  intro us r
  rw[List.map_cons]at r
  cases r with
  |cons r1 r2 =>
   obtain⟨t,e⟩:=r1
   subst e
   exact .cons n t (ih r2)
section
variable {X:Cx}{e:Expr}{te:TE}{lo hi:Option Expr}{tl th:TO}{pos p2:Pos}
theorem ab5:PO X none ab3:=by
 intro pins s σ H Q I h
 rw[evalPart_none]
 exact wpAny_pure ⟨none,H,I,.none,h⟩
theorem ab6(h:PE X e te):PO X (some e) (ab4 te):=by
 intro pins s σ H Q I hw
 rw[evalPart_some]
 refine aD (h pins s σ H _ I hw) λu s1 ⟨x,H1,I1,r1,q1⟩=>?_
 obtain⟨i,rfl,q⟩:=q1
 obtain⟨t,rfl⟩:=r1
 exact⟨some i,H1,I1,.int i t,q⟩
noncomputable def lB(X:Cx)(r:V->Option Int->Option Int->Hp->VK->Prop):Prop :=
 ∀(pins:List (Addr × Obj)) (s:Shared) (σ : St) (H:Hp) (x:V) (v vl vu:Value) (lo hi:Option Int) (sl:Addr) (Q:VK),Inv X pins σ H s->RelV x v->s.heap.IsSliceOf sl vl vu .none->IsPart vl lo->IsPart vu hi->r x lo hi H Q ->
  ∃T id,typeLookup (.type T) "__getitem__" = pure (some (.builtin id))/\s.TypeIs v T/\wpAny (model X.prog X.w) X.A (getItem v (.ref sl)) (EP X pins σ Q) X.xe s
theorem lB.or(h:lB X r)(h':lB X r'):lB X (λx lo hi H Q=>r x lo hi H Q\/r' x lo hi H Q):=by
 intro pins s σ H x v vl vu lo hi sl Q I rx hs pl pu q
 rcases q with q|q
 .exact h pins s σ H x v vl vu lo hi sl Q I rx hs pl pu q
 .exact h' pins s σ H x v vl vu lo hi sl Q I rx hs pl pu q
noncomputable def tSl(r:V->Option Int->Option Int->Hp->VK->Prop)(te:TE)(tl th:TO):TE:=λσ H Q=>te σ H λx H1=>tl σ H1 λl H2=>th σ H2 λu H3=>r x l u H3 Q
theorem ab7(hr:lB X r)(he:PE X e te)(hl:PO X lo tl)(hu:PO X hi th):PE X (.Subscript e (.Slice lo hi none p2) pos) (tSl r te tl th):=by
 refine⟨λpins s σ H Q I h=>?_⟩
 refine Subscript_ (aD (he pins s σ H _ I h) λv s1 ⟨x,H1,I1,r1,q1⟩=>?_)
 refine wpAny_Slice (aD (hl pins s1 σ H1 _ I1 q1) λvl s2 ⟨l,H2,I2,pl,q2⟩=>aD (hu pins s2 σ H2 _ I2 q2) λvu s3 ⟨u,H3,I3,pu,q3⟩=>?_)
 rw[evalPart_none]
 refine wpAny_pure ?_
 have I4:Inv X pins σ H3 {s3 with heap:=s3.heap.push {cls:=.type "slice",data:=.fields #[vl,vu,.none] } }:=I3.kept (t':=s3.toks) λb ob q=>Heap.get?_push_of_some _ q
 obtain⟨T,id,hT,ht,hg⟩:=hr pins {s3 with heap:=s3.heap.push {cls:=.type "slice",data:=.fields #[vl,vu,.none] } } σ H3 x v vl vu l u s3.heap.objs.size Q I4 r1 (Heap.IsSliceOf.new ..) pl pu q3
 show wpAny (model X.prog X.w) X.A (subscriptTail e (.Slice lo hi none p2) v (.ref s3.heap.objs.size)) (EP X pins σ Q) X.xe {s3 with heap:=s3.heap.push {cls:=.type "slice",data:=.fields #[vl,vu,.none] } }
 exact tail_any (ops:=[.ref s3.heap.objs.size,v]) ht hT hg (by with_unfolding_all rfl)
noncomputable def m5(xs:List V)(lo hi:Option Int):List V:=(xs.drop (HT.aO xs.length 0 lo)).take (HT.aO xs.length xs.length hi-HT.aO xs.length 0 lo)
theorem M5(xs:List V)(lo hi:Option Int):(m5 xs lo hi).length<=xs.length:=by
 unfold m5
 rw[List.length_take,List.length_drop]
 lia
noncomputable def M6(K:PySem.W.Frag):V->Option Int->Option Int->Hp->VK->Prop:=λx lo hi H Q=>∃a xs,x=.ref a/\aW K H a xs /\
 ¬(HT.aO xs.length 0 lo=0/\HT.aO xs.length xs.length hi=xs.length)/\∀p,H p=none->Q (.ref p) (upd H p (.tup (m5 xs lo hi)))
theorem ab8:lB X (M6 X.K):=by
 intro pins s σ H x v vl vu lo hi sl Q I rx hs pl pu h
 obtain⟨a,xs,rfl,hx,hw,q⟩:=h
 cases rx
 obtain⟨its,r,ht,hz⟩:=I.tuple hx
 have hlen:its.toArray.size=xs.length:=by rw[List.size_toArray]; exact r.length.symm
 refine⟨"tuple",_,PyProof.Rows.slot_tuple_getitem.lookup,ht.typeIs,?_⟩
 refine HT.ab2 ht hs pl pu (by rw[hlen]; exact hw) ?_ (by rw[hlen]; exact hz)
 rw[hlen]
 refine⟨.ref s.heap.objs.size,_,I.laid (t':=s.toks) (o:=.tup (m5 xs lo hi)) (λb ob q=>Heap.get?_push_of_some _ q) (Nat.le_refl _) ?_,rfl,q _ (I.hok.fresh (Nat.le_refl _))⟩
 exact⟨Nat.le_trans (M5 xs lo hi) hz,_,(r.drop (HT.aO xs.length 0 lo)).take (HT.aO xs.length xs.length hi-HT.aO xs.length 0 lo),IsTup.new _ _⟩
noncomputable def M7(K:PySem.W.Frag):R2:=λx y H Q=>∃a b ns ms,x=.ref a/\y=.ref b/\aW K H a (ns.map V.int)/\aW K H b (ms.map V.int)/\Q (.bl (HT.lexLt ns ms)) H
theorem ab9(hu:X.A.units<cLine):bh X (compareOp .Lt) (M7 X.K):=by
 intro pins s σ H x y v u Q I rx ry h
 obtain⟨a,b,ns,ms,rfl,rfl,ha,hb,q⟩:=h
 cases rx
 cases ry
 obtain⟨its,r1,p1,_⟩:=I.tuple ha
 obtain⟨its2,r2,p2,_⟩:=I.tuple hb
 have i1:IntsAre its.toArray.toList ns:=intsAre_of r1
 have i2:IntsAre its2.toArray.toList ms:=intsAre_of r2
 exact HT.abV p1 p2 i1 i2 hu ⟨.bl (HT.lexLt ns ms),H,I,rfl,q⟩
noncomputable def M8(K:PySem.W.Frag):R2:=λx y H Q=>∃a b xs ys,x=.ref a/\y=.ref b/\aW K H a xs/\aW K H b ys/\xs≠[]/\xs.length+ys.length<=sizeLine /\
 (ys=[]->Q (.ref a) H)/\(ys≠[]->∀p,H p=none->Q (.ref p) (upd H p (.tup (xs++ys))))
theorem Vals.Di(r:Vals xs us):us=[]↔xs=[]:=by
 cases r with
 |nil=>simp
 |cons _ _=>simp
theorem acd:bh X (binaryOp .Add) (M8 X.K):=by
 intro pins s σ H x y v u Q I rx ry h
 obtain⟨a,b,xs,ys,rfl,rfl,ha,hb,hx,hz,q1,q2⟩:=h
 cases rx
 cases ry
 obtain⟨its,r1,p1,_⟩:=I.tuple ha
 obtain⟨its2,r2,p2,_⟩:=I.tuple hb
 refine HT.abW p1 p2 (λz=>hx (r1.Di.mp z)) (λz=>⟨.ref a,H,I,rfl,q1 (r2.Di.mp z)⟩) (λz=>?_) (by rw[<-r1.length,<-r2.length]; exact hz)
 refine⟨.ref s.heap.objs.size,_,I.laid (t':=s.toks) (o:=.tup (xs++ys)) (λb ob q=>Heap.get?_push_of_some _ q) (Nat.le_refl _) ?_,rfl,q2 (λw=>z (r2.Di.mpr w)) _ (I.hok.fresh (Nat.le_refl _))⟩
 exact⟨by rw[List.length_append]; exact hz,_,r1.append r2,IsTup.new _ _⟩
end
noncomputable def fB(n:Nat)(i:Int):Option Nat:=if 0<=i then(if i<n then some i.toNat else none)else if -(n:Int)<=i then some (i+n).toNat else none
noncomputable def dZ{α : Type}(xs:List α)(i:Int):Option α := (fB xs.length i).bind λj=>xs[j]?
theorem M9(h:fB n i=some j):seqIndex? i n=some j/\j<n /\ -(n:Int)<=i/\i<n:=by
 unfold fB at h
 by_cases h0:0<=i
 .rw[if_pos h0]at h
  by_cases h1:i<n
  .rw[if_pos h1]at h
   have e:i.toNat=j:=Option.some.inj h
   exact⟨by rw[seqIndex_of h0 h1,e],by lia,by lia,h1⟩
  .rw[if_neg h1]at h; cases h
 .rw[if_neg h0]at h
  by_cases h1 : -(n:Int)<=i
  .rw[if_pos h1]at h
   have e:(i+n).toNat=j:=Option.some.inj h
   exact⟨by rw[seqIndex_neg (by lia) h1,e],by lia,h1,by lia⟩
  .rw[if_neg h1]at h; cases h
theorem Dj{α : Type}{xs:List α}{i:Int}{v : α}(h:dZ xs i=some v):∃j,seqIndex? i xs.length=some j/\xs[j]?=some v/\j<xs.length /\ -(xs.length:Int)<=i/\i<xs.length:=by
 unfold dZ at h
 cases e:fB xs.length i with
 |none=>rw[e]at h; cases h
 |some j =>
  rw[e]at h
  obtain⟨h1,h2,h3,h4⟩:=M9 e
  exact⟨j,h1,h,h2,h3,h4⟩
noncomputable def Nb(b:Expr):Prop:=∀o i,subscripted b false o i=operate [o,i] (getItem o i)
noncomputable def lC(X:Cx)(r:R2):Prop :=
 ∀(value slice:Expr) (pins:List (Addr × Obj)) (s:Shared) (σ : St) (H:Hp) (x y:V) (v u:Value) (Q:VK),Inv X pins σ H s->RelV x v->RelV y u->r x y H Q ->
  subscripted slice false v u=operate [v,u] (getItem v u)->wpAny (model X.prog X.w) X.A (subscriptTail value slice v u) (EP X pins σ Q) X.xe s
noncomputable def uc(X:Cx)(id:String)(r:V->List V->Hp->VK->Prop):Prop :=
 ∀(pins:List (Addr × Obj)) (s:Shared) (σ : St) (H:Hp) (x:V) (xs:List V) (v:Value) (us:List Value) (Q:VK),Inv X pins σ H s->RelV x v->Vals xs us->r x xs H Q ->
  wpAny (model X.prog X.w) X.A (call (.builtin id) (v::us)) (EP X pins σ Q) X.xe s
section
variable {X:Cx}{a b:Expr}{ta tb:TE}{pos:Pos}
theorem lC.or(h:lC X r)(h':lC X r'):lC X (λx y H Q=>r x y H Q\/r' x y H Q):=by
 intro value slice pins s σ H x y v u Q I rx ry q hs
 rcases q with q|q
 .exact h value slice pins s σ H x y v u Q I rx ry q hs
 .exact h' value slice pins s σ H x y v u Q I rx ry q hs
theorem uc.or{id:String}{r r':V->List V->Hp->VK->Prop}(h:uc X id r)(h':uc X id r'):uc X id (λx xs H Q=>r x xs H Q\/r' x xs H Q):=by
 intro pins s σ H x xs v us Q I rx rs q
 rcases q with q|q
 .exact h pins s σ H x xs v us Q I rx rs q
 .exact h' pins s σ H x xs v us Q I rx rs q
theorem Dk(hr:lC X r)(ha:PE X a ta)(hb:PE X b tb)(hs:Nb b):PE X (.Subscript a b pos) (tY r ta tb):=by
 refine⟨λpins s σ H Q I h=>?_⟩
 exact Subscript_ (Cy ha hb I h λv u s2 x y H2 I2 rx ry q=>hr a b pins s2 σ H2 x y v u Q I2 rx ry q (hs _ _))
noncomputable def Nf(K:PySem.W.Frag):R2:=λx y H Q=>∃p xs i v,x=.ref p/\y=.int i/\aM K H p xs/\dZ xs i=some v/\Q v H
noncomputable def Ng(K:PySem.W.Frag):R2:=λx y H Q=>∃p xs i v,x=.ref p/\y=.int i/\aW K H p xs/\dZ xs i=some v/\Q v H
noncomputable def Nh:R2:=λx y H Q=>∃z i c,x=.str z/\y=.int i/\z.length<=sizeLine/\dZ z.cps.toList i=some c/\Q (.str ⟨#[c]⟩) H
theorem ace:lC X (Nf X.K):=by
 intro value slice pins s σ H x y v u Q I rx ry h hs
 obtain⟨p,xs,i,z,rfl,rfl,hq,he,q⟩:=h
 cases rx
 obtain⟨t,rfl⟩:=ry
 obtain⟨its,r,pl,hz⟩:=I.list hq
 obtain⟨j,h1,h2,h3,h4,h5⟩:=Dj he
 obtain⟨w,ew,oK⟩:=r.get h2
 have hl:=r.length
 have hn:=oO
 have fin:EP X pins σ Q w s:=⟨z,H,I,oK,q⟩
 by_cases h0:0<=i
 .have hj:i.toNat=j:=by
   rw[seqIndex_of h0 h5]at h1
   exact Option.some.inj h1
  exact item_listR pl.isList h0 (by lia) (by rw[hj]; simpa using ew) fin hs
 .have hj:(i+(its.toArray.size:Int)).toNat=j:=by
   rw[seqIndex_neg (by lia) h4]at h1
   rw[List.size_toArray,<-hl]
   exact Option.some.inj h1
  exact subscriptTail_builtinR (x:=w) pl.isList.typeIs slot_list_getitem.lookup
   (wpAny_getItem_list_neg (Q:=λr s'=>r=w/\EP X pins σ Q r s') pl.isList (by lia) (by rw[List.size_toArray] <;> lia) (by lia) (by rw[hj]; simpa using ew) ⟨rfl,fin⟩) hs
theorem acf:lC X (Ng X.K):=by
 intro value slice pins s σ H x y v u Q I rx ry h hs
 obtain⟨p,xs,i,z,rfl,rfl,hq,he,q⟩:=h
 cases rx
 obtain⟨t,rfl⟩:=ry
 obtain⟨its,r,pl,hz⟩:=I.tuple hq
 obtain⟨j,h1,h2,h3,h4,h5⟩:=Dj he
 obtain⟨w,ew,oK⟩:=r.get h2
 have hl:=r.length
 have hn:=oO
 have fin:EP X pins σ Q w s:=⟨z,H,I,oK,q⟩
 exact subscriptTail_builtinR (x:=w) pl.typeIs slot_tuple_getitem.lookup
  (getItem_tuple (j:=j) (Q:=λr s'=>r=w/\EP X pins σ Q r s') pl (by lia) (by lia) (by rw[List.size_toArray,<-hl]; exact h1) (by simpa using ew) ⟨rfl,fin⟩) hs
theorem acg:lC X Nh:=by
 intro value slice pins s σ H x y v u Q I rx ry h hs
 obtain⟨z,i,c,rfl,rfl,hz,he,q⟩:=h
 obtain⟨t,rfl⟩:=rx
 obtain⟨t',rfl⟩:=ry
 obtain⟨j,h1,h2,h3,h4,h5⟩:=Dj he
 have hl:z.cps.toList.length=z.length:=by simp[Str.length]
 rw[hl]at h1 h4 h5
 have hn:=oO
 exact tail_any (typeIs_str s z t) slot_str_getitem.lookup (getItem_str (c:=c) (by
  have e1:decide (i < -(2 ^ 63:Int))=false:=decide_eq_false (by lia)
  have e2:decide (i >= 2 ^ 63)=false:=decide_eq_false (by lia)
  rw[e1,e2,Bool.or_false]) (by rw[h1]; simpa using h2) ⟨.str ⟨#[c]⟩,H,I.tok _,⟨_,rfl⟩,q⟩) hs
noncomputable def Ni(K:PySem.W.Frag):R2:=λx y H Q=>Nf K x y H Q\/Ng K x y H Q\/Nh x y H Q
theorem Dl:lC X (Ni X.K):=ace.or (acf.or acg)
theorem ach(its:List Value)(n j:Nat)(u:Value):Obj.mapSeq (·.setIfInBounds j u) {cls:=.type "list",data:=.seq its.toArray n }={cls:=.type "list",data:=.seq (its.set j u).toArray n }:=by
 simp[Obj.mapSeq]
theorem Inv.lst{pins:List (Addr × Obj)}{σ : St}{H:Hp}{s:Shared}{p:Addr}{xs:List V}(I:Inv X pins σ H s)(h:H p=some (.lst xs)) :
  ∃(its:List Value) (n:Nat),Vals xs its/\s.heap.get? p=some {cls:=.type "list",data:=.seq its.toArray n }/\xs.length<=sizeLine:=by
 obtain⟨z,its,n,r,e⟩:=I.hok p _ h
 exact⟨its,n,r,e,z⟩
theorem Inv.aci{pins:List (Addr × Obj)}{σ : St}{H:Hp}{s:Shared}{p:Addr}{xs ys:List V}{its its':List Value}{n n':Nat}{f:Obj->Obj}(I:Inv X pins σ H s)(h:H p=some (.lst xs))
  (ho:s.heap.get? p=some {cls:=.type "list",data:=.seq its.toArray n }) (hf:f {cls:=.type "list",data:=.seq its.toArray n }={cls:=.type "list",data:=.seq its'.toArray n' }) (r:Vals ys its') (hz:ys.length<=sizeLine) (t:Nat) :
  Inv X pins σ (upd H p (.lst ys)) {s with heap:=s.heap.update p f,toks:=t }:=by
 have e:(s.heap.update p f).get? p=some {cls:=.type "list",data:=.seq its'.toArray n' }:=by
  rw[Heap.get?_update_self f ho (by rw[hf] <;> rfl),hf]
 refine I.write (x:=p) (e:=p) (by rw[h]; trivial) (.inl rfl) (λb u hb q=>(Heap.get?_update_other _ _ (Ne.symm hb)).trans q) ⟨_,e⟩ ?_
 exact⟨hz,its',n',r,e⟩
noncomputable def acj:V->V->V->Hp->(Hp->Prop)->Prop:=λo i v H Q=>∃p xs k j,o=.ref p/\i=.int k/\H p=some (.lst xs)/\fB xs.length k=some j/\Q (upd H p (.lst (xs.set j v)))
theorem set_list:Ls X acj:=by
 intro pins s σ H o i v ov iv u Q I ro ri rv h
 obtain⟨p,xs,k,j,rfl,rfl,hp,hj,q⟩:=h
 cases ro
 obtain⟨t,rfl⟩:=ri
 obtain⟨its,n,r,ho,hz⟩:=I.lst hp
 obtain⟨h1,h2,h3,h4⟩:=M9 hj
 have hl:=r.length
 have hn:=oO
 have I':Inv X pins σ (upd H p (.lst (xs.set j v))) {s with heap:=s.heap.update p (Obj.mapSeq (·.setIfInBounds j u)) } :=
  I.aci hp ho (ach its n j u) (r.set rv j) (by rw[List.length_set]; exact hz) s.toks
 by_cases h0:0<=k
 .have hk:k.toNat=j:=by
   rw[seqIndex_of h0 h4]at h1
   exact Option.some.inj h1
  exact PySem.W.ki_setAt ho h0 (by lia) (by rw[List.size_toArray,<-hl]; exact h4) (by rw[hk]; exact⟨_,I',q⟩)
 .have hk:(k+(its.toArray.size:Int)).toNat=j:=by
   rw[seqIndex_neg (by lia) h3]at h1
   rw[List.size_toArray,<-hl]
   exact Option.some.inj h1
  exact PySem.W.ki_setBack ho (by lia) (by rw[List.size_toArray,<-hl]; exact h3) (by lia) (by rw[hk]; exact⟨_,I',q⟩)
theorem acn(lo hi:Option Int)(n:Nat):(sliceBounds lo hi none n).1=((HT.aO n 0 lo:Nat):Int)/\(sliceBounds lo hi none n).2.1=((HT.aO n n hi:Nat):Int)/\(sliceBounds lo hi none n).2.2=1:=by
 refine⟨?_,?_,rfl⟩
 .cases lo with
  |none=>simp[sliceBounds,HT.aO]
  |some i =>
   simp only[sliceBounds,HT.aO,Option.getD_none,show(1:Int) > 0 by decide,if_true]
   by_cases h:i<0
   .simp only[h,if_true] <;> lia
   .simp only[h,if_false] <;> lia
 .cases hi with
  |none=>simp[sliceBounds,HT.aO]
  |some i =>
   simp only[sliceBounds,HT.aO,Option.getD_none,show(1:Int) > 0 by decide,if_true]
   by_cases h:i<0
   .simp only[h,if_true] <;> lia
   .simp only[h,if_false] <;> lia
theorem aco(its:List Value)(lo hi:Option Int):slicePick its.toArray lo hi none=((its.drop (HT.aO its.length 0 lo)).take (HT.aO its.length its.length hi-HT.aO its.length 0 lo)).toArray:=by
 obtain⟨h1,h2,h3⟩:=acn lo hi its.toArray.size
 unfold slicePick
 rw[h1,h2,h3]
 simp only[sliceRange_one,pick_run,List.size_toArray] <;> rfl
noncomputable def Nj(K:PySem.W.Frag):V->Option Int->Option Int->Hp->VK->Prop:=λx lo hi H Q=>∃a xs,x=.ref a/\aM K H a xs/\∀p,H p=none->Q (.ref p) (upd H p (.lst (m5 xs lo hi)))
theorem acp:lB X (Nj X.K):=by
 intro pins s σ H x v vl vu lo hi sl Q I rx hs pl pu h
 obtain⟨a,xs,rfl,hx,q⟩:=h
 cases rx
 obtain⟨its,r,ht,hz⟩:=I.list hx
 have hlen:=r.length
 refine⟨"list",_,slot_list_getitem.lookup,ht.isList.typeIs,?_⟩
 refine wpAny_getItem_list_slice ht.isList hs pl pu .none (by simp) ?_ (by rw[List.size_toArray] <;> lia)
 rw[aco,<-hlen]
 refine⟨.ref s.heap.objs.size,_,I.laid (t':=s.toks) (o:=.lst (m5 xs lo hi)) (λb ob q=>Heap.get?_push_of_some _ q) (Nat.le_refl _) ?_,rfl,q _ (I.hok.fresh (Nat.le_refl _))⟩
 exact⟨Nat.le_trans (M5 xs lo hi) hz,_,0,(r.drop (HT.aO xs.length 0 lo)).take (HT.aO xs.length xs.length hi-HT.aO xs.length 0 lo),Heap.get?_push_size _ rfl⟩
theorem acq:eN X (.builtin "len") (λxs H Q=>∃p ys,xs=[.ref p]/\(aM X.K H p ys\/aW X.K H p ys)/\Q (.int ys.length) H):=by
 intro pins s σ H xs us Q I r h
 obtain⟨p,ys,rfl,hq,q⟩:=h
 obtain⟨u,rfl,rx⟩:=vals1 r
 cases rx
 have hn:=oO
 rcases hq with hq|hq
 .obtain⟨its,r',pl,hz⟩:=I.list hq
  have hlen:=r'.length
  exact Calls.call_len_list pl.isList (by simp only[List.size_toArray] <;> lia) ⟨.int ys.length,H,I.tok _,⟨s.toks+1,by rw[List.size_toArray,hlen]⟩,q⟩
 .obtain⟨its,r',pl,hz⟩:=I.tuple hq
  have hlen:=r'.length
  exact len_tuple pl (by simp only[List.size_toArray] <;> lia) ⟨.int ys.length,H,I.tok _,⟨s.toks+1,by rw[List.size_toArray,hlen]⟩,q⟩
theorem acr:eN X (.builtin "len") (λxs H Q=>∃z,xs=[.str z]/\z.length<=sizeLine/\Q (.int z.length) H):=by
 intro pins s σ H xs us Q I r h
 obtain⟨z,rfl,hz,q⟩:=h
 obtain⟨u,rfl,t,rfl⟩:=vals1 r
 have hn:=oO
 exact len_str (by lia) ⟨.int z.length,H,I.tok _,⟨_,rfl⟩,q⟩
theorem eN.or(h:eN X f r)(h':eN X f r'):eN X f (λxs H Q=>r xs H Q\/r' xs H Q):=by
 intro pins s σ H xs us Q I rs q
 rcases q with q|q
 .exact h pins s σ H xs us Q I rs q
 .exact h' pins s σ H xs us Q I rs q
theorem acs:eN X (.type "list") (λxs H Q=>∃p ys,xs=[.ref p]/\(aM X.K H p ys\/aW X.K H p ys)/\∀l,H l=none->Q (.ref l) (upd H l (.lst ys))):=by
 intro pins s σ H xs us Q I r h
 obtain⟨p,ys,rfl,hq,q⟩:=h
 obtain⟨u,rfl,rx⟩:=vals1 r
 cases rx
 have fin:∀(its:List Value),Vals ys its->ys.length<=sizeLine->∀(h':Heap) (c':Nat),(∀b o',s.heap.get? b=some o'->h'.get? b=some o') ->
   h'.get? s.heap.objs.size=some {cls:=.type "list",dict:=none,data:=.seq its.toArray c',slots:=#[] }->EP X pins σ Q (.ref s.heap.objs.size) {s with heap:=h' }:=λits r' hz h' c' kp e =>
  ⟨.ref s.heap.objs.size,_,I.laid (t':=s.toks) kp (Nat.le_refl _) (show fO X.prog X.w _ h' _ (.lst ys)from⟨hz,its,c',r',e⟩),rfl,q _ (I.hok.fresh (Nat.le_refl _))⟩
 rcases hq with hq|hq
 .obtain⟨its,r',pl,hz⟩:=I.list hq
  have hlen:=r'.length
  obtain⟨o,ho,hc,n,hd⟩:=pl.isList
  exact call_list_seq p (.inl rfl) ho hc hd (λh' c' kp e=>fin its r' hz h' c' kp e) (by simp only[List.size_toArray] <;> lia)
 .obtain⟨its,r',pl,hz⟩:=I.tuple hq
  have hlen:=r'.length
  obtain⟨o,ho,hc,n,hd⟩:=pl
  exact call_list_seq p (.inr rfl) ho hc hd (λh' c' kp e=>fin its r' hz h' c' kp e) (by simp only[List.size_toArray] <;> lia)
noncomputable def Nk(K:PySem.W.Frag)(T:String)(x:V)(H:Hp):Prop:=match x with
 |.str _=>T = "str"
 |.int _=>T = "int"
 | .ref p=>(T = "list" ∧ ∃xs,aM K H p xs)∨(T = "tuple" ∧ ∃o,K.lookup p=some o∧o.cls=.type "tuple" ∧ o.dict=none)
 |_=>False
theorem acu(I:Inv X pins σ H s)(r:RelV x v)(ty:Nk X.K T x H) :
  s.TypeIs v T/\∀a,v=.ref a->∃ob,s.heap.get? a=some ob/\ob.dict=none:=by
 cases x with
 |str z =>
  obtain⟨t,rfl⟩:=r
  cases(show T = "str" from ty)
  exact⟨typeIs_str s z t,λ_ e=>nomatch e⟩
 |int i =>
  obtain⟨t,rfl⟩:=r
  cases(show T = "int" from ty)
  exact⟨typeIs_int s i t,λ_ e=>nomatch e⟩
 |ref p =>
  cases r
  rcases ty with⟨rfl,xs,hq⟩|⟨rfl,o,hk,hc,hd⟩
  .obtain⟨its,_,pl,_⟩:=I.list hq
   refine⟨pl.isList.typeIs,λa e=>?_⟩
   cases e
   obtain⟨o,n,e,c,hd,_⟩:=pl
   exact⟨o,e,hd⟩
  .refine⟨⟨o,I.cZ p o hk,hc⟩,λa e=>?_⟩
   cases e
   exact⟨o,I.cZ _ o hk,hd⟩
 |_=>exact False.elim ty
noncomputable def tBM(K:PySem.W.Frag)(T:String)(r:V->List V->Hp->VK->Prop)(to:TE)(t:TA):TE:=λσ H Q=>to σ H λx H1=>Nk K T x H1/\t σ H1 λxs H2=>r x xs H2 Q
variable {o e:Expr}{es:List Expr}{to:TE}{t:TA}{name:Str}{apos cpos:Pos}{T id:String}{r:V->List V->Hp->VK->Prop}
theorem acv(pa:PlainAttrs T)(slot:Slot T name id)(hty:typeOf (.builtin id)=pure (.type "method_descriptor")) (hm:uc X id r) (ho:PE X o to) (ha:PA X (e::es) t)
  (hbase:attributeBase o name X.env (eval o X.env)=eval o X.env:=by rfl)
  (hfew:((backTo cpos (starEach (e::es) X.env)).all (λx=>!x.1)&&(backToKw cpos (keywordEach [] X.env)).all (λx=>x.1.isSome)
   && decide ((e::es).length+([]:List Keyword).length+(if([]:List Keyword).isEmpty then 0 else 1)<30))=true:=by rfl)
  (hline:(apos.endLine == cpos.line)=true:=by rfl) (hs:starEach (e::es) X.env=(false,eval e X.env)::starEach es X.env:=by rfl) (hplain:(backTo cpos (starEach es X.env)).any (·.1)=false:=by rfl) :
  PE X (.Call (.Attribute o name apos) (e::es) [] cpos) (tBM X.K T r to t):=by
 refine⟨λpins s σ H Q I h=>?_⟩
 refine wpAny_Call_method_late hbase hfew hline rfl (aD (ho pins s σ H _ I h) λv s1 ⟨x,H1,I1,r1,ty,q1⟩=>?_)
 obtain⟨h1,h2⟩:=acu I1 r1 ty
 refine⟨T,id,pa,slot,hty,h1,h2,?_⟩
 have hA:=ha cpos pins s1 σ H1 _ I1 q1
 rw[hs]at hA ⊢
 refine Calls.callWith_builtin (by show(false || (backTo cpos (starEach es X.env)).any (·.1))=false; rw[hplain] <;> rfl) (Calls.evalArgs_plain ?_)
 exact aD hA λus s2 ⟨vs,H2,I2,r2,q2⟩=>hm pins s2 σ H2 x vs v us Q I2 r1 r2 q2
end
noncomputable def Dm(X:Cx)(id:String)(r:V->List V->Hp->VK->Prop):Prop :=
 ∀(pins:List (Addr × Obj)) (s:Shared) (σ : St) (H:Hp) (x:V) (xs:List V) (v:Value) (us:List Value) (Q:VK),Inv X pins σ H s->RelV x v->Vals xs us->r x xs H Q ->
  wpAny (model X.prog X.w) X.A (call (.builtin id) (v::us)) (EP X pins σ Q) X.xe s
theorem Vals.one:∀{x:V} {us:List Value},Vals [x] us->∃u,us=[u]/\RelV x u
 |_,_,.cons r .nil=>⟨_,rfl,r⟩
theorem Vals.zero:∀{us:List Value},Vals [] us->us=[]
 |_,.nil=>rfl
theorem Vals.reverse{xs:List V}{us:List Value}(h:Vals xs us):Vals xs.reverse us.reverse:=by
 induction h with
 |nil=>exact .nil
 |cons r t ih=>rw[List.reverse_cons,List.reverse_cons]; exact Vals.append ih (.cons r .nil)
theorem Vals.rep(h:Vals xs us):∀k:Nat,Vals (List.replicate k xs).flatten (List.replicate k us).flatten
 | 0=>.nil
 |k+1=>by
  rw[List.replicate_succ,List.replicate_succ,List.flatten_cons,List.flatten_cons]
  exact Vals.append h (Vals.rep h k)
theorem foldl_rep(its:List Value):∀(k:Nat) (acc:List Value),
  List.foldl (λx1 x2=>x1++x2) acc.toArray (List.replicate k its.toArray)=(acc++(List.replicate k its).flatten).toArray
 | 0,acc=>by simp
 |k+1,acc=>by
  have e:acc.toArray++its.toArray=(acc++its).toArray:=by simp
  have e2:(acc++its)++(List.replicate k its).flatten=acc++(List.replicate (k+1) its).flatten:=by
   rw[List.replicate_succ,List.flatten_cons,List.append_assoc]
  rw[<-e2,<-foldl_rep its k (acc++its),<-e,List.replicate_succ,List.foldl_cons]
section
variable {X:Cx}{pins:List (Addr × Obj)}{σ : St}{H:Hp}{s:Shared}{l b:Addr}{xs ys zs:List V}
theorem Inv.Nm{its its':List Value}{n:Nat}{f:Array Value->Array Value}{t':Nat}(I:Inv X pins σ H s)(hH:H l=some (.lst xs))
  (e:s.heap.get? l=some {cls:=.type "list",data:=.seq its.toArray n }) (hf:f its.toArray=its'.toArray) (hv:Vals ys its') (hz:ys.length<=sizeLine) :
  Inv X pins σ (upd H l (.lst ys)) {s with heap:=s.heap.update l (Obj.mapSeq f),toks:=t' }:=by
 have q:=PySem.IsL.update e f
 rw[hf]at q
 refine I.write (x:=l) (e:=l) (by rw[hH]; exact trivial) (.inl rfl) (λb' u hb hu=>(Heap.get?_update_other s.heap (Obj.mapSeq f) (Ne.symm hb)).trans hu) ⟨_,q⟩ ?_
 exact⟨hz,its',_,hv,q⟩
theorem Inv.Dn(I:Inv X pins σ H s)(hv:Vals ys its)(hz:ys.length<=sizeLine) :
  Inv X pins σ (upd H s.heap.objs.size (.lst ys)) {s with heap:=s.heap.push {cls:=.type "list",data:=.seq its.toArray },toks:=t' } :=
 I.laid (λ_ _ q=>Heap.get?_push_of_some _ q) (Nat.le_refl _) ⟨hz,its,0,hv,Heap.get?_push_size _ rfl⟩
theorem Inv.fresh(I:Inv X pins σ H s):H s.heap.objs.size=none:=I.hok.fresh (Nat.le_refl _)
theorem Inv.Np(I:Inv X pins σ H s)(hH:H l=some (.lst xs)):xs.length<=sizeLine/\∃(its:List Value) (n:Nat),Vals xs its/\xs.length=its.length/\s.heap.get? l=some {cls:=.type "list",data:=.seq its.toArray n }:=by
 obtain⟨z,its,n,r,e⟩:=I.hok l _ hH
 exact⟨z,its,n,r,r.length,e⟩
theorem acw{n:Nat}(h:n<=sizeLine):Builtin.List.listTooLong n=false:=by
 unfold Builtin.List.listTooLong
 exact decide_eq_false (by lia)
end
section
variable {X:Cx}
noncomputable def Dp:V->List V->Hp->VK->Prop:=λx vs H Q=>∃l xs y,x=.ref l/\vs=[y]/\H l=some (.lst xs)/\xs.length<sizeLine/\Q .non (upd H l (.lst (xs++[y])))
theorem Nq:Dm X "list.append" Dp:=by
 intro pins s σ H x vs v us Q I rx rv h
 obtain⟨l,xs,y,rfl,rfl,hH,hz,q⟩:=h
 cases rx
 obtain⟨u,rfl,ru⟩:=rv.one
 obtain⟨z,its,n,r,hl,e⟩:=I.Np hH
 refine call_meets F.slot_list_append ⟨_,e,rfl⟩ F.entry_list_append (F.args_list_append_2 _ _) (PySem.list_append l its.toArray n u (by rw[List.size_toArray]; lia)) ⟨e,?_⟩
 refine⟨.non,_,I.Nm (its':=its++[u]) hH e (by simp) (r.append (.cons ru .nil)) ?_,rfl,q⟩
 rw[List.length_append,List.length_singleton]
 lia
theorem len_rep{α : Type}(xs:List α)(k:Nat):(List.replicate k xs).flatten.length=k*xs.length:=by
 induction k with
 |zero=>simp
 |succ k ih=>rw[List.replicate_succ,List.flatten_cons,List.length_append,ih,Nat.succ_mul,Nat.add_comm]
end
end L2
namespace Nr
open PySem PySem.W PySem.Calls PyProof.Rows
theorem acy:∀(ns:List Int) (vs:List Value),WellAll P h vs (ns.map WData.int)->IntsAre vs ns:=by
 intro ns
 induction ns with
 |nil =>
  intro vs w
  rw[List.map_nil]at w
  cases w
  exact .nil
 |cons n ns ih =>
  intro vs w
  rw[List.map_cons]at w
  cases w with
  |cons a b =>
   cases a
   exact .cons _ _ (ih _ b)
theorem acz{l:OpenLaw}{n:Nat}(hn:l.most=some n){P:Params}{h:Heap}{args:List WData}{vals:List Value}
  (hpre:l.row.toRowW.claim.pre args=true) (hwl:WellAll P h vals args) :
  ∃a vs ns,vals=[Value.ref a]/\args=[WData.list (ns.map WData.int)]/\h.get? a=some {cls:=.type "list",data:=.seq vs.toArray }/\IntsAre vs ns/\ns.length<=n:=by
 have hsh:WShape.hasAll [] args [.list .int]=true:=(pre_splitW hpre).1
 have hc:l.pre.holds [] {args:=args }=true:=(pre_splitW hpre).2
 obtain⟨d,r,rfl,h1,h2⟩:=hasAllW_cons hsh
 obtain rfl:=hasAllW_nil h2
 obtain⟨xs,rfl,h3⟩:=hasW_list h1
 obtain⟨ns,rfl⟩:=items_int h3
 have hlen:ns.length<=n:=by
  unfold OpenLaw.pre at hc
  have h4:(WTm.not (.lt (.lit (.int (n:Int))) (.len (.arg 0)))).holds [] {args:=[.list (ns.map .int)] }=true:=by
   have h4:=(holds_andW hc).1
   rw[hn]at h4
   exact h4
  have h5:=condW_of h4 (w_not (w_lt w_lit (w_len_list (w_arg rfl))))
  rw[List.length_map]at h5
  refine Nat.le_of_not_lt λq=>?_
  have q':(n:Int)<((ns.length:Nat):Int):=by lia
  first
   |(rw[decide_eq_true q']at h5; exact absurd h5 (by decide))
   |(simp at h5; lia)
 cases hwl with
 |cons w1 w2 =>
  cases w2
  cases w1 with
  |list ho hall=>exact⟨_,_,ns,rfl,rfl,ho,acy ns _ hall,hlen⟩
theorem acA(l:OpenLaw)(args:List WData):l.row.toRowW.claim.post args (.bool true) args=true :=
 postW_of (r:=l.row.toRowW) (X:=(true == true))
  (show WShape.has [] (.bool true) .bool=true by first|rfl|decide|simp[WShape.has,WShape.arms,WShape.armsAll])
  (show(WTm.eq .res (.lit (.bool true))).value [] {args:=args,res:=some (.bool true),after:=args }=some (.bool (true == true))from w_eq_bool (w_res rfl) w_lit) rfl
theorem acB{l:OpenLaw}{n:Nat}{q:Program}{loose:List Str}{XP:(Str->Option Value)->Heap->Prop}{YP:World->Heap->Prop}{d:DefRec}
  (hn:l.most=some n) (hdf:d.params.defaults=[])
  (call:∀(w:World) (s₀ s₁ : Shared) (mg mb:Str->Option Value) (fa:Addr) (o:Obj) (pm cd doc:Value) (a:Addr) (vs:List Value) (ns:List Int),
   Ground q loose [] XP w s₀ mg mb s₁.heap->YP w s₁.heap ->
   s₁.heap.get? fa=some o->o.data=.func (docDef d.name d.params d.body d.scope pm cd doc)->s₁.heap.CodeRec cd d.name->mg d.name=some (.ref fa) ->
   s₁.heap.get? a=some {cls:=.type "list",data:=.seq vs.toArray }->IntsAre vs ns->ns.length<=n->s₁.gens = #[] ->
   codeAny (model l.prog w) callerA (.call (.ref fa) ⟨[.ref a],[]⟩) (λr s'=>r=.ok (.ret (.bool true))/\OldK s₁.heap s'.heap/\s'.os=s₁.os/\AllBare s'.gens) s₁) :
  WalkO q loose XP YP l.row.toRowW d [] (λf vs=>PySem.call f vs):=by
 intro w s₀ s₁ mg mb G Y fa o pm cd doc dV kV ho hd hcd hD hmg hg args vals as hpre hlay hrd hwl hlo
 obtain rfl:dV=.none:=Dflts.none hD hdf
 obtain rfl:kV=.none:=Dflts.noKw hD
 obtain⟨a,vs,ns,rfl,rfl,hobj,hints,hlen⟩:=acz hn hpre hwl
 refine enter_call (codeAny_mono (call w s₀ s₁ mg mb fa o pm cd doc a vs ns G Y ho (fd_plain hd) hcd hmg hobj hints hlen hg) λr s' hq=>?_)
 obtain⟨rfl,h2,h3,h4⟩:=hq
 exact⟨.inl ⟨.bool true,.bool true,[],rfl,λ_=>rfl,.bool true,acA l _,λ_=>⟨List.Pairwise.nil,λ_ hm=>(nomatch hm)⟩⟩,h2,h3,h4⟩
end Nr
namespace L2
open PySem PySem.Spec PyProof.Rows
theorem Dq:∀{vs:List Value} {ns:List Int},IntsAre vs ns->Vals (ns.map V.int) vs
 |_,_,.nil=>.nil
 |_,_,.cons n t h=>.cons ⟨t,rfl⟩ (Dq h)
noncomputable def iw(s:Stmt):Arguments:=match s with
 |.FunctionDef _ a _ _ _ _ _ _ _ _=>a
 |_=>{posonlyargs:=[],args:=[],vararg:=none,kwonlyargs:=[],kw_defaults:=[],kwarg:=none,defaults:=[] }
noncomputable def d8(s:Stmt):List Stmt:=match s with
 |.FunctionDef _ _ b _ _ _ _ _ _ _=>b
 |_=>[]
noncomputable def bD(s:Stmt):Scope:=match s with
 |.FunctionDef _ _ _ _ _ _ sc _ _ _=>sc
 |_=>{kind:=.function,names:=[],isGenerator:=false,isCoroutine:=false }
noncomputable abbrev Dr:gG:=λ_ _ _ _ _ _=>False
noncomputable abbrev E0:XK:=λ_ _ _=>False
structure iV(K:PySem.W.Frag)(x qual:Str)(st:Stmt)(f:Addr)(fd:FuncData):Prop where
 ex:∃(oc:Value) (od:Option Addr) (kV doc pm:Value) (an:Option Addr) (cdv ct:Value) (osl:Array (Option Value)),
  fd=PySem.W.fnOf x qual (iw st) (d8 st) (bD st) .none kV doc pm an cdv ct/\K.lookup f=some ⟨oc,od,.func fd,osl⟩/\PySem.W.codeIn K cdv qual=true
 kp:PySem.W.keepIn K (.ref f)=true
section
variable {P:Program}{w:World}{K:PySem.W.Frag}{mg:Str->Option Value}{base:Heap}
theorem iV.ok{x qual:Str}{st:Stmt}{f:Addr}{fd:FuncData}{N ps:List Str}{k:Nat}{sp:Sp}(F:iV K x qual st f fd)(S:oV N ps (bD st))(len:∀vs H Q E,sp vs H Q E->vs.length=ps.length)
  (hbody:∀(cdv:Value) (A:Around) (outer:List Env) (s:Shared) (H:Hp) (vs:List V) (Q:VK) (E:XK),bO k (A.deeper (envOfC qual (bD st) s.heap.objs.size f cdv))->sp vs H Q E ->
   ∃t,cQ (fY Dr P w K mg base N qual (bD st) f cdv A outer s H E).iK (d8 st) t/\t {nx:=λ_ H'=>Q .non H',rt:=Q } (start N vs) H):dg P w K mg base Dr (k+1) f fd ps sp:=by
 obtain⟨oc,od,kV,doc,pm,an,cdv,ct,osl,rfl,lk,hcd⟩:=F.ex
 refine Dg lk hcd S len λA outer s H vs Q E hr hsp=>?_
 obtain⟨t,h,q⟩:=hbody cdv A outer s H vs Q E hr hsp
 exact⟨t,h.iK,q⟩
theorem iV.binds{x qual:Str}{st:Stmt}{f:Addr}{fd:FuncData}{ps:List Str}(F:iV K x qual st f fd)
  (h:∀(kV doc pm:Value) (an:Option Addr) (cdv ct:Value) (us:List Value),us.length=ps.length->bindArgs (PySem.W.fnOf x qual (iw st) (d8 st) (bD st) .none kV doc pm an cdv ct) ⟨us,[]⟩=pure (ps.zip us)):Binds K fd ps []:=by
 obtain⟨oc,od,kV,doc,pm,an,cdv,ct,osl,rfl,lk,hcd⟩:=F.ex
 exact .all (h kV doc pm an cdv ct)
theorem xK{x qual:Str}{st:Stmt}{f:Addr}{oc:Value}{od an:Option Addr}{osl:Array (Option Value)}{kV doc pm cdv ct:Value}(l:K.lookup f=some ⟨oc,od,.func (PySem.W.fnOf x qual (iw st) (d8 st) (bD st) .none kV doc pm an cdv ct),osl⟩)
  (c:PySem.W.codeIn K cdv qual=true) (k:PySem.W.keepIn K (.ref f)=true):iV K x qual st f (PySem.W.fnOf x qual (iw st) (d8 st) (bD st) .none kV doc pm an cdv ct):=⟨⟨oc,od,kV,doc,pm,an,cdv,ct,osl,rfl,l,c⟩,k⟩
end
theorem Ds(h:n<=1000):n<sizeLine:=Nat.lt_of_le_of_lt h (by decide)
noncomputable def Same(H H':Hp):Prop:=∀b o,H b=some o->H' b=some o
theorem Same.refl(H:Hp):Same H H:=λ_ _ h=>h
theorem Same.trans(a:Same H H1)(b:Same H1 H2):Same H H2:=λc o h=>b c o (a c o h)
theorem Same.free{H H':Hp}(e:Same H H'){l:Addr}(h:H' l=Option.none):H l=Option.none:=by
 cases q:H l with
 |none=>rfl
 |some o =>
  rw[e l o q]at h
  cases h
theorem Same.seq{K:PySem.W.Frag}{H H':Hp}{a:Addr}{xs:List V}(e:Same H H')(h:aM K H a xs):aM K H' a xs:=by
 rcases h with(h|⟨o,h⟩)|h
 .exact .inl (.inl (e _ _ h))
 .exact .inl (.inr ⟨o,e _ _ h⟩)
 .exact .inr h
noncomputable def bV(cells:List (Str × Addr)):List (Str × NameKind)->List (Str × Addr)->List (Str × Addr)
 | [],acc=>acc
 |(n,k)::r,acc=>if k=.free then(match cells.lookup n with|some a=>bV cells r ((n,a)::acc)|none=>bV cells r acc)else bV cells r acc
theorem oW:∀{names:List (Str × NameKind)} {acc:List (Str × Addr)},(bV cells names acc).lookup x=some c->acc.lookup x=some c\/cells.lookup x=some c
 | [],acc,h=>.inl h
 |(n,k)::r,acc,h=>by
  unfold bV at h
  split at h
  .split at h
   .rename_i a ha
    rcases oW h with q|q
    .by_cases e:x=n
     .subst e
      rw[List.lookup_cons,beq_self_eq_true]at q
      cases q
      exact .inr ha
     .rw[List.lookup_cons,beq_false_of_ne e]at q
      exact .inl q
    .exact .inr q
   .exact oW h
  .exact oW h
theorem oX:∀{names:List (Str × NameKind)} {acc:List (Str × Addr)},((acc.lookup x).isSome=true\/((x,NameKind.free)∈names/\(cells.lookup x).isSome=true))->((bV cells names acc).lookup x).isSome=true
 | [],acc,h=>by
  rcases h with h|⟨h,_⟩
  .exact h
  .cases h
 |(n,k)::r,acc,h=>by
  have up:∀a,(acc.lookup x).isSome=true->(List.lookup x ((n,a)::acc)).isSome=true:=λa q=>by
   rw[List.lookup_cons]
   split
   .rfl
   .exact q
  unfold bV
  split
  .rename_i hk
   split
   .rename_i a ha
    refine oX ?_
    rcases h with h|⟨h,hc⟩
    .exact .inl (up a h)
    .rcases List.mem_cons.mp h with e|e
     .cases e
      refine .inl ?_
      rw[List.lookup_cons,beq_self_eq_true]
      rfl
     .exact .inr ⟨e,hc⟩
   .rename_i hn
    refine oX ?_
    rcases h with h|⟨h,hc⟩
    .exact .inl h
    .rcases List.mem_cons.mp h with e|e
     .cases e
      rw[hn]at hc; cases hc
     .exact .inr ⟨e,hc⟩
  .rename_i hk
   refine oX ?_
   rcases h with h|⟨h,hc⟩
   .exact .inl h
   .rcases List.mem_cons.mp h with e|e
    .cases e; exact absurd rfl hk
    .exact .inr ⟨e,hc⟩
theorem Dt(h:∀y∈scope.names,y.2=.free->(env.cells.lookup y.1).isSome=true):closureFor scope env=pure (bV env.cells scope.names []):=by
 suffices q:∀(names:List (Str × NameKind)) (acc:List (Str × Addr)),(∀y∈names,y.2=.free->(env.cells.lookup y.1).isSome=true) ->
   (forIn names acc λx r=>do
    match x with
    |(name,kind)=>if(kind == NameKind.free)=true then do let a <-cellOf env name; pure (ForInStep.yield ((name,a)::r))else pure (ForInStep.yield r):Sem _)=pure (bV env.cells names acc) by
  have z:=q scope.names [] h
  exact(congrArg (λm=>m >>= λcs=>pure cs) z)
 intro names
 induction names with
 |nil=>intro acc _; rfl
 |cons y r ih =>
  intro acc hy
  obtain⟨n,k⟩:=y
  rw[List.forIn_cons]
  unfold bV
  by_cases hk:k=.free
  .subst hk
   have q:=hy (n,.free) List.mem_cons_self rfl
   cases e:env.cells.lookup n with
   |none=>rw[e]at q; cases q
   |some a =>
    have ec:cellOf env n=pure a:=by unfold cellOf; rw[e]
    simp only[ec]
    exact ih _ λz hz=>hy z (List.mem_cons_of_mem _ hz)
  .rw[if_neg hk]
   have hb:(k == NameKind.free)=false:=by simpa using hk
   simp only[hb]
   exact ih _ λz hz=>hy z (List.mem_cons_of_mem _ hz)
noncomputable def Nt(scope sc:Scope):Scope :=
 {scope with names:=scope.names.map λ(n,k)=>if(k == .free&&sc.kind == .function&&sc.names.lookup n == some .cell)then(n,.cell)else(n,k) }
theorem Nu{env:Env}:∀{names:List (Str × NameKind)} {x:Str},names.lookup x=some .free ->
  (names.map λ(n,k)=>if(k == NameKind.free&&env.scope.kind == .function&&env.kindOf n == some .cell)then(n,NameKind.cell)else(n,k)).lookup x=some .cell \/
  (names.map λ(n,k)=>if(k == NameKind.free&&env.scope.kind == .function&&env.kindOf n == some .cell)then(n,NameKind.cell)else(n,k)).lookup x=some .free
 | [],_,h=>by simp at h
 |(n,k)::r,x,h=>by
  have ih:=@Nu env r x
  rw[List.map_cons]
  dsimp only
  cases hx:x == n with
  |true =>
   simp only[List.lookup_cons,hx]at h
   cases h
   by_cases hc:(NameKind.free == NameKind.free&&env.scope.kind == .function&&env.kindOf n == some .cell)=true
   .rw[if_pos hc]; simp[List.lookup_cons,hx]
   .rw[if_neg hc]; simp[List.lookup_cons,hx]
  |false =>
   simp only[List.lookup_cons,hx]at h
   by_cases hc:(k == NameKind.free&&env.scope.kind == .function&&env.kindOf n == some .cell)=true
   .rw[if_pos hc]; simp only[List.lookup_cons,hx]; exact ih h
   .rw[if_neg hc]; simp only[List.lookup_cons,hx]; exact ih h
theorem Nv{env:Env}:∀{names:List (Str × NameKind)} {x:Str},
  ((names.map λ(n,k)=>if(k == NameKind.free&&env.scope.kind == .function&&env.kindOf n == some .cell)then(n,NameKind.cell)else(n,k)).lookup x=some .cell \/
  (names.map λ(n,k)=>if(k == NameKind.free&&env.scope.kind == .function&&env.kindOf n == some .cell)then(n,NameKind.cell)else(n,k)).lookup x=some .free)->names.lookup x=some .cell\/names.lookup x=some .free
 | [],_,h=>by simp at h
 |(n,k)::r,x,h=>by
  have ih:=@Nv env r x
  rw[List.map_cons]at h
  dsimp only at h
  cases hx:x == n with
  |true =>
   by_cases hcc:(k == NameKind.free&&env.scope.kind == .function&&env.kindOf n == some .cell)=true
   .have hk:k=.free:=by
     simp only[Bool.and_eq_true,beq_iff_eq]at hcc
     exact hcc.1.1
    subst hk
    exact .inr (by simp only[List.lookup_cons,hx])
   .rw[if_neg hcc]at h
    simp only[List.lookup_cons,hx]at h ⊢
    exact h
  |false =>
   have q:=ih (by
    by_cases hcc:(k == NameKind.free&&env.scope.kind == .function&&env.kindOf n == some .cell)=true
    .rw[if_pos hcc]at h; simp only[List.lookup_cons,hx]at h; exact h
    .rw[if_neg hcc]at h; simp only[List.lookup_cons,hx]at h; exact h)
   simp only[List.lookup_cons,hx]
   exact q
theorem m6:∀(names:List (Str × NameKind)) (n:Nat) (acc:List (Str × Addr)),cellsFrom n names acc=cellsFrom n names []++acc
 | [],_,_=>rfl
 |(x,k)::r,n,acc=>by
  unfold cellsFrom
  split
  .rw[m6 r (n+1) ((x,n)::acc),m6 r (n+1) [(x,n)],List.append_assoc]
   rfl
  .exact m6 r n acc
theorem Du:∀(names:List (Str × NameKind)) (n:Nat) {x:Str} {c:Addr},(x,c)∈cellsFrom n names []->(x,NameKind.cell)∈names
 | [],_,_,_,h=>by cases h
 |(y,k)::r,n,x,c,h=>by
  unfold cellsFrom at h
  split at h
  .rename_i hk
   have hk:k=.cell:=by simpa using hk
   rw[m6]at h
   rcases List.mem_append.mp h with z|z
   .exact List.mem_cons_of_mem _ (Du r _ z)
   .have z:=List.mem_singleton.mp z
    cases z
    rw[hk]
    exact List.mem_cons_self
  .exact List.mem_cons_of_mem _ (Du r _ h)
theorem ud(x:Str):∀(a b:List (Str × Addr)),(a++b).lookup x=(match a.lookup x with|some c=>some c|none=>b.lookup x)
 | [],_=>rfl
 |(y,c)::r,b=>by
  have ih:=ud x r b
  rw[List.cons_append,List.lookup_cons,List.lookup_cons]
  cases h:x == y with
  |true=>rfl
  |false=>exact ih
theorem acC
  (hQ:∀h',h'.Ns s.heap.objs.size (λ_=>none)->(∀b o,s.heap.get? b=some o->h'.get? b=some o)->CellsOk h' (s.heap.objs.size+1) (cellsFrom (s.heap.objs.size+1) scope.names []) ->
   Q {scope:=scope,locals:=s.heap.objs.size,globals:=globals,cells:=cellsFrom (s.heap.objs.size+1) scope.names cl,qual:=qual,func:=none,code:=env.code,frame:=env.frame,builtins:=env.builtins } {s with heap:=h',toks:=s.toks+([]:List (Str × Value)).length }) :
  wpAny M A (newFunctionEnv scope globals cl [] qual none .none (some env)) Q E s:=by
 simp only[newFunctionEnv,Option.isSome_some,if_true]
 refine wpAny_bind (wpAny_alloc ?_)
 refine wpAny_bind (wpAny_layCells _ (λname kind cells=>by cases hkc:kind == NameKind.cell <;> simp[hkc]) _ _ _ _ ?_)
 have ok:=cellsFrom_ok scope.names (s.heap.push {cls:=.type "dict",data:=.dict #[] }) (s.heap.objs.size+1) [] ⟨λ_ _ hm=>(nomatch hm),List.Pairwise.nil⟩ (by rw[Heap.size_push]; exact Nat.le_refl _)
 rw[Heap.size_push]at ok
 rw[show({s with heap:=s.heap.push {cls:=.type "dict",data:=.dict #[] } }:Shared).heap.objs.size=s.heap.objs.size+1 from Heap.size_push ..]
 exact wpAny_bind (wpAny_pure (wpAny_pure (hQ _ ((Heap.Ns.new s.heap (.type "dict")).keeps (pushCells_keeps _ _)) (λb o e=>pushCells_keeps _ _ b o (Heap.get?_push_of_some _ e)) ok)))
structure qG(sc:Scope)(No N:List Str)(src:List (Option Nat))(scope:Scope):Prop where
 kind:scope.kind=.function
 cells:∀y∈scope.names,y.2=.cell->scope.names.lookup y.1=some .cell
 names:∀y∈scope.names,y.2=.local->scope.names.lookup y.1=some .local
 free:∀y∈scope.names,y.2=.free->sc.names.lookup y.1=some .cell\/sc.names.lookup y.1=some .free
 len:src.length=N.length
 up:∀p∈N.zip src,∀j∈p.2,No[j]?=some p.1/\scope.names.lookup p.1=some .free
noncomputable def cR(src:List (Option Nat))(σ : St):St:=src.map λo=>o.bind λj=>(σ[j]?).join
noncomputable def cj(X:Cx)(N:List Str)(scope:Scope)(C:Addr)(s:Shared)(H:Hp)(ex:List Addr):Cx where
 prog:=X.prog
 w:=X.w
 K:=X.K
 mg:=X.mg
 base:=X.base
 A:=X.A
 N:=N
 s₀ := s
 H₀ := H
 env:=compEnvC scope (cellsFrom (C+1) scope.names (bV X.env.cells scope.names [])) C X.env
 outer:=X.stack
 stack:=X.stack
 ex:=ex
 fn:=λx=>scope.names.lookup x == some .cell
 calm:=X.calm
 pn:=[]
 xe:=λ_ _=>False
noncomputable def Nx(Q:VK)(D:Addr)(H:Hp):Prop:=Q (.ref D) H
section
variable {X:Cx}{elt tg iter:Expr}{scope sc:Scope}{pos:Pos}{No N:List Str}{src:List (Option Nat)}{wi:TI}{g:TG}{te:TE}
theorem acD{pins:List (Addr × Obj)}{σ : St}{H:Hp}{s:Shared}{h₁ : Heap}{fp:List Addr}{tk:Nat}(hsc:X.env.scope=sc)(iM:X.N=No)(S:qG sc No N src scope)(I:Inv X pins σ H s)
  (hf:∀b∈fp,cA X pins H b) (hlt:∀b∈fp,b<s.heap.objs.size)
  (hns:h₁.Ns s.heap.objs.size (λ_=>none)) (old:∀b o,s.heap.get? b=some o->h₁.get? b=some o) (ck:CellsOk h₁ (s.heap.objs.size+1) (cellsFrom (s.heap.objs.size+1) scope.names [])) :
  Inv (cj X N scope s.heap.objs.size s H fp) [] (cR src σ) H {s with heap:=h₁,toks:=tk }:=by
 subst hsc
 subst iM
 have qH:∀x c,(cellsFrom (s.heap.objs.size+1) scope.names (bV X.env.cells scope.names [])).lookup x=some c->(cellsFrom (s.heap.objs.size+1) scope.names []).lookup x=some c\/X.env.cells.lookup x=some c:=λx c h=>by
  rw[m6,ud]at h
  split at h
  .rename_i e
   exact .inl (e.trans h)
  .rcases oW h with q|q
   .simp at q
   .exact .inr q
 have big:=λx c h=>(ck.empty x c (PySem.mem_of_lookup h)).2
 have Ny:∀x c,X.env.cells.lookup x=some c->c<s.heap.objs.size:=λx c e=>by
  obtain⟨v,q⟩:=I.cell x c e
  exact q.lt
 have alp:∀b∈frs X.stack,b<s.heap.objs.size:=λb hb=>by
  obtain⟨_,o,ho,_⟩:=I.stack.mem hb
  exact Heap.lt_size ho
 refine⟨⟨I.ok.mod,S.kind,I.ok.glob,I.ok.blt,Nat.le_refl _,λx y c h1 h2=>?_,λx hx=>?_,λx c hfn h=>?_,I.ok.hd,I.ok.frames,.inl rfl,λb hb=>⟨Nat.ne_of_lt (hlt b hb),λx c e=>?_⟩,
   I.bs,Nat.le_trans I.ok.jx I.sz,λb o e hb=>?_,λb hb hb'=>?_,I.stack,I.wQ⟩,
  rfl,I.bare,Un.kept old,⟨_,hns,λi x v h1 h2 h3=>?_⟩,λx c e=>?_,I.hok.fresh (Nat.le_refl _),λx c e=>?_,λp hp=>absurd (show p∈([]:List (Addr × Obj))from hp) (by simp),I.hok.kept old,?_⟩
 .rcases qH _ _ h1 with z1|z1
  .rcases qH _ _ h2 with z2|z2
   .exact name_of_addr ck.apart (PySem.mem_of_lookup z1) (PySem.mem_of_lookup z2)
   .exact absurd (Nat.le_trans (big _ _ z1) (Nat.le_of_lt (Ny _ _ z2))) (Nat.not_succ_le_self _)
  .rcases qH _ _ h2 with z2|z2
   .exact absurd (Nat.le_trans (big _ _ z2) (Nat.le_of_lt (Ny _ _ z1))) (Nat.not_succ_le_self _)
   .exact I.ok.inj x y c z1 z2
 ·-- every cell or free name has its cell
  rcases Nv hx with m|m
  .exact Option.isSome_iff_exists.mp (PySem.W.cellsFrom_some _ _ _ (.inl m))
  .have m:=PySem.mem_of_lookup m
   have q:=oX (cells:=X.env.cells) (acc:=[]) (.inr ⟨m,by
    obtain⟨c,e⟩:=I.ok.has x (S.free _ m rfl)
    rw[e]; rfl⟩)
   exact Option.isSome_iff_exists.mp (PySem.W.cellsFrom_some _ _ _ (.inr q))
 .have hfn:scope.names.lookup x=some .cell:=by
   have z:(scope.names.lookup x == some .cell)=true:=hfn
   simpa using z
  obtain⟨c',e'⟩:=Option.isSome_iff_exists.mp (PySem.W.cellsFrom_some _ (s.heap.objs.size+1) [] (.inl hfn))
  have h:(cellsFrom (s.heap.objs.size+1) scope.names (bV X.env.cells scope.names [])).lookup x=some c:=h
  rw[m6,ud,e']at h
  cases h
  exact Nat.le_of_succ_le (big _ _ e')
 .rcases qH _ _ e with z|z
  .exact λy=>absurd (Nat.le_trans (big _ _ z) (y▸Nat.le_of_lt (hlt b hb))) (Nat.not_succ_le_self _)
  .exact(hf b hb).2.2.2.2.1 x c z
 .obtain⟨f0,f1,f2,f3,f4,f5⟩:=hf b hb
  rcases f3 with z|z
  .exact I.ok.tR b o e z
  .have q:=Heap.lt_size (I.ok.bs b o e).1
   exact absurd q (Nat.not_lt.mpr z)
 .obtain⟨f0,f1,f2,_⟩:=hf b hb
  rcases List.mem_cons.mp (I.wN b hb')with z|z
  .exact f1 z
  .exact f2 z
 .have hi:i<src.length:=by
   unfold cR at h2
   have:=(List.getElem?_eq_some_iff.mp h2).1
   simpa using this
  have h2':((src[i]).bind λj=>(σ[j]?).join)=some v:=by
   unfold cR at h2
   rw[List.getElem?_map,List.getElem?_eq_getElem hi]at h2
   exact Option.some.inj h2
  cases es:src[i]with
  |none=>rw[es]at h2'; cases h2'
  |some j =>
   rw[es]at h2'
   have hj : σ[j]?=some (some v):=by
    have z:(σ[j]?).join=some v:=h2'
    cases q : σ[j]? with
    |none=>rw[q]at z; cases z
    |some o=>rw[q]at z; have z':o=some v:=z; rw[z']
   have hz:(x,some j)∈N.zip src:=by
    refine List.mem_of_getElem? (i:=i) ?_
    rw[List.getElem?_zip_eq_some]
    exact⟨h1,by rw[List.getElem?_eq_getElem hi,es]⟩
   obtain⟨u1,u2⟩:=S.up _ hz j rfl
   have m:(x,NameKind.free)∈scope.names:=PySem.mem_of_lookup u2
   have kx:=S.free _ m rfl
   obtain⟨m0,hn0,hl0⟩:=id I.loc
   obtain⟨u,r,lk⟩:=hl0 j x v u1 hj (kx.elim (λz=>.inr (.inl z)) λz=>.inr (.inr z))
   refine⟨u,r,?_⟩
   rcases lk with⟨k,_⟩|⟨_,c,e,ic⟩
   .have k':X.env.scope.names.lookup x=some .local:=k
    rcases kx with z|z
    .rw[z]at k'; cases k'
    .rw[z]at k'; cases k'
   .refine .inr ⟨Nu u2,c,?_,?_⟩
    .have q:=oX (cells:=X.env.cells) (acc:=[]) (.inr ⟨m,by rw[e]; rfl⟩)
     obtain⟨c',e'⟩:=Option.isSome_iff_exists.mp q
     have e2:X.env.cells.lookup x=some c':=by
      rcases oW e' with q|q
      .simp at q
      .exact q
     rw[e]at e2; cases e2
     show(cellsFrom (s.heap.objs.size+1) scope.names (bV X.env.cells scope.names [])).lookup x=some c
     rw[m6,ud]
     split
     .rename_i c2 z
      have y:=S.cells _ (Du _ _ (PySem.mem_of_lookup z)) rfl
      rw[u2]at y; cases y
     .exact e'
    .obtain⟨o,ho,hd⟩:=ic
     exact⟨o,old _ _ ho,hd⟩
 .rcases qH _ _ e with z|z
  .exact⟨_,(ck.empty x c (PySem.mem_of_lookup z)).1⟩
  .obtain⟨v,o,ho,hd⟩:=I.cell x c z
   exact⟨v,o,old _ _ ho,hd⟩
 .rcases qH _ _ e with z|z
  .exact I.hok.fresh (Nat.le_of_succ_le (big _ _ z))
  .exact I.jy x c z
 .unfold cR
  rw[List.length_map]
  exact S.len
end
noncomputable def Dv(e C:Addr)(h:Heap):Prop:=∃o vs,h.get? e=some o/\o.cls=.ref C/\o.data=.fields vs
noncomputable def xM(e C:Addr):HO:=.ext (Dv e C)
noncomputable def xO:List Str:=["NoBottom", "NoBook", "NoList", "NoRule", "NoCount", "NoLooks", "NoThings", "NotSure", "NoSlack", "NoThing", "NoWorth", "TooMany", "NoText", "NoLine"]
inductive Tr where
 |non|bl (b:Bool)|int (i:Int)|str (x:Str)|tup (ts:List Tr)|lst (ts:List Tr)|bQ (c:Str)
mutual
inductive Rep(K:PySem.W.Frag)(H:Hp):V->Tr->Prop
 |non:Rep K H .non .non
 |bl (b:Bool):Rep K H (.bl b) (.bl b)
 |int (i:Int):Rep K H (.int i) (.int i)
 |str (x:Str):Rep K H (.str x) (.str x)
 |tup {a:Addr} {xs:List V} {ts:List Tr} (h:aW K H a xs) (r:au K H xs ts):Rep K H (.ref a) (.tup ts)
 |lst {a:Addr} {xs:List V} {ts:List Tr} (h:aM K H a xs) (r:au K H xs ts):Rep K H (.ref a) (.lst ts)
 |bQ {a C:Addr} {c:Str} (h:H a=some (xM a C)) (m:c∈xO) (n:PySem.W.nsIn K mainGlobals c=some (some (.ref C))):Rep K H (.ref a) (.bQ c)
inductive au(K:PySem.W.Frag)(H:Hp):List V->List Tr->Prop
 |nil:au K H [] []
 |cons {x:V} {t:Tr} {xs:List V} {ts:List Tr} (h:Rep K H x t) (r:au K H xs ts):au K H (x::xs) (t::ts)
end
theorem Rep.both{K:PySem.W.Frag}{H:Hp}{P:V->Tr->Prop}{Q:List V->List Tr->Prop}(h1:P .non .non)(h2:∀b,P (.bl b) (.bl b))(h3:∀i,P (.int i) (.int i))(h4:∀x,P (.str x) (.str x))(h5:∀a xs ts,aW K H a xs->Q xs ts->P (.ref a) (.tup ts))(h6:∀a xs ts,aM K H a xs->Q xs ts->P (.ref a) (.lst ts))(h7:∀a C c,H a=some (xM a C)->c∈xO->PySem.W.nsIn K mainGlobals c=some (some (.ref C))->P (.ref a) (.bQ c))(h8:Q [] [])(h9:∀x t xs ts,P x t->Q xs ts->Q (x::xs) (t::ts)):(∀{v t},Rep K H v t->P v t)/\∀{vs ts},au K H vs ts->Q vs ts :=
 ⟨λh=>Rep.rec (motive_1:=λv t _=>P v t) (motive_2:=λv t _=>Q v t) h1 h2 h3 h4 (λh _ q=>h5 _ _ _ h q) (λh _ q=>h6 _ _ _ h q) (λh m n=>h7 _ _ _ h m n) h8 (λ_ _ p q=>h9 _ _ _ _ p q) h,λh=>au.rec (motive_1:=λv t _=>P v t) (motive_2:=λv t _=>Q v t) h1 h2 h3 h4 (λh _ q=>h5 _ _ _ h q) (λh _ q=>h6 _ _ _ h q) (λh m n=>h7 _ _ _ h m n) h8 (λ_ _ p q=>h9 _ _ _ _ p q) h⟩
theorem Same.jA{K:PySem.W.Frag}{H H':Hp}{a:Addr}{xs:List V}(e:Same H H')(h:aW K H a xs):aW K H' a xs:=by
 rcases h with(h|⟨o,h⟩)|h
 .exact .inl (.inl (e _ _ h))
 .exact .inl (.inr ⟨o,e _ _ h⟩)
 .exact .inr h
theorem Nz{K:PySem.W.Frag}{H H':Hp}(e:Same H H'):(∀{v t},Rep K H v t->Rep K H' v t)/\∀{vs ts},au K H vs ts->au K H' vs ts:=Rep.both .non .bl .int .str (λ_ _ _ h q=>.tup (e.jA h) q) (λ_ _ _ h q=>.lst (e.seq h) q) (λ_ _ _ h m n=>.bQ (e _ _ h) m n) .nil λ_ _ _ _ p q=>.cons p q
theorem Rep.mono{K:PySem.W.Frag}{H H':Hp}(e:Same H H'){v:V}{t:Tr}(h:Rep K H v t):Rep K H' v t:=(Nz e).1 h
theorem au.mono{K:PySem.W.Frag}{H H':Hp}(e:Same H H'){v:List V}{t:List Tr}(h:au K H v t):au K H' v t:=(Nz e).2 h
theorem au.length{K:PySem.W.Frag}{H:Hp}:∀{v:List V} {t:List Tr},au K H v t->v.length=t.length
 |_,_,.nil=>rfl
 |_,_,.cons _ r=>by rw[List.length_cons,List.length_cons,au.length r]
theorem au.get{K:PySem.W.Frag}{H:Hp}:∀{v:List V} {t:List Tr} {i:Nat} {x:V},au K H v t->v[i]?=some x->∃u,t[i]?=some u/\Rep K H x u
 |_,_,_,_,.nil,e=>by simp at e
 |_,_,0,_,.cons h _,e=>by
  simp at e
  subst e
  exact⟨_,rfl,h⟩
 |_,_,i+1,x,.cons _ r,e=>by
  obtain⟨u,h1,h2⟩:=au.get (i:=i) (x:=x) r (by simpa using e)
  exact⟨u,by simpa using h1,h2⟩
theorem au.app{K:PySem.W.Frag}{H:Hp}:∀{v w:List V} {t u:List Tr},au K H v t->au K H w u->au K H (v++w) (t++u)
 |_,_,_,_,.nil,s=>s
 |_,_,_,_,.cons h r,s=>.cons h (au.app r s)
theorem au.take{K:PySem.W.Frag}{H:Hp}:∀{v:List V} {t:List Tr} (n:Nat),au K H v t->au K H (v.take n) (t.take n)
 |_,_,0,_=>by rw[List.take_zero,List.take_zero]; exact .nil
 |_,_,n+1,.nil=>by simpa using au.nil
 |_,_,n+1,.cons h r=>by
  exact .cons h (au.take n r)
theorem au.drop{K:PySem.W.Frag}{H:Hp}:∀{v:List V} {t:List Tr} (n:Nat),au K H v t->au K H (v.drop n) (t.drop n)
 |_,_,0,r=>by rw[List.drop_zero,List.drop_zero]; exact r
 |_,_,n+1,.nil=>by simpa using au.nil
 |_,_,n+1,.cons h r=>by
  exact au.drop n r
mutual
noncomputable def dep:Tr->Nat
 |.tup ts=>deps ts+1
 |.lst ts=>deps ts+1
 |.bQ _=>100
 |_=>0
noncomputable def deps:List Tr->Nat
 | []=>0
 |t::r=>max (dep t) (deps r)
end
mutual
noncomputable def eqT:Tr->Tr->Bool
 |.non,.non=>true
 |.bl a,.bl b=>a == b
 |.bl a,.int b=>(if a then 1 else 0) == b
 |.int a,.bl b=>a == (if b then 1 else 0)
 |.int a,.int b=>a == b
 |.str a,.str b=>a == b
 |.tup a,.tup b=>gH a b
 |.lst a,.lst b=>gH a b
 |.bQ a,.bQ b=>a == b
 |_,_=>false
noncomputable def gH:List Tr->List Tr->Bool
 | [],[]=>true
 |a::x,b::y=>eqT a b&&gH x y
 |_,_=>false
end
mutual
theorem Dw:∀t:Tr,eqT t t=true
 |.non=>rfl
 |.bl b=>by exact beq_self_eq_true b
 |.int i=>by exact beq_self_eq_true i
 |.str x=>by exact beq_self_eq_true x
 |.tup ts=>by exact Dy ts
 |.lst ts=>by exact Dy ts
 |.bQ c=>by exact beq_self_eq_true c
theorem Dy:∀ts:List Tr,gH ts ts=true
 | []=>rfl
 |t::r=>by show(eqT t t&&gH r r)=true; rw[Dw t,Dy r]; rfl
end
theorem uf:∀{a b:List Tr},a.length≠b.length->gH a b=false
 | [],[],h=>absurd rfl h
 | [],_::_,_=>rfl
 |_::_,[],_=>rfl
 |x::a,y::b,h=>by
  show(_&&gH a b)=false
  rw[uf (a:=a) (b:=b) (by simpa using h),Bool.and_false]
noncomputable def lD(a b:List Tr)(j:Nat):Bool:=match a[j]?,b[j]? with
 |some x,some y=>eqT x y
 |_,_=>true
theorem ug:∀{a b:List Tr},a.length=b.length->(List.range a.length).all (lD a b)=gH a b
 | [],[],_=>rfl
 | [],_::_,h=>by cases h
 |_::_,[],h=>by cases h
 |x::a,y::b,h=>by
  have ih:=ug (a:=a) (b:=b) (by simpa using h)
  rw[List.length_cons,List.range_succ_eq_map,List.all_cons,List.all_map]
  show _=(eqT x y&&gH a b)
  rw[<-ih]
  rfl
section
variable {X:Cx}{pins:List (Addr × Obj)}{σ : St}{H:Hp}{s:Shared}
theorem Inv.acE(I:Inv X pins σ H s)(h:H a=some (xM a C))(p:IsTup s.heap a its):False:=by
 obtain⟨o,_,e1,e2,_⟩:=(I.hok a _ h).1
 obtain⟨o',e1',e2',_⟩:=p
 rw[e1]at e1'
 cases e1'
 rw[e2]at e2'
 cases e2'
theorem Inv.acF(I:Inv X pins σ H s)(h:H a=some (xM a C))(p:PlainL s.heap a its):False:=by
 obtain⟨o,_,e1,e2,_⟩:=(I.hok a _ h).1
 obtain⟨o',_,e1',e2',_⟩:=p
 rw[e1]at e1'
 cases e1'
 rw[e2]at e2'
 cases e2'
theorem acG(I:Inv X pins σ H s):(∀{v t},Rep X.K H v t->dep t<=99->∀u,Rep X.K H v u->t=u)/\∀{vs ts},au X.K H vs ts->deps ts<=99->∀us,au X.K H vs us->ts=us:=by
 refine Rep.both (λ_ u h=>?_) (λ_ _ u h=>?_) (λ_ _ u h=>?_) (λ_ _ u h=>?_) (λa xs ts h q d u h'=>?_) (λa xs ts h q d u h'=>?_) (λa C c h m n d u _=>?_) (λ_ u h=>?_) λx t xs ts p q d u h=>?_
 .cases h; rfl
 .cases h; rfl
 .cases h; rfl
 .cases h; rfl
 .obtain⟨_,_,p,_⟩:=I.tuple h
  cases h' with
  |tup h' r' =>
   have e:=I.Lj h h'
   subst e
   rw[q (by unfold dep at d; lia) _ r']
  |lst h' r' =>
   obtain⟨_,_,p',_⟩:=I.list h'
   exact absurd rfl (SeqAt.ne_of_list_tuple p'.isList p)
  |bQ h' _ _=>exact(I.acE h' p).elim
 .obtain⟨_,_,p,_⟩:=I.list h
  cases h' with
  |tup h' r' =>
   obtain⟨_,_,p',_⟩:=I.tuple h'
   exact absurd rfl (SeqAt.ne_of_list_tuple p.isList p')
  |lst h' r' =>
   have e:=I.wY h h'
   subst e
   rw[q (by unfold dep at d; lia) _ r']
  |bQ h' _ _=>exact(I.acF h' p).elim
 .unfold dep at d; lia
 .cases h; rfl
 .cases h with
  |cons h r =>
   unfold deps at d
   rw[p (by lia) _ h,q (by lia) _ r]
theorem Rep.inj(I:Inv X pins σ H s){v:V}{t u:Tr}(d:dep t<=99)(h:Rep X.K H v t)(h':Rep X.K H v u):t=u:=(acG I).1 h d u h'
theorem in1_units(A:Around):A.in1.units<=A.units+1:=by
 show A.units+1<=_
 lia
theorem xP{xs:List V}{its:List Value}{j:Nat}(r:Vals xs its)(h:j<its.toArray.size):∃x,xs[j]?=some x/\RelV x its.toArray[j]:=by
 have h':j<its.length:=by simpa using h
 have hx:j<xs.length:=by rw[r.length]; exact h'
 obtain⟨u,h1,h2⟩:=r.get (List.getElem?_eq_getElem hx)
 refine⟨xs[j],List.getElem?_eq_getElem hx,?_⟩
 have e:u=its.toArray[j]:=by
  rw[List.getElem?_eq_getElem h']at h1
  have:=Option.some.inj h1
  simpa using this.symm
 rw[<-e]; exact h2
theorem NK{a b:List Tr}{j:Nat}{x y:Tr}(h1:a[j]?=some x)(h2:b[j]?=some y):lD a b j=eqT x y:=by
 unfold lD
 rw[h1,h2]
theorem m7:∀{ts:List Tr} {j:Nat} {t:Tr},ts[j]?=some t->dep t<=deps ts
 | [],_,_,h=>by simp at h
 |x::r,0,t,h=>by
  simp at h
  subst h
  unfold deps
  exact Nat.le_max_left _ _
 |x::r,j+1,t,h=>by
  have:=m7 (ts:=r) (j:=j) (t:=t) (by simpa using h)
  unfold deps
  exact Nat.le_trans this (Nat.le_max_right _ _)
theorem uh(I:Inv X pins σ H s)(A:Around)(t u:Tr)(x y:V)(xv yv:Value)(hu:A.units+0<cLine)(hd:dep t<=0)(du:dep u<=99)(rx:Rep X.K H x t)(ry:Rep X.K H y u)(vx:RelV x xv)(vy:RelV y yv) :
  SeqAt.RcAt A s xv yv (eqT t u)/\SeqAt.EqAt A s xv yv (eqT t u):=by
 have hu0:A.units<cLine:=by lia
 cases rx with
 |tup h r=>unfold dep at hd; lia
 |lst h r=>unfold dep at hd; lia
 |bQ h m n=>unfold dep at hd; lia
 |non =>
  cases vx
  cases ry with
  |non=>cases vy; exact⟨SeqAt.RcAt.none_none,.same _⟩
  |bl b2=>cases vy; exact⟨SeqAt.RcAt.none_bool _,SeqAt.EqAt.none_bool _⟩
  |int i2=>obtain⟨_,rfl⟩:=vy; exact⟨SeqAt.RcAt.none_int _ _,SeqAt.EqAt.none_int _ _⟩
  |str z2=>obtain⟨_,rfl⟩:=vy; exact⟨SeqAt.RcAt.none_str _ _,SeqAt.EqAt.none_str _ _⟩
  |tup h r=>cases vy; obtain⟨_,_,p,_⟩:=I.tuple h; exact⟨SeqAt.RcAt.none_tuple p hu0,SeqAt.EqAt.none_tuple p hu0⟩
  |lst h r=>cases vy; obtain⟨_,_,p,_⟩:=I.list h; exact⟨SeqAt.RcAt.none_list p.isList hu0,SeqAt.EqAt.none_list p.isList hu0⟩
  |bQ h m n=>unfold dep at du; lia
 |bl b =>
  cases vx
  cases ry with
  |non=>cases vy; exact⟨SeqAt.RcAt.bool_none _,SeqAt.EqAt.bool_none _⟩
  |bl b2=>cases vy; exact⟨SeqAt.RcAt.bool_bool _ _,SeqAt.EqAt.bool_bool _ _⟩
  |int i2=>obtain⟨_,rfl⟩:=vy; exact⟨SeqAt.RcAt.bool_int _ _ _,SeqAt.EqAt.bool_int _ _ _⟩
  |str z2=>obtain⟨_,rfl⟩:=vy; exact⟨SeqAt.RcAt.bool_str _ _ _,SeqAt.EqAt.bool_str _ _ _⟩
  |tup h r=>cases vy; obtain⟨_,_,p,_⟩:=I.tuple h; exact⟨SeqAt.RcAt.bool_tuple _ p hu0,SeqAt.EqAt.bool_tuple _ p hu0⟩
  |lst h r=>cases vy; obtain⟨_,_,p,_⟩:=I.list h; exact⟨SeqAt.RcAt.bool_list _ p.isList hu0,SeqAt.EqAt.bool_list _ p.isList hu0⟩
  |bQ h m n=>unfold dep at du; lia
 |int i =>
  obtain⟨_,rfl⟩:=vx
  cases ry with
  |non=>cases vy; exact⟨SeqAt.RcAt.int_none _ _,SeqAt.EqAt.int_none _ _⟩
  |bl b2=>cases vy; exact⟨SeqAt.RcAt.int_bool _ _ _,SeqAt.EqAt.int_bool _ _ _⟩
  |int i2=>obtain⟨_,rfl⟩:=vy; exact⟨SeqAt.RcAt.int_int _ _ _ _,SeqAt.EqAt.int_int _ _ _ _⟩
  |str z2=>obtain⟨_,rfl⟩:=vy; exact⟨SeqAt.RcAt.int_str _ _ _ _,SeqAt.EqAt.int_str _ _ _ _⟩
  |tup h r=>cases vy; obtain⟨_,_,p,_⟩:=I.tuple h; exact⟨SeqAt.RcAt.int_tuple _ _ p hu0,SeqAt.EqAt.int_tuple _ _ p hu0⟩
  |lst h r=>cases vy; obtain⟨_,_,p,_⟩:=I.list h; exact⟨SeqAt.RcAt.int_list _ _ p.isList hu0,SeqAt.EqAt.int_list _ _ p.isList hu0⟩
  |bQ h m n=>unfold dep at du; lia
 |str z =>
  obtain⟨_,rfl⟩:=vx
  cases ry with
  |non=>cases vy; exact⟨SeqAt.RcAt.str_none _ _,SeqAt.EqAt.str_none _ _⟩
  |bl b2=>cases vy; exact⟨SeqAt.RcAt.str_bool _ _ _,SeqAt.EqAt.str_bool _ _ _⟩
  |int i2=>obtain⟨_,rfl⟩:=vy; exact⟨SeqAt.RcAt.str_int _ _ _ _,SeqAt.EqAt.str_int _ _ _ _⟩
  |str z2=>obtain⟨_,rfl⟩:=vy; exact⟨SeqAt.RcAt.str_str _ _ _ _,SeqAt.EqAt.str_str _ _ _ _⟩
  |tup h r=>cases vy; obtain⟨_,_,p,_⟩:=I.tuple h; exact⟨SeqAt.RcAt.str_tuple _ _ p hu0,SeqAt.EqAt.str_tuple _ _ p hu0⟩
  |lst h r=>cases vy; obtain⟨_,_,p,_⟩:=I.list h; exact⟨SeqAt.RcAt.str_list _ _ p.isList hu0,SeqAt.EqAt.str_list _ _ p.isList hu0⟩
  |bQ h m n=>unfold dep at du; lia
theorem xQ(I:Inv X pins σ H s):∀(n:Nat) (A:Around) (t u:Tr) (x y:V) (xv yv:Value),A.units+n<cLine->dep t<=n->dep t<=99->dep u<=99->Rep X.K H x t->Rep X.K H y u->RelV x xv->RelV y yv ->
  SeqAt.RcAt A s xv yv (eqT t u)/\SeqAt.EqAt A s xv yv (eqT t u):=by
 intro n
 induction n with
 |zero=>exact λA t u x y xv yv hu hd _ du rx ry vx vy=>uh I A t u x y xv yv hu hd du rx ry vx vy
 |succ n ih =>
  intro A t u x y xv yv hu hd qI du rx ry vx vy
  have hu0:A.units<cLine:=by lia
  have hu1:A.in1.units+n<cLine:=by
   have:=in1_units A
   lia
  have he:∀{xs ys:List V} {ts us:List Tr} {its its2:List Value},Vals xs its->Vals ys its2->au X.K H xs ts->au X.K H ys us->deps ts<=n->deps ts<=99->deps us<=99->∀j (h1:j<its.toArray.size) (h2:j<its2.toArray.size),SeqAt.EqAt A.in1 s its.toArray[j] its2.toArray[j] (lD ts us j):=by
   intro xs ys ts us its its2 r1 r2 q1 q2 hde hd9 NP j h1 h2
   obtain⟨a,ea,ra⟩:=xP r1 h1
   obtain⟨b,eb,rb⟩:=xP r2 h2
   obtain⟨ta,eta,qa⟩:=q1.get ea
   obtain⟨tb,um,qb⟩:=q2.get eb
   rw[NK eta um]
   exact(ih A.in1 ta tb a b _ _ hu1 (Nat.le_trans (m7 eta) hde) (Nat.le_trans (m7 eta) hd9) (Nat.le_trans (m7 um) NP) qa qb ra rb).2
  have dt:∀{ts:List Tr},dep (.tup ts)<=n+1->deps ts<=n:=λ{ts} h=>by unfold dep at h; lia
  have dl:∀{ts:List Tr},dep (.lst ts)<=n+1->deps ts<=n:=λ{ts} h=>by unfold dep at h; lia
  have nt:∀{ts:List Tr},dep (.tup ts)<=99->deps ts<=99:=λ{ts} h=>by unfold dep at h; lia
  have nl:∀{ts:List Tr},dep (.lst ts)<=99->deps ts<=99:=λ{ts} h=>by unfold dep at h; lia
  have refs:∀{a b:Addr} {t u:Tr} {k:Bool},dep t<=99->Rep X.K H (.ref a) t->Rep X.K H (.ref b) u->k=eqT t u->SeqAt.RcAt A s (.ref a) (.ref b) k->SeqAt.EqAt A s (.ref a) (.ref b) k:=λ{a b t u k} d9 r1 r2 ek h=>by
   by_cases e:a=b
   .subst e
    have:=Rep.inj I d9 r1 r2
    subst this
    rw[ek,Dw]
    exact .same _
   .exact .of_refs e h
  cases rx with
  | @tup a1 xs1 ts h r =>
   cases vx
   obtain⟨its,rv,p,_⟩:=I.tuple h
   cases ry with
   | @tup a2 xs2 us h' r' =>
    cases vy
    obtain⟨its2,fZ,p2,_⟩:=I.tuple h'
    have R:=SeqAt.RcAt.tuples p p2 hu0 (he rv fZ r r' (dt hd) (nt qI) (nt du))
    have el:its.toArray.size=ts.length:=by simpa using(rv.length.symm.trans r.length)
    have el2:its2.toArray.size=us.length:=by simpa using(fZ.length.symm.trans r'.length)
    rw[el,el2]at R
    have eb:((List.range (min ts.length us.length)).all (lD ts us)&&ts.length == us.length)=eqT (.tup ts) (.tup us):=by
     show _=gH ts us
     by_cases e:ts.length=us.length
     .rw[e,Nat.min_self,<-e,ug e,beq_self_eq_true,Bool.and_true]
     .rw[beq_false_of_ne e,Bool.and_false,uf e]
    rw[eb]at R
    exact⟨R,refs qI (.tup h r) (.tup h' r') rfl R⟩
   |lst h' r' =>
    cases vy
    obtain⟨_,_,p2,_⟩:=I.list h'
    exact⟨SeqAt.RcAt.tuple_list p p2.isList hu0,.tuple_list p p2.isList hu0⟩
   |bQ h' m n=>unfold dep at du; lia
   |non=>cases vy; exact⟨SeqAt.RcAt.tuple_none p hu0,.tuple_none p hu0⟩
   |bl b=>cases vy; exact⟨SeqAt.RcAt.tuple_bool _ p hu0,.tuple_bool _ p hu0⟩
   |int i=>obtain⟨_,rfl⟩:=vy; exact⟨SeqAt.RcAt.tuple_int _ _ p hu0,.tuple_int _ _ p hu0⟩
   |str z=>obtain⟨_,rfl⟩:=vy; exact⟨SeqAt.RcAt.tuple_str _ _ p hu0,.tuple_str _ _ p hu0⟩
  | @lst a1 xs1 ts h r =>
   cases vx
   obtain⟨its,rv,p,_⟩:=I.list h
   cases ry with
   | @lst a2 xs2 us h' r' =>
    cases vy
    obtain⟨its2,fZ,p2,_⟩:=I.list h'
    have el:its.toArray.size=ts.length:=by simpa using(rv.length.symm.trans r.length)
    have el2:its2.toArray.size=us.length:=by simpa using(fZ.length.symm.trans r'.length)
    by_cases e:ts.length=us.length
    .have R:=SeqAt.RcAt.lists p.isList p2.isList (by rw[el,el2,e]) hu0 (he rv fZ r r' (dl hd) (nl qI) (nl du))
     rw[el,ug e]at R
     have eb:gH ts us=eqT (.lst ts) (.lst us):=by rfl
     rw[eb]at R
     exact⟨R,refs qI (.lst h r) (.lst h' r') rfl R⟩
    .have R:SeqAt.RcAt A s _ _ false:=SeqAt.RcAt.lists_lengths p.isList p2.isList (by rw[el,el2]; simpa using e) hu0
     have eb:false=eqT (.lst ts) (.lst us):=(uf e).symm
     rw[eb]at R
     exact⟨R,refs qI (.lst h r) (.lst h' r') rfl R⟩
   |tup h' r' =>
    cases vy
    obtain⟨_,_,p2,_⟩:=I.tuple h'
    exact⟨SeqAt.RcAt.list_tuple p.isList p2 hu0,.list_tuple p.isList p2 hu0⟩
   |bQ h' m n=>unfold dep at du; lia
   |non=>cases vy; exact⟨SeqAt.RcAt.list_none p.isList hu0,.list_none p.isList hu0⟩
   |bl b=>cases vy; exact⟨SeqAt.RcAt.list_bool _ p.isList hu0,.list_bool _ p.isList hu0⟩
   |int i=>obtain⟨_,rfl⟩:=vy; exact⟨SeqAt.RcAt.list_int _ _ p.isList hu0,.list_int _ _ p.isList hu0⟩
   |str z=>obtain⟨_,rfl⟩:=vy; exact⟨SeqAt.RcAt.list_str _ _ p.isList hu0,.list_str _ _ p.isList hu0⟩
  |bQ h m n=>unfold dep at qI; lia
  |non=>exact uh I A _ _ _ _ _ _ (by lia) (by unfold dep; lia) du .non ry vx vy
  |bl b=>exact uh I A _ _ _ _ _ _ (by lia) (by unfold dep; lia) du (.bl b) ry vx vy
  |int i=>exact uh I A _ _ _ _ _ _ (by lia) (by unfold dep; lia) du (.int i) ry vx vy
  |str z=>exact uh I A _ _ _ _ _ _ (by lia) (by unfold dep; lia) du (.str z) ry vx vy
end
section
variable {X:Cx}{a b:Expr}{ta tb:TE}{pos:Pos}
noncomputable def Dz(K:PySem.W.Frag):R2:=λx y H Q=>∃t u,Rep K H x t/\Rep K H y u/\dep t<=40/\dep u<=40/\Q (.bl (eqT t u)) H
theorem acH(hu:X.A.units+64<cLine):bh X (compareOp .Eq) (Dz X.K):=by
 intro pins s σ H x y v u Q I rx ry h
 obtain⟨t,t',q1,q2,hd,hd2,q⟩:=h
 exact(xQ I 40 X.A t t' x y v u (by lia) hd (by lia) (by lia) q1 q2 rx ry).1 _ _ _ _ ⟨.bl _,H,I,rfl,q⟩
noncomputable def lE(t:Tr)(ts:List Tr):Bool:=ts.any λu=>eqT u t
noncomputable def DG(K:PySem.W.Frag):R2:=λx y H Q=>∃t ts p xs,Rep K H x t/\y=.ref p/\(aM K H p xs\/aW K H p xs)/\au K H xs ts/\deps ts<=40/\dep t<=40/\Q (.bl (lE t ts)) H
theorem xR{xs:List V}{its:List Value}{ts:List Tr}{K:PySem.W.Frag}{H:Hp}(f:Tr->Bool)(e:Value->Bool)(r:Vals xs its)(q:au K H xs ts)(h:∀x v t,x∈xs->RelV x v->Rep K H x t->t∈ts->e v=f t):its.any e=ts.any f:=by
 induction r generalizing ts with
 |nil=>cases q; rfl
 |cons r1 r2 ih =>
  cases q with
  |cons q1 q2 =>
   rw[List.any_cons,List.any_cons,h _ _ _ List.mem_cons_self r1 q1 List.mem_cons_self,ih q2 λx v t hx hr hq ht=>h x v t (List.mem_cons_of_mem _ hx) hr hq (List.mem_cons_of_mem _ ht)]
theorem qJ:∀{ts:List Tr} {t:Tr},t∈ts->dep t<=deps ts:=λ{ts t} h=>by
 obtain⟨i,hi,e⟩:=List.mem_iff_getElem.mp h
 exact m7 (j:=i) (by rw[List.getElem?_eq_getElem hi,e])
open Classical in
theorem acI(hu:X.A.units+64<cLine):bh X (compareOp .In) (DG X.K):=by
 intro pins s σ H x y v u Q I rx ry h
 obtain⟨t,ts,p,xs,q1,rfl,hq,qs,hd,hd2,q⟩:=h
 cases ry
 have hu1:X.A.in1.units+40<cLine:=by
  have:=in1_units X.A
  lia
 -- what == tells of an item,by the item itself
 let e:Value->Bool:=λw'=>if h:∃z tz,z∈xs/\RelV z w'/\Rep X.K H z tz/\tz∈ts then eqT (Classical.choose (Classical.choose_spec h)) t else false
 have ee:∀z w' tz,z∈xs->RelV z w'->Rep X.K H z tz->tz∈ts->e w'=eqT tz t:=λz w' tz h1 h2 h3 h4=>by
  have hx:∃z tz,z∈xs/\RelV z w'/\Rep X.K H z tz/\tz∈ts:=⟨z,tz,h1,h2,h3,h4⟩
  show(if h:_ then _ else _)=_
  rw[dif_pos hx]
  have sp:=Classical.choose_spec (Classical.choose_spec hx)
  have key:∀z z' t1 t2,RelV z w'->RelV z' w'->dep t1<=99->Rep X.K H z t1->Rep X.K H z' t2->t1=t2:=λz z' t1 t2 a1 a2 d9 a3 a4=>by
   obtain rfl:=RelV.inj a1 a2
   exact Rep.inj I d9 a3 a4
  rw[key _ _ _ _ sp.2.1 h2 (by have:=qJ sp.2.2.2; lia) sp.2.2.1 h3]
 have mem:∀{its:List Value},Vals xs its->∀w'∈its,SeqAt.EqAt X.A.in1 s w' v (e w'):=by
  intro its r w' hw
  obtain⟨j,hj,ej⟩:=List.mem_iff_getElem.mp hw
  have hjx:j<xs.length:=by rw[r.length]; exact hj
  obtain⟨u',h1,h2⟩:=r.get (List.getElem?_eq_getElem hjx)
  rw[List.getElem?_eq_getElem hj,ej]at h1
  cases h1
  obtain⟨tz,h3,h4⟩:=qs.get (List.getElem?_eq_getElem hjx)
  have hm:=List.mem_of_getElem? h3
  rw[ee _ _ tz (List.getElem_mem hjx) h2 h4 hm]
  exact(xQ I 40 X.A.in1 tz t _ x _ v hu1 (Nat.le_trans (qJ hm) hd) (by have:=qJ hm; lia) (by lia) h4 q1 h2 rx).2
 rcases hq with hq|hq
 .obtain⟨its,r,pl,hz⟩:=I.list hq
  refine SeqAt.in_listAt e pl.isList (λw hw=>mem r w (by simpa using hw)) ⟨.bl _,H,I,rfl,?_⟩
  rw[show its.toArray.any e=its.any e by simp,xR (λz=>eqT z t) e r qs λz w' tz h1 h2 h3 h4=>ee z w' tz h1 h2 h3 h4]
  exact q
 .obtain⟨its,r,pl,hz⟩:=I.tuple hq
  refine SeqAt.in_tupleAt e pl (λw hw=>mem r w (by simpa using hw)) ⟨.bl _,H,I,rfl,?_⟩
  rw[show its.toArray.any e=its.any e by simp,xR (λz=>eqT z t) e r qs λz w' tz h1 h2 h3 h4=>ee z w' tz h1 h2 h3 h4]
  exact q
inductive Ty where|int|bool|str|tuple|list
noncomputable def Ty.name:Ty->String
 |.int => "int" |.bool => "bool" |.str => "str" |.tuple => "tuple" |.list => "list"
noncomputable def qK:Tr->Ty->Bool
 |.bl _,.bool=>true|.bl _,.int=>true|.int _,.int=>true|.str _,.str=>true|.tup _,.tuple=>true|.lst _,.list=>true
 |_,_=>false
noncomputable def NQ(K:PySem.W.Frag):List V->Hp->VK->Prop:=λxs H Q=>∃v t c,xs=[v,.ty (Ty.name c)]/\Rep K H v t/\Q (.bl (qK t c)) H
noncomputable def lF(K:PySem.W.Frag):Prop:=∀c∈xO,∀C,PySem.W.nsIn K mainGlobals c=some (some (.ref C))->(∀a,PySem.W.KitX K (.ref a) (.ref C) (Dv a C))/\∀y:Ty,PySem.W.kitOne K (.ref C) (.type y.name)=some false
theorem acJ(hX:lF X.K):eN X (.builtin "isinstance") (NQ X.K):=by
 intro pins s σ H xs us Q I r h
 obtain⟨v,t,c,rfl,q1,q⟩:=h
 obtain⟨u,w',rfl,ru,oK⟩:=vals2 r
 obtain rfl:w'=Value.type (Ty.name c):=oK
 have fin:∀tk,EP X pins σ Q (.bool (qK t c)) {s with toks:=tk }:=λtk=>⟨.bl _,H,I.tok tk,rfl,q⟩
 cases q1 with
 |non=>cases ru; cases c <;> exact PySem.W.kia_one PySem.W.kitx_none I.cZ True.intro (by kernel_rfl) (λz=>nomatch z) fin
 |bl y=>cases ru; cases c <;> exact PySem.W.kia_one PySem.W.kitx_bool I.cZ True.intro (by kernel_rfl) (λz=>nomatch z) fin
 |int i=>obtain⟨_,rfl⟩:=ru; cases c <;> exact PySem.W.kia_one PySem.W.kitx_int I.cZ True.intro (by kernel_rfl) (λz=>nomatch z) fin
 |str y=>obtain⟨_,rfl⟩:=ru; cases c <;> exact PySem.W.kia_one PySem.W.kitx_str I.cZ True.intro (by kernel_rfl) (λz=>nomatch z) fin
 |tup h r =>
  cases ru
  obtain⟨_,_,⟨o,h1,h2,_⟩,_⟩:=I.tuple h
  cases c <;> exact PySem.W.kia_one PySem.W.kitx_tuple I.cZ ⟨o,h1,h2⟩ (by kernel_rfl) (λz=>nomatch z) fin
 |lst h r =>
  cases ru
  obtain⟨_,_,p,_⟩:=I.list h
  obtain⟨o,h1,h2,_⟩:=p.isList
  cases c <;> exact PySem.W.kia_one PySem.W.kitx_list I.cZ ⟨o,h1,h2⟩ (by kernel_rfl) (λz=>nomatch z) fin
 |bQ h m n =>
  cases ru
  obtain⟨z1,z2⟩:=hX _ m _ n
  exact PySem.W.kia_one (z1 _) I.cZ (I.hok _ _ h).1 (z2 c) (λz=>nomatch z) fin
noncomputable def DK(K:PySem.W.Frag):List V->Hp->VK->Prop:=λxs H Q=>∃(p:Addr) (bs:List Bool),xs=[.ref p]/\aM K H p (bs.map V.bl)/\Q (.bl (bs.all id)) H
theorem acK(hc:X.calm=true):eN X (.builtin "all") (DK X.K):=by
 intro pins s σ H xs us Q I r h
 obtain⟨p,bs,rfl,hq,q⟩:=h
 obtain⟨u,rfl,ru⟩:=vals1 r
 cases ru
 obtain⟨its,rv,pl,hz⟩:=I.list hq
 refine call_all_walk (wpAny_pyIter_list pl.isList ?_)
 obtain⟨ol,hol,hol'⟩:=id pl.isList
 have hlt:p<s.heap.objs.size:=Heap.lt_size hol
 have hlen:its.toArray.size=bs.length:=by simpa using rv.length.symm
 have at_:∀(i:Nat) (v:Value),its.toArray[i]?=some v->∃k,bs[i]?=some k/\v=Value.bool k:=λi v e=>by
  have e':its[i]?=some v:=by simpa using e
  have hi:i<its.length:=(List.getElem?_eq_some_iff.mp e').1
  have hb:i<(bs.map V.bl).length:=by rw[rv.length]; exact hi
  obtain⟨u',h1,h2⟩:=rv.get (List.getElem?_eq_getElem hb)
  rw[e']at h1
  cases h1
  have hb':i<bs.length:=by simpa using hb
  refine⟨bs[i],List.getElem?_eq_getElem hb',?_⟩
  rw[List.getElem_map]at h2
  exact h2
 refine⟨s.heap.objs.size,_,_,_,_,_,λi=>bs.getD i true,rfl,Walks.list (A:=X.A.in1) (I.ok.hd hc) s.heap.objs.size p (Nat.ne_of_lt hlt) its.toArray,⟨⟨_,Heap.get?_push_size _ rfl,rfl,rfl⟩,⟨ol,Heap.get?_push_of_some _ hol,hol'⟩⟩,?_,?_⟩
 .intro i v s' Q' E' hP hQ'
  obtain⟨k,h1,rfl⟩:=at_ i v hP
  have:bs.getD i true=k:=by rw[List.getD_eq_getElem?_getD,h1]; rfl
  dsimp only at hQ'
  rw[this]at hQ'
  exact wpAny_truthy_bool hQ'
 .intro h' tk hk
  have I1:Inv X pins σ H {s with heap:=h',toks:=tk }:=I.kept λb o e=>hk b o (by
   have:=Heap.lt_size e
   simp
   exact Nat.ne_of_lt this) (Heap.get?_push_of_some _ e)
  refine⟨.bl _,H,I1,rfl,?_⟩
  have eq:(List.range its.toArray.size).all (λi=>bs.getD i true)=bs.all id:=by
   rw[hlen]
   clear q hq rv at_ hlen hz
   induction bs with
   |nil=>rfl
   |cons b r ih =>
    rw[List.length_cons,List.range_succ_eq_map,List.all_cons,List.all_map,List.all_cons]
    exact congrArg (b && ·) ih
  rw[eq]
  exact q
end
noncomputable def Df(P:Program)(w:World)(K:PySem.W.Frag)(mg:Str->Option Value)(base:Heap)(k:Nat)(x:Str)(ps:List Str)(sp:Sp):Prop :=
 ∃f fd,dg P w K mg base Dr k f fd ps sp/\Binds K fd ps []/\PySem.W.keepIn K (.ref f)=true/\mg x=some (.ref f)
theorem Df.mono{P:Program}{w:World}{K:PySem.W.Frag}{mg:Str->Option Value}{base:Heap}{j k:Nat}{x:Str}{ps:List Str}{sp:Sp}(D:Df P w K mg base j x ps sp)(h:j<=k):Df P w K mg base k x ps sp:=by
 obtain⟨f,fd,h1,h2⟩:=D
 exact⟨f,fd,h1.mono h,h2⟩
noncomputable def At(K:PySem.W.Frag)(mg:Str->Option Value)(x:Str)(st:Stmt):Prop:=∃f fd,iV K x x st f fd/\mg x=some (.ref f)
section
variable {X:Cx}{k:Nat}{x:Str}{ps:List Str}{sp:Sp}{p q pos:Pos}{e:Expr}{es:List Expr}{te:TE}{t:TA}
theorem acL(hX:lF X.K)(c:Ty)(he:PE X e te)(h1:X.mg "isinstance" = none) (h2:X.mg x=none) (hb:bootBuiltins x=some (.type c.name):=by decide +kernel) (hg1:Gl X "isinstance" := by rfl) (hg2:Gl X x:=by rfl) (hn:x ≠ "__name__" := by decide) (hd:(x == ("__debug__" : Str))=false:=by decide)
  (hs:starEach (e::[.Name x q]) X.env=(false,eval e X.env)::starEach [.Name x q] X.env:=by rfl):PE X (.Call (.Name "isinstance" p) [e,.Name x q] [] pos) (xH (NQ X.K) (CV te (CV (tC (.ty c.name)) CT))) :=
 MN (acJ hX) hg1 h1 PyProof.Rows.boot_isinstance (qD he (qD (aau hg2 h2 hb rfl hn hd) xG) hs) (he:=hs)
end
structure Pj(Pr:Hp->Hp)(H0:Hp):Prop where
 mono:∀{H H':Hp},Same H H'->Same (Pr H) (Pr H')
 sub:∀H,Same (Pr H) H
 new:∀{H:Hp} {r:Addr} {o:HO},Same H0 H->H r=none->Pr (upd H r o) r=some o
theorem Pj.id(H0:Hp):Pj (λH=>H) H0:=⟨λs=>s,λH=>Same.refl H,λ_ _=>bN⟩
theorem Pj.le(p:Pj Pr H0)(s:Same H0 H1):Pj Pr H1:=⟨p.mono,p.sub,λs' h=>p.new (s.trans s') h⟩
theorem fC(h:H p=none)(o:HO):Same H (upd H p o):=λb u q=>by rw[aH (iJ q h)]; exact q
section
variable (K:PySem.W.Frag)(Pr:Hp->Hp)(σ : St)(H0:Hp)
noncomputable def Ev(te:TE)(T:Tr):Prop:=∀(H:Hp) (Q:VK),Same H0 H->(∀v H',Same H H'->Rep K (Pr H') v T->Q v H')->te σ H Q
noncomputable def NT(te:TE)(Ts:List Tr):Prop:=∀(H:Hp) (Q:VK),Same H0 H->(∀a xs H1,Same H H1->H1 a=none->au K (Pr H1) xs Ts->xs.length=Ts.length->Q (.ref a) (upd H1 a (.lst xs)))->te σ H Q
end
section
variable {K:PySem.W.Frag}{Pr:Hp->Hp}{σ : St}{H0:Hp}{te tb:TE}{ta:TA}{T:Tr}{Ts Us:List Tr}
theorem NT.ev(p:Pj Pr H0)(h:NT K Pr σ H0 te Ts):Ev K Pr σ H0 te (.lst Ts):=λH Q s k =>
 h H _ s λa xs H1 s1 ha r _=>k (.ref a) _ (s1.trans (fC ha _)) (.lst (aM.of (p.new (s.trans s1) ha)) (r.mono (p.mono (fC ha _))))
end
noncomputable def notStar:Expr->Bool
 |.Starred _ _=>false
 |_=>true
theorem iy(h:notStar e=true):starEach (e::es) env=(false,eval e env)::starEach es env:=by
 cases e <;> first|rfl|(unfold notStar at h; cases h)
noncomputable def oY(K:PySem.W.Frag)(T:Tr):TE:=λ_ H Q=>∀v H',Same H H'->(∀Pr,Pj Pr H->Rep K (Pr H') v T)->Q v H'
noncomputable def qL(K:PySem.W.Frag)(Ts:List Tr):TA:=λ_ H Q=>∀vs H',Same H H'->(∀Pr,Pj Pr H->au K (Pr H') vs Ts)->Q vs H'
noncomputable def DN(K:PySem.W.Frag)(Ts:List Tr):TE:=λ_ H Q=>∀a xs H1,Same H H1->H1 a=none->(∀Pr,Pj Pr H->au K (Pr H1) xs Ts)->xs.length=Ts.length->Q (.ref a) (upd H1 a (.lst xs))
theorem PE.imp(h:PE X e t)(i:∀σ H Q,u σ H Q->t σ H Q):PE X e u:=⟨λpins s σ H Q I q=>h pins s σ H Q I (i σ H Q q)⟩
theorem PA.imp(h:PA X e t)(i:∀σ H Q,u σ H Q->t σ H Q):PA X e u:=⟨λpos pins s σ H Q I q=>h pos pins s σ H Q I (i σ H Q q)⟩
mutual
noncomputable def pd:Tr->PyData
 |.non=>.none
 |.bl b=>.bool b
 |.int i=>.int i
 |.str x=>.str x
 |.tup ts=>.tuple (DP ts)
 |.lst ts=>.list (DP ts)
 |.bQ _=>.none
noncomputable def DP:List Tr->List PyData
 | []=>[]
 |t::r=>pd t::DP r
end
noncomputable def nw(H H':Hp):Hp:=λb=>match H b with
 |none=>H' b
 |some _=>none
noncomputable def But(p:Addr)(H H':Hp):Prop:=∀b u,b≠p->H b=some u->H' b=some u
theorem But.refl(p:Addr)(H:Hp):But p H H:=λ_ _ _ e=>e
theorem But.trans(a:But p H H1)(b:But p H1 H2):But p H H2:=λx u n e=>b x u n (a x u n e)
theorem But.put(p:Addr)(H:Hp)(o:HO):But p H (upd H p o):=λb u n e=>by rw[aH n]; exact e
theorem But.new(h:H r=none)(o:HO):But p H (upd H r o):=λb u _ e=>fC h o b u e
theorem But.free(h:But p H H')(hp:H' p=some o)(e:H' b=none):H b=none:=by
 cases e':H b with
 |none=>rfl
 |some u =>
  by_cases n:b=p
  .rw[n,hp]at e; cases e
  .rw[h b u n e']at e; cases e
noncomputable def eO(P:Program)(w:World):gG:=λouter H s E e s'=>∃ea cls a0 H' B,e=.ref ea/\E cls none H'/\s'.os=s.os/\AllBare s'.gens/\Un (frs outer) [] H H' s.heap s'.heap/\bZ P w H' B /\
 Heap.FlyingW B outer ea cls a0 s'.heap/\∀b o,s.heap.get? b=some o->b∉frs outer->∃o',B.get? b=some o'
theorem acM(hf:env.frame=some L)(h:b∈frs (env::outer)):b=L\/b∈frs outer:=by
 unfold frs at h
 rw[List.filterMap_cons_some hf]at h
 exact List.mem_cons.mp h
theorem acN(h:b∈frs outer):b∈frs (env::outer):=by
 obtain⟨e,he,q⟩:=List.mem_filterMap.mp h
 exact List.mem_filterMap.mpr ⟨e,List.mem_cons_of_mem _ he,q⟩
theorem acO(x:bZ P w H h)(fr:∀b∈l,H b=none):bZ P w H (PySem.W.hideAll h l):=λa o e =>
 (x a o e).stay (λb u hb q=>PySem.W.hideAll_get _ q λhm=>by
  rcases hb with rfl|hb
  .rw[fr _ hm]at e; cases e
  .rw[fr _ hm]at hb; cases hb) (λ_ q=>q) λ_ _ q=>q
section
variable {P:Program}{w:World}{K:PySem.W.Frag}{mg:Str->Option Value}{base:Heap}{N:List Str}{qual:Str}{scope:Scope}{f:Addr}{cd:Value}{A:Around}{outer:List Env}{s:Shared}{H:Hp}{E:XK}{CX:gG}
theorem Un.left{pins:List (Addr × Obj)}{σ : St}{H1 H2:Hp}{s1:Shared}{h2 h3 B:Heap}(I:Inv (fY CX P w K mg base N qual scope f cd A outer s H E) pins σ H1 s1)
  (u:Un (frs (envOfC qual scope s.heap.objs.size f cd::outer)) [] H1 H2 s1.heap h2) (st:B.StaysIn h2) (kb:∀b o,s1.heap.get? b=some o->b∉frs (envOfC qual scope s.heap.objs.size f cd::outer)->∃o',B.get? b=some o')
  (fl:B.StaysIn h3) (sl:h2.UpToSlots h3):Un (frs outer) [] H H2 s.heap h3/\∀b o,s.heap.get? b=some o->b∉frs outer->∃o',B.get? b=some o':=by
 have ub:=I.base
 have hf:(envOfC qual scope s.heap.objs.size f cd).frame=some s.heap.objs.size:=by
  rcases I.ok.stk with z|z
  .exact absurd (congrArg List.length z) (by show outer.length+1≠outer.length; lia)
  .exact z.2
 have no:∀b o,s.heap.get? b=some o->b∉frs outer->b∉frs (envOfC qual scope s.heap.objs.size f cd::outer):=λb o e n z=>by
  rcases acM hf z with rfl|z
  .exact absurd (Heap.lt_size e) (Nat.lt_irrefl _)
  .exact n z
 have nx:∀b:Addr,b∉([]:List Addr):=λb z=>nomatch z
 have inB:∀b o,s.heap.get? b=some o->b∉frs outer->∃o',B.get? b=some o':=λb o e n=>by
  obtain⟨o1,e1⟩:=ub.there b o e (nx b)
  exact kb b o1 e1 (no b o e n)
 have slots:∀b o,s.heap.get? b=some o->H b=none->b∈frs outer->∃sl,h3.get? b=some {o with slots:=sl }:=λb o e n z=>by
  obtain⟨NZ,e1⟩:=ub.slot b o e n z (nx b)
  obtain⟨sl2,e2⟩:=u.slot b _ e1 (ub.free b o e n (nx b)) (acN z) (nx b)
  obtain⟨_,o',e',nf⟩:=I.ok.ig.mem z
  have e'':s.heap.get? b=some o':=e'
  rw[e]at e''
  cases e''
  obtain⟨DQ,e3⟩:=sl b _ e2 nf
  exact⟨DQ,e3⟩
 refine⟨⟨λb o e n z _=>?_,λb o e n z _=>slots b o e n z,λb o e n _=>?_,λb o e _=>?_,λb xs q=>u.tups b xs (ub.tups b xs q),λb o q z=>u.gD b o q (ub.gD b o q z),λb ps q=>?_⟩,inB⟩
 .have e1:=ub.keep b o e n z (nx b)
  have e2:=u.keep b o e1 (ub.free b o e n (nx b)) (no b o e z) (nx b)
  obtain⟨o',e3⟩:=inB b o e z
  have e4:=st b o' e3
  rw[e2]at e4
  cases e4
  exact fl b o e3
 .obtain⟨o1,e1⟩:=ub.there b o e (nx b)
  exact u.free b o1 e1 (ub.free b o e n (nx b)) (nx b)
 .by_cases z:b∈frs outer
  .obtain⟨sl,e1⟩:=slots b o e (I.ok.lq b z) z
   exact⟨_,e1⟩
  .obtain⟨o',e1⟩:=inB b o e z
   exact⟨o',fl b o' e1⟩
 .obtain⟨m1,e1⟩:=ub.gF b ps q
  obtain⟨m2,e2⟩:=u.gF b _ e1
  exact⟨m1++m2,by rw[e2,Array.append_assoc]⟩
end
noncomputable def Raises(X:Cx)(E:XK):Prop:=∀(pins:List (Addr × Obj)) (σ : St) (H:Hp) (s:Shared) (h':Heap) (e C:Addr) (us:List Value),Inv X pins σ H s->Heap.MadeExcOf s.heap h' e (.ref C) us->E (.ref C) none H->X.xe (.ref e) {s with heap:=h' }
theorem xU{P:Program}{w:World}{K:PySem.W.Frag}{mg:Str->Option Value}{base:Heap}{N:List Str}{qual:Str}{scope:Scope}{f:Addr}{cd:Value}{A:Around}{outer:List Env}{s:Shared}{H:Hp}{E:XK} :
  Raises (fY (eO P w) P w K mg base N qual scope f cd A outer s H E) E:=by
 intro pins σ H1 s1 h' e C us I hx q
 have hs:=I.stack
 have hf:(envOfC qual scope s.heap.objs.size f cd).frame=some s.heap.objs.size:=by
  rcases I.ok.stk with z|z
  .exact absurd (congrArg List.length z) (by show outer.length+1≠outer.length; lia)
  .exact z.2
 have hin:∀env∈(envOfC qual scope s.heap.objs.size f cd::outer),∀a,env.frame=some a->a∈frs (envOfC qual scope s.heap.objs.size f cd::outer):=λenv he b hb=>List.mem_filterMap.mpr ⟨env,he,hb⟩
 have N5:(PySem.W.hideAll s1.heap (frs (envOfC qual scope s.heap.objs.size f cd::outer))).StaysIn s1.heap:=λb o z=>PySem.W.of_hideAll _ z
 have stH:=λb o z=>hx.keeps b o (N5 b o z)
 refine wpAny_leaves_madeW (base:=PySem.W.hideAll s1.heap (frs (envOfC qual scope s.heap.objs.size f cd::outer))) (h:=s1.heap) I.ok.frames hf N5 (PySem.W.funFrames_hide hs hin) hx λh'' t fl _ _ sl=>?_
 obtain⟨un,ib⟩:=Un.left (B:=PySem.W.hideAll s1.heap (frs (envOfC qual scope s.heap.objs.size f cd::outer))) I (Un.kept (h':=h') hx.keeps) stH (λb o z n=>⟨o,PySem.W.hideAll_get _ z n⟩) fl.1 sl
 exact⟨e,.ref C,.ref t,H1,_,rfl,q,I.os,I.bare,un,acO I.hok I.wQ,fl,ib⟩
theorem xV{P:Program}{w:World}{K:PySem.W.Frag}{mg:Str->Option Value}{base:Heap}{N:List Str}{qual:Str}{scope:Scope}{f:Addr}{cd:Value}{A:Around}{outer:List Env}{s:Shared}{H:Hp}{E:XK} :
  Passes (eO P w) (fY (eO P w) P w K mg base N qual scope f cd A outer s H E) E:=by
 intro pins σ H1 s1 e s' I h
 obtain⟨ea,cls,a0,H2,B,rfl,q,os,bare,un,hok,fl,kb⟩:=h
 have hf:(envOfC qual scope s.heap.objs.size f cd).frame=some s.heap.objs.size:=by
  rcases I.ok.stk with z|z
  .exact absurd (congrArg List.length z) (by show outer.length+1≠outer.length; lia)
  .exact z.2
 refine wpAny_leaves_onW (base:=B) I.ok.frames hf fl λh'' xW sl=>?_
 obtain⟨un',ib⟩:=Un.left (B:=B) I un fl.1 kb xW.1 sl
 exact⟨ea,cls,a0,H2,B,rfl,q,os.trans I.os,bare,un',hok,xW,ib⟩
noncomputable def acP(E:XK)(C:Addr)(te:TE):TS:=λ_ σ H=>te σ H λv H1=>[v].length=1/\E (.ref C) none H1
theorem acQ(R:Raises X E)(O:OwnCls x C bm newId X.mg X.base)(FB:ExcBaseFacts B newId initId bm)(hc:X.calm=true)(ha:PE X e te)
  (hg:Gl X x:=by rfl) (hd:(x == ("__debug__" : Str))=false:=by decide) (hs:starEach [e] X.env=[(false,eval e X.env)]:=by rfl) :
  PS X (.Raise (some (.Call (.Name x np) [e] [] cpos)) none pos) (acP E C te):=by
 refine⟨λpins s σ H D I h=>?_⟩
 obtain⟨tl,N,nm,q,bs,hdct,sn,sub,ab,col,dd,k0,k1,k2,k3,k5,mN,hC,hN,hni,T⟩:=O.obj
 refine wpAny_Raise_call_subT (C:=C) (nm:=nm) (q:=q) (N:=N) (bs:=bs) (bm:=tl) (hdct:=hdct) (sn:=sn) (sub:=sub) (ab:=ab) (col:=col) (dd:=dd) (k0:=k0) (k1:=k1) (k2:=k2) (k3:=k3) (k5:=k5)
  FB (mN:=mN) (T.hasType FB.hasBase) (I.ok.hd hc) (by rw[hs]; rfl) hni (wW I hg O.bound ⟨rfl,?_⟩ hd)
 have ga:=qD ha xG (by rw[hs]; rfl)
 have z:=ga cpos pins s σ H (λvs H1=>vs.length=1/\E (.ref C) none H1) I (by
  exact h)
 rw[hs]at z ⊢
 refine Calls.evalArgs_plain (wpAny_mono z (λus s₂ h₂=>?_) λ_ _ y=>y)
 obtain⟨vs,H2,I2,rv,hl,hE⟩:=h₂
 refine⟨rfl,?_,I2.bk _ _ hC,hN.keeps I2.bk,T.keeps I2.bk,λh' e' hm=>R pins σ H2 s₂ h' e' C us I2 hm hE⟩
 rw[<-rv.length,hl]
 decide
noncomputable def XP(X:Cx)(pins:List (Addr × Obj))(EX:St->XK)(e:Value)(s':Shared):Prop:=∃σ H s,Inv X pins σ H s/\eO X.prog X.w X.stack H s (EX σ) e s'
noncomputable abbrev TX:=Ends->(St->XK)->St->Hp->Prop
noncomputable abbrev TEX:=(St->XK)->TE
theorem fO.here{P:Program}{w:World}{H:Hp}{h:Heap}{a:Addr}{o:HO}(x:fO P w H h a o):∃u,h.get? a=some u:=by
 cases o with
 |lst xs=>obtain⟨_,_,_,_,e⟩:=x; exact⟨_,e⟩
 |tup xs=>obtain⟨_,_,_,_,e,_⟩:=x; exact⟨_,e⟩
 |ins C dx fs=>obtain⟨_,_,_,e,_⟩:=x; exact⟨_,e⟩
 |own y=>exact x
 |rng lo hi=>obtain⟨_,_,_,e⟩:=x; exact⟨_,e⟩
 |cL ob u=>obtain⟨e,_⟩:=x; exact⟨_,e⟩
 |bM ps=>exact⟨_,(show h.get? a=some _ from x)⟩
 |ext φ=>exact x.2.1
end L2
end
section
namespace L2
open PySem PySem.Spec PyProof.Rows PySem.W PySem.Builtin PySem.Builtin.ObjectAttr PySem.Builtin.Getset_descriptor
structure m8(K:Frag)(C:Addr):Prop where
 ga:findIn K (.ref C) "__getattribute__" = some (some (.builtin "BaseException.__getattribute__"))
 gn:findIn K (.ref C) "__getattr__" = some none
 cl:findIn K (.ref C) "__class__" = some (some (.builtin "object.__class__"))
 ob:mroIn K C (.type "object")=some true
 be:mroIn K C (.type "BaseException")=some true
 is:(clsIn K C).isSome=true
section
variable {prog:Program}{w:World}{A:Around}{E:Value->Shared->Prop}{h:Heap}{g:Array GenState}{d:Drawn}{t:Nat}{os:OsState}{a C:Addr}{o:Obj}{K:Frag}
theorem acR(X:K.In h)(Z:m8 K C)(hx:h.get? a=some o)(hc:o.cls=.ref C)(hq:R (.ok (.ret (.ref C))) ⟨h,g,d,t,os⟩) :
  codeAny (model prog w) A (.call (.builtin "getset_descriptor.__get__") ⟨[.builtin "object.__class__",.ref a,.ref C],[]⟩) R ⟨h,g,d,t,os⟩:=by
 have ty:Looks (model prog w) h (typeOf (.ref a)) (.ref C):=hc▸(Looks.ld hx).andThen .now
 have ms:=looks_mroIn (M:=model prog w) X Z.ob
 refine codeAny_call_builtin KF.slot_gs.plain KF.entry_gs (KF.slot_gs.check _ _ _ _ _ _ _ _ KF.type_class (KF.args_gs _ _ _) ?_)
 unfold Builtin.«getset_descriptor.__get__»
 unfold Builtin.Getset_descriptor.descrGet
 rw[dga_obj]
 refine wpAny_bind (wpAny_pure ?_)
 unfold Builtin.Getset_descriptor.descrGetter
 unfold Builtin.Getset_descriptor.descrCheckInstance
 unfold Builtin.Getset_descriptor.descrNameAndClass
 unfold isInstance
 simp only[KF.owner_class]
 repeat lk
 refine⟨Code.quiet_builtin _ (by decide +kernel),codeAny_builtin KF.entry_class ?_⟩
 unfold Builtin.«object.__class__»
 unfold shownTypeOf
 repeat lk
 all_goals first|exact hq|assumption
theorem acS(X:K.In h)(Z:m8 K C)(hx:h.get? a=some o)(hc:o.cls=.ref C)(hq:Q (.done (.ret (.ref C))) ⟨h,g,d,t,os⟩) :
  wpAny (model prog w) A (Builtin.«object.__getattribute__» ⟨[.ref a,.str "__class__" tk],[]⟩) Q E ⟨h,g,d,t,os⟩:=by
 have hT5:(⟨h,g,d,t,os⟩:Shared).TypeIs (.builtin "object.__class__") "getset_descriptor" := KF.type_class
 have f6:=F.slot_gs_get.lookup
 have f7:=F.slot_gs_set.lookup
 have lc:=λA (Q:Option Value->Shared->Prop) E (q:Q (some (.builtin "object.__class__")) ⟨h,g,d,t,os⟩)=>looks_findIn (M:=model prog w) X Z.cl A Q E ⟨h,g,d,t,os⟩ (λ_ _ z=>z) q
 repeat(any_goals (first|assumption|(with_reducible refine wpAny_loadPart_at hx ?_; rw[hc])|with_reducible refine lc _ _ _ ?_|wp_step))
 refine acR X Z hx hc ?_
 repeat(any_goals (first|assumption|wp_step))
theorem acT(X:K.In h)(Z:m8 K C)(hx:h.get? a=some o)(hc:o.cls=.ref C)(hq:Q () ⟨h,g,d,t,os⟩) :
  wpAny (model prog w) A (checkBuiltinCall "BaseException.__getattribute__" ⟨[.ref a,nameV],[]⟩) Q E ⟨h,g,d,t,os⟩:=by
 have b1:builtinKind "BaseException.__getattribute__" = some .slot:=by decide +kernel
 have b2:splitId "BaseException.__getattribute__" = some ("BaseException", "__getattribute__"):=by decide +kernel
 have ha:=F.args_bexc_ga (.ref a) nameV
 have lc:=λA (Q:Bool->Shared->Prop) E (q:Q true ⟨h,g,d,t,os⟩)=>looks_mroIn (M:=model prog w) X Z.be A Q E ⟨h,g,d,t,os⟩ (λ_ _ z=>z) q
 simp only[checkBuiltinCall,b1,b2]
 refine wpAny_bind ?_
 unfold isInstance
 repeat(first|(with_reducible refine wpAny_loadPart_at hx ?_; rw[hc])|with_reducible refine lc _ _ _ ?_|wp_step)
 exact hq
theorem acU(X:K.In h)(Z:m8 K C)(hx:h.get? a=some o)(hc:o.cls=.ref C)(hq:R (.ok (.ret (.ref C))) ⟨h,g,d,t,os⟩) :
  codeAny (model prog w) A (.call (.builtin "BaseException.__getattribute__") ⟨[.ref a,.str "__class__" tk],[]⟩) R ⟨h,g,d,t,os⟩ :=
 codeAny_call_builtin PySem.F.attr_ValueError.ga.plain F.entry_bexc_ga (acT X Z hx hc (acS X Z hx hc hq))
theorem acV(X:K.In h)(Z:m8 K C)(hx:h.get? a=some o)(hc:o.cls=.ref C)(hq:Q (.ref C) ⟨h,g,d,t,os⟩) :
  wpAny (model prog w) A (getAttrBy (.ref a) (.str "__class__" tk) false) Q E ⟨h,g,d,t,os⟩:=by
 have f3:=PySem.F.attr_ValueError.ga.bind (.ref a)
 have hx2:(Value.builtin "BaseException.__getattribute__" == Value.builtin "object.__getattribute__")=false:=by decide +kernel
 have hx1:(onTheHeap (Value.ref C)&&Value.builtin "BaseException.__getattribute__" == Value.builtin "object.__getattribute__")=false:=by rw[hx2]; rfl
 have l1:=λA (Q:Option Value->Shared->Prop) E (q:Q (some (.builtin "BaseException.__getattribute__")) ⟨h,g,d,t,os⟩)=>looks_findIn (M:=model prog w) X Z.ga A Q E ⟨h,g,d,t,os⟩ (λ_ _ z=>z) q
 have l2:=λA (Q:Option Value->Shared->Prop) E (q:Q none ⟨h,g,d,t,os⟩)=>looks_findIn (M:=model prog w) X Z.gn A Q E ⟨h,g,d,t,os⟩ (λ_ _ z=>z) q
 repeat(any_goals (first|assumption|(with_reducible refine wpAny_loadPart_at hx ?_; rw[hc])|with_reducible refine l1 _ _ _ ?_|with_reducible refine l2 _ _ _ ?_|wp_step))
 refine acU X Z hx hc ?_
 repeat(any_goals (first|assumption|wp_step))
theorem acW(X:K.In h)(Z:m8 K C)(hx:h.get? a=some o)(hc:o.cls=.ref C)(hq:Q (some (.ref C)) ⟨h,g,d,t+1,os⟩) :
  wpAny (model prog w) A (getAttr? (.ref a) "__class__") Q E ⟨h,g,d,t,os⟩:=by
 repeat(any_goals (first|assumption|with_reducible apply acV X Z hx hc|wp_step))
theorem acX(Z:m8 K C):KitX K (.ref a) (.ref C) (Dv a C) where
 ty:=λ_ _ _ ⟨o,_,h1,h2,_⟩=>h2▸(Looks.ld h1).andThen .now
 it:=λ_ _ X _=>by
  obtain⟨cd,e⟩:=Option.isSome_iff_exists.mp Z.is
  unfold clsIn at e
  split at e
  .rename_i ho
   intro A' Q' E' s' k q
   unfold isType loadHead
   exact wpAny_bind (wpAny_loadPart (k _ _ (X _ _ ho)) (wpAny_pure q))
  .cases e
 ne:=λh tp dd its n sl X htp=>by
  obtain⟨cd,e⟩:=Option.isSome_iff_exists.mp Z.is
  refine Bool.eq_false_iff.mpr λq=>?_
  have q':C=tp:=Value.ref.inj (beq_iff_eq.mp q)
  subst q'
  unfold clsIn at e
  split at e
  .rename_i ho
   have z:=(X _ _ ho).symm.trans htp
   cases z
  .cases e
 ca:=λ{_ _ _ _ _ s} X p k=>by
  obtain⟨h,g,d,t,os⟩:=s
  obtain⟨o,_,h1,h2,_⟩:=p
  exact acW X Z h1 h2 k
end
open PySem
theorem acY(a b:Int):a=b*a.fdiv b+a.fmod b:=by
 have:=Int.mul_fdiv_add_fmod a b
 omega
theorem acZ(a b:Int)(h:b≠0):(a.fmod b).natAbs<b.natAbs:=by
 have h1:=Int.emod_nonneg a h
 have h2:=Int.emod_lt a h
 rw[Int.fmod_eq_emod]
 split
 .omega
 .rename_i hn
  have hb:¬0<=b:=λz=>hn (.inl z)
  have hd:¬b∣a:=λz=>hn (.inr z)
  have h3:a%b≠0:=λz=>hd (Int.dvd_of_emod_eq_zero z)
  omega
theorem ac0(a b:Int):Int.gcd b (a.fmod b)=Int.gcd a b:=by
 have e:=acY a b
 apply Nat.dvd_antisymm
 .refine Int.dvd_gcd ?_ ?_
  .have h1:(Int.gcd b (a.fmod b):Int)∣b:=Int.gcd_dvd_left ..
   have h2:(Int.gcd b (a.fmod b):Int)∣a.fmod b:=Int.gcd_dvd_right ..
   have h3:=Int.dvd_add (Int.dvd_mul_of_dvd_left (c:=a.fdiv b) h1) h2
   rw[<-e]at h3
   exact h3
  .exact Int.gcd_dvd_left ..
 .refine Int.dvd_gcd ?_ ?_
  .exact Int.gcd_dvd_right ..
  .have h1:(Int.gcd a b:Int)∣a:=Int.gcd_dvd_left ..
   have h2:(Int.gcd a b:Int)∣b:=Int.gcd_dvd_right ..
   have e2:a.fmod b=a-b*a.fdiv b:=by omega
   rw[e2]
   exact Int.dvd_sub h1 (Int.dvd_mul_of_dvd_left h2)
theorem ac1(a:Int):(if a<0 then -a else a)=((Int.gcd a 0:Nat):Int):=by
 rw[Int.gcd_zero_right]
 split <;> omega
theorem qN(hb:0<b):0<((Int.gcd a b:Nat):Int)/\((Int.gcd a b:Nat):Int)<=b/\1<=b / (Int.gcd a b:Nat)/\Int.gcd (a / (Int.gcd a b:Nat)) (b / (Int.gcd a b:Nat))=1/\(0<=a->0<=a / (Int.gcd a b:Nat)) /\
  a=(a / (Int.gcd a b:Nat))*(Int.gcd a b:Nat)/\b=(b / (Int.gcd a b:Nat))*(Int.gcd a b:Nat):=by
 have hg:0<Int.gcd a b:=Int.gcd_pos_of_ne_zero_right a (by omega)
 have hgi:0<((Int.gcd a b:Nat):Int):=by omega
 have d1:(Int.gcd a b:Int)∣a:=Int.gcd_dvd_left ..
 have d2:(Int.gcd a b:Int)∣b:=Int.gcd_dvd_right ..
 have e1:=Int.ediv_mul_cancel d1
 have e2:=Int.ediv_mul_cancel d2
 refine⟨hgi,Int.le_of_dvd hb d2,?_,Int.gcd_ediv_gcd_ediv_gcd hg,λh=>Int.ediv_nonneg h (by omega),e1.symm,e2.symm⟩
 have:0<b / (Int.gcd a b:Nat):=Int.ediv_pos_of_pos_of_dvd hb (by omega) d2
 omega
open PySem.Spec PyProof.Rows
theorem ac2(h1:1<=q)(h2:1<=q')(g1:Int.gcd p q=1)(g2:Int.gcd p' q'=1)(e:p*q'=p'*q):p=p'/\q=q':=by
 have en:p.natAbs*q'.natAbs=p'.natAbs*q.natAbs:=by rw[<-Int.natAbs_mul,<-Int.natAbs_mul,e]
 have c1:Nat.Coprime q.natAbs p.natAbs:=by rw[Nat.coprime_comm]; exact g1
 have c2:Nat.Coprime q'.natAbs p'.natAbs:=by rw[Nat.coprime_comm]; exact g2
 have d1:q.natAbs∣q'.natAbs:=c1.dvd_of_dvd_mul_left ⟨p'.natAbs,by rw[en,Nat.mul_comm]⟩
 have d2:q'.natAbs∣q.natAbs:=c2.dvd_of_dvd_mul_left ⟨p.natAbs,by rw[<-en,Nat.mul_comm]⟩
 have ea:=Nat.dvd_antisymm d1 d2
 have eq:q=q':=by lia
 refine⟨?_,eq⟩
 rw[<-eq]at e
 exact Int.eq_of_mul_eq_mul_right (by lia) e
open PySem.W
theorem ac3{K:Frag}{h:Heap}{mg:Str->Option Value}{x:Str}{C:Addr}{bmB:List Value}{newId:String}(X:K.In h)(G:h.Ns mainGlobals mg)(e:nsIn K mainGlobals x=some (some (.ref C)))(q:excIn K C bmB newId=true):OwnCls x C bmB newId mg h:=by
 constructor
 .exact mg_of X G e
 unfold excIn at q
 split at q
 case h_2=>cases q
 rename_i dd cd sl lk
 split at q
 case h_2=>cases q
 rename_i c0 bm y0 y1 y2 y3 nid y5 hm hl
 rw[Bool.and_eq_true,Bool.and_eq_true,Bool.and_eq_true,Bool.and_eq_true,Bool.and_eq_true]at q
 obtain⟨⟨⟨⟨⟨q1,q2⟩,q3⟩,q4⟩,q5⟩,q6⟩:=q
 have r1:=beq_iff_eq.mp q1
 have r2:=beq_iff_eq.mp q2
 have r6:=beq_iff_eq.mp q6
 have r3:cd.hasDel=false:=by simpa using q3
 subst r1 r2
 have hsl:sl = #[y0,y1,y2,y3,some (.builtin nid),y5]:=by
  cases sl with
  |mk l=>exact congrArg Array.mk hl
 subst hsl
 cases cd with
 |mk nm bs mro ns qn hd sn sub ab col del =>
  subst hm r3
  exact⟨bm,ns,nm,qn,bs,hd,sn,sub,ab,col,dd,y0,y1,y2,y3,y5,_,X _ _ lk,.of_isNs (isNs_of_in X q5),nsMap_none_of_in X q5 r6,tail_of_in X q4⟩
section
variable {P:Program}{w:World}{K:Frag}{mg:Str->Option Value}{base:Heap}
theorem iV.N6{x qual:Str}{st:Stmt}{f:Addr}{fd:FuncData}{N ps:List Str}{k:Nat}{sp:Sp}(F:iV K x qual st f fd)(S:oV N ps (bD st))(len:∀vs H Q E,sp vs H Q E->vs.length=ps.length)
  (hbody:∀(cdv:Value) (A:Around) (outer:List Env) (s:Shared) (H:Hp) (vs:List V) (Q:VK) (E:XK),bO k (A.deeper (envOfC qual (bD st) s.heap.objs.size f cdv))->sp vs H Q E ->
   ∃t,cQ (fY (eO P w) P w K mg base N qual (bD st) f cdv A outer s H E) (d8 st) t/\t {nx:=λ_ H'=>Q .non H',rt:=Q } (start N vs) H):dg P w K mg base (eO P w) (k+1) f fd ps sp:=by
 obtain⟨oc,od,kV,doc,pm,an,cdv,ct,osl,rfl,lk,hcd⟩:=F.ex
 exact Dg lk hcd S len λA outer s H vs Q E hr h=>hbody cdv A outer s H vs Q E hr h
noncomputable def iz(P:Program)(w:World)(K:Frag)(mg:Str->Option Value)(base:Heap)(k:Nat)(x:Str)(ps:List Str)(sp:Sp):Prop :=
 ∃f fd,dg P w K mg base (eO P w) k f fd ps sp/\Binds K fd ps []/\keepIn K (.ref f)=true/\mg x=some (.ref f)
theorem iz.mono(D:iz P w K mg base j x ps sp)(h:j<=k):iz P w K mg base k x ps sp:=by
 obtain⟨f,fd,h1,h2⟩:=D
 exact⟨f,fd,h1.mono h,h2⟩
theorem At.DW{k:Nat}{x:Str}{st:Stmt}{N ps:List Str}{sp:Sp}(a:At K mg x st)(S:oV N ps (bD st))
  (hb:∀(kV doc pm:Value) (an:Option Addr) (cdv ct:Value) (us:List Value),us.length=ps.length->bindArgs (fnOf x x (iw st) (d8 st) (bD st) .none kV doc pm an cdv ct) ⟨us,[]⟩=pure (ps.zip us))
  (len:∀vs H Q E,sp vs H Q E->vs.length=ps.length)
  (hbody:∀(f:Addr) (cdv:Value) (A:Around) (outer:List Env) (s:Shared) (H:Hp) (vs:List V) (Q:VK) (E:XK),bO k (A.deeper (envOfC x (bD st) s.heap.objs.size f cdv))->sp vs H Q E ->
   ∃t,cQ (fY (eO P w) P w K mg base N x (bD st) f cdv A outer s H E) (d8 st) t/\t {nx:=λ_ H'=>Q .non H',rt:=Q } (start N vs) H):iz P w K mg base (k+1) x ps sp:=by
 obtain⟨f,fd,F,m⟩:=a
 exact⟨f,fd,F.N6 S len λcdv A outer s H vs Q E hr h=>hbody f cdv A outer s H vs Q E hr h,F.binds hb,F.kp,m⟩
end
section
variable {X:Cx}{k:Nat}{x:Str}{ps:List Str}{sp:Sp}{p pos:Pos}{e:Expr}{es:List Expr}{t:TA}
theorem N7:Passes (eO P w) X E0:=λ_ _ _ _ _ _ _ h=>by
 obtain⟨_,_,_,_,_,_,q,_⟩:=h
 exact q.elim
end
noncomputable def Sx(p:Addr)(H H':Hp):Prop:=∀b o,b≠p->H b=some o->H' b=some o
theorem Sx.refl(p:Addr)(H:Hp):Sx p H H:=λ_ _ _ h=>h
theorem Sx.trans(a:Sx p H H1)(b:Sx p H1 H2):Sx p H H2:=λc o n h=>b c o n (a c o n h)
theorem Sx.put(p:Addr)(H:Hp)(o:HO):Sx p H (upd H p o):=λb u n h=>by rw[aH n]; exact h
theorem Sx.of(s:Same H H'):Sx p H H':=λb o _ h=>s b o h
end L2
end
section
namespace L2
open PySem PySem.Spec PyProof.Rows
noncomputable def N8(K:PySem.W.Frag)(l1 l2:Addr):It where
 go:=λi H=>∃xs ys x y,aM K H l1 xs/\aM K H l2 ys/\xs[i]?=some x/\ys[i]?=some y
 oM:=λi H v H'=>∃T x y,v=.ref T/\H T=none/\H'=upd H T (.tup [x,y])/\∀xs ys,aM K H l1 xs->aM K H l2 ys->xs[i]?=some x/\ys[i]?=some y
 stop:=λi H=>∃xs ys,aM K H l1 xs/\aM K H l2 ys/\i=min xs.length ys.length
noncomputable def ac4(l1 l2 z TI TO i1 i2:Addr)(i:Nat)(h:Heap):Prop:=IsZip h z TI TO .none/\IsPair h TI (.ref i1) (.ref i2)/\(∃a b,IsPair h TO a b)/\h.IsListIter i1 l1 i/\h.IsListIter i2 l2 i
section
variable {P:Program}{w:World}{K:PySem.W.Frag}
theorem Inv.ac5{pins:List (Addr × Obj)}{tk:Nat}{fp:List Addr}{xs:List V}{its:List Value}(I:Inv X pins σ H s)(hf:∀b∈fp,cA X pins H b)(k:∀b o,b∉fp->s.heap.get? b=some o->h'.get? b=some o)
  (th:∀b∈fp,∃o,h'.get? b=some o) (hT:s.heap.objs.size<=T) (ht:IsTup h' T its.toArray) (rv:Vals xs its) (hz:xs.length<=sizeLine):Inv X pins σ (upd H T (.tup xs)) {s with heap:=h',toks:=tk }:=by
 have fT:H T=none:=I.hok.fresh hT
 have neT:∀b o,s.heap.get? b=some o->b≠T:=λb o e z=>by rw[z]at e; exact absurd (Heap.lt_size e) (Nat.not_lt.mpr hT)
 have uo:∀b o,H b=some o->b≠T:=λb o e z=>by rw[z,fT]at e; cases e
 refine I.step (g':=s.gens) (d':=s.drawn) (ch:=fp) (λb hb=>?_) (λb o _ _ hc e _=>k b o hc e) (λb o _ _ hc e _=>⟨o.slots,k b o hc e⟩) (λb o _ e n=>by rw[aH (neT b o e)]; exact n) (λb o hc e=>⟨o,k b o hc e⟩)
  (λb ys e=>by rw[aH (uo b _ e)]; exact e) (λb o u e=>by rw[aH (uo b _ e)]; exact e) (λb ps e=>⟨#[],by rw[aH (uo b _ e)]; simpa using e⟩) (λm hm=>?_) (λb u e=>?_) I.bare
 .obtain⟨f0,f1,f2,f3,f4,f5⟩:=hf b hb
  exact⟨f3,f1,f4,f5⟩
 .obtain⟨o,es,ep,ho,r⟩:=hm
  exact⟨o,es,ep,k _ o (λz=>(hf _ z).2.1 rfl) ho,r⟩
 .by_cases z:b=T
  .subst z
   rw[bN]at e
   cases e
   exact⟨hz,its,rv,ht⟩
  .rw[aH z]at e
   refine(I.hok b u e).stay (λc o hc q=>k c o (λzc=>?_) q) (λc q=>by rw[aH (uo c _ q)]; exact q) λc ys q=>by rw[aH (uo c _ q)]; exact q
   have:=(hf c zc).1
   rcases hc with rfl|hc
   .rw[this]at e; cases e
   .rw[this]at hc; cases hc
theorem Inv.ac6{pins:List (Addr × Obj)}{tk:Nat}{fp:List Addr}(I:Inv X pins σ H s)(hf:∀b∈fp,cA X pins H b)(k:∀b o,b∉fp->s.heap.get? b=some o->h'.get? b=some o):Inv X pins σ H {s with heap:=h',toks:=tk }:=by
 refine I.step (g':=s.gens) (d':=s.drawn) (ch:=fp) (λb hb=>?_) (λb o _ _ hc e _=>k b o hc e) (λb o _ _ hc e _=>⟨o.slots,k b o hc e⟩) (λb o _ e n=>n) (λb o hc e=>⟨o,k b o hc e⟩)
  (λb ys e=>e) (λb o u e=>e) (λb ps e=>⟨#[],by simpa using e⟩) (λm hm=>?_) (λb u e=>?_) I.bare
 .obtain⟨f0,f1,f2,f3,f4,f5⟩:=hf b hb
  exact⟨f3,f1,f4,f5⟩
 .obtain⟨o,es,ep,ho,r⟩:=hm
  exact⟨o,es,ep,k _ o (λz=>(hf _ z).2.1 rfl) ho,r⟩
 .refine(I.hok b u e).stay (λc o hc q=>k c o (λzc=>?_) q) (λc q=>q) λc ys q=>q
  have:=(hf c zc).1
  rcases hc with rfl|hc
  .rw[this]at e; cases e
  .rw[this]at hc; cases hc
theorem ac7{elts:List Expr}{k:Nat}(l1 l2 z TI TO i1 i2:Addr)(D:ZipApart z TI TO i1 i2 l1 l2):Turn P w K (.Tuple elts k pos) (N8 K l1 l2) [z,TI,TO,i1,i2] z (ac4 l1 l2 z TI TO i1 i2) where
 mem:=by simp
 obj:=λi h st b hb=>by
  obtain⟨hz,hTI,⟨a,c,hTO⟩,⟨o1,e1,_,d1⟩,⟨o2,e2,_,d2⟩⟩:=st
  have hb':b=z\/b=TI\/b=TO\/b=i1\/b=i2:=by simpa using hb
  rcases hb' with rfl|rfl|rfl|rfl|rfl
  .exact⟨_,hz,λv q=>nomatch q⟩
  .exact⟨_,hTI,λv q=>nomatch q⟩
  .exact⟨_,hTO,λv q=>nomatch q⟩
  .exact⟨o1,e1,λv q=>by rw[d1]at q; cases q⟩
  .exact⟨o2,e2,λv q=>by rw[d2]at q; cases q⟩
 keep:=λi h h' st kp=>by
  obtain⟨hz,hTI,⟨a,c,hTO⟩,h1,h2⟩:=st
  exact⟨kp z (by simp) _ hz,kp TI (by simp) _ hTI,⟨a,c,kp TO (by simp) _ hTO⟩,h1.at λo e=>kp i1 (by simp) o e,h2.at λo e=>kp i2 (by simp) o e⟩
 item:=by
  intro X hP hw hK hc i pins s σ H E I hf st hg
  subst hP hw hK
  obtain⟨xs,ys,x,y,q1,q2,hx,hy⟩:=hg
  obtain⟨oZ,xX,p1,_⟩:=I.list q1
  obtain⟨its2,fZ,p2,_⟩:=I.list q2
  obtain⟨u,hu,ru⟩:=xX.get hx
  obtain⟨v,hv,rv⟩:=fZ.get hy
  have W:=WalksT.zip2 (prog:=X.prog) (w:=X.w) (A:=X.A) (I.ok.hd hc) z TI TO i1 i2 l1 l2 D oZ.toArray its2.toArray
  have lt1:i<oZ.length:=(List.getElem?_eq_some_iff.mp hu).1
  have bw:i<its2.length:=(List.getElem?_eq_some_iff.mp hv).1
  refine W.item i s _ E (by simp; lia) ⟨st.1,st.2.1,st.2.2.1,st.2.2.2.1,st.2.2.2.2,p1.isList,p2.isList⟩ λT vals h' tk hp hT ht mid kk=>?_
  obtain⟨u',v',e1,e2,rfl⟩:=hp
  have eu:u'=u:=by
   have:oZ[i]?=some u':=by simpa using e1
   rw[hu]at this; cases this; rfl
  have ev:v'=v:=by
   have:its2[i]?=some v':=by simpa using e2
   rw[hv]at this; cases this; rfl
  subst eu ev
  refine⟨.ref T,rfl,?_⟩
  refine W.go elts k pos i T _ _ E mid λh'' st' Oa=>?_
  have nT:=W.apart i T _ mid
  have ob:=(λb hb=>(by
   obtain⟨hz,hTI,⟨a,c,hTO⟩,⟨o1,e1,_,d1⟩,⟨o2,e2,_,d2⟩⟩:=st
   have hb':b=z\/b=TI\/b=TO\/b=i1\/b=i2:=by simpa using hb
   rcases hb' with rfl|rfl|rfl|rfl|rfl
   .exact Heap.lt_size hz
   .exact Heap.lt_size hTI
   .exact Heap.lt_size hTO
   .exact Heap.lt_size e1
   .exact Heap.lt_size e2:b<s.heap.objs.size):∀b∈[z,TI,TO,i1,i2],b<s.heap.objs.size)
  have nTf:T∉[z,TI,TO,i1,i2]:=λm=>absurd (ob T m) (Nat.not_lt.mpr hT)
  have sub:∀b,b∉[z,TI,TO,i1,i2]->b∉[z,TO,i1,i2]:=λb n m=>n (by simp at m ⊢; rcases m with rfl|rfl|rfl|rfl <;> simp)
  have ac8:IsTup h'' T #[u',v']:=by
   obtain⟨o,e,r⟩:=ht
   exact⟨o,Oa T o nT e,r⟩
  have th:∀b∈[z,TI,TO,i1,i2],∃o,h''.get? b=some o:=λb hb=>by
   obtain⟨hz,hTI,⟨a,c,hTO⟩,⟨o1,e1,_,d1⟩,⟨o2,e2,_,d2⟩,_⟩:=st'
   have hb':b=z\/b=TI\/b=TO\/b=i1\/b=i2:=by simpa using hb
   rcases hb' with rfl|rfl|rfl|rfl|rfl
   .exact⟨_,hz⟩
   .exact⟨_,hTI⟩
   .exact⟨_,hTO⟩
   .exact⟨_,e1⟩
   .exact⟨_,e2⟩
  have I':Inv X pins σ (upd H T (.tup [x,y])) {s with heap:=h'',toks:=tk }:=I.ac5 (its:=[u',v']) hf (λb o n e=>Oa b o (sub b n) (kk b o (sub b n) e)) th hT ac8 (.cons ru (.cons rv .nil)) (by show 2<=sizeLine; decide)
  refine⟨.ref T,_,I',rfl,⟨T,x,y,rfl,I.hok.fresh hT,rfl,λxs' ys' a1 a2=>?_⟩,⟨st'.1,st'.2.1,st'.2.2.1,st'.2.2.2.1,st'.2.2.2.2.1⟩,λb hb=>?_⟩
  .rw[I.wY a1 q1,I.wY a2 q2]
   exact⟨hx,hy⟩
  .have nb:b≠T:=by
    intro e0
    rw[e0]at hb
    exact nTf hb
   rw[aH nb]
   exact(hf b hb).1
 done:=by
  intro X hP hw hK hc i pins s σ H E I hf st hg
  subst hP hw hK
  obtain⟨xs,ys,q1,q2,e⟩:=hg
  obtain⟨oZ,xX,p1,_⟩:=I.list q1
  obtain⟨its2,fZ,p2,_⟩:=I.list q2
  have W:=WalksT.zip2 (prog:=X.prog) (w:=X.w) (A:=X.A) (I.ok.hd hc) z TI TO i1 i2 l1 l2 D oZ.toArray its2.toArray
  have ei:i=min oZ.toArray.size its2.toArray.size:=by simp[e,xX.length,fZ.length]
  subst ei
  have sub:∀b,b∉[z,TI,TO,i1,i2]->b∉[z,TO,i1,i2]:=λb n m=>n (by simp at m ⊢; rcases m with rfl|rfl|rfl|rfl <;> simp)
  exact W.done s _ E ⟨st.1,st.2.1,st.2.2.1,st.2.2.2.1,st.2.2.2.2,p1.isList,p2.isList⟩ λh' tk kk=>⟨rfl,I.ac6 hf λb o n e=>kk b o (sub b n) e⟩
 self:=λA i s Q E st h=>wpAny_pyIter_zip st.1 h
end
section
variable {X:Cx}
noncomputable def ac9(K:PySem.W.Frag)(ta:TA):TI:=λσ H R=>ta σ H λvs H1=>∃l1 l2,vs=[.ref l1,.ref l2]/\(∃xs,aM K H1 l1 xs)/\(∃ys,aM K H1 l2 ys)/\R (N8 K l1 l2) H1
theorem ada(hm:X.mg "zip" = none) (ha:PA X [a,b] ta) (hg:Gl X "zip" := by rfl) (hs:starEach [a,b] X.env=[(false,eval a X.env),(false,eval b X.env)]:=by rfl) (hs2:starEach [b] X.env=[(false,eval b X.env)]:=by rfl) :
  PI X (.Tuple elts k tpos) (.Call (.Name "zip" p) [a,b] [] pos) (ac9 X.K ta):=by
 intro pins s σ H R I h
 refine Call_ (oH I hg hm (show bootBuiltins "zip" = some (.type "zip") by decide +kernel) (PyProof.Rows.callWith_type1 (aD (ha pos pins s σ H _ I h) λus s1 ⟨vs,H1,I1,r1,q1⟩=>?_) (by rw[hs,hs2]) (by rw[hs2]; rfl)))
 obtain⟨l1,l2,e,⟨xs,h1⟩,⟨ys,h2⟩,q⟩:=q1
 subst e
 cases r1 with
 |cons r rr =>
  cases rr with
  |cons r' rr =>
   cases rr
   cases r
   cases r'
   obtain⟨oZ,xX,p1,_⟩:=I1.list h1
   obtain⟨its2,fZ,p2,_⟩:=I1.list h2
   obtain⟨o1,e1,_⟩:=p1.isList
   obtain⟨o2,e2,_⟩:=p2.isList
   refine call_zip_2 p1.isList p2.isList λh' hz hTI hTO hi1 hi2 hsz hk=>?_
   refine wpAny_pyIter_zip hz ?_
   refine⟨_,[_,_,_,_,_],_,_,H1,rfl,I1.kept (t':=s1.toks) hk,ac7 l1 l2 _ _ _ _ _ (PySem.W.ktu_apart _ _ _ (Heap.lt_size e1) (Heap.lt_size e2)),⟨hz,hTI,⟨_,_,hTO⟩,hi1,hi2⟩,λc hc=>?_,q⟩
   have hc':c=s1.heap.objs.size+4\/c=s1.heap.objs.size+2\/c=s1.heap.objs.size+3\/c=s1.heap.objs.size\/c=s1.heap.objs.size+1:=by simpa using hc
   have hge:s1.heap.objs.size<=c:=by rcases hc' with rfl|rfl|rfl|rfl|rfl <;> lia
   exact I1.lA hge (I1.hok.fresh hge)
end
end L2
end
section
namespace L2
open PySem
noncomputable def Sz(m:Nat)(r:Rat):Prop:=r.num.natAbs<=2 ^ m/\r.den<=2 ^ m
theorem Sz.mono(h:Sz m r)(hm:m<=n):Sz n r:=⟨Nat.le_trans h.1 (Nat.pow_le_pow_right (by decide) hm),Nat.le_trans h.2 (Nat.pow_le_pow_right (by decide) hm)⟩
theorem Sz.d(h:Sz m r):(r.den:Int).natAbs<=2 ^ m:=by rw[Int.natAbs_natCast]; exact h.2
open PySem.Spec PyProof.Rows
section
variable {X:Cx}
noncomputable def DX(K:PySem.W.Frag):R2:=λx y H Q=>∃t ts p xs,Rep K H x t/\y=.ref p/\(aM K H p xs\/aW K H p xs)/\au K H xs ts/\deps ts<=40/\dep t<=40/\Q (.bl (!lE t ts)) H
open Classical in
theorem adb(hu:X.A.units+64<cLine):bh X (compareOp .NotIn) (DX X.K):=by
 intro pins s σ H x y v u Q I rx ry h
 obtain⟨t,ts,p,xs,q1,rfl,hq,qs,hd,hd2,q⟩:=h
 cases ry
 have hu1:X.A.in1.units+40<cLine:=by
  have:=in1_units X.A
  lia
 -- what == tells of an item,by the item itself
 let e:Value->Bool:=λw'=>if h:∃z tz,z∈xs/\RelV z w'/\Rep X.K H z tz/\tz∈ts then eqT (Classical.choose (Classical.choose_spec h)) t else false
 have ee:∀z w' tz,z∈xs->RelV z w'->Rep X.K H z tz->tz∈ts->e w'=eqT tz t:=λz w' tz h1 h2 h3 h4=>by
  have hx:∃z tz,z∈xs/\RelV z w'/\Rep X.K H z tz/\tz∈ts:=⟨z,tz,h1,h2,h3,h4⟩
  show(if h:_ then _ else _)=_
  rw[dif_pos hx]
  have sp:=Classical.choose_spec (Classical.choose_spec hx)
  have key:∀z z' t1 t2,RelV z w'->RelV z' w'->dep t1<=99->Rep X.K H z t1->Rep X.K H z' t2->t1=t2:=λz z' t1 t2 a1 a2 d9 a3 a4=>by
   obtain rfl:=RelV.inj a1 a2
   exact Rep.inj I d9 a3 a4
  rw[key _ _ _ _ sp.2.1 h2 (by have:=qJ sp.2.2.2; lia) sp.2.2.1 h3]
 have mem:∀{its:List Value},Vals xs its->∀w'∈its,SeqAt.EqAt X.A.in1 s w' v (e w'):=by
  intro its r w' hw
  obtain⟨j,hj,ej⟩:=List.mem_iff_getElem.mp hw
  have hjx:j<xs.length:=by rw[r.length]; exact hj
  obtain⟨u',h1,h2⟩:=r.get (List.getElem?_eq_getElem hjx)
  rw[List.getElem?_eq_getElem hj,ej]at h1
  cases h1
  obtain⟨tz,h3,h4⟩:=qs.get (List.getElem?_eq_getElem hjx)
  have hm:=List.mem_of_getElem? h3
  rw[ee _ _ tz (List.getElem_mem hjx) h2 h4 hm]
  exact(xQ I 40 X.A.in1 tz t _ x _ v hu1 (Nat.le_trans (qJ hm) hd) (by have:=qJ hm; lia) (by lia) h4 q1 h2 rx).2
 rcases hq with hq|hq
 .obtain⟨its,r,pl,hz⟩:=I.list hq
  refine SeqAt.notIn_listAt e pl.isList (λw hw=>mem r w (by simpa using hw)) ⟨.bl _,H,I,rfl,?_⟩
  rw[show its.toArray.any e=its.any e by simp,xR (λz=>eqT z t) e r qs λz w' tz h1 h2 h3 h4=>ee z w' tz h1 h2 h3 h4]
  exact q
 .obtain⟨its,r,pl,hz⟩:=I.tuple hq
  refine SeqAt.notIn_tupleAt e pl (λw hw=>mem r w (by simpa using hw)) ⟨.bl _,H,I,rfl,?_⟩
  rw[show its.toArray.any e=its.any e by simp,xR (λz=>eqT z t) e r qs λz w' tz h1 h2 h3 h4=>ee z w' tz h1 h2 h3 h4]
  exact q
end
theorem _root_.L2.aW.mono{K:PySem.W.Frag}{H H':Hp}{a:Addr}{xs:List V}(s:Same H H')(h:aW K H a xs):aW K H' a xs:=by
 rcases h with(h|h)|h
 .exact .inl (.inl (s _ _ h))
 .exact .inl (.inr (by obtain⟨o,e⟩:=h; exact⟨o,s _ _ e⟩))
 .exact .inr h
section
variable {X:Cx}
noncomputable def DY(K:PySem.W.Frag):R2:=λx y H Q=>∃t u,Rep K H x t/\Rep K H y u/\dep t<=40/\dep u<=40/\Q (.bl (!eqT t u)) H
theorem ade(hu:X.A.units+64<cLine):bh X (compareOp .NotEq) (DY X.K):=by
 intro pins s σ H x y v u Q I vx vy h
 obtain⟨t,t',rx,ry,hd,du,q⟩:=h
 have hu0:X.A.units<cLine:=by lia
 have hu1:X.A.in1.units+40<cLine:=by
  have:=in1_units X.A
  lia
 have fin:SeqAt.RcNeAt X.A s v u (!eqT t t')->wpAny (model X.prog X.w) X.A (compareOp .NotEq v u) (EP X pins σ Q) X.xe s:=λh=>h _ _ _ _ ⟨.bl _,H,I,rfl,q⟩
 have items:∀{xs ys:List V} {ts us:List Tr} {its its2:List Value},Vals xs its->Vals ys its2->au X.K H xs ts->au X.K H ys us->deps ts<=40->deps us<=40->∀j (h1:j<its.toArray.size) (h2:j<its2.toArray.size),SeqAt.EqAt X.A.in1 s its.toArray[j] its2.toArray[j] (lD ts us j):=by
  intro xs ys ts us its its2 r1 r2 q1 q2 hde NP j h1 h2
  obtain⟨a,ea,ra⟩:=xP r1 h1
  obtain⟨b,eb,rb⟩:=xP r2 h2
  obtain⟨ta,eta,qa⟩:=q1.get ea
  obtain⟨tb,um,qb⟩:=q2.get eb
  rw[NK eta um]
  exact(xQ I 40 X.A.in1 ta tb a b _ _ hu1 (Nat.le_trans (m7 eta) hde) (by have:=m7 eta; lia) (by have:=m7 um; lia) qa qb ra rb).2
 cases rx with
 |bQ h m n=>unfold dep at hd; lia
 |non =>
  cases vx
  cases ry with
  |non=>cases vy; exact fin .none_none
  |bl b2=>cases vy; exact fin (.none_bool _)
  |int i2=>obtain⟨_,rfl⟩:=vy; exact fin (.none_int _ _)
  |str z2=>obtain⟨_,rfl⟩:=vy; exact fin (.none_str _ _)
  |tup h r=>cases vy; obtain⟨_,_,p,_⟩:=I.tuple h; exact fin (.none_tuple p hu0)
  |lst h r=>cases vy; obtain⟨_,_,p,_⟩:=I.list h; exact fin (.none_list p.isList hu0)
  |bQ h m n=>unfold dep at du; lia
 |bl b =>
  cases vx
  cases ry with
  |non=>cases vy; exact fin (.bool_none _)
  |bl b2=>cases vy; exact fin (.bool_bool _ _)
  |int i2=>obtain⟨_,rfl⟩:=vy; exact fin (.bool_int _ _ _)
  |str z2=>obtain⟨_,rfl⟩:=vy; exact fin (.bool_str _ _ _)
  |tup h r=>cases vy; obtain⟨_,_,p,_⟩:=I.tuple h; exact fin (.bool_tuple _ p hu0)
  |lst h r=>cases vy; obtain⟨_,_,p,_⟩:=I.list h; exact fin (.bool_list _ p.isList hu0)
  |bQ h m n=>unfold dep at du; lia
 |int i =>
  obtain⟨_,rfl⟩:=vx
  cases ry with
  |non=>cases vy; exact fin (.int_none _ _)
  |bl b2=>cases vy; exact fin (.int_bool _ _ _)
  |int i2=>obtain⟨_,rfl⟩:=vy; exact fin (.int_int _ _ _ _)
  |str z2=>obtain⟨_,rfl⟩:=vy; exact fin (.int_str _ _ _ _)
  |tup h r=>cases vy; obtain⟨_,_,p,_⟩:=I.tuple h; exact fin (.int_tuple _ _ p hu0)
  |lst h r=>cases vy; obtain⟨_,_,p,_⟩:=I.list h; exact fin (.int_list _ _ p.isList hu0)
  |bQ h m n=>unfold dep at du; lia
 |str z =>
  obtain⟨_,rfl⟩:=vx
  cases ry with
  |non=>cases vy; exact fin (.str_none _ _)
  |bl b2=>cases vy; exact fin (.str_bool _ _ _)
  |int i2=>obtain⟨_,rfl⟩:=vy; exact fin (.str_int _ _ _ _)
  |str z2=>obtain⟨_,rfl⟩:=vy; exact fin (.str_str _ _ _ _)
  |tup h r=>cases vy; obtain⟨_,_,p,_⟩:=I.tuple h; exact fin (.str_tuple _ _ p hu0)
  |lst h r=>cases vy; obtain⟨_,_,p,_⟩:=I.list h; exact fin (.str_list _ _ p.isList hu0)
  |bQ h m n=>unfold dep at du; lia
 | @tup a1 xs1 ts h1 r1 =>
  cases vx
  obtain⟨its,rv,p,_⟩:=I.tuple h1
  have hd':deps ts<=40:=by unfold dep at hd; lia
  cases ry with
  |non=>cases vy; exact fin (.tuple_none p hu0)
  |bl b2=>cases vy; exact fin (.tuple_bool _ p hu0)
  |int i2=>obtain⟨_,rfl⟩:=vy; exact fin (.tuple_int _ _ p hu0)
  |str z2=>obtain⟨_,rfl⟩:=vy; exact fin (.tuple_str _ _ p hu0)
  |lst h r=>cases vy; obtain⟨_,_,p2,_⟩:=I.list h; exact fin (.tuple_list p p2.isList hu0)
  |bQ h m n=>unfold dep at du; lia
  | @tup a2 xs2 us h2 r2 =>
   cases vy
   obtain⟨its2,fZ,p2,_⟩:=I.tuple h2
   have R:=SeqAt.RcNeAt.tuples (A:=X.A) (e:=lD ts us) p p2 (by lia) λj k1 k2=>items rv fZ r1 r2 hd' (by unfold dep at du; lia) j k1 k2
   have el:its.toArray.size=ts.length:=by simpa using(rv.length.symm.trans r1.length)
   have el2:its2.toArray.size=us.length:=by simpa using(fZ.length.symm.trans r2.length)
   rw[el,el2]at R
   have eb:((List.range (min ts.length us.length)).all (lD ts us)&&ts.length == us.length)=eqT (.tup ts) (.tup us):=by
    show _=gH ts us
    by_cases e:ts.length=us.length
    .rw[e,Nat.min_self,<-e,ug e,beq_self_eq_true,Bool.and_true]
    .rw[beq_false_of_ne e,Bool.and_false,uf e]
   rw[eb]at R
   exact fin R
 | @lst a1 xs1 ts h1 r1 =>
  cases vx
  obtain⟨its,rv,p,_⟩:=I.list h1
  have hd':deps ts<=40:=by unfold dep at hd; lia
  cases ry with
  |non=>cases vy; exact fin (.list_none p.isList hu0)
  |bl b2=>cases vy; exact fin (.list_bool _ p.isList hu0)
  |int i2=>obtain⟨_,rfl⟩:=vy; exact fin (.list_int _ _ p.isList hu0)
  |str z2=>obtain⟨_,rfl⟩:=vy; exact fin (.list_str _ _ p.isList hu0)
  |bQ h m n=>unfold dep at du; lia
  |tup h r=>cases vy; obtain⟨_,_,p2,_⟩:=I.tuple h; exact fin (.list_tuple p.isList p2 hu0)
  | @lst a2 xs2 us h2 r2 =>
   cases vy
   obtain⟨its2,fZ,p2,_⟩:=I.list h2
   have el:its.toArray.size=ts.length:=by simpa using(rv.length.symm.trans r1.length)
   have el2:its2.toArray.size=us.length:=by simpa using(fZ.length.symm.trans r2.length)
   by_cases e:ts.length=us.length
   .have R:=SeqAt.RcNeAt.lists (A:=X.A) (e:=lD ts us) p.isList p2.isList (by lia) (by lia) λj k1 k2=>items rv fZ r1 r2 hd' (by unfold dep at du; lia) j k1 k2
    rw[el]at R
    rw[ug e]at R
    exact fin R
   .have R:=SeqAt.RcNeAt.lists_lengths (A:=X.A) p.isList p2.isList (by rw[el,el2]; simpa using e) (by lia)
    exact fin (show SeqAt.RcNeAt X.A s (.ref a1) (.ref a2) (!gH ts us)from(uf e).symm▸R)
end
open Classical in
noncomputable def cg(o:Obj):Obj:=if o.cls=.type "list" ∧ ¬(∃its n,o={cls:=.type "list",data:=.seq its n })then{cls:=.none,data:=.fields #[] }else o
noncomputable def aq(K:PySem.W.Frag):PySem.W.Frag:=K.map λp=>(p.1,cg p.2)
theorem iW:∀(K:PySem.W.Frag) (a:Addr),(aq K).lookup a=(K.lookup a).map cg
 | [],a=>rfl
 |(c,q)::r,a=>by
  show((c,cg q)::aq r).lookup a=_
  rw[List.lookup_cons,List.lookup_cons]
  cases a == c with
  |true=>rfl
  |false=>exact iW r a
theorem adf{K:PySem.W.Frag}{a:Addr}{o:Obj}(h:(aq K).lookup a=some o)(c:o.cls=.type "tuple"):K.lookup a=some o:=by
 rw[iW]at h
 cases e:K.lookup a with
 |none=>rw[e]at h; cases h
 |some q =>
  rw[e]at h
  have h:cg q=o:=Option.some.inj h
  unfold cg at h
  split at h
  .subst h; cases c
  .rw[h]
theorem adg{K:PySem.W.Frag}{a:Addr}{o:Obj}(h:(aq K).lookup a=some o)(c:o.cls=.type "list"):K.lookup a=some o∧∃its n,o={cls:=.type "list",data:=.seq its n }:=by
 rw[iW]at h
 cases e:K.lookup a with
 |none=>rw[e]at h; cases h
 |some q =>
  rw[e]at h
  have h:cg q=o:=Option.some.inj h
  unfold cg at h
  split at h
  .subst h; cases c
  .rename_i n
   subst h
   refine⟨rfl,?_⟩
   by_cases z:∃its n,q={cls:=.type "list",data:=.seq its n }
   .exact z
   .exact(n ⟨c,z⟩).elim
theorem adh{K:PySem.W.Frag}{a:Addr}{o:Obj}(h:K.lookup a=some o)(c:o.cls=.type "tuple"):(aq K).lookup a=some o:=by
 rw[iW,h]
 show some (cg o)=some o
 unfold cg
 rw[if_neg (by rintro⟨z,_⟩; rw[c]at z; injection z with z; exact absurd z (by decide))]
theorem aW.toK{K:PySem.W.Frag}{H:Hp}{a:Addr}{xs:List V}(h:aW (aq K) H a xs):aW K H a xs:=by
 rcases h with h|⟨o,its,n,e,c,r⟩
 .exact .inl h
 .exact .inr ⟨o,its,n,adf e c,c,r⟩
noncomputable def iB(K:PySem.W.Frag)(H:Hp)(a:Addr)(xs:List V):Prop:=Rd H a (.lst xs)\/∃(its:Array Value) (n:Nat),K.lookup a=some {cls:=.type "list",data:=.seq its n }/\its.size<=sizeLine/\Vals xs its.toList
theorem aM.xY{K:PySem.W.Frag}{H:Hp}{a:Addr}{xs:List V}(h:aM (aq K) H a xs):iB K H a xs:=by
 rcases h with h|⟨o,its,n,e,c,_,d,r⟩
 .exact .inl h
 .obtain⟨e2,its',n',rfl⟩:=adg e c
  injection d with d1 d2
  subst d1 d2
  exact .inr ⟨its',n',e2,r⟩
theorem iB.toK{K:PySem.W.Frag}{H:Hp}{a:Addr}{xs:List V}(h:iB K H a xs):aM K H a xs:=by
 rcases h with h|⟨its,n,e,r⟩
 .exact .inl h
 .exact .inr ⟨_,its,n,e,rfl,rfl,rfl,r⟩
theorem iB.toN{K:PySem.W.Frag}{H:Hp}{a:Addr}{xs:List V}(h:iB K H a xs):aM (aq K) H a xs:=by
 rcases h with h|⟨its,n,e,r⟩
 .exact .inl h
 .refine .inr ⟨{cls:=.type "list",data:=.seq its n },its,n,?_,rfl,rfl,rfl,r⟩
  rw[iW,e]
  show some (cg _)=_
  unfold cg
  rw[if_neg λz=>z.2 ⟨its,n,rfl⟩]
theorem aM.toK{K:PySem.W.Frag}{H:Hp}{a:Addr}{xs:List V}(h:aM (aq K) H a xs):aM K H a xs:=h.xY.toK
theorem adi{K:PySem.W.Frag}{N:Addr}{c:Str}{v:Value}(h:PySem.W.nsIn (aq K) N c=some (some v)):PySem.W.nsIn K N c=some (some v):=by
 unfold PySem.W.nsIn at h ⊢
 rw[iW]at h
 cases e:K.lookup N with
 |none=>rw[e]at h; cases h
 |some q =>
  rw[e]at h
  by_cases z:q.cls=.type "list" ∧ ¬(∃its n,q={cls:=.type "list",data:=.seq its n })
  .have:cg q={cls:=.none,data:=.fields #[] }:=by unfold cg; rw[if_pos z]
   rw[show(some q).map cg=some (cg q)from rfl,this]at h
   cases h
  .have:cg q=q:=by unfold cg; rw[if_neg z]
   rw[show(some q).map cg=some (cg q)from rfl,this]at h
   exact h
theorem Ob{K:PySem.W.Frag}{H:Hp}:(∀{v t},Rep (aq K) H v t->Rep K H v t)/\∀{vs ts},au (aq K) H vs ts->au K H vs ts:=Rep.both .non .bl .int .str (λ_ _ _ h q=>.tup h.toK q) (λ_ _ _ h q=>.lst h.toK q) (λ_ _ _ h m n=>.bQ h m (adi n)) .nil λ_ _ _ _ p q=>.cons p q
theorem Rep.toK{K:PySem.W.Frag}{H:Hp}{v:V}{t:Tr}(h:Rep (aq K) H v t):Rep K H v t:=Ob.1 h
theorem au.toK{K:PySem.W.Frag}{H:Hp}{v:List V}{t:List Tr}(h:au (aq K) H v t):au K H v t:=Ob.2 h
section
variable {X:Cx}
theorem Inv.Ea(I:Inv X pins σ H s)(hH:iB X.K H l xs):xs.length<=sizeLine/\∃(its:List Value) (n:Nat),Vals xs its/\xs.length=its.length/\s.heap.get? l=some {cls:=.type "list",data:=.seq its.toArray n }:=by
 rcases hH with hH|⟨its,n,e,z,r⟩
 .obtain⟨z,its,n,r,e⟩:=hH.ok I.hok
  exact⟨z,its,n,r,r.length,e⟩
 .have l':=r.length.trans Array.length_toList
  exact⟨by rw[l']; exact z,its.toList,n,r,r.length,I.cZ _ _ e⟩
noncomputable def Oc(K:PySem.W.Frag):R2:=λx y H Q=>∃l b xs zs,x=.ref l/\y=.ref b/\iB K H l xs/\iB K H b zs/\xs.length+zs.length<=sizeLine/\∀p,H p=none->Q (.ref p) (upd H p (.lst (xs++zs)))
theorem adk:bh X (binaryOp .Add) (Oc X.K):=by
 intro pins s σ H x y v u Q I rx ry h
 obtain⟨l,b,xs,zs,rfl,rfl,hH,hB,hz,q⟩:=h
 cases rx
 cases ry
 obtain⟨z,its,n,r,hl,e⟩:=I.Ea hH
 obtain⟨z2,its2,n2,r2,hl2,e2⟩:=I.Ea hB
 refine PySem.P.add_list e e2 ?_ (by rw[List.size_toArray,List.size_toArray]; lia)
 have ea:its.toArray++its2.toArray=(its++its2).toArray:=by simp
 rw[ea]
 exact⟨.ref _,_,I.Dn (t':=s.toks) (r.append r2) (by rw[List.length_append]; lia),rfl,q _ I.fresh⟩
end
noncomputable def Oe(K:PySem.W.Frag):R2:=λx y H Q=>∃l k xs,x=.ref l/\y=.int k/\iB K H l xs /\ -(2 ^ 63)<=k/\k<2 ^ 63/\xs.length*k.toNat<=sizeLine/\∀p,H p=none->Q (.ref p) (upd H p (.lst (List.replicate k.toNat xs).flatten))
theorem adl{X:Cx}:bh X (binaryOp .Mult) (Oe X.K):=by
 intro pins s σ H x y v u Q I rx ry h
 obtain⟨l,k,xs,rfl,rfl,hH,h1,h2,hz,q⟩:=h
 cases rx
 obtain⟨t,rfl⟩:=ry
 obtain⟨z,its,n,r,hl,e⟩:=I.Ea hH
 have hlen:its.toArray.size*k.toNat<=sizeLine:=by rw[List.size_toArray,<-hl]; exact hz
 have hcap:¬its.toArray.size*k.toNat > (2 ^ 63-1) / 8:=by
  have:(sizeLine:Nat)<=(2 ^ 63-1) / 8:=by decide
  lia
 have hfit:¬(!Builtin.List.listFitsIndex k)=true:=by
  rw[fitsIndex_both h1 h2]
  exact Bool.false_ne_true
 have adn:¬Builtin.List.listTooLong (its.toArray.size*k.toNat)=true:=by
  rw[acw hlen]
  exact Bool.false_ne_true
 have hnew:List.foldl (λx1 x2=>x1++x2) #[] (List.replicate (if its.toArray.isEmpty=true then 0 else k.toNat) its.toArray)=(List.replicate k.toNat its).flatten.toArray:=by
  have f0:∀m:Nat,List.foldl (λx1 x2=>x1++x2) #[] (List.replicate m its.toArray)=(List.replicate m its).flatten.toArray:=λm=>by
   have:=foldl_rep its m []
   rw[List.nil_append]at this
   exact this
  rw[f0]
  cases its with
  |nil=>simp
  |cons a r'=>rw[if_neg (by simp)]
 refine wpAny_binaryOp_repeat_ref (T := "list") (U := "int") (by decide) ⟨_,e,rfl⟩ (λs'=>typeIs_int s' k t) noFill_list_mul F.fills_int_mul F.slot_int_rmul repeat_list F.slot_int_index.lookup
  (call_meets F.slot_int_rmul (typeIs_int s k t) F.entry_int_rmul (F.args_int_rmul_2 _ _) (int___rmul___int_list k t l its.toArray n)
   ⟨e,rfl,⟨_,e,rfl⟩,call_meets F.slot_list_mul ⟨_,e,rfl⟩ F.entry_list_mul (F.args_list_mul_2 _ _) (AutoListH.list___mul___list_int_3 l its.toArray n k t hfit hcap adn) ⟨e,?_⟩⟩)
 rw[hnew]
 exact⟨.ref _,_,I.Dn (t':=s.toks) (r.rep k.toNat) (by rw[len_rep,Nat.mul_comm]; exact hz),rfl,q _ I.fresh⟩
inductive Rs(α : Type) where
 |bad|ex (c:Str)|ok (a : α)
noncomputable def Rs.bind{α β : Type}:Rs α -> (α -> Rs β)->Rs β
 |.bad,_=>.bad
 |.ex c,_=>.ex c
 |.ok a,f=>f a
noncomputable instance:Monad Rs where
 pure:=.ok
 bind:=Rs.bind
inductive aK where
 |sh (T:Tr)|dp (ts:List Tr)
inductive Sl where
 |un|sh (t:Tr)|ow (ts:List Tr)|rf (ts:List Tr)|dp (ts:List Tr)|ob (l:Bool) (c:Str) (fs:List (Str × aK))|vo (c:Str) (fs:List (Str × aK))|dt (T:Tr)
noncomputable abbrev En:=List Sl
inductive Rv where
 |v (T:Tr) (fr:Bool)|s (i:Nat)
noncomputable abbrev EF:=En->Rs (Rv × En)
noncomputable abbrev BF:=En->Rs (Bool × En)
noncomputable abbrev AF:=En->Rs (List Rv × En)
noncomputable abbrev OF:=En->Rs (Option Int × En)
noncomputable abbrev IF:=En->Rs (List Tr × En)
noncomputable abbrev GF:=Tr->En->Rs En
noncomputable abbrev qP:=List Tr->En->Rs En
inductive Fl where
 |nx|rt (T:Tr) (fr:Bool)|bk|ct
noncomputable abbrev SF:=En->Rs (Fl × En)
noncomputable def o7:Tr->Bool
 |.lst _=>true
 |_=>false
noncomputable def fD:List Str:=["falling_places", "order_of_bounds"]
noncomputable def Tb(K:PySem.W.Frag)(b:Addr):Prop:=∃x∈fD,∃c,PySem.W.tabIn K x=some (c,b)
noncomputable def Og(o:Obj)(q:Str):Prop:=∃vs t,o.data=.fields vs/\vs[1]?=some (.str q t)
noncomputable def xZ(x:Str):Str:=x++(".<locals>." : Str)++("<lambda>" : Str)
noncomputable def yd(H:Hp)(q:Str)(ps:Array Value):Prop:=TriplesOk ps.toList/\∀pos v,codeAmong pos ps.toList=some v->∃c o,v=.ref c/\H c=some (.cL o (.own 0))/\Og o q
noncomputable def bf(K:PySem.W.Frag)(H:Hp):Prop:=∀x∈fD,∀c b,PySem.W.tabIn K x=some (c,b)->∃ps,H b=some (.bM ps)/\yd H (xZ x) ps
theorem bf.bM{K:PySem.W.Frag}{H:Hp}(h:bf K H){b:Addr}(t:Tb K b):∃ps,H b=some (.bM ps):=by
 obtain⟨x,hx,c,e⟩:=t
 obtain⟨ps,q,_⟩:=h x hx c b e
 exact⟨ps,q⟩
noncomputable def lG:HO->Bool
 |.lst _=>true
 |.ins _ _ _=>true
 |.own _=>true
 |_=>false
theorem bf.nm{K:PySem.W.Frag}{H:Hp}(h:bf K H){b:Addr}{o:HO}(e:H b=some o)(m:lG o=true):¬Tb K b:=λt=>by
 obtain⟨ps,q⟩:=h.bM t
 rw[e]at q
 cases q
 cases m
theorem bf.nt{K:PySem.W.Frag}{H:Hp}(h:bf K H){b:Addr}{xs:List V}(e:H b=some (.lst xs)):¬Tb K b:=λt=>by
 obtain⟨ps,q⟩:=h.bM t
 rw[e]at q
 cases q
theorem bf.fr{K:PySem.W.Frag}{H H':Hp}(h:bf K H)(s:∀b o,lG o=false->H b=some o->H' b=some o):bf K H':=λx hx c b e=>by
 obtain⟨ps,q,t1,t2⟩:=h x hx c b e
 refine⟨ps,s _ _ rfl q,t1,λpos v k=>?_⟩
 obtain⟨c,o,e1,e2,e3⟩:=t2 pos v k
 exact⟨c,o,e1,s _ _ rfl e2,e3⟩
theorem bf.Eb{K:PySem.W.Frag}{H:Hp}(h:bf K H){a:Addr}{u o:HO}(e:H a=some u)(m:lG u=true):bf K (L2.upd H a o):=h.fr λb u n q=>by
 rw[aH]
 .exact q
 .rintro rfl
  rw[e]at q
  cases q
  rw[m]at n
  cases n
theorem bf.upd{K:PySem.W.Frag}{H:Hp}(h:bf K H){a:Addr}{xs:List V}{o:HO}(e:H a=some (.lst xs)):bf K (L2.upd H a o):=h.Eb e rfl
mutual
noncomputable def aZ:Tr->Bool
 |.tup ts=>bR ts
 |.lst _=>false
 |_=>true
noncomputable def bR:List Tr->Bool
 | []=>true
 |t::r=>aZ t&&bR r
end
inductive DR(K:PySem.W.Frag)(G H:Hp):List V->List Tr->List Addr->Prop
 |nil:DR K G H [] [] []
 |cl {x:V} {u:Tr} {xs:List V} {ts:List Tr} {bs:List Addr} (n:aZ u=true) (h:Rep K G x u) (r:DR K G H xs ts bs):DR K G H (x::xs) (u::ts) bs
 |rw {b:Addr} {ys:List V} {us:List Tr} {cs:List Addr} {xs:List V} {ts:List Tr} {bs:List Addr} (h:H b=some (.lst ys)) (q:DR K G H ys us cs) (r:DR K G H xs ts bs):DR K G H (.ref b::xs) (.lst us::ts) (b::(cs++bs))
 |tp {b:Addr} {ys:List V} {us:List Tr} {cs:List Addr} {xs:List V} {ts:List Tr} {bs:List Addr} (h:aW K G b ys) (q:DR K G H ys us cs) (r:DR K G H xs ts bs):DR K G H (.ref b::xs) (.tup us::ts) (cs++bs)
theorem DR.mono{K:PySem.W.Frag}{G G' H H':Hp}(m:Same G G'){xs:List V}{ts:List Tr}{bs:List Addr}(h:DR K G H xs ts bs):(∀b∈bs,∀o,H b=some o->H' b=some o)->DR K G' H' xs ts bs:=by
 induction h with
 |nil=>exact λ_=>.nil
 |cl n h _ ih=>exact λk=>.cl n (h.mono m) (ih k)
 |rw h _ _ i1 i2=>exact λk=>.rw (k _ (List.mem_cons_self ..) _ h) (i1 λb hb=>k b (List.mem_cons_of_mem _ (List.mem_append_left _ hb))) (i2 λb hb=>k b (List.mem_cons_of_mem _ (List.mem_append_right _ hb)))
 |tp h _ _ i1 i2=>exact λk=>.tp (m.jA h) (i1 λb hb=>k b (List.mem_append_left _ hb)) (i2 λb hb=>k b (List.mem_append_right _ hb))
theorem DR.lst{K:PySem.W.Frag}{G H:Hp}{xs:List V}{ts:List Tr}{bs:List Addr}(h:DR K G H xs ts bs):∀b∈bs,∃ys,H b=some (.lst ys):=by
 induction h with
 |nil=>exact λ_ h=>by cases h
 |cl _ _ _ ih=>exact ih
 |rw q _ _ i1 i2 =>
  intro b h
  rcases List.mem_cons.mp h with rfl|h
  .exact⟨_,q⟩
  .exact(List.mem_append.mp h).elim (i1 b) (i2 b)
 |tp _ _ _ i1 i2=>exact λb h=>(List.mem_append.mp h).elim (i1 b) (i2 b)
theorem DR.flat{K:PySem.W.Frag}{G H:Hp}:∀{ts:List Tr} {xs:List V},au K G xs ts->bR ts=true->DR K G H xs ts []
 | [],_,h,_=>by cases h; exact .nil
 |t::ts,_,h,n=>by
  cases h with
  |cons h r =>
   have n:(aZ t&&bR ts)=true:=n
   rw[Bool.and_eq_true]at n
   exact .cl n.1 h (DR.flat r n.2)
theorem DR.nil_of{K:PySem.W.Frag}{G H:Hp}{xs:List V}{ts:List Tr}{bs:List Addr}(h:DR K G H xs ts bs):bR ts=true->bs=[]:=by
 induction h with
 |nil=>exact λ_=>rfl
 | @cl _ u _ ts _ _ _ _ ih =>
  intro n
  have n:(aZ u&&bR ts)=true:=n
  rw[Bool.and_eq_true]at n
  exact ih n.2
 |rw=>exact λn=>(by cases n)
 | @tp _ _ us _ _ ts _ _ _ _ i1 i2 =>
  intro n
  have n:(bR us&&bR ts)=true:=n
  rw[Bool.and_eq_true]at n
  rw[i1 n.1,i2 n.2]
  rfl
theorem Ec:∀{ts:List Tr},(∀t∈ts,aZ t=true)->bR ts=true
 | [],_=>rfl
 |t::ts,h=>by
  show(aZ t&&bR ts)=true
  rw[h t (List.mem_cons_self ..),Ec λx hx=>h x (List.mem_cons_of_mem _ hx)]
  rfl
theorem DR.app{K:PySem.W.Frag}{G H:Hp}{xs ys:List V}{ts us:List Tr}{as bs:List Addr}(h:DR K G H xs ts as)(r:DR K G H ys us bs):DR K G H (xs++ys) (ts++us) (as++bs):=by
 induction h with
 |nil=>exact r
 |cl n h _ ih=>exact .cl n h ih
 |rw h q _ _ ih=>have:=DR.rw h q ih; rw[<-List.append_assoc]at this; exact this
 |tp h q _ _ ih=>have:=DR.tp h q ih; rw[<-List.append_assoc]at this; exact this
theorem DR.reps{K:PySem.W.Frag}{G G' H:Hp}(m:Same G G'){xs:List V}{ts:List Tr}{bs:List Addr}(h:DR K G H xs ts bs):(∀b∈bs,G' b=H b)->au K G' xs ts:=by
 induction h with
 |nil=>exact λ_=>.nil
 |cl n h _ ih=>exact λk=>.cons (h.mono m) (ih k)
 |rw h _ _ i1 i2=>exact λk=>.cons (.lst (aM.of ((k _ (List.mem_cons_self ..)).trans h)) (i1 λb hb=>k b (List.mem_cons_of_mem _ (List.mem_append_left _ hb)))) (i2 λb hb=>k b (List.mem_cons_of_mem _ (List.mem_append_right _ hb)))
 |tp h _ _ i1 i2=>exact λk=>.cons (.tup (m.jA h) (i1 λb hb=>k b (List.mem_append_left _ hb))) (i2 λb hb=>k b (List.mem_append_right _ hb))
theorem DR.length{K:PySem.W.Frag}{G H:Hp}{xs:List V}{ts:List Tr}{bs:List Addr}(h:DR K G H xs ts bs):xs.length=ts.length:=by
 induction h with
 |nil=>rfl
 |cl _ _ _ ih=>rw[List.length_cons,List.length_cons,ih]
 |rw _ _ _ _ ih=>rw[List.length_cons,List.length_cons,ih]
 |tp _ _ _ _ ih=>rw[List.length_cons,List.length_cons,ih]
theorem DR.split{K:PySem.W.Frag}{G H:Hp}{xs:List V}{t:Tr}{ts:List Tr}{bs:List Addr}(h:DR K G H xs (t::ts) bs):∃v ys c b,xs=v::ys/\bs=c++b/\DR K G H [v] [t] c/\DR K G H ys ts b:=by
 cases h with
 |cl n h r=>exact⟨_,_,[],_,rfl,rfl,.cl n h .nil,r⟩
 | @rw b _ _ cs _ _ bs h q r=>exact⟨_,_,b::cs,bs,rfl,rfl,by have:=DR.rw h q .nil; rwa[List.append_nil]at this,r⟩
 | @tp b _ _ cs _ _ bs h q r=>exact⟨_,_,cs,bs,rfl,rfl,by have:=DR.tp h q .nil; rwa[List.append_nil]at this,r⟩
theorem DR.at{K:PySem.W.Frag}{G H:Hp}:∀{ts:List Tr} {xs:List V} {bs:List Addr} {m:Nat} {T:Tr},DR K G H xs ts bs->bs.Nodup->ts[m]?=some T->∃v cs,xs[m]?=some v/\DR K G H [v] [T] cs/\cs.Nodup/\(∀c∈cs,c∈bs)/\∀G' H' T',Same G G'->(∀b∈bs,b∉cs->∀o,H b=some o->H' b=some o)->DR K G' H' [v] [T'] cs->DR K G' H' xs (ts.set m T') bs
 | [],_,_,_,_,_,_,h=>by simp at h
 |t::ts,_,_,m,T,d,n,h=>by
  obtain⟨v,ys,c,b,rfl,rfl,d1,d2⟩:=d.split
  obtain⟨n1,n2,n3⟩:=List.nodup_append.mp n
  cases m with
  |zero =>
   obtain rfl:t=T:=by simpa using h
   exact⟨v,c,rfl,d1,n1,λx hx=>List.mem_append_left _ hx,λG' H' T' g k q=>q.app (d2.mono g λx hx=>k x (List.mem_append_right _ hx) λz=>n3 x z x hx rfl)⟩
  |succ m =>
   obtain⟨w,cs,h1,h2,h3,h4,h5⟩:=DR.at d2 n2 (by simpa using h)
   exact⟨w,cs,by simpa using h1,h2,h3,λx hx=>List.mem_append_right _ (h4 x hx),λG' H' T' g k q=>(d1.mono g λx hx=>k x (List.mem_append_left _ hx) λz=>n3 x hx x (h4 x z) rfl).app (h5 G' H' T' g (λx hx=>k x (List.mem_append_right _ hx)) q)⟩
noncomputable abbrev Fp:=Nat->List Addr
noncomputable def Fn(F:Fp)(b:Addr):Prop:=∃i,b∈F i
noncomputable def Oh(K:PySem.W.Frag)(G H:Hp)(v:Option (Option V))(f:List Addr)(ts:List Tr)(P:Addr->Prop):Prop:=∃a xs,v=some (some (.ref a))/\f=[a]/\P a/\H a=some (.lst xs)/\au K G xs ts
inductive bx(K:PySem.W.Frag)(G H:Hp):List (Str × V)->List (Str × aK)->List Addr->Prop
 |nil:bx K G H [] [] []
 |sh {k:Str} {x:V} {T:Tr} {xs:List (Str × V)} {fs:List (Str × aK)} {bs:List Addr} (h:Rep K G x T) (r:bx K G H xs fs bs):bx K G H ((k,x)::xs) ((k,.sh T)::fs) bs
 |dp {k:Str} {b:Addr} {ys:List V} {us:List Tr} {cs:List Addr} {xs:List (Str × V)} {fs:List (Str × aK)} {bs:List Addr} (h:H b=some (.lst ys)) (q:DR K G H ys us cs) (r:bx K G H xs fs bs):bx K G H ((k,.ref b)::xs) ((k,.dp us)::fs) (b::(cs++bs))
theorem bx.mono{K:PySem.W.Frag}{G G' H H':Hp}(m:Same G G'){xs:List (Str × V)}{fs:List (Str × aK)}{bs:List Addr}(h:bx K G H xs fs bs):(∀b∈bs,∀o,H b=some o->H' b=some o)->bx K G' H' xs fs bs:=by
 induction h with
 |nil=>exact λ_=>.nil
 |sh h _ ih=>exact λk=>.sh (h.mono m) (ih k)
 |dp h q _ ih=>exact λk=>.dp (k _ (List.mem_cons_self ..) _ h) (q.mono m λb hb=>k b (List.mem_cons_of_mem _ (List.mem_append_left _ hb))) (ih λb hb=>k b (List.mem_cons_of_mem _ (List.mem_append_right _ hb)))
theorem bx.lst{K:PySem.W.Frag}{G H:Hp}{xs:List (Str × V)}{fs:List (Str × aK)}{bs:List Addr}(h:bx K G H xs fs bs):∀b∈bs,∃ys,H b=some (.lst ys):=by
 induction h with
 |nil=>exact λ_ h=>by cases h
 |sh _ _ ih=>exact ih
 |dp q d _ ih =>
  intro b h
  rcases List.mem_cons.mp h with rfl|h
  .exact⟨_,q⟩
  .exact(List.mem_append.mp h).elim (d.lst b) (ih b)
noncomputable def iY(K:PySem.W.Frag)(c:Str)(C:Addr):Prop:=PySem.W.nsIn K mainGlobals c=some (some (.ref C))
noncomputable def cW(K:PySem.W.Frag)(R:Addr->Prop)(G H:Hp)(v:Option (Option V))(f:List Addr):Option Sl->Prop
 |some (.sh T)=>f=[]/\∃u,v=some (some u)/\Rep K G u T
 |some (.ow ts)=>Oh K G H v f ts λa=>¬R a
 |some (.rf ts)=>Oh K G H v f ts R
 |some (.dp ts)=>∃a xs bs,v=some (some (.ref a))/\f=a::bs/\f.Nodup/\(∀b∈f,¬R b)/\H a=some (.lst xs)/\DR K G H xs ts bs
 |some (.ob l c fs)=>∃a dx C xs bs,v=some (some (.ref a))/\f=a::dx::bs/\f.Nodup/\(R a↔l=true)/\(∀b∈dx::bs,¬R b)/\iY K c C/\H a=some (.ins C dx xs)/\H dx=some (.own a)/\bx K G H xs fs bs
 |some (.vo c fs)=>f=[]/\∃a dx C xs,v=some (some (.ref a))/\iY K c C/\G a=some (.ins C dx xs)/\bx K G H xs fs []
 |some (.dt T)=>∃u,v=some (some u)/\f.Nodup/\(∀b∈f,¬R b)/\DR K G H [u] [T] f
 |_=>f=[]
theorem cW.mu{K:PySem.W.Frag}{R:Addr->Prop}{G H:Hp}{v:Option (Option V)}{f:List Addr}{s:Option Sl}(h:cW K R G H v f s):∀b∈f,∃o,H b=some o/\L2.lG o=true:=λb hb=>by
 unfold cW at h
 split at h
 .rw[h.1]at hb; cases hb
 .obtain⟨a,xs,_,rfl,_,q,_⟩:=h; cases List.mem_singleton.mp hb; exact⟨_,q,rfl⟩
 .obtain⟨a,xs,_,rfl,_,q,_⟩:=h; cases List.mem_singleton.mp hb; exact⟨_,q,rfl⟩
 .obtain⟨a,xs,bs,_,rfl,_,_,q,d⟩:=h
  rcases List.mem_cons.mp hb with rfl|hb
  .exact⟨_,q,rfl⟩
  .obtain⟨ys,q⟩:=d.lst b hb; exact⟨_,q,rfl⟩
 .obtain⟨a,dx,C,xs,bs,_,rfl,_,_,_,_,q,q',d⟩:=h
  rcases List.mem_cons.mp hb with rfl|hb
  .exact⟨_,q,rfl⟩
  rcases List.mem_cons.mp hb with rfl|hb
  .exact⟨_,q',rfl⟩
  .obtain⟨ys,q⟩:=d.lst b hb; exact⟨_,q,rfl⟩
 .rw[h.1]at hb; cases hb
 .obtain⟨u,_,_,_,d⟩:=h; obtain⟨ys,q⟩:=d.lst b hb; exact⟨_,q,rfl⟩
 .rw[h]at hb; cases hb
theorem cW.mono{K:PySem.W.Frag}{R:Addr->Prop}{G G' H H':Hp}{v:Option (Option V)}{f:List Addr}{s:Option Sl}(h:cW K R G H v f s)(m:Same G G')(k:∀b∈f,∀o,H b=some o->H' b=some o):cW K R G' H' v f s:=by
 unfold cW at h ⊢
 split at h
 .obtain⟨h1,u,h2,h3⟩:=h; exact⟨h1,u,h2,h3.mono m⟩
 .obtain⟨a,xs,h1,rfl,n,q,r⟩:=h; exact⟨a,xs,h1,rfl,n,k _ (List.mem_singleton.mpr rfl) _ q,r.mono m⟩
 .obtain⟨a,xs,h1,rfl,n,q,r⟩:=h; exact⟨a,xs,h1,rfl,n,k _ (List.mem_singleton.mpr rfl) _ q,r.mono m⟩
 .obtain⟨a,xs,bs,h1,rfl,nd,n,q,d⟩:=h; exact⟨a,xs,bs,h1,rfl,nd,n,k _ (List.mem_cons_self ..) _ q,d.mono m λb hb=>k b (List.mem_cons_of_mem _ hb)⟩
 .obtain⟨a,dx,C,xs,bs,h1,rfl,nd,n,n',c,q,q',d⟩:=h
  exact⟨a,dx,C,xs,bs,h1,rfl,nd,n,n',c,k _ (List.mem_cons_self ..) _ q,k _ (List.mem_cons_of_mem _ (List.mem_cons_self ..)) _ q',d.mono m λb hb=>k b (List.mem_cons_of_mem _ (List.mem_cons_of_mem _ hb))⟩
 .obtain⟨h1,a,dx,C,xs,h2,c,q,d⟩:=h
  exact⟨h1,a,dx,C,xs,h2,c,m _ _ q,d.mono m λ_ z=>by cases z⟩
 .obtain⟨u,h1,nd,n,d⟩:=h; exact⟨u,h1,nd,n,d.mono m k⟩
 .exact h
structure Ok(K:PySem.W.Frag)(R:Addr->Prop)(ρ : En)(σ : St)(G H:Hp)(F:Fp):Prop where
 len : ρ.length = σ.length
 sub:Same G H
 tb:bf K H
 tg:∀b,Tb K b->G b=none
 hid:∀b,Fn F b->G b=none
 rg:∀b,R b->G b=none/\H b≠none
 di:∀i j b,b∈F i->b∈F j->i=j
 sl:∀i,cW K R G H σ[i]? (F i) ρ[i]?
structure Fr(K:PySem.W.Frag)(H:Hp)(F:Fp)(H':Hp):Prop where
 fr:∀b o,H b=some o->¬Fn F b->¬Tb K b->H' b=some o
 tb:bf K H'
structure aB(K:PySem.W.Frag)(G H:Hp)(F:Fp)(G' H':Hp)(F':Fp):Prop where
 gg:Same G G'
 fr:∀b o,H b=some o->¬Fn F b->¬Tb K b->H' b=some o
 nw:∀b,G' b≠none->G b≠none\/H b=none\/Fn F b
 nf:∀b,Fn F' b->H b=none\/Fn F b
 dm:∀b,H' b=none->H b=none
section
variable {K:PySem.W.Frag}{R:Addr->Prop}{ρ : En}{σ : St}{G H G' H':Hp}{F F':Fp}
theorem aB.refl:aB K G H F G H F:=⟨Same.refl _,λ_ _ h _ _=>h,λ_ h=>.inl h,λ_ h=>.inr h,λ_ h=>h⟩
theorem aB.out(s:aB K G H F G' H' F')(h:H b=some o)(n:¬Fn F b):¬Fn F' b:=λz=>(s.nf b z).elim (λq=>by rw[h]at q; cases q) n
theorem aB.trans(s:aB K G H F G1 H1 F1)(u:aB K G1 H1 F1 G' H' F'):aB K G H F G' H' F' where
 gg:=s.gg.trans u.gg
 fr b o h n t:=u.fr b o (s.fr b o h n t) (s.out h n) t
 nw b h:=(u.nw b h).elim (s.nw b) λh=>.inr (h.elim (λh=>.inl (s.dm b h)) (s.nf b))
 nf b h:=(u.nf b h).elim (λh=>.inl (s.dm b h)) (s.nf b)
 dm b h:=s.dm b (u.dm b h)
theorem aB.back(s:aB K G H F G1 H1 F1)(f:Fr K H1 F1 H'):Fr K H F H':=⟨λb o h n t=>f.fr b o (s.fr b o h n t) (s.out h n) t,f.tb⟩
theorem Ok.fl(e:Ok K R ρ σ G H F)(h:Fn F b):∃o,H b=some o/\lG o=true:=h.elim λi h=>(e.sl i).mu b h
theorem Ok.fs(e:Ok K R ρ σ G H F)(h:H b=none):¬Fn F b:=λz=>by
 obtain⟨_,q,_⟩:=e.fl z
 rw[h]at q
 cases q
theorem Ok.rn(e:Ok K R ρ σ G H F)(h:H b=none):¬R b:=λz=>(e.rg b z).2 h
structure Gw(K:PySem.W.Frag)(G H G' H':Hp):Prop where
 gg:Same G G'
 hh:∀b o,H b=some o->¬Tb K b->H' b=some o
 sub:Same G' H'
 tb:bf K H->bf K H'
 nw:∀b,G' b≠none->G b≠none\/H b=none
theorem bf.new(h:bf K H)(q:H p=none):bf K (L2.upd H p o):=h.fr λb u _ z=>fC q _ b u z
theorem Gw.refl(s:Same G H):Gw K G H G H:=⟨Same.refl _,λ_ _ h _=>h,s,id,λ_ h=>.inl h⟩
theorem Gw.flt(s:Same G H)(h:H p=none):Gw K G H G (upd H p o):=⟨Same.refl _,λb u q _=>fC h o b u q,s.trans (fC h o),λt=>t.new h,λ_ h=>.inl h⟩
theorem Gw.new(s:Same G H)(h:H p=none):Gw K G H (upd G p o) (upd H p o):=⟨fC (s.free h) o,λb u q _=>fC h o b u q,λb u q=>by
 by_cases e:b=p
 .subst e; rw[bN]at q ⊢; exact q
 .rw[aH e]at q ⊢; exact s b u q,λt=>t.new h,λb q=>by
 by_cases e:b=p
 .subst e; exact .inr h
 .rw[aH e]at q; exact .inl q⟩
structure Gs(K:PySem.W.Frag)(G H G' H':Hp):Prop where
 gw:Gw K G H G' H'
 sm:Same H H'
theorem Gs.refl(s:Same G H):Gs K G H G H:=⟨.refl s,Same.refl _⟩
theorem Gs.flt(s:Same G H)(h:H p=none):Gs K G H G (upd H p o):=⟨.flt s h,fC h o⟩
theorem Gs.new(s:Same G H)(h:H p=none):Gs K G H (upd G p o) (upd H p o):=⟨.new s h,fC h o⟩
theorem Ok.grow(e:Ok K R ρ σ G H F)(w:Gw K G H G' H'):Ok K R ρ σ G' H' F/\aB K G H F G' H' F:=by
 have tb:=w.tb e.tb
 have dm:∀b,H' b=none->H b=none:=λb h=>by
  cases q:H b with
  |none=>rfl
  |some o =>
   by_cases t:Tb K b
   .obtain⟨ps,z⟩:=tb.bM t; rw[h]at z; cases z
   .rw[w.hh b o q t]at h; cases h
 have no:∀b,G b=none->H b≠none->G' b=none:=λb h n=>by
  cases q:G' b with
  |none=>rfl
  |some o=>exact((w.nw b (by rw[q]; exact λz=>by cases z)).elim (λz=>z h) n).elim
 refine⟨⟨e.len,w.sub,tb,λb t=>no b (e.tg b t) λz=>?_,λb h=>no b (e.hid b h) λz=>e.fs z h,λb h=>⟨no b (e.rg b h).1 (e.rg b h).2,λz=>(e.rg b h).2 (dm b z)⟩,e.di,λi=>(e.sl i).mono w.gg λb hb o q=>w.hh b o q ?_⟩,w.gg,λb o h _ t=>w.hh b o h t,λb h=>(w.nw b h).imp id .inl,λb h=>.inr h,dm⟩
 .obtain⟨ps,q⟩:=e.tb.bM t; rw[z]at q; cases q
 .obtain⟨_,z,m⟩:=e.fl ⟨i,hb⟩
  exact e.tb.nm z m
theorem Ok.show(e:Ok K R ρ σ G H F)(h:H a=some (.lst xs))(n:¬Fn F a)(r:¬R a):Ok K R ρ σ (upd G a (.lst xs)) H F/\Same G (upd G a (.lst xs)):=by
 have m:Same G (upd G a (.lst xs)):=λb o q=>by
  by_cases z:b=a
  .subst z; rw[bN,<-h]; exact(e.sub b o q)
  .rw[aH z]; exact q
 have no:∀b,b≠a->G b=none->upd G a (.lst xs) b=none:=λb z q=>by rw[aH z]; exact q
 refine⟨⟨e.len,λb o q=>?_,e.tb,λb t=>no b (λz=>e.tb.nt h (z▸t)) (e.tg b t),λb z=>no b (λq=>n (q▸z)) (e.hid b z),λb z=>⟨no b (λq=>r (q▸z)) (e.rg b z).1,(e.rg b z).2⟩,e.di,λi=>(e.sl i).mono m λ_ _ _ q=>q⟩,m⟩
 by_cases z:b=a
 .subst z; rw[bN]at q; rw[h]; exact q
 .rw[aH z]at q; exact e.sub b o q
noncomputable def VN(K:PySem.W.Frag)(Hs G H:Hp)(v:V)(T:Tr):Bool->Prop
 |false=>Rep K G v T
 |true=>∃a xs ts,v=.ref a/\T=.lst ts/\Hs a=none/\G a=none/\H a=some (.lst xs)/\au K G xs ts
noncomputable def fH(K:PySem.W.Frag)(σ : St)(Hs G H:Hp)(F:Fp)(v:V):Rv->Prop
 |.v T fr=>VN K Hs G H v T fr/\(fr=true->∀a,v=.ref a->¬Fn F a)
 |.s i=>σ[i]?=some (some v)
theorem VN.ok(h:VN K H G' H' v T fr)(e:Ok K R ρ σ G H F):fH K τ H G' H' F v (.v T fr):=⟨h,λz a q=>by
 subst z; subst q
 obtain⟨b,_,_,z,_,n,_⟩:=h
 cases z
 exact e.fs n⟩
theorem fH.low(h:Rep K G v T):fH K σ Hs G H F v (.v T false):=⟨h,λz=>by cases z⟩
theorem fH.step(h:fH K σ Hs G H F v r)(tb:bf K H)(s:aB K G H F G' H' F'):fH K σ Hs G' H' F' v r:=by
 match r,h with
 |.s i,h=>exact h
 |.v T false,h=>exact .low (Rep.mono s.gg h.1)
 |.v T true,⟨⟨a,xs,ts,e1,e2,n,g,q,r⟩,f⟩ =>
  have na:=f rfl a e1
  refine⟨⟨a,xs,ts,e1,e2,n,?_,s.fr a _ q na (tb.nt q),r.mono s.gg⟩,λ_ b z=>?_⟩
  .cases k:G' a with
   |none=>rfl
   |some o=>exact((s.nw a (by rw[k]; exact λz=>by cases z)).elim (λz=>z g) λz=>z.elim (λz=>by rw[q]at z; cases z) na).elim
  .rw[e1]at z; cases z
   exact s.out q na
theorem fH.back(h:fH K σ H1 G' H' F' v r)(d:∀b,H1 b=none->H b=none):fH K σ H G' H' F' v r:=by
 match r,h with
 |.s i,h=>exact h
 |.v T false,h=>exact .low h.1
 |.v T true,⟨⟨a,xs,ts,e1,e2,n,q⟩,f⟩=>exact⟨⟨a,xs,ts,e1,e2,d a n,q⟩,f⟩
noncomputable def Rp(K:PySem.W.Frag)(G H:Hp)(v:V)(T:Tr):Prop:=Rep K G v T\/∃a xs ts,v=.ref a/\T=.lst ts/\H a=some (.lst xs)/\au K G xs ts
theorem Rp.rep(s:Same G H)(h:Rp K G H v T):Rep K H v T:=by
 rcases h with h|⟨a,xs,ts,rfl,rfl,e,r⟩
 .exact h.mono s
 .exact .lst (aM.of e) (r.mono s)
theorem Rp.lst(s:Same G H)(h:Rp K G H v (.lst ts)):∃a xs,v=.ref a/\aM K H a xs/\au K G xs ts:=by
 rcases h with h|⟨a,xs,us,rfl,e0,e,r⟩
 .cases h with
  |lst h r=>exact⟨_,_,rfl,s.seq h,r⟩
 .cases e0
  exact⟨a,xs,rfl,aM.of e,r⟩
theorem Rp.low(h:Rp K G H v T)(n:o7 T=false):Rep K G v T:=by
 rcases h with h|⟨a,xs,us,rfl,rfl,_⟩
 .exact h
 .cases n
theorem Rp.tup(s:Same G H)(h:Rp K G H v (.tup ts)):∃a xs,v=.ref a/\aW K H a xs/\au K G xs ts:=by
 have q:=h.low rfl
 cases q with
 |tup q r=>exact⟨_,_,rfl,s.jA q,r⟩
theorem Rp.int(h:Rp K G H v (.int i)):v=.int i:=by cases h.low rfl; rfl
theorem Rp.bl(h:Rp K G H v (.bl i)):v=.bl i:=by cases h.low rfl; rfl
theorem Rp.str(h:Rp K G H v (.str i)):v=.str i:=by cases h.low rfl; rfl
theorem Rp.non(h:Rp K G H v .non):v=.non:=by cases h.low rfl; rfl
noncomputable def dr(ρ : En):Rv->Rs Tr
 |.v T _=>.ok T
 |.s i=>match ρ[i]? with
  |some (Sl.ow ts)=>.ok (.lst ts)
  |some (Sl.rf ts)=>.ok (.lst ts)
  |_=>.bad
theorem iC(ρ : En)(r:Rv)(c:Str):dr ρ r ≠ .ex c:=by
 cases r with
 |v T fr=>intro z; cases z
 |s i=>dsimp only[dr]; split <;> (intro z; cases z)
theorem iD(e:Ok K R ρ σ G H F)(h:fH K σ Hs G H F v r)(q:dr ρ r=.ok T):Rp K G H v T:=by
 match r,h with
 |.v U false,h=>cases q; exact .inl h.1
 |.v U true,⟨⟨a,xs,ts,e1,e2,_,_,z,r⟩,_⟩=>cases q; exact .inr ⟨a,xs,ts,e1,e2,z,r⟩
 |.s i,h =>
  dsimp only[dr]at q
  have z:=e.sl i
  split at q <;> rename_i k <;> (first|cases q; done|skip) <;> (rw[k]at z; obtain⟨a,xs,h1,_,_,h4,h5⟩:=z; rw[h]at h1; cases h1; cases q; exact .inr ⟨a,xs,_,rfl,rfl,h4,h5⟩)
end
structure Tx where
 K:PySem.W.Frag
 xe:Str->Hp->Prop
noncomputable def bB{α : Type}(t:Tx)(H:Hp)(F:Fp)(r:Rs α)(P : α -> Prop):Prop:=match r with
 |.bad=>False
 |.ex c=>∀H',Fr t.K H F H'->t.xe c H'
 |.ok a=>P a
theorem bF{C:Prop}{A B:(Addr->Prop)->En->Hp->Fp->Prop}(k:∀R ρ G F,A R ρ G F->B R ρ G F->C):(∃R ρ G F,A R ρ G F/\B R ρ G F)->C:=λz=>by
 obtain⟨R,ρ,G,F,e,h⟩:=z
 exact k R ρ G F e h
noncomputable def Te(t:Tx)(f:EF):TE:=λσ H Q=>∃R ρ G F,Ok t.K R ρ σ G H F/\bB t H F (f ρ) λp=>∀v G' H' F',Ok t.K R p.2 σ G' H' F'->aB t.K G H F G' H' F'->fH t.K σ H G' H' F' v p.1->Q v H'
noncomputable def Tt(t:Tx)(f:BF):TT:=λσ H Q=>∃R ρ G F,Ok t.K R ρ σ G H F/\bB t H F (f ρ) λp=>∀G' H' F',Ok t.K R p.2 σ G' H' F'->aB t.K G H F G' H' F'->Q p.1 H'
noncomputable def To(t:Tx)(f:OF):TO:=λσ H Q=>∃R ρ G F,Ok t.K R ρ σ G H F/\bB t H F (f ρ) λp=>∀G' H' F',Ok t.K R p.2 σ G' H' F'->aB t.K G H F G' H' F'->Q p.1 H'
inductive dK(K:PySem.W.Frag)(σ : St)(Hs G H:Hp)(F:Fp):List V->List Rv->Prop
 |nil:dK K σ Hs G H F [] []
 |cons {v:V} {r:Rv} {vs:List V} {rs:List Rv} (h:fH K σ Hs G H F v r) (q:dK K σ Hs G H F vs rs):dK K σ Hs G H F (v::vs) (r::rs)
noncomputable def Ta(t:Tx)(f:AF):TA:=λσ H Q=>∃R ρ G F,Ok t.K R ρ σ G H F/\bB t H F (f ρ) λp=>∀vs G' H' F',Ok t.K R p.2 σ G' H' F'->aB t.K G H F G' H' F'->dK t.K σ H G' H' F' vs p.1->Q vs H'
section
variable {t:Tx}{R:Addr->Prop}{ρ : En}{σ : St}{G H G0 H0:Hp}{F F0:Fp}
theorem bB.run{α β : Type}{r:Rs α}{g : α -> Rs β}{P : β -> Prop}{P' : α -> Prop}(s:aB t.K G0 H0 F0 G H F)(h:bB t H0 F0 (r.bind g) P)(k:∀a,bB t H0 F0 (g a) P->P' a):bB t H F r P':=by
 cases r with
 |bad=>exact h
 |ex c=>exact λH' f=>h H' (s.back f)
 |ok a=>exact k a h
theorem bB.okb{α β : Type}{r:Rs α}{g : α -> Rs β}{P : β -> Prop}(h:bB t H F (r.bind g) P)(n:∀c,r ≠ .ex c):∃a,r=.ok a/\bB t H F (g a) P:=by
 cases r with
 |bad=>exact h.elim
 |ex c=>exact(n c rfl).elim
 |ok a=>exact⟨a,rfl,h⟩
theorem dh{β : Type}{g:Rv × En->Rs β}{P : β -> Prop}(e:Ok t.K R ρ σ G H F)(s:aB t.K G0 H0 F0 G H F)(h:bB t H0 F0 ((f ρ).bind g) P)(k:∀p,bB t H0 F0 (g p) P->∀v G' H' F',Ok t.K R p.2 σ G' H' F'->aB t.K G H F G' H' F'->fH t.K σ H G' H' F' v p.1->Q v H'):Te t f σ H Q:=⟨R,ρ,G,F,e,h.run s k⟩
theorem lH{β : Type}{g:List Rv × En->Rs β}{P : β -> Prop}(e:Ok t.K R ρ σ G H F)(s:aB t.K G0 H0 F0 G H F)(h:bB t H0 F0 ((f ρ).bind g) P)(k:∀p,bB t H0 F0 (g p) P->∀v G' H' F',Ok t.K R p.2 σ G' H' F'->aB t.K G H F G' H' F'->dK t.K σ H G' H' F' v p.1->Q v H'):Ta t f σ H Q:=⟨R,ρ,G,F,e,h.run s k⟩
theorem m9{β : Type}{g:Bool × En->Rs β}{P : β -> Prop}(e:Ok t.K R ρ σ G H F)(s:aB t.K G0 H0 F0 G H F)(h:bB t H0 F0 ((f ρ).bind g) P)(k:∀p,bB t H0 F0 (g p) P->∀G' H' F',Ok t.K R p.2 σ G' H' F'->aB t.K G H F G' H' F'->Q p.1 H'):Tt t f σ H Q:=⟨R,ρ,G,F,e,h.run s k⟩
theorem Oi{β : Type}{g:Option Int × En->Rs β}{P : β -> Prop}(e:Ok t.K R ρ σ G H F)(s:aB t.K G0 H0 F0 G H F)(h:bB t H0 F0 ((f ρ).bind g) P)(k:∀p,bB t H0 F0 (g p) P->∀G' H' F',Ok t.K R p.2 σ G' H' F'->aB t.K G H F G' H' F'->Q p.1 H'):To t f σ H Q:=⟨R,ρ,G,F,e,h.run s k⟩
end
local macro_rules | `(tactic| walk_at "x")=>`(tactic| ((repeat' split) <;> (intro z; cases z)))
noncomputable def Pz{α : Type}(r:Rs α)(P : α -> Prop):Prop:=match r with
 |.ok a=>P a
 |_=>False
noncomputable abbrev G1:=Tr->Rs (Tr × Bool)
noncomputable abbrev G2:=Tr->Tr->Rs (Tr × Bool)
noncomputable abbrev GN:=List Tr->Rs (Tr × Bool)
structure cF(K:PySem.W.Frag)(r:R2)(g:G2):Prop where
 nx:∀a b c,g a b ≠ .ex c
 ok:∀G H x y a b Q,Same G H->Rp K G H x a->Rp K G H y b->Pz (g a b) (λp=>∀v G' H',Gs K G H G' H'->VN K H G' H' v p.1 p.2->Q v H')->r x y H Q
inductive lJ(K:PySem.W.Frag)(G H:Hp):List V->List Tr->Prop
 |nil:lJ K G H [] []
 |cons {x:V} {t:Tr} {xs:List V} {ts:List Tr} (h:Rp K G H x t) (r:lJ K G H xs ts):lJ K G H (x::xs) (t::ts)
structure yg(K:PySem.W.Frag)(r:List V->Hp->VK->Prop)(g:GN):Prop where
 nx:∀as c,g as ≠ .ex c
 ok:∀G H xs as Q,Same G H->lJ K G H xs as->Pz (g as) (λp=>∀v G' H',Gs K G H G' H'->VN K H G' H' v p.1 p.2->Q v H')->r xs H Q
section
variable {K:PySem.W.Frag}
theorem VN.flt(s:Same G H)(hz:H z=none)(r:au K G xs ts):VN K H G (upd H z (.lst xs)) (.ref z) (.lst ts) true:=⟨z,xs,ts,rfl,rfl,hz,s.free hz,bN,r⟩
theorem VN.newT(s:Same G H)(hz:H z=none)(r:au K G xs ts):VN K H (upd G z (.tup xs)) (upd H z (.tup xs)) (.ref z) (.tup ts) false:=Rep.tup (aW.of bN) (r.mono (fC (s.free hz) _))
theorem au.nj:∀{v:List V} {t:List Tr} {i:Nat} {u:Tr},au K H v t->t[i]?=some u->∃x,v[i]?=some x/\Rep K H x u
 |_,_,_,_,.nil,e=>by simp at e
 |_,_,0,_,.cons h _,e=>by simp at e; subst e; exact⟨_,rfl,h⟩
 |_,_,i+1,_,.cons _ r,e=>by
  obtain⟨x,a,b⟩:=au.nj (i:=i) r (by simpa using e)
  exact⟨x,by simpa using a,b⟩
theorem au.dZ(r:au K H xs ts)(h:dZ ts i=some t):∃x,L2.dZ xs i=some x/\Rep K H x t:=by
 unfold L2.dZ at h ⊢
 rw[r.length]
 cases e:fB ts.length i with
 |none=>rw[e]at h; cases h
 |some j =>
  rw[e]at h
  exact r.nj h
theorem big(h:n<=100000):n<=sizeLine:=Nat.le_trans h (by decide)
noncomputable def gI(p:Int->Int->Int):G2
 |.int i,.int j=>.ok (.int (p i j),false)
 |_,_=>.bad
theorem ado:cF K (fP λi j=>.int (p i j)) (gI p):=⟨λa b c=>by unfold gI; walk_at "x",λG H x y a b Q s rx ry h=>by
 cases a <;> try exact h.elim
 cases b <;> try exact h.elim
 rw[rx.int,ry.int]
 exact⟨_,_,rfl,rfl,h _ G H (.refl s) (.int _)⟩⟩
noncomputable def qQ(c:Int->Int->Bool)(p:Int->Int->Int):G2
 |.int i,.int j=>if c i j=true then .ok (.int (p i j),false)else .bad
 |_,_=>.bad
theorem Ed(hc:∀i j,c i j=true->C i j):cF K (rI C λi j=>.int (p i j)) (qQ c p):=⟨λa b c=>by unfold qQ; walk_at "x",λG H x y a b Q s rx ry h=>by
 cases a <;> try exact h.elim
 cases b <;> try exact h.elim
 rw[rx.int,ry.int]
 dsimp only[qQ]at h
 split at h
 .rename_i e
  exact⟨_,_,rfl,rfl,hc _ _ e,h _ G H (.refl s) (.int _)⟩
 .exact h.elim⟩
noncomputable def gB(p:Int->Int->Bool):G2
 |.int i,.int j=>.ok (.bl (p i j),false)
 |_,_=>.bad
theorem Oj:cF K (fP λi j=>.bl (p i j)) (gB p):=⟨λa b c=>by unfold gB; walk_at "x",λG H x y a b Q s rx ry h=>by
 cases a <;> try exact h.elim
 cases b <;> try exact h.elim
 rw[rx.int,ry.int]
 exact⟨_,_,rfl,rfl,h _ G H (.refl s) (.bl _)⟩⟩
noncomputable def iG:G2:=λt u=>if dep t<=40/\dep u<=40 then .ok (.bl (eqT t u),false)else .bad
theorem adp:cF (aq K) (Dz K) iG:=⟨λa b c=>by unfold iG; walk_at "x",λG H x y a b Q s rx ry h=>by
 unfold iG at h
 split at h
 .rename_i e
  exact⟨a,b,(rx.rep s).toK,(ry.rep s).toK,e.1,e.2,h _ G H (.refl s) (.bl _)⟩
 .exact h.elim⟩
noncomputable def dw:G2:=λt u=>if dep t<=40/\dep u<=40 then .ok (.bl (!eqT t u),false)else .bad
theorem adq:cF (aq K) (DY K) dw:=⟨λa b c=>by unfold dw; walk_at "x",λG H x y a b Q s rx ry h=>by
 unfold dw at h
 split at h
 .rename_i e
  exact⟨a,b,(rx.rep s).toK,(ry.rep s).toK,e.1,e.2,h _ G H (.refl s) (.bl _)⟩
 .exact h.elim⟩
noncomputable def fJ(f:Bool->Bool):G2:=λt u=>match u with
 |.lst us=>if deps us<=40/\dep t<=40 then .ok (.bl (f (lE t us)),false)else .bad
 |.tup us=>if deps us<=40/\dep t<=40 then .ok (.bl (f (lE t us)),false)else .bad
 |_=>.bad
theorem Ol(hr:∀x y H Q,(∃t ts p xs,Rep K H x t/\y=.ref p/\(aM K H p xs\/aW K H p xs)/\au K H xs ts/\deps ts<=40/\dep t<=40/\Q (.bl (f (lE t ts))) H)->r x y H Q):cF (aq K) r (fJ f):=⟨λa b c=>by unfold fJ; walk_at "x",λG H x y a b Q s rx ry h=>hr x y H Q (by
 cases b <;> try exact h.elim
 all_goals
  rename_i us
  dsimp only[fJ]at h
  split at h
  case isFalse=>exact h.elim
  rename_i e
 .obtain⟨p,xs,rfl,q,r⟩:=ry.tup s
  exact⟨a,us,p,xs,(rx.rep s).toK,rfl,.inr q.toK,(r.mono s).toK,e.1,e.2,h _ G H (.refl s) (.bl _)⟩
 .obtain⟨p,xs,rfl,q,r⟩:=ry.lst s
  exact⟨a,us,p,xs,(rx.rep s).toK,rfl,.inl q.toK,(r.mono s).toK,e.1,e.2,h _ G H (.refl s) (.bl _)⟩)⟩
theorem adt:cF (aq K) (DG K) (fJ id):=Ol λ_ _ _ _ h=>h
theorem adu:cF (aq K) (DX K) (fJ not):=Ol λ_ _ _ _ h=>h
noncomputable def isN:Tr->Bool
 |.non=>true
 |_=>false
noncomputable def Bj(f:Bool->Bool):G2:=λt u=>match u with
 |.non=>.ok (.bl (f (isN t)),false)
 |_=>.bad
noncomputable def Ef(K:PySem.W.Frag):R2:=λx y H Q=>(fP λi j=>.int (i+j)) x y H Q\/Oc K x y H Q\/(∃i j,x=.str i/\y=.str j/\i.length+j.length<=sizeLine/\Q (.str (i++j)) H)\/M8 K x y H Q
theorem adv:bh X (binaryOp .Add) (Ef X.K):=bh.or Ma (bh.or adk (bh.or abm acd))
noncomputable def lK:G2
 |.int i,.int j=>.ok (.int (i+j),false)
 |.lst a,.lst b=>if a.length+b.length<=100000 then .ok (.lst (a++b),true)else .bad
 |.str a,.str b=>if a.length+b.length<=100000 then .ok (.str (a++b),false)else .bad
 |.tup a,.tup b=>if 0<a.length/\a.length+b.length<=100000 then .ok (.tup (a++b),false)else .bad
 |_,_=>.bad
theorem adw:cF (aq K) (Ef K) lK:=⟨λa b c=>by unfold lK; walk_at "x",λG H x y a b Q s rx ry h=>by
 cases a <;> cases b <;> try exact h.elim
 .rw[rx.int,ry.int]
  exact .inl ⟨_,_,rfl,rfl,h _ G H (.refl s) (.int _)⟩
 all_goals
  rename_i us ws
  dsimp only[lK]at h
  split at h
  case isFalse=>exact h.elim
  rename_i e
 .rw[rx.str,ry.str]
  exact .inr (.inr (.inl ⟨us,ws,rfl,rfl,big e,h _ G H (.refl s) (.str _)⟩))
 .have rt:=rx.low rfl
  obtain⟨p,xs,rfl,q,r⟩:=rx.tup s
  obtain⟨p',ys,rfl,q',r'⟩:=ry.tup s
  have l1:=r.length
  have l2:=r'.length
  refine .inr (.inr (.inr ⟨p,p',xs,ys,rfl,rfl,q.toK,q'.toK,?_,by rw[l1,l2]; exact big e.2,λz=>h _ G H (.refl s) ?_,λ_ z hz=>h _ _ _ (.new s hz) (.newT s hz (r.app r'))⟩))
  .rintro rfl
   have e1:=e.1
   rw[<-l1]at e1
   cases e1
  .subst z
   cases r'
   rw[List.append_nil]
   exact rt
 .obtain⟨p,xs,rfl,q,r⟩:=rx.lst s
  obtain⟨p',ys,rfl,q',r'⟩:=ry.lst s
  exact .inr (.inl ⟨p,p',xs,ys,rfl,rfl,q.xY,q'.xY,by rw[r.length,r'.length]; exact big e,λz hz=>h _ _ _ (.flt s hz) (.flt s hz (r.app r'))⟩)⟩
noncomputable def fit(i:Int):Bool:=decide (i.natAbs.log2<1048575)
theorem Om(h:fit i=true):Builtin.Int.intBits i<=2 ^ 20:=by
 have h:=of_decide_eq_true h
 unfold Builtin.Int.intBits
 split
 .decide
 .omega
noncomputable def tiny(i:Int):Bool:=decide (-18446744073709551616<i)&&decide (i<18446744073709551616)
noncomputable def cV(i j:Int):Bool:=(fit i&&fit j) || tiny i || tiny j
noncomputable def yh(i j:Int):Prop:=cV i j=true
theorem yh.ok(h:yh i j):IntMulOk i j:=by
 unfold yh cV at h
 rw[Bool.or_eq_true,Bool.or_eq_true,Bool.and_eq_true]at h
 have tn:∀{k:Int},tiny k=true -> -(2 ^ 64)<k/\k<2 ^ 64:=λ{k} h=>by
  unfold tiny at h
  rw[Bool.and_eq_true]at h
  have h1:=of_decide_eq_true h.1
  have h2:=of_decide_eq_true h.2
  omega
 rcases h with(⟨h1,h2⟩|h)|h
 .exact .of_bits (Om h1) (Om h2)
 .exact .of_left (intBits_le_64 (tn h).1 (tn h).2)
 .exact .of_right (intBits_le_64 (tn h).1 (tn h).2)
noncomputable def Eh(K:PySem.W.Frag):R2:=λx y H Q=>(rI yh λi j=>.int (i*j)) x y H Q\/Oe K x y H Q
theorem adx:bh X (binaryOp .Mult) (Eh X.K):=bh.or (xr λ_ _ _ _ _ _ _ hc q=>mul_int q hc.ok) adl
noncomputable def uq:G2
 |.int i,.int j=>if cV i j=true then .ok (.int (i*j),false)else .bad
 |.lst a,.int k=>if(-1000<=k/\k<=1000)/\a.length<=100 then .ok (.lst (List.replicate k.toNat a).flatten,true)else .bad
 |_,_=>.bad
noncomputable def iI(_ j:Int):Bool:=decide (j≠0)&&decide (j.natAbs.log2<9000)
noncomputable def yj(i j:Int):Prop:=iI i j=true
theorem ady:bh X (binaryOp .FloorDiv) (rI yj λi j=>.int (i.fdiv j)):=xr λi j _ _ _ _ _ hc q=>by
 unfold yj iI at hc
 rw[Bool.and_eq_true]at hc
 exact floordiv_int (of_decide_eq_true hc.1) q (.inl (PyProof.noPylong_of_log2 (of_decide_eq_true hc.2)))
noncomputable def Ei:G2:=qQ iI Int.fdiv
noncomputable def yp:G2:=qQ (λ_ j=>decide (j≠0)) Int.fmod
noncomputable def Ej(i j:Int):Bool:=decide (0<=j)&&decide (j<=1000)&&tiny i
noncomputable def kJ:G2:=qQ Ej λi j=>i ^ j.toNat
noncomputable def yq:G2:=gI λi j=>i-j
section
variable {K:PySem.W.Frag}
theorem au.rep(r:au K H xs ts):∀n,au K H (List.replicate n xs).flatten (List.replicate n ts).flatten
 | 0=>.nil
 |n+1=>by
  exact r.app (au.rep r n)
theorem adz:cF (aq K) (Eh K) uq:=⟨λa b c=>by unfold uq; walk_at "x",λG H x y a b Q s rx ry h=>by
 cases a <;> cases b <;> try exact h.elim
 all_goals
  rename_i us k
  rw[ry.int]
  dsimp only[uq]at h
  split at h
  case isFalse=>exact h.elim
  rename_i e
 .rw[rx.int]
  exact .inl ⟨_,_,rfl,rfl,e,h _ G H (.refl s) (.int _)⟩
 .obtain⟨p,xs,rfl,q,r⟩:=rx.lst s
  refine .inr ⟨p,k,xs,rfl,rfl,q.xY,by omega,by omega,?_,λz hz=>h _ _ _ (.flt s hz) (.flt s hz (r.rep _))⟩
  rw[r.length]
  exact Nat.le_trans (Nat.mul_le_mul e.2 (show k.toNat<=1000 by omega)) (by decide)⟩
theorem adA:cF K (rI yj λi j=>.int (i.fdiv j)) Ei:=Ed λ_ _ h=>h
theorem adB:cF K (rI (λ_ j=>j≠0) λi j=>.int (i.fmod j)) yp:=Ed λ_ _ h=>of_decide_eq_true h
theorem adC(i j:Int)(h:Ej i j=true):xu i j:=by
 simp only[Ej,tiny,Bool.and_eq_true,decide_eq_true_eq]at h
 exact⟨h.1.1,by omega,by omega⟩
theorem adD:cF K (rI xu λi j=>.int (i ^ j.toNat)) kJ:=Ed adC
theorem adE:cF K (fP λi j=>.int (i-j)) yq:=ado
noncomputable def gGt:G2:=gB λi j=>decide (j<i)
noncomputable def Ek:G2:=gB λi j=>decide (i<=j)
noncomputable def El:G2:=gB λi j=>decide (j<=i)
theorem adF:cF K (fP λi j=>.bl (decide (i<=j))) Ek:=Oj
theorem adG:cF K (fP λi j=>.bl (decide (j<=i))) El:=Oj
noncomputable def intsOf:List Tr->Option (List Int)
 | []=>some []
 |.int i::r=>(intsOf r).map (i :: ·)
 |_::_=>none
theorem ints_of:∀{ts:List Tr} {ns:List Int} {xs:List V},intsOf ts=some ns->au K H xs ts->xs=ns.map V.int
 | [],ns,xs,h,r=>by cases h; cases r; rfl
 |.int i::q,ns,xs,h,r=>by
  obtain⟨ms,e,rfl⟩:=Option.map_eq_some_iff.mp h
  cases r with
  |cons h1 r1 =>
   cases h1
   rw[ints_of e r1]
   rfl
noncomputable def Em(K:PySem.W.Frag):R2:=λx y H Q=>(fP λi j=>.bl (decide (i<j))) x y H Q\/M7 K x y H Q
theorem adH(hu:X.A.units+64<cLine):bh X (compareOp .Lt) (Em X.K):=bh.or abb (ab9 (by omega))
noncomputable def qR:G2
 |.int i,.int j=>.ok (.bl (decide (i<j)),false)
 |.tup a,.tup b=>match intsOf a,intsOf b with
  |some ns,some ms=>.ok (.bl (HT.lexLt ns ms),false)
  |_,_=>.bad
 |_,_=>.bad
theorem adI:cF (aq K) (Em K) qR:=⟨λa b c=>by unfold qR; walk_at "x",λG H x y a b Q s rx ry h=>by
 cases a <;> cases b <;> try exact h.elim
 .rw[rx.int,ry.int]
  exact .inl ⟨_,_,rfl,rfl,h _ G H (.refl s) (.bl _)⟩
 .dsimp only[qR]at h
  split at h
  case h_2=>exact h.elim
  rename_i ns ms e1 e2
  obtain⟨p,xs,rfl,q,r⟩:=rx.tup s
  obtain⟨p',ys,rfl,q',r'⟩:=ry.tup s
  have z1:=ints_of e1 r
  have z2:=ints_of e2 r'
  subst z1 z2
  exact .inr ⟨p,p',ns,ms,rfl,rfl,q.toK,q'.toK,h _ G H (.refl s) (.bl _)⟩⟩
noncomputable def aX:G2
 |.lst ts,.int i=>match dZ ts i with
  |some t=>.ok (t,false)
  |none=>.bad
 |.tup ts,.int i=>match dZ ts i with
  |some t=>.ok (t,false)
  |none=>.bad
 | .str z,.int i=>if z.length<=100000 then (match dZ z.cps.toList i with
  |some c=>.ok (.str ⟨#[c]⟩,false)
  |none=>.bad)else .bad
 |_,_=>.bad
theorem Oo:cF (aq K) (Ni K) aX:=⟨λa b c=>by unfold aX; walk_at "x",λG H x y a b Q s rx ry h=>by
 cases a <;> cases b <;> try exact h.elim
 all_goals
  rename_i z i
  rw[ry.int]
  dsimp only[aX]at h
  split at h
  rotate_left
  exact h.elim
 .rename_i e
  rw[rx.str]
  split at h
  .rename_i c ec
   exact .inr (.inr ⟨z,i,c,rfl,rfl,big e,ec,h _ G H (.refl s) (.str _)⟩)
  .exact h.elim
 .rename_i t e
  obtain⟨p,xs,rfl,q,r⟩:=rx.tup s
  obtain⟨v,ev,rv⟩:=r.dZ e
  exact .inr (.inl ⟨p,xs,i,v,rfl,rfl,q.toK,ev,h _ G H (.refl s) rv⟩)
 .rename_i t e
  obtain⟨p,xs,rfl,q,r⟩:=rx.lst s
  obtain⟨v,ev,rv⟩:=r.dZ e
  exact .inl ⟨p,xs,i,v,rfl,rfl,q.toK,ev,h _ G H (.refl s) rv⟩⟩
structure jP(K:PySem.W.Frag)(r:V->Hp->VK->Prop)(g:G1):Prop where
 nx:∀a c,g a ≠ .ex c
 ok:∀G H x a Q,Same G H->Rp K G H x a->Pz (g a) (λp=>∀v G' H',Gs K G H G' H'->VN K H G' H' v p.1 p.2->Q v H')->r x H Q
noncomputable def g1(g:G1):GN
 | [a]=>g a
 |_=>.bad
theorem qT{r:List V->Hp->VK->Prop}{g:G1}(h:jP K (λx=>r [x]) g):yg K r (g1 g):=⟨λas c=>(by
 unfold g1
 split
 .exact h.nx _ c
 .intro z; cases z),λG H xs as Q s rs q=>by
 cases rs with
 |nil=>exact q.elim
 |cons h1 r1 =>
  cases r1 with
  |nil=>exact h.ok G H _ _ Q s h1 q
  |cons _ _=>exact q.elim⟩
noncomputable def g2(g:G2):GN
 | [a,b]=>g a b
 |_=>.bad
theorem Oq{r:List V->Hp->VK->Prop}{g:G2}(h:cF K (λx y=>r [x,y]) g):yg K r (g2 g):=⟨λas c=>(by
 unfold g2
 split
 .exact h.nx _ _ c
 .intro z; cases z),λG H xs as Q s rs q=>by
 cases rs with
 |nil=>exact q.elim
 |cons h1 r1 =>
  cases r1 with
  |nil=>exact q.elim
  |cons h2 r2 =>
   cases r2 with
   |nil=>exact h.ok G H _ _ _ _ Q s h1 h2 q
   |cons _ _=>exact q.elim⟩
noncomputable def qw:G1
 |.int i=>.ok (.int (-i),false)
 |_=>.bad
theorem Ot:jP K (rU λi=>.int (-i)) qw:=⟨λa c=>by unfold qw; walk_at "x",λG H x a Q s rx h=>by
 cases a <;> try exact h.elim
 rw[rx.int]
 exact⟨_,rfl,h _ G H (.refl s) (.int _)⟩⟩
noncomputable def Eo(K:PySem.W.Frag):List V->Hp->VK->Prop:=λxs H Q=>(∃p ys,xs=[.ref p]/\(aM K H p ys\/aW K H p ys)/\Q (.int ys.length) H)\/(∃z,xs=[.str z]/\z.length<=sizeLine/\Q (.int z.length) H)
theorem adJ:eN X (.builtin "len") (Eo X.K):=eN.or acq acr
noncomputable def fX:G1
 |.lst ts=>.ok (.int ts.length,false)
 |.tup ts=>.ok (.int ts.length,false)
 |.str z=>if z.length<=100000 then .ok (.int z.length,false)else .bad
 |_=>.bad
theorem adK:jP (aq K) (λx=>Eo K [x]) fX:=⟨λa c=>by unfold fX; walk_at "x",λG H x a Q s rx h=>by
 cases a <;> try exact h.elim
 .dsimp only[fX]at h
  split at h
  .rename_i z e
   rw[rx.str]
   exact .inr ⟨z,rfl,big e,h _ G H (.refl s) (.int _)⟩
  .exact h.elim
 .obtain⟨p,xs,rfl,q,r⟩:=rx.tup s
  refine .inl ⟨p,xs,rfl,.inr q.toK,?_⟩
  rw[r.length]
  exact h _ G H (.refl s) (.int _)
 .obtain⟨p,xs,rfl,q,r⟩:=rx.lst s
  refine .inl ⟨p,xs,rfl,.inl q.toK,?_⟩
  rw[r.length]
  exact h _ G H (.refl s) (.int _)⟩
noncomputable def ur:G1
 |.int i=>.ok (.int (if i<0 then -i else i),false)
 |_=>.bad
theorem adL:jP K (λx H Q=>∃i,[x]=[V.int i]/\Q (.int (if i<0 then -i else i)) H) ur:=⟨λa c=>by unfold ur; walk_at "x",λG H x a Q s rx h=>by
 cases a <;> try exact h.elim
 rw[rx.int]
 exact⟨_,rfl,h _ G H (.refl s) (.int _)⟩⟩
noncomputable def aac:G1
 |.int i=>.ok (.int i,false)
 |.bl b=>.ok (.int (if b then 1 else 0),false)
 |_=>.bad
noncomputable def wD:G1
 |.lst ts=>.ok (.lst ts,true)
 |.tup ts=>.ok (.lst ts,true)
 |_=>.bad
theorem adM:jP (aq K) (λx H Q=>∃p ys,[x]=[V.ref p]/\(aM K H p ys\/aW K H p ys)/\∀l,H l=none->Q (.ref l) (upd H l (.lst ys))) wD:=⟨λa c=>by unfold wD; walk_at "x",λG H x a Q s rx h=>by
 cases a <;> try exact h.elim
 .obtain⟨p,xs,rfl,q,r⟩:=rx.tup s
  exact⟨p,xs,rfl,.inr q.toK,λz hz=>h _ _ _ (.flt s hz) (.flt s hz r)⟩
 .obtain⟨p,xs,rfl,q,r⟩:=rx.lst s
  exact⟨p,xs,rfl,.inl q.toK,λz hz=>h _ _ _ (.flt s hz) (.flt s hz r)⟩⟩
noncomputable def wz:G2
 |.int i,.int j=>.ok (.int (if j<i then j else i),false)
 |_,_=>.bad
noncomputable def wC:G2
 |.int i,.int j=>.ok (.int (if j > i then j else i),false)
 |_,_=>.bad
theorem adN:cF K (λx y H Q=>∃i j,[x,y]=[V.int i,V.int j]/\Q (.int (if j<i then j else i)) H) wz:=⟨λa b c=>by unfold wz; walk_at "x",λG H x y a b Q s rx ry h=>by
 cases a <;> cases b <;> try exact h.elim
 rw[rx.int,ry.int]
 exact⟨_,_,rfl,h _ G H (.refl s) (.int _)⟩⟩
theorem adO:cF K (λx y H Q=>∃i j,[x,y]=[V.int i,V.int j]/\Q (.int (if j > i then j else i)) H) wC:=⟨λa b c=>by unfold wC; walk_at "x",λG H x y a b Q s rx ry h=>by
 cases a <;> cases b <;> try exact h.elim
 rw[rx.int,ry.int]
 exact⟨_,_,rfl,h _ G H (.refl s) (.int _)⟩⟩
noncomputable def uw:List Tr->Option (List Bool)
 | []=>some []
 |.bl i::r=>(uw r).map (i :: ·)
 |_::_=>none
theorem Ou:∀{ts:List Tr} {ns:List Bool} {xs:List V},uw ts=some ns->au K H xs ts->xs=ns.map V.bl
 | [],ns,xs,h,r=>by cases h; cases r; rfl
 |.bl i::q,ns,xs,h,r=>by
  obtain⟨ms,e,rfl⟩:=Option.map_eq_some_iff.mp h
  cases r with
  |cons h1 r1 =>
   cases h1
   rw[Ou e r1]
   rfl
noncomputable def qU:G1
 |.lst ts=>match uw ts with
  |some bs=>.ok (.bl (bs.all id),false)
  |none=>.bad
 |_=>.bad
theorem adP:jP (aq K) (λx=>DK K [x]) qU:=⟨λa c=>by unfold qU; walk_at "x",λG H x a Q s rx h=>by
 cases a <;> try exact h.elim
 dsimp only[qU]at h
 split at h
 .rename_i bs e
  obtain⟨p,xs,rfl,q,r⟩:=rx.lst s
  have z:=Ou e r
  subst z
  exact⟨p,bs,rfl,q.toK,h _ G H (.refl s) (.bl _)⟩
 .exact h.elim⟩
noncomputable def qp:Tr->Rs Bool
 |.bl b=>.ok b
 |_=>.bad
theorem Ov(a:Tr)(c:Str):qp a ≠ .ex c:=by cases a <;> (intro z; cases z)
theorem Ow{a:Tr}(h:Rp K G H v a)(q:qp a=.ok b):v=.bl b:=by
 cases a <;> cases q
 exact h.bl
noncomputable def qW:Tr->Rs Int
 |.int i=>.ok i
 |_=>.bad
theorem Oz(a:Tr)(c:Str):qW a ≠ .ex c:=by cases a <;> (intro z; cases z)
theorem OD{a:Tr}(h:Rp K G H v a)(q:qW a=.ok b):v=.int b:=by
 cases a <;> cases q
 exact h.int
noncomputable def ou:Tr->Rs Bool
 |.non=>.ok false
 |.bl b=>.ok b
 |.int i=>.ok (i != 0)
 |.lst ts=>.ok (!ts.isEmpty)
 |.tup ts=>.ok (!ts.isEmpty)
 |.str x=>if x.length<=100000 then .ok ((x.length:Int) != 0)else .bad
 |.bQ _=>.bad
theorem adQ(a:Tr)(c:Str):ou a ≠ .ex c:=by unfold ou; walk_at "x"
theorem OJ{α β : Type}{a:List α}{b:List β}(h:a.length=b.length):a.isEmpty=b.isEmpty:=by
 cases a <;> cases b <;> first|rfl|cases h
theorem adR(s:Same G H)(h:Rp (aq K) G H v a)(q:ou a=.ok b):CN K v H b:=by
 cases a with
 |non=>cases q; rw[h.non]; rfl
 |bl i=>cases q; rw[h.bl]; rfl
 |int i=>cases q; rw[h.int]; rfl
 |str i =>
  dsimp only[ou]at q
  split at q
  .rename_i e
   cases q
   rw[h.str]
   exact⟨big e,rfl⟩
  .cases q
 |tup ts =>
  cases q
  obtain⟨p,xs,rfl,q,r⟩:=h.tup s
  exact .inr (id ⟨xs,q.toK,by rw[OJ r.length]⟩)
 |lst ts =>
  cases q
  obtain⟨p,xs,rfl,q,r⟩:=h.lst s
  exact .inl ⟨xs,q.toK,by rw[OJ r.length]⟩
 |bQ c=>cases q
end
end
end L2
end
section
namespace L2
open PySem
theorem dI{c P:Prop} [i:Decidable c]{f:c->Bool}(h:(if z:c then f z else false)=true)(k:c->∀z,f z=true->P):P:=by
 cases i with
 |isTrue z=>exact k z z h
 |isFalse z=>cases h
@[irreducible] def atName(e:Expr)(k:Str->Pos->Bool):Bool:=if h:e.ctorIdx=23 then Expr.Name.elim e h k else false
theorem JF(h:atName e k=true):∃x0 x1,e=.Name x0 x1/\k x0 x1=true:=by unfold atName at h; exact dI h λy=>Expr.Name.elim e y λ_ _ _ h=>⟨_,_,rfl,h⟩
@[elab_as_elim] theorem Yw{C:_->Prop}(h:atName e k=true)(f:∀x0 x1,k x0 x1=true->C (.Name x0 x1)):C e:=by obtain⟨_,_,rfl,h'⟩:=JF h; exact f _ _ h'
@[irreducible] def yr(e:Expr)(k:Expr->Operator->Expr->Pos->Bool):Bool:=if h:e.ctorIdx=2 then Expr.BinOp.elim e h k else false
theorem JG(h:yr e k=true):∃x0 x1 x2 x3,e=.BinOp x0 x1 x2 x3/\k x0 x1 x2 x3=true:=by unfold yr at h; exact dI h λy=>Expr.BinOp.elim e y λ_ _ _ _ _ h=>⟨_,_,_,_,rfl,h⟩
@[elab_as_elim] theorem Yx{C:_->Prop}(h:yr e k=true)(f:∀x0 x1 x2 x3,k x0 x1 x2 x3=true->C (.BinOp x0 x1 x2 x3)):C e:=by obtain⟨_,_,_,_,rfl,h'⟩:=JG h; exact f _ _ _ _ h'
@[irreducible] def o8(e:Expr)(k:UnaryOp->Expr->Pos->Bool):Bool:=if h:e.ctorIdx=3 then Expr.UnaryOp.elim e h k else false
theorem JH(h:o8 e k=true):∃x0 x1 x2,e=.UnaryOp x0 x1 x2/\k x0 x1 x2=true:=by unfold o8 at h; exact dI h λy=>Expr.UnaryOp.elim e y λ_ _ _ _ h=>⟨_,_,_,rfl,h⟩
@[elab_as_elim] theorem Yy{C:_->Prop}(h:o8 e k=true)(f:∀x0 x1 x2,k x0 x1 x2=true->C (.UnaryOp x0 x1 x2)):C e:=by obtain⟨_,_,_,rfl,h'⟩:=JH h; exact f _ _ _ h'
@[irreducible] def ux(e:Expr)(k:Expr->List CmpOp->List Expr->Pos->Bool):Bool:=if h:e.ctorIdx=15 then Expr.Compare.elim e h k else false
theorem JK(h:ux e k=true):∃x0 x1 x2 x3,e=.Compare x0 x1 x2 x3/\k x0 x1 x2 x3=true:=by unfold ux at h; exact dI h λy=>Expr.Compare.elim e y λ_ _ _ _ _ h=>⟨_,_,_,_,rfl,h⟩
@[elab_as_elim] theorem Yz{C:_->Prop}(h:ux e k=true)(f:∀x0 x1 x2 x3,k x0 x1 x2 x3=true->C (.Compare x0 x1 x2 x3)):C e:=by obtain⟨_,_,_,_,rfl,h'⟩:=JK h; exact f _ _ _ _ h'
@[irreducible] def uy(e:Expr)(k:BoolOp->List Expr->Pos->Bool):Bool:=if h:e.ctorIdx=0 then Expr.BoolOp.elim e h k else false
theorem JL(h:uy e k=true):∃x0 x1 x2,e=.BoolOp x0 x1 x2/\k x0 x1 x2=true:=by unfold uy at h; exact dI h λy=>Expr.BoolOp.elim e y λ_ _ _ _ h=>⟨_,_,_,rfl,h⟩
@[elab_as_elim] theorem YB{C:_->Prop}(h:uy e k=true)(f:∀x0 x1 x2,k x0 x1 x2=true->C (.BoolOp x0 x1 x2)):C e:=by obtain⟨_,_,_,rfl,h'⟩:=JL h; exact f _ _ _ h'
@[irreducible] def yt(e:Expr)(k:Expr->Expr->Expr->Pos->Bool):Bool:=if h:e.ctorIdx=5 then Expr.IfExp.elim e h k else false
theorem JM(h:yt e k=true):∃x0 x1 x2 x3,e=.IfExp x0 x1 x2 x3/\k x0 x1 x2 x3=true:=by unfold yt at h; exact dI h λy=>Expr.IfExp.elim e y λ_ _ _ _ _ h=>⟨_,_,_,_,rfl,h⟩
@[elab_as_elim] theorem YC{C:_->Prop}(h:yt e k=true)(f:∀x0 x1 x2 x3,k x0 x1 x2 x3=true->C (.IfExp x0 x1 x2 x3)):C e:=by obtain⟨_,_,_,_,rfl,h'⟩:=JM h; exact f _ _ _ _ h'
@[irreducible] def lM(e:Expr)(k:Expr->Expr->Pos->Bool):Bool:=if h:e.ctorIdx=21 then Expr.Subscript.elim e h k else false
theorem JN(h:lM e k=true):∃x0 x1 x2,e=.Subscript x0 x1 x2/\k x0 x1 x2=true:=by unfold lM at h; exact dI h λy=>Expr.Subscript.elim e y λ_ _ _ _ h=>⟨_,_,_,rfl,h⟩
@[elab_as_elim] theorem YD{C:_->Prop}(h:lM e k=true)(f:∀x0 x1 x2,k x0 x1 x2=true->C (.Subscript x0 x1 x2)):C e:=by obtain⟨_,_,_,rfl,h'⟩:=JN h; exact f _ _ _ h'
@[irreducible] def jQ(e:Expr)(k:List Expr->Nat->Pos->Bool):Bool:=if h:e.ctorIdx=25 then Expr.Tuple.elim e h k else false
theorem JQ(h:jQ e k=true):∃x0 x1 x2,e=.Tuple x0 x1 x2/\k x0 x1 x2=true:=by unfold jQ at h; exact dI h λy=>Expr.Tuple.elim e y λ_ _ _ _ h=>⟨_,_,_,rfl,h⟩
@[elab_as_elim] theorem YF{C:_->Prop}(h:jQ e k=true)(f:∀x0 x1 x2,k x0 x1 x2=true->C (.Tuple x0 x1 x2)):C e:=by obtain⟨_,_,_,rfl,h'⟩:=JQ h; exact f _ _ _ h'
@[irreducible] def uz(e:Expr)(k:List Expr->Pos->Bool):Bool:=if h:e.ctorIdx=24 then Expr.List.elim e h k else false
theorem JR(h:uz e k=true):∃x0 x1,e=.List x0 x1/\k x0 x1=true:=by unfold uz at h; exact dI h λy=>Expr.List.elim e y λ_ _ _ h=>⟨_,_,rfl,h⟩
@[elab_as_elim] theorem YG{C:_->Prop}(h:uz e k=true)(f:∀x0 x1,k x0 x1=true->C (.List x0 x1)):C e:=by obtain⟨_,_,rfl,h'⟩:=JR h; exact f _ _ h'
@[irreducible] def yu(e:Expr)(k:Option Expr->Option Expr->Option Expr->Pos->Bool):Bool:=if h:e.ctorIdx=26 then Expr.Slice.elim e h k else false
theorem JT(h:yu e k=true):∃x0 x1 x2 x3,e=.Slice x0 x1 x2 x3/\k x0 x1 x2 x3=true:=by unfold yu at h; exact dI h λy=>Expr.Slice.elim e y λ_ _ _ _ _ h=>⟨_,_,_,_,rfl,h⟩
@[elab_as_elim] theorem YH{C:_->Prop}(h:yu e k=true)(f:∀x0 x1 x2 x3,k x0 x1 x2 x3=true->C (.Slice x0 x1 x2 x3)):C e:=by obtain⟨_,_,_,_,rfl,h'⟩:=JT h; exact f _ _ _ _ h'
@[irreducible] def f9(e:Expr)(k:Expr->List Expr->List Keyword->Pos->Bool):Bool:=if h:e.ctorIdx=16 then Expr.Call.elim e h k else false
theorem wj(h:f9 e k=true):∃x0 x1 x2 x3,e=.Call x0 x1 x2 x3/\k x0 x1 x2 x3=true:=by unfold f9 at h; exact dI h λy=>Expr.Call.elim e y λ_ _ _ _ _ h=>⟨_,_,_,_,rfl,h⟩
@[elab_as_elim] theorem YJ{C:_->Prop}(h:f9 e k=true)(f:∀x0 x1 x2 x3,k x0 x1 x2 x3=true->C (.Call x0 x1 x2 x3)):C e:=by obtain⟨_,_,_,_,rfl,h'⟩:=wj h; exact f _ _ _ _ h'
@[irreducible] def lN(e:Expr)(k:Expr->Str->Pos->Bool):Bool:=if h:e.ctorIdx=20 then Expr.Attribute.elim e h k else false
theorem JV(h:lN e k=true):∃x0 x1 x2,e=.Attribute x0 x1 x2/\k x0 x1 x2=true:=by unfold lN at h; exact dI h λy=>Expr.Attribute.elim e y λ_ _ _ _ h=>⟨_,_,_,rfl,h⟩
@[elab_as_elim] theorem YK{C:_->Prop}(h:lN e k=true)(f:∀x0 x1 x2,k x0 x1 x2=true->C (.Attribute x0 x1 x2)):C e:=by obtain⟨_,_,_,rfl,h'⟩:=JV h; exact f _ _ _ h'
@[irreducible] def o9(e:Expr)(k:Expr->List Comprehension->Scope->Pos->Bool):Bool:=if h:e.ctorIdx=8 then Expr.ListComp.elim e h k else false
theorem JW(h:o9 e k=true):∃x0 x1 x2 x3,e=.ListComp x0 x1 x2 x3/\k x0 x1 x2 x3=true:=by unfold o9 at h; exact dI h λy=>Expr.ListComp.elim e y λ_ _ _ _ _ h=>⟨_,_,_,_,rfl,h⟩
@[elab_as_elim] theorem YL{C:_->Prop}(h:o9 e k=true)(f:∀x0 x1 x2 x3,k x0 x1 x2 x3=true->C (.ListComp x0 x1 x2 x3)):C e:=by obtain⟨_,_,_,_,rfl,h'⟩:=JW h; exact f _ _ _ _ h'
@[irreducible] def yw(e:Expr)(k:Arguments->Expr->Scope->Pos->Bool):Bool:=if h:e.ctorIdx=4 then Expr.Lambda.elim e h k else false
theorem JX(h:yw e k=true):∃x0 x1 x2 x3,e=.Lambda x0 x1 x2 x3/\k x0 x1 x2 x3=true:=by unfold yw at h; exact dI h λy=>Expr.Lambda.elim e y λ_ _ _ _ _ h=>⟨_,_,_,_,rfl,h⟩
@[elab_as_elim] theorem YM{C:_->Prop}(h:yw e k=true)(f:∀x0 x1 x2 x3,k x0 x1 x2 x3=true->C (.Lambda x0 x1 x2 x3)):C e:=by obtain⟨_,_,_,_,rfl,h'⟩:=JX h; exact f _ _ _ _ h'
@[irreducible] def jB(e:Stmt)(k:List Expr->Expr->Pos->Bool):Bool:=if h:e.ctorIdx=5 then Stmt.Assign.elim e h k else false
theorem JZ(h:jB e k=true):∃x0 x1 x2,e=.Assign x0 x1 x2/\k x0 x1 x2=true:=by unfold jB at h; exact dI h λy=>Stmt.Assign.elim e y λ_ _ _ _ h=>⟨_,_,_,rfl,h⟩
@[elab_as_elim] theorem YQ{C:_->Prop}(h:jB e k=true)(f:∀x0 x1 x2,k x0 x1 x2=true->C (.Assign x0 x1 x2)):C e:=by obtain⟨_,_,_,rfl,h'⟩:=JZ h; exact f _ _ _ h'
@[irreducible] def yx(e:Stmt)(k:Expr->Pos->Bool):Bool:=if h:e.ctorIdx=24 then Stmt.Expr.elim e h k else false
theorem J0(h:yx e k=true):∃x0 x1,e=.Expr x0 x1/\k x0 x1=true:=by unfold yx at h; exact dI h λy=>Stmt.Expr.elim e y λ_ _ _ h=>⟨_,_,rfl,h⟩
@[elab_as_elim] theorem YS{C:_->Prop}(h:yx e k=true)(f:∀x0 x1,k x0 x1=true->C (.Expr x0 x1)):C e:=by obtain⟨_,_,rfl,h'⟩:=J0 h; exact f _ _ h'
@[irreducible] def qX(e:Stmt)(k:Option Expr->Pos->Bool):Bool:=if h:e.ctorIdx=3 then Stmt.Return.elim e h k else false
theorem J1(h:qX e k=true):∃x0 x1,e=.Return x0 x1/\k x0 x1=true:=by unfold qX at h; exact dI h λy=>Stmt.Return.elim e y λ_ _ _ h=>⟨_,_,rfl,h⟩
@[elab_as_elim] theorem YT{C:_->Prop}(h:qX e k=true)(f:∀x0 x1,k x0 x1=true->C (.Return x0 x1)):C e:=by obtain⟨_,_,rfl,h'⟩:=J1 h; exact f _ _ h'
@[irreducible] def yC(e:Stmt)(k:Expr->List Stmt->List Stmt->Pos->Bool):Bool:=if h:e.ctorIdx=12 then Stmt.If.elim e h k else false
theorem J2(h:yC e k=true):∃x0 x1 x2 x3,e=.If x0 x1 x2 x3/\k x0 x1 x2 x3=true:=by unfold yC at h; exact dI h λy=>Stmt.If.elim e y λ_ _ _ _ _ h=>⟨_,_,_,_,rfl,h⟩
@[elab_as_elim] theorem YW{C:_->Prop}(h:yC e k=true)(f:∀x0 x1 x2 x3,k x0 x1 x2 x3=true->C (.If x0 x1 x2 x3)):C e:=by obtain⟨_,_,_,_,rfl,h'⟩:=J2 h; exact f _ _ _ _ h'
@[irreducible] def yD(e:Stmt)(k:Option Expr->Option Expr->Pos->Bool):Bool:=if h:e.ctorIdx=16 then Stmt.Raise.elim e h k else false
theorem J3(h:yD e k=true):∃x0 x1 x2,e=.Raise x0 x1 x2/\k x0 x1 x2=true:=by unfold yD at h; exact dI h λy=>Stmt.Raise.elim e y λ_ _ _ _ h=>⟨_,_,_,rfl,h⟩
@[elab_as_elim] theorem YX{C:_->Prop}(h:yD e k=true)(f:∀x0 x1 x2,k x0 x1 x2=true->C (.Raise x0 x1 x2)):C e:=by obtain⟨_,_,_,rfl,h'⟩:=J3 h; exact f _ _ _ h'
@[irreducible] def yE(e:Stmt)(k:Expr->List Stmt->List Stmt->Pos->Bool):Bool:=if h:e.ctorIdx=11 then Stmt.While.elim e h k else false
theorem J4(h:yE e k=true):∃x0 x1 x2 x3,e=.While x0 x1 x2 x3/\k x0 x1 x2 x3=true:=by unfold yE at h; exact dI h λy=>Stmt.While.elim e y λ_ _ _ _ _ h=>⟨_,_,_,_,rfl,h⟩
@[elab_as_elim] theorem YZ{C:_->Prop}(h:yE e k=true)(f:∀x0 x1 x2 x3,k x0 x1 x2 x3=true->C (.While x0 x1 x2 x3)):C e:=by obtain⟨_,_,_,_,rfl,h'⟩:=J4 h; exact f _ _ _ _ h'
@[irreducible] def yF(e:Stmt)(k:Expr->Expr->List Stmt->List Stmt->Pos->Bool):Bool:=if h:e.ctorIdx=9 then Stmt.For.elim e h k else false
theorem J5(h:yF e k=true):∃x0 x1 x2 x3 x4,e=.For x0 x1 x2 x3 x4/\k x0 x1 x2 x3 x4=true:=by unfold yF at h; exact dI h λy=>Stmt.For.elim e y λ_ _ _ _ _ _ h=>⟨_,_,_,_,_,rfl,h⟩
@[elab_as_elim] theorem Y0{C:_->Prop}(h:yF e k=true)(f:∀x0 x1 x2 x3 x4,k x0 x1 x2 x3 x4=true->C (.For x0 x1 x2 x3 x4)):C e:=by obtain⟨_,_,_,_,_,rfl,h'⟩:=J5 h; exact f _ _ _ _ _ h'
@[irreducible] def Ep(e:Expr)(k:Const->Nat->Pos->Bool):Bool:=if h:e.ctorIdx=19 then Expr.Constant.elim e h k else false
@[elab_as_elim] theorem Zd{C:_->Prop}(h:Ep e k=true)(f:∀x0 x1 x2,k x0 x1 x2=true->C (.Constant x0 x1 x2)):C e:=by unfold Ep at h; exact dI h λy=>Expr.Constant.elim e y λ_ _ _ _ h=>f _ _ _ h
@[irreducible] def Er(e:Const)(k:Int->Bool):Bool:=if h:e.ctorIdx=2 then Const.int.elim e h k else false
@[elab_as_elim] theorem Ze{C:_->Prop}(h:Er e k=true)(f:∀x0,k x0=true->C (.int x0)):C e:=by unfold Er at h; exact dI h λy=>Const.int.elim e y λ_ _ h=>f _ h
@[irreducible] def Es(e:Const)(k:Str->Bool):Bool:=if h:e.ctorIdx=5 then Const.str.elim e h k else false
@[elab_as_elim] theorem Zf{C:_->Prop}(h:Es e k=true)(f:∀x0,k x0=true->C (.str x0)):C e:=by unfold Es at h; exact dI h λy=>Const.str.elim e y λ_ _ h=>f _ h
@[irreducible] def Et(e:Const)(k:Bool->Bool):Bool:=if h:e.ctorIdx=1 then Const.bool.elim e h k else false
@[elab_as_elim] theorem Zg{C:_->Prop}(h:Et e k=true)(f:∀x0,k x0=true->C (.bool x0)):C e:=by unfold Et at h; exact dI h λy=>Const.bool.elim e y λ_ _ h=>f _ h
@[irreducible] def Eu(e:Const):Bool:=decide (e.ctorIdx=0)
@[elab_as_elim] theorem Zh{C:_->Prop}(h:Eu e=true)(f:True->C .none):C e:=by unfold Eu at h; exact Const.none.elim e (of_decide_eq_true h) (f trivial)
@[irreducible] def pq(e:Comprehension)(k:Expr->Expr->List Expr->Int->Bool):Bool:=k e.target e.iter e.ifs e.is_async
theorem J6(h:pq e k=true):∃x0 x1 x2 x3,e=⟨x0,x1,x2,x3⟩/\k x0 x1 x2 x3=true:=by unfold pq at h; cases e; exact⟨_,_,_,_,rfl,h⟩
@[elab_as_elim] theorem Y4{C:_->Prop}(h:pq e k=true)(f:∀x0 x1 x2 x3,k x0 x1 x2 x3=true->C (⟨x0,x1,x2,x3⟩)):C e:=by obtain⟨_,_,_,_,rfl,h'⟩:=J6 h; exact f _ _ _ _ h'
@[irreducible] def yG(e:Keyword)(k:Option Str->Expr->Pos->Bool):Bool:=k e.arg e.value e.pos
theorem J7(h:yG e k=true):∃x0 x1 x2,e=⟨x0,x1,x2⟩/\k x0 x1 x2=true:=by unfold yG at h; cases e; exact⟨_,_,_,rfl,h⟩
@[elab_as_elim] theorem Y5{C:_->Prop}(h:yG e k=true)(f:∀x0 x1 x2,k x0 x1 x2=true->C (⟨x0,x1,x2⟩)):C e:=by obtain⟨_,_,_,rfl,h'⟩:=J7 h; exact f _ _ _ h'
@[irreducible] def yH(e:Arg)(k:Str->Option Expr->Pos->Bool):Bool:=k e.arg e.annotation e.pos
theorem J8(h:yH e k=true):∃x0 x1 x2,e=⟨x0,x1,x2⟩/\k x0 x1 x2=true:=by unfold yH at h; cases e; exact⟨_,_,_,rfl,h⟩
@[elab_as_elim] theorem Y6{C:_->Prop}(h:yH e k=true)(f:∀x0 x1 x2,k x0 x1 x2=true->C (⟨x0,x1,x2⟩)):C e:=by obtain⟨_,_,_,rfl,h'⟩:=J8 h; exact f _ _ _ h'
@[irreducible] def yI(e:Arguments)(k:List Arg->List Arg->Option Arg->List Arg->List (Option Expr)->Option Arg->List Expr->Bool):Bool:=k e.posonlyargs e.args e.vararg e.kwonlyargs e.kw_defaults e.kwarg e.defaults
theorem J9(h:yI e k=true):∃x0 x1 x2 x3 x4 x5 x6,e=⟨x0,x1,x2,x3,x4,x5,x6⟩/\k x0 x1 x2 x3 x4 x5 x6=true:=by unfold yI at h; cases e; exact⟨_,_,_,_,_,_,_,rfl,h⟩
@[elab_as_elim] theorem Y7{C:_->Prop}(h:yI e k=true)(f:∀x0 x1 x2 x3 x4 x5 x6,k x0 x1 x2 x3 x4 x5 x6=true->C (⟨x0,x1,x2,x3,x4,x5,x6⟩)):C e:=by obtain⟨_,_,_,_,_,_,_,rfl,h'⟩:=J9 h; exact f _ _ _ _ _ _ _ h'
@[irreducible] def aR{α : Type}(l:List α)(k : α -> List α -> Bool):Bool:=match l with
 |x::y=>k x y
 |_=>false
theorem JC{α : Type}{l:List α}{k : α -> List α -> Bool}(h:aR l k=true):∃x y,l=x::y/\k x y=true:=by unfold aR at h; cases l <;> first|exact⟨_,_,rfl,h⟩|cases h
@[elab_as_elim] theorem Y8{α : Type}{l:List α}{k : α -> List α -> Bool}{C:_->Prop}(h:aR l k=true)(f:∀x y,k x y=true->C (x::y)):C l:=by obtain⟨_,_,rfl,h'⟩:=JC h; exact f _ _ h'
@[irreducible] def aU{α : Type}(l:List α)(k:Bool):Bool:=l.isEmpty&&k
theorem JD{α : Type}{l:List α}{k:Bool}(h:aU l k=true):l=[]/\k=true:=by unfold aU at h; cases l <;> first|exact⟨rfl,h⟩|cases h
@[elab_as_elim] theorem Y9{α : Type}{l:List α}{k:Bool}{C:_->Prop}(h:aU l k=true)(f:k=true->C ([])):C l:=by obtain⟨rfl,h'⟩:=JD h; exact f h'
@[irreducible] def lO{α : Type}(l:Option α)(k : α -> Bool):Bool:=match l with
 |some x=>k x
 |_=>false
theorem Ka{α : Type}{l:Option α}{k : α -> Bool}(h:lO l k=true):∃x,l=some x/\k x=true:=by unfold lO at h; cases l <;> first|exact⟨_,rfl,h⟩|cases h
@[elab_as_elim] theorem Za{α : Type}{l:Option α}{k : α -> Bool}{C:_->Prop}(h:lO l k=true)(f:∀x,k x=true->C (some x)):C l:=by obtain⟨_,rfl,h'⟩:=Ka h; exact f _ h'
@[irreducible] def pA{α : Type}(l:Option α)(k:Bool):Bool:=l.isNone&&k
theorem Kc{α : Type}{l:Option α}{k:Bool}(h:pA l k=true):l=none/\k=true:=by unfold pA at h; cases l <;> first|exact⟨rfl,h⟩|cases h
@[elab_as_elim] theorem Zb{α : Type}{l:Option α}{k:Bool}{C:_->Prop}(h:pA l k=true)(f:k=true->C (none)):C l:=by obtain⟨rfl,h'⟩:=Kc h; exact f h'
@[irreducible] def jC{α : Type} [DecidableEq α](a b : α)(k:Bool):Bool:=decide (a=b)&&k
theorem Kd{α : Type} [DecidableEq α]{a b : α}{k:Bool}(h:jC a b k=true):a=b/\k=true:=by simpa[jC]using h
@[elab_as_elim] theorem Zc{α : Type} [DecidableEq α]{a b : α}{k:Bool}{C : α -> Prop}(h:jC a b k=true)(f:k=true->C b):C a:=by obtain⟨e,q⟩:=Kd h; subst e; exact f q
open PySem.Spec PyProof.Rows
noncomputable def pB(i:Int):TE:=λ_ H Q=>Q (.int i) H
noncomputable def kI:Const->Option Int
 |.int i=>some i
 |_=>none
noncomputable def bI(o:Operator)(i j:Int):Option Int:=match o with
 |.Sub=>some (i-j)
 |.Add=>some (i+j)
 |.Pow=>if 0<=j/\j<=100/\i.natAbs<=1000 then some (i ^ j.toNat)else none
 |_=>none
noncomputable def uI(o:UnaryOp)(i:Int):Option Int:=match o with
 |.USub=>some (-i)
 |_=>none
noncomputable def cI:Expr->Option Int
 |.Constant c _ _=>kI c
 |.UnaryOp o e _=>(cI e).bind (uI o)
 |.BinOp a o b _=>(cI a).bind λi=>(cI b).bind λj=>bI o i j
 |_=>none
theorem adS(h:kI c=some i):PE X (.Constant c k p) (pB i):=by
 cases c <;> first|(cases h; exact Ce)|cases h
theorem adT(h:uI o i=some k)(he:PE X e (pB i)):PE X (.UnaryOp o e p) (pB k):=by
 cases o <;> first|(cases h; exact(Cz CJ he).imp λσ H Q q=>⟨i,rfl,q⟩)|cases h
theorem adU(h:bI o i j=some k)(ha:PE X a (pB i))(hb:PE X b (pB j)):PE X (.BinOp a o b p) (pB k):=by
 cases o <;> try cases h
 .exact(xq Ma ha hb).imp λσ H Q q=>⟨i,j,rfl,rfl,q⟩
 .exact(xq Mf ha hb).imp λσ H Q q=>⟨i,j,rfl,rfl,q⟩
 .dsimp only[bI]at h
  split at h
  .rename_i c
   cases h
   exact(xq Mg ha hb).imp λσ H Q q=>⟨i,j,rfl,rfl,⟨c.1,by lia,by lia⟩,q⟩
  .cases h
theorem yJ(e:Expr)(k:Int)(h:cI e=some k):PE X e (pB k):=by
 cases e with
 |Constant c _ _=>exact adS h
 |UnaryOp o a _ =>
  have h:(cI a).bind (uI o)=some k:=h
  cases e1:cI a with
  |none=>rw[e1]at h; cases h
  |some i=>rw[e1]at h; exact adT h (yJ a i e1)
 |BinOp a o b _ =>
  have h:((cI a).bind λi=>(cI b).bind λj=>bI o i j)=some k:=h
  cases e1:cI a with
  |none=>rw[e1]at h; cases h
  |some i =>
   cases e2:cI b with
   |none=>rw[e1,e2]at h; cases h
   |some j=>rw[e1,e2]at h; exact adU h (yJ a i e1) (yJ b j e2)
 |_=>cases h
noncomputable def kT:Const->Option Tr
 |.none=>some .non
 |.bool b=>some (.bl b)
 |.str x=>some (.str x)
 |.int i=>some (.int i)
 |_=>none
mutual
noncomputable def cT:Expr->Option Tr
 |.Constant c _ _=>kT c
 |.Tuple es _ _=>(gJ es).map .tup
 |.List es _=>(gJ es).map .lst
 |.UnaryOp o a p=>(cI (.UnaryOp o a p)).map .int
 |.BinOp a o b p=>(cI (.BinOp a o b p)).map .int
 |_=>none
noncomputable def gJ:List Expr->Option (List Tr)
 | []=>some []
 |e::r=>match cT e,gJ r with
  |some T,some Ts=>if Ts.length<1000 then some (T::Ts)else none
  |_,_=>none
end
theorem yK:∀{es:List Expr} {Ts:List Tr},gJ es=some Ts->Ts.length<=1000
 | [],Ts,h=>by
  cases h
  decide
 |e::r,Ts,h=>by
  unfold gJ at h
  split at h
  .split at h
   .cases h
    rename_i h1
    rw[List.length_cons]
    lia
   .cases h
  .cases h
section
variable {X:Cx}{e:Expr}{es:List Expr}{T:Tr}{Ts:List Tr}{pos:Pos}{k:Nat}{G:PySem.W.Frag}
theorem adV:PA X [] (qL G []):=xG.imp λσ H Q q=>q [] H (Same.refl _) λ_ _=>.nil
theorem adW(h:PE X e (oY G T))(r:PA X es (qL G Ts))(hs:starEach (e::es) X.env=(false,eval e X.env)::starEach es X.env):PA X (e::es) (qL G (T::Ts)) :=
 (qD h r hs).imp λσ H Q q v H1 s1 rv vs H2 s2 rs=>q (v::vs) H2 (s1.trans s2) λPr p=>.cons ((rv Pr p).mono (p.mono s2)) (rs Pr (p.le s1))
theorem O1(h:PA X es (qL G Ts))(hl:Ts.length<=1000):PE X (.Tuple es k pos) (oY G (.tup Ts)) :=
 (Mr h).imp λσ H Q q vs H1 s1 rs=>by
  by_cases hv:vs.length<=sizeLine
  .exact⟨hv,λa ha=>q (.ref a) _ (s1.trans (fC ha _)) λPr p=>.tup (aW.of ((p.le s1).new (Same.refl _) ha)) ((rs Pr p).mono (p.mono (fC ha _)))⟩
  .exact absurd (Nat.le_of_lt (Ds (by rw[(rs _ (Pj.id H)).length]; exact hl))) hv
theorem O2(h:PA X es (qL G Ts))(hl:Ts.length<=1000):PE X (.List es pos) (DN G Ts) :=
 (Ms h).imp λσ H Q q vs H1 s1 rs=>by
  have e:=(rs _ (Pj.id H)).length
  exact⟨Nat.le_of_lt (Ds (by rw[e]; exact hl)),λa ha=>q a vs H1 s1 ha rs e⟩
theorem adX(h:PE X e (DN G Ts)):PE X e (oY G (.lst Ts)) :=
 h.imp λσ H Q q a xs H1 s1 ha rs _=>q (.ref a) _ (s1.trans (fC ha _)) λPr p=>.lst (aM.of ((p.le s1).new (Same.refl _) ha)) ((rs Pr p).mono (p.mono (fC ha _)))
theorem O3(h:(cI e).map Tr.int=some T):PE X e (oY G T):=by
 cases e1:cI e with
 |none=>rw[e1]at h; cases h
 |some i =>
  rw[e1]at h; cases h
  exact(yJ e i e1).imp λσ H Q q=>q _ H (Same.refl _) λ_ _=>.int i
end
theorem adY(h:cT e=some T):starEach (e::es) env=(false,eval e env)::starEach es env:=by
 cases e <;> first|rfl|(unfold cT at h; cases h)
theorem adZ(h:kT c=some T):PE X (.Constant c k p) (oY G T):=by
 cases c <;> try cases h
 .exact La.imp λσ H Q q=>q _ H (Same.refl _) λ_ _=>.non
 .exact K9.imp λσ H Q q=>q _ H (Same.refl _) λ_ _=>.bl _
 .exact Ce.imp λσ H Q q=>q _ H (Same.refl _) λ_ _=>.int _
 .exact Lb.imp λσ H Q q=>q _ H (Same.refl _) λ_ _=>.str _
mutual
theorem ad0(e:Expr)(T:Tr)(h:cT e=some T):PE X e (oY G T):=by
 cases e with
 |Constant c _ _=>exact adZ (by unfold cT at h; exact h)
 |Tuple es _ _ =>
  unfold cT at h
  cases e:gJ es with
  |none=>rw[e]at h; cases h
  |some Ts =>
   rw[e]at h
   cases h
   exact O1 (uD es Ts e) (yK e)
 |List es _ =>
  unfold cT at h
  cases e:gJ es with
  |none=>rw[e]at h; cases h
  |some Ts =>
   rw[e]at h
   cases h
   exact adX (O2 (uD es Ts e) (yK e))
 |UnaryOp o a p=>exact O3 (by unfold cT at h; exact h)
 |BinOp a o b p=>exact O3 (by unfold cT at h; exact h)
 |_=>unfold cT at h; cases h
theorem uD:∀(es:List Expr) (Ts:List Tr),gJ es=some Ts->PA X es (qL G Ts)
 | [],Ts,h=>by
  unfold gJ at h; cases h
  exact adV
 |e::r,Ts,h=>by
  unfold gJ at h
  cases e1:cT e with
  |none=>rw[e1]at h; cases h
  |some T =>
   cases e2:gJ r with
   |none=>rw[e1,e2]at h; cases h
   |some Us =>
    rw[e1,e2]at h
    dsimp only at h
    split at h
    .cases h
     exact adW (ad0 e T e1) (uD r Us e2) (adY e1)
    .cases h
end
theorem ad1(h:gJ es=some Ts):PE X (.List es pos) (DN G Ts):=O2 (uD es Ts h) (yK h)
theorem ad2(h:gJ es=some Ts):PE X (.Tuple es k pos) (oY G (.tup Ts)):=O1 (uD es Ts h) (yK h)
class NF where
 f:Value->Int
section
variable [NF]{kf:Value->Int × Int}
noncomputable def q1(kf:Value->Int × Int)(xs:Array Keyed)(i:Nat):Int:=match xs[i]? with|some p=>(kf p.1).1|none=>0
noncomputable def q2(kf:Value->Int × Int)(xs:Array Keyed)(i:Nat):Int:=match xs[i]? with|some p=>(kf p.1).2|none=>0
noncomputable def qr(xs:Array Keyed)(i:Nat):Int:=match xs[i]? with|some p=>NF.f p.2|none=>0
noncomputable def Kl(kf:Value->Int × Int)(xs:Array Keyed)(i j:Nat):Prop:=q1 kf xs i<q1 kf xs j\/(q1 kf xs i=q1 kf xs j/\q2 kf xs i<q2 kf xs j)
noncomputable instance {kf:Value->Int × Int}{xs:Array Keyed}{i j:Nat}:Decidable (Kl kf xs i j):=by unfold Kl; infer_instance
noncomputable def Ke(kf:Value->Int × Int)(xs:Array Keyed)(i j:Nat):Prop:=q1 kf xs i=q1 kf xs j/\q2 kf xs i=q2 kf xs j
noncomputable def Lq(kf:Value->Int × Int)(xs:Array Keyed)(i j:Nat):Prop:=Kl kf xs i j\/(Ke kf xs i j/\qr xs i<qr xs j)
noncomputable def fK(kf:Value->Int × Int)(xs:Array Keyed)(m:Nat):Prop:=∀i j,i<j->j<m->Lq kf xs i j
noncomputable def cu(kf:Value->Int × Int)(xs:Array Keyed)(m:Nat):Prop:=∀i j,i<j->j<m->Lq kf xs j i
noncomputable def jR(kf:Value->Int × Int)(xs:Array Keyed)(m q:Nat):Prop:=(∀i j,i<j->j<m->i<q->Lq kf xs j i/\(q<=j->Kl kf xs j i))/\∀i j,q<=i->i<j->j<m->Ke kf xs i j/\qr xs i<qr xs j
noncomputable def Pre(N:Nat)(xs:Array Keyed)(m:Nat):Prop:=(∀k:Nat,k<m->qr xs k<m)/\∀k:Nat,m<=k->k<N->qr xs k=k
theorem lQ(h:xs[i]?=ys[j]?):qr xs i=qr ys j:=by unfold qr; rw[h]
theorem yL(h:xs[i]?=ys[j]?):q1 kf xs i=q1 kf ys j:=by unfold q1; rw[h]
theorem yM(h:xs[i]?=ys[j]?):q2 kf xs i=q2 kf ys j:=by unfold q2; rw[h]
theorem gK(hj:j<=xs.size)(k:Nat):(i<=k/\k<j/\(mirror xs i j ((j-i) / 2))[k]?=xs[i+j-1-k]?)\/(¬(i<=k/\k<j)/\(mirror xs i j ((j-i) / 2))[k]?=xs[k]?):=by
 have e:=getElem?_mirror_all (i:=i) hj k
 by_cases h:i<=k/\k<j
 .rw[if_pos h]at e; exact .inl ⟨h.1,h.2,e⟩
 .rw[if_neg h]at e; exact .inr ⟨h,e⟩
theorem lR(h1:xs[i]?=ys[i']?)(h2:xs[j]?=ys[j']?):Lq kf xs i j↔Lq kf ys i' j':=by
 unfold Lq Kl Ke; rw[lQ h1,lQ h2,yL h1,yL h2,yM h1,yM h2]
theorem yN(h1:xs[i]?=ys[i']?)(h2:xs[j]?=ys[j']?):Kl kf xs i j↔Kl kf ys i' j':=by
 unfold Kl; rw[yL h1,yL h2,yM h1,yM h2]
theorem Kl.tr(a:Kl kf xs i j)(b:Kl kf xs j k):Kl kf xs i k:=by
 unfold Kl at *
 generalize q1 kf xs i=a1,q2 kf xs i=a2,q1 kf xs j=b1,q2 kf xs j=b2,q1 kf xs k=c1,q2 kf xs k=c2 at *
 lia
theorem Kl.no(a:¬Kl kf xs i j)(b:¬Kl kf xs j i):Ke kf xs i j:=by
 unfold Kl at *
 unfold Ke
 generalize q1 kf xs i=a1,q2 kf xs i=a2,q1 kf xs j=b1,q2 kf xs j=b2 at *
 lia
theorem Ke.s(a:Ke kf xs i j):Ke kf xs j i:=⟨a.1.symm,a.2.symm⟩
theorem Ke.t(a:Ke kf xs i j)(b:Ke kf xs j k):Ke kf xs i k:=⟨a.1.trans b.1,a.2.trans b.2⟩
theorem Ke.l(a:Ke kf xs i j)(b:Kl kf xs j k):Kl kf xs i k:=by
 unfold Kl at *
 rw[a.1,a.2]
 exact b
theorem Ke.r(a:Kl kf xs i j)(b:Ke kf xs j k):Kl kf xs i k:=by
 unfold Kl at *
 rw[<-b.1,<-b.2]
 exact a
theorem Kl.tq(a:Kl kf xs i j)(b:Lq kf xs j k):Kl kf xs i k:=b.elim a.tr λz=>Ke.r a z.1
theorem Kl.qt(a:Lq kf xs i j)(b:Kl kf xs j k):Kl kf xs i k:=a.elim (λz=>z.tr b) λz=>z.1.l b
theorem Lq.mk(a:¬Kl kf xs j i)(b:qr xs i<qr xs j):Lq kf xs i j:=by
 by_cases h:Kl kf xs i j
 .exact .inl h
 .exact .inr ⟨Kl.no h a,b⟩
theorem Pre.gK(h:Pre N xs m)(hj:j<=xs.size)(hm:j<=m):Pre N (mirror xs i j ((j-i) / 2)) m:=by
 refine⟨λk hk=>?_,λk hk hN=>?_⟩
 .rcases L2.gK hj k with⟨a,b,e⟩|⟨n,e⟩
  .rw[lQ e]; exact h.1 _ (by lia)
  .rw[lQ e]; exact h.1 _ hk
 .rcases L2.gK hj k with⟨a,b,e⟩|⟨n,e⟩
  .lia
  .rw[lQ e]; exact h.2 _ hk hN
theorem cu.turn(h:cu kf xs m)(hm:m<=xs.size):fK kf (mirror xs 0 m ((m-0) / 2)) m:=λi j hij hj=>by
 rcases gK (i:=0) hm i with⟨_,_,e1⟩|⟨n,_⟩
 .rcases gK (i:=0) hm j with⟨_,_,e2⟩|⟨n,_⟩
  .rw[lR e1 e2]; exact h _ _ (by lia) (by lia)
  .lia
 .lia
theorem jR.turn(h:jR kf xs m q)(hm:m<=xs.size)(hq:q<m):cu kf (mirror xs q m ((m-q) / 2)) m:=λi j hij hj=>by
 rcases gK (i:=q) hm i with⟨a,b,e1⟩|⟨n,e1⟩ <;> rcases gK (i:=q) hm j with⟨a',b',e2⟩|⟨n',e2⟩
 .rw[lR e2 e1]
  have z:=h.2 (q+m-1-j) (q+m-1-i) (by lia) (by lia) (by lia)
  exact .inr z
 .lia
 .rw[lR e2 e1]
  exact(h.1 i (q+m-1-j) (by lia) (by lia) (by lia)).1
 .rw[lR e2 e1]
  exact(h.1 i j hij hj (by lia)).1
theorem jR.one(h:jR kf xs m q)(hq:m<=q+1):cu kf xs m:=λi j hij hj=>(h.1 i j hij hj (by lia)).1
end
section
variable [NF]{prog:Program}{w:World}{A:Around}{E:Value->Shared->Prop}{s:Shared}{N:Nat}{kd:SortKind}{kf:Value->Int × Int}
structure SB(a₀ : Array Keyed)(kd:SortKind)(st:SortSt):Prop where
 pm:(arrOf st).Perm a₀
 kn:kindOf st=kd
 fl:failedOf st=none
 pd:pendingOf st = #[]
theorem SB.sz{st:SortSt}(h:SB a₀ kd st):(arrOf st).size=a₀.size:=h.pm.size_eq
theorem SB.put{st:SortSt}(h:SB a₀ kd st)(p:xs.Perm (arrOf st)):SB a₀ kd (setArr st xs):=⟨p.trans h.pm,h.kn,h.fl,h.pd⟩
noncomputable def Asks(prog:Program)(w:World)(A:Around)(E:Value->Shared->Prop)(s:Shared)(a₀ : Array Keyed)(kd:SortKind)(kf:Value->Int × Int):Prop :=
 ∀(st:SortSt) (i j:Nat) (Q:Option Bool->SortSt->Prop),SB a₀ kd st->i<a₀.size->j<a₀.size->Q (some (decide (Kl kf (arrOf st) i j))) st->wpS (model prog w) A E s (ltAt' i j) Q st
variable {a₀ : Array Keyed}(ask:Asks prog w A E s a₀ kd kf)
include ask
theorem O4{st:SortSt}(hn:n<=a₀.size)(ha:1<=a)(han:a<=n)(B:SB a₀ kd st)(p:Pre a₀.size (arrOf st) a)(h0:fK kf (arrOf st) a)
  (h:∀m,a<=m->m<=n->fK kf (arrOf st) m->Pre a₀.size (arrOf st) m->(m=n\/(m<n/\Kl kf (arrOf st) m (m-1)))->Q (none,m) st):wpS (model prog w) A E s (ascLoop a n) Q st:=by
 have up:∀x,a<=x->x<=n->Pre a₀.size (arrOf st) x:=λx h1 h2=>⟨λk hk=>by
  by_cases z:k<a
  .have:=p.1 k z; lia
  .rw[p.2 k (by lia) (by lia)]; lia,λk h3 h4=>p.2 k (by lia) h4⟩
 refine wpS_forRange (I:=λx c t=>t=st/\c=(none,x)/\x<=n/\fK kf (arrOf st) x) ?_ ?_ ⟨rfl,rfl,han,h0⟩
 .rintro x c t h1 h2 ⟨rfl,rfl,_,hs⟩
  refine wpS_bind (ask _ _ _ _ B (by lia) (by lia) ?_)
  by_cases l:Kl kf (arrOf t) x (x-1)
  .rw[decide_eq_true l]
   exact wpS_pure (h x h1 (by lia) hs (up x h1 (by lia)) (.inr ⟨h2,l⟩))
  .rw[decide_eq_false l]
   refine wpS_pure ⟨rfl,rfl,h2,λi j hij hj=>?_⟩
   by_cases z:j<x
   .exact hs i j hij z
   .have ej:j=x:=by lia
    subst ej
    have r1:=(up j h1 (by lia)).1 i hij
    have r2:=(up j h1 (by lia)).2 j (Nat.le_refl _) (by lia)
    by_cases z:i=j-1
    .subst z
     exact Lq.mk l (by rw[r2]; exact r1)
    .have y:=hs i (j-1) (by lia) (by lia)
     exact Lq.mk (λz=>l (z.tq y)) (by rw[r2]; exact r1)
 .rintro c t ⟨rfl,rfl,_,hs⟩
  rw[show max a n=n by lia]at hs ⊢
  exact h n han (Nat.le_refl _) hs (up n han (Nat.le_refl _)) (.inl rfl)
theorem O5{st:SortSt}(hn:n<=a₀.size)(h1:1<=m)(hm:m<=n)(B:SB a₀ kd st)(p:Pre a₀.size (arrOf st) m)(d:cu kf (arrOf st) m)
  (h:∀m t,SB a₀ kd t->1<=m->m<=n->fK kf (arrOf t) m->Pre a₀.size (arrOf t) m->Q (some m) t):wpS (model prog w) A E s (tail3 m n) Q st:=by
 unfold tail3
 have z:m<=(arrOf st).size:=by rw[B.sz]; lia
 refine wpS_bind (wpS_reverse ?_)
 have B':SB a₀ kd (setArr st (mirror (arrOf st) 0 m ((m-0) / 2))):=B.put (mirror_perm _ _ _ _)
 exact wpS_bind (O4 ask hn h1 hm B' (p.gK z (Nat.le_refl _)) (d.turn z) λk k1 k2 k3 k4 _=>wpS_pure (h k _ B' (by lia) k2 k3 k4))
theorem ad3{st:SortSt}(hn:n<=a₀.size)(h1:1<=m)(hm:m<=n)(B:SB a₀ kd st)(p:Pre a₀.size (arrOf st) m)(d:jR kf (arrOf st) m (m-1))
  (h:∀x e t,SB a₀ kd t->m<=x->x<=n->e+1<=x->jR kf (arrOf t) x (x-(e+1))->Pre a₀.size (arrOf t) x->Q (none,x,e) t):wpS (model prog w) A E s (descLoop m n) Q st:=by
 unfold descLoop
 refine wpS_forRange (I:=λx c t=>∃e,c=(none,x,e)/\SB a₀ kd t/\x<=n/\e+1<=x/\jR kf (arrOf t) x (x-(e+1))/\Pre a₀.size (arrOf t) x) ?_ ?_ ⟨0,rfl,B,hm,by lia,d,p⟩
 .rintro x c t k1 k2 ⟨e,rfl,B',_,ke,d',p'⟩
  dsimp only
  have z:x<=(arrOf t).size:=by rw[B'.sz]; lia
  have pu:∀ys:Array Keyed,Pre a₀.size ys x->Pre a₀.size ys (x+1):=λys q=>⟨λk hk=>by
   by_cases y:k<x
   .have:=q.1 k y; lia
   .rw[q.2 k (by lia) (by lia)]; lia,λk h3 h4=>q.2 k (by lia) h4⟩
  refine wpS_bind (ask _ _ _ _ B' (by lia) (by lia) ?_)
  by_cases l:Kl kf (arrOf t) x (x-1)
  .rw[decide_eq_true l]
   have next:∀ys:Array Keyed,cu kf ys x->(∀i,i<x->Kl kf ys x i)->jR kf ys (x+1) x:=λys y1 y2=>⟨λi j hij hj hi=>by
    by_cases y:j<x
    .exact⟨y1 i j hij y,λz=>by lia⟩
    .have:j=x:=by lia
     subst this
     exact⟨.inl (y2 i hi),λ_=>y2 i hi⟩,λi j h1 h2 h3=>by lia⟩
   have low:∀i,i<x->Kl kf (arrOf t) x i:=λi hi=>by
    by_cases y:i=x-1
    .rw[y]; exact l
    .by_cases y2:i<x-(e+1)
     .exact l.tq (d'.1 i (x-1) (by lia) (by lia) y2).1
     .exact Ke.r l (d'.2 i (x-1) (by lia) (by lia) (by lia)).1.s
   by_cases g:e > 0
   .rw[if_pos g]
    refine wpS_bind (wpS_reverse (wpS_pure ⟨0,rfl,B'.put (mirror_perm _ _ _ _),k2,by lia,?_,pu _ (p'.gK z (Nat.le_refl _))⟩))
    rw[show x+1-(0+1)=x by lia]
    refine next _ (d'.turn z (by lia)) λi hi=>?_
    rcases gK (i:=x-(e+1)) z x with⟨_,b,_⟩|⟨_,e1⟩
    .lia
    .rcases gK (i:=x-(e+1)) z i with⟨_,_,e2⟩|⟨_,e2⟩
     .rw[yN e1 e2]; exact low _ (by lia)
     .rw[yN e1 e2]; exact low _ hi
   .rw[if_neg g]
    refine wpS_pure ⟨0,rfl,B',k2,by lia,?_,pu _ p'⟩
    rw[show x+1-(0+1)=x by lia]
    exact next _ (d'.one (by lia)) low
  .rw[decide_eq_false l]
   refine wpS_bind (ask _ _ _ _ B' (by lia) (by lia) ?_)
   by_cases g:Kl kf (arrOf t) (x-1) x
   .rw[decide_eq_true g]
    exact wpS_pure (h x e t B' k1 (by lia) ke d' p')
   .rw[decide_eq_false g]
    have eq:Ke kf (arrOf t) (x-1) x:=Kl.no g l
    refine wpS_pure ⟨e+1,rfl,B',k2,by lia,?_,pu _ p'⟩
    rw[show x+1-(e+1+1)=x-(e+1) by lia]
    refine⟨λi j hij hj hi=>?_,λi j hi hij hj=>?_⟩
    .by_cases y:j<x
     .exact d'.1 i j hij y hi
     .have:j=x:=by lia
      subst this
      have y:=(d'.1 i (j-1) (by lia) (by lia) hi).2 (by lia)
      have y':Kl kf (arrOf t) j i:=eq.s.l y
      exact⟨.inl y',λ_=>y'⟩
    .by_cases y:j<x
     .exact d'.2 i j hi hij y
     .have:j=x:=by lia
      subst this
      have r1:=p'.1 i hij
      have r2:=p'.2 j (Nat.le_refl _) (by lia)
      refine⟨?_,by lia⟩
      by_cases y:i=j-1
      .rw[y]; exact eq
      .exact(d'.2 i (j-1) hi (by lia) (by lia)).1.t eq
 .rintro c t ⟨e,rfl,B',_,ke,d',p'⟩
  rw[show max m n=n by lia]at ke d' p' ⊢
  exact h n e t B' hm (Nat.le_refl _) ke d' p'
theorem O6{st:SortSt}(hn:n<=a₀.size)(hm:m+1<=n)(B:SB a₀ kd st)(p:Pre a₀.size (arrOf st) (m+1))(d:jR kf (arrOf st) (m+1) m)
  (h:∀m t,SB a₀ kd t->1<=m->m<=n->fK kf (arrOf t) m->Pre a₀.size (arrOf t) m->Q (some m) t):wpS (model prog w) A E s (descPart m n) Q st:=by
 refine wpS_bind (wpS_lift (wpAny_rule ⟨rfl,?_⟩))
 refine wpS_bind (ad3 ask hn (by lia) hm B p (by rw[show m+1-1=m by lia]; exact d) λx e t B' k1 k2 ke d' p'=>?_)
 have z:x<=(arrOf t).size:=by rw[B'.sz]; lia
 show wpS _ _ _ _ (if e > 0 then(reverseSlice' (x-(e+1)) x >>= λ_=>tail3 x n)else tail3 x n) _ _
 by_cases g:e > 0
 .rw[if_pos g]
  exact wpS_bind (wpS_reverse (O5 ask hn (by lia) k2 (B'.put (mirror_perm _ _ _ _)) (p'.gK z (Nat.le_refl _)) (d'.turn z (by lia)) h))
 .rw[if_neg g]
  exact O5 ask hn (by lia) k2 B' p' (d'.one (by lia)) h
theorem ad4{st:SortSt}(hn:n<=a₀.size)(h1:1<=n)(B:SB a₀ kd st)(p:Pre a₀.size (arrOf st) 0)
  (h:∀m t,SB a₀ kd t->1<=m->m<=n->fK kf (arrOf t) m->Pre a₀.size (arrOf t) m->Q (some m) t):wpS (model prog w) A E s (countRun' 0 n) Q st:=by
 rw[countRun0_eq]
 have p1:Pre a₀.size (arrOf st) 1:=⟨λk hk=>by rw[p.2 k (by lia) (by lia)]; lia,λk h3 h4=>p.2 k (by lia) h4⟩
 refine wpS_bind (O4 ask hn (Nat.le_refl 1) h1 B p1 (λi j _ _=>by lia) λm m1 m2 hs hp ho=>?_)
 by_cases e:m=n
 .rw[if_pos (by simpa using e)]
  exact wpS_pure (h m st B m1 m2 hs hp)
 .rw[if_neg (by simpa using e)]
  obtain⟨ml,l⟩:=ho.resolve_left e
  have pn:∀ys:Array Keyed,Pre a₀.size ys m->Pre a₀.size ys (m+1):=λys q=>⟨λk hk=>by
   by_cases y:k<m
   .have:=q.1 k y; lia
   .rw[q.2 k (by lia) (by lia)]; lia,λk h3 h4=>q.2 k (by lia) h4⟩
  by_cases g:m > 1
  .rw[if_pos g]
   refine wpS_bind (ask _ _ _ _ B (by lia) (by lia) ?_)
   by_cases r:Kl kf (arrOf st) 0 (m-1)
   .rw[decide_eq_true r]
    exact wpS_pure (h m st B m1 m2 hs hp)
   .rw[decide_eq_false r]
    have z:m<=(arrOf st).size:=by rw[B.sz]; lia
    have all:∀i j,i<j->j<m->Ke kf (arrOf st) i j/\qr (arrOf st) i<qr (arrOf st) j:=λi j hij hj=>by
     have a1:=hs i j hij hj
     have a2:i=0\/Lq kf (arrOf st) 0 i:=by
      by_cases y:i=0
      .exact .inl y
      .exact .inr (hs 0 i (by lia) (by lia))
     have a3:j=m-1\/Lq kf (arrOf st) j (m-1):=by
      by_cases y:j=m-1
      .exact .inl y
      .exact .inr (hs j (m-1) (by lia) (by lia))
     rcases a1 with k1|k1
     .have k2:Kl kf (arrOf st) 0 j:=by
       rcases a2 with y|y
       .rw[y]at k1; exact k1
       .exact Kl.qt y k1
      refine absurd ?_ r
      rcases a3 with y|y
      .rw[y]at k2; exact k2
      .exact k2.tq y
     .exact k1
    have ds:jR kf (arrOf st) m 0:=⟨λi j _ _ hi=>by lia,λi j _ hij hj=>all i j hij hj⟩
    refine wpS_bind (wpS_reverse (O6 ask hn (by lia) (B.put (mirror_perm _ _ _ _)) (pn _ (hp.gK z (Nat.le_refl _))) ?_ h))
    have dd:=ds.turn z (by lia)
    have low:∀i,i<m->Kl kf (arrOf st) m i:=λi hi=>by
     by_cases y:i=m-1
     .rw[y]; exact l
     .exact Ke.r l (all i (m-1) (by lia) (by lia)).1.s
    have O7:∀i,i<m->Kl kf (mirror (arrOf st) 0 m ((m-0) / 2)) m i:=λi hi=>by
     rcases gK (i:=0) z m with⟨_,b,_⟩|⟨_,e1⟩
     .lia
     .rcases gK (i:=0) z i with⟨_,_,e2⟩|⟨_,e2⟩
      .rw[yN e1 e2]; exact low _ (by lia)
      .rw[yN e1 e2]; exact low _ hi
    refine⟨λi j hij hj hi=>?_,λi j _ _ _=>by lia⟩
    by_cases y:j<m
    .exact⟨dd i j hij y,λz=>by lia⟩
    .have:j=m:=by lia
     subst this
     exact⟨.inl (O7 i hi),λ_=>O7 i hi⟩
  .rw[if_neg g]
   have e1:m=1:=by lia
   subst e1
   refine O6 ask hn (by lia) B (pn _ hp) ⟨λi j hij hj hi=>?_,λi j _ _ _=>by lia⟩ h
   have i0:i=0:=by lia
   have j1:j=1:=by lia
   subst i0 j1
   exact⟨.inl l,λ_=>l⟩
theorem ad5{st:SortSt}(hn:n<=a₀.size)(h1:1<=ok)(hok:ok<=n)(B:SB a₀ kd st)(p:Pre a₀.size (arrOf st) ok)(d:fK kf (arrOf st) ok)
  (h:∀t,SB a₀ kd t->fK kf (arrOf t) n->Q true t):wpS (model prog w) A E s (binarySort' 0 n ok) Q st:=by
 rw[binarySort'_eq]
 simp only[Nat.zero_add]
 refine wpS_bind (wpS_mono (wpS_forRange (I:=λk c t=>c=(none,())/\SB a₀ kd t/\k<=n/\fK kf (arrOf t) k/\Pre a₀.size (arrOf t) k) (Q:=λc t=>c=(none,())/\SB a₀ kd t/\fK kf (arrOf t) n) ?_ ?_ ?_) ?_)
 .rintro k c t k1 k2 ⟨rfl,B',_,d',p'⟩
  have hk:k<a₀.size:=by lia
  have rk:=p'.2 k (Nat.le_refl _) hk
  refine wpS_bind (wpS_mono (wpS_forRange (I:=λx c u=>u=t/\∃l r,c=(none,l,r)/\l<=r/\r<=k/\r-l<=k-x/\(∀i,i<l->¬Kl kf (arrOf t) k i)/\∀i,r<=i->i<k->Kl kf (arrOf t) k i)
   (Q:=λc u=>u=t/\∃l r,c=(none,l,r)/\l<=k/\(∀i,i<l->¬Kl kf (arrOf t) k i)/\∀i,l<=i->i<k->Kl kf (arrOf t) k i) ?_ ?_ ?_) ?_)
  .rintro x c u _ hx ⟨rfl,l,r,rfl,g1,g2,g3,lo,hi⟩
   dsimp only
   by_cases g:l >= r
   .rw[if_pos g]
    have:l=r:=by lia
    subst this
    exact wpS_pure ⟨rfl,l,l,rfl,g2,lo,hi⟩
   .rw[if_neg g]
    refine wpS_bind (ask _ _ _ _ B' hk (by lia) ?_)
    by_cases le:Kl kf (arrOf u) k ((l+r) / 2)
    .rw[decide_eq_true le]
     refine wpS_pure ⟨rfl,l,(l+r) / 2,rfl,by lia,by lia,by lia,lo,λi h1 h2=>?_⟩
     by_cases y:i=(l+r) / 2
     .rw[y]; exact le
     .exact le.tq (d' ((l+r) / 2) i (by lia) h2)
    .rw[decide_eq_false le]
     refine wpS_pure ⟨rfl,(l+r) / 2+1,r,rfl,by lia,by lia,by lia,λi h1=>?_,hi⟩
     by_cases y:i=(l+r) / 2
     .rw[y]; exact le
     .exact λz=>le (z.tq (d' i ((l+r) / 2) (by lia) (by lia)))
  .rintro c u ⟨rfl,l,r,rfl,g1,g2,g3,lo,hi⟩
   have:l=r:=by lia
   subst this
   exact⟨rfl,l,l,rfl,g2,lo,hi⟩
  .exact⟨rfl,0,k,rfl,by lia,by lia,by lia,λi hi=>by lia,λi g1 g2=>by lia⟩
  .rintro c u ⟨rfl,l,r,rfl,lk,lo,hi⟩
   rw[moveDown'_eq]
   refine wpS_bind (wpS_modify (wpS_pure ⟨rfl,B'.put (bubble_perm _ _ _),k2,?_,?_⟩))
   all_goals
    have ks:k<(arrOf u).size:=by rw[B'.sz]; exact hk
    have bb:=getElem?_bubble ks (k-l) (by lia)
    rw[show k-(k-l)=l by lia]at bb
    have b1:(bubble (arrOf u) k (k-l))[l]?=(arrOf u)[k]? := by rw[bb,if_pos rfl]
    have b2:∀i,l<i->i<=k->(bubble (arrOf u) k (k-l))[i]?=(arrOf u)[i-1]? := λi g1 g2=>by rw[bb,if_neg (by lia),if_pos ⟨g1,g2⟩]
    have b3:∀i,i<l->(bubble (arrOf u) k (k-l))[i]?=(arrOf u)[i]? := λi g1=>by rw[bb,if_neg (by lia),if_neg (by lia)]
    have b4:∀i,k<i->(bubble (arrOf u) k (k-l))[i]?=(arrOf u)[i]? := λi g1=>by rw[bb,if_neg (by lia),if_neg (by lia)]
   .intro i j hij hj
    show Lq kf (bubble (arrOf u) k (k-l)) i j
    rcases Nat.lt_trichotomy i l with y|y|y <;> rcases Nat.lt_trichotomy j l with y'|y'|y'
    .rw[lR (b3 i y) (b3 j y')]; exact d' i j hij (by lia)
    .subst y'
     rw[lR (b3 i y) b1]
     exact Lq.mk (lo i y) (by rw[rk]; exact p'.1 i (by lia))
    .rw[lR (b3 i y) (b2 j y' (by lia))]; exact d' i (j-1) (by lia) (by lia)
    .lia
    .lia
    .subst y
     rw[lR b1 (b2 j y' (by lia))]
     exact .inl (hi _ (by lia) (by lia))
    .lia
    .lia
    .rw[lR (b2 i y (by lia)) (b2 j y' (by lia))]; exact d' _ _ (by lia) (by lia)
   .refine⟨λi hi'=>?_,λi g1 g2=>?_⟩
    .show qr (bubble (arrOf u) k (k-l)) i<_
     rcases Nat.lt_trichotomy i l with y|y|y
     .rw[lQ (b3 i y)]; have:=p'.1 i (by lia); lia
     .subst y; rw[lQ b1,rk]; lia
     .rw[lQ (b2 i y (by lia))]; have:=p'.1 (i-1) (by lia); lia
    .show qr (bubble (arrOf u) k (k-l)) i=_
     rw[lQ (b4 i (by lia))]
     exact p'.2 i (by lia) g2
 .rintro c t ⟨rfl,B',kn,d',p'⟩
  refine⟨rfl,B',?_⟩
  rwa[show max (max ok 1) n=n by lia]at d'
 .rw[show max ok 1=ok by lia]
  exact⟨rfl,B,hok,d,p⟩
 .rintro c t ⟨rfl,B',d'⟩
  exact wpS_pure (h t B' d')
theorem ad6{st:SortSt}(B:SB a₀ kd st)(h2:2<=a₀.size)(h64:a₀.size<64)(p:Pre a₀.size (arrOf st) 0)
  (h:∀t,(arrOf t).Perm a₀ -> failedOf t=none->fK kf (arrOf t) a₀.size->Q () t):wpS (model prog w) A E s sortRuns' Q st:=by
 rw[sortRuns'_eq]
 refine wpS_bind (wpS_get ?_)
 have mr:minRun' (arrOf st).size (arrOf st).size 0=a₀.size:=by
  rw[B.sz]
  obtain⟨f,hf⟩:∃f,a₀.size=f+1:=⟨a₀.size-1,by lia⟩
  have:minRun' (f+1) (f+1) 0=f+1:=by rw[minRun'_succ,if_pos (by lia)]
  rw[hf]; exact this
 dsimp only
 rw[mr,B.sz]
 have fin:∀t,SB a₀ kd t->fK kf (arrOf t) a₀.size->(arrOf (setPending t ((pendingOf t).push (0,a₀.size,0)))).Perm a₀/\failedOf (setPending t ((pendingOf t).push (0,a₀.size,0)))=none/\pendingOf (setPending t ((pendingOf t).push (0,a₀.size,0))) = #[(0,a₀.size,0)]/\fK kf (arrOf (setPending t ((pendingOf t).push (0,a₀.size,0)))) a₀.size :=
  λt B' d'=>⟨B'.pm,B'.fl,by show(pendingOf t).push _=_; rw[B'.pd]; rfl,d'⟩
 refine wpS_bind (wpS_mono (wpS_forRange (I:=λx c t=>(x=0/\c=(none,0)/\SB a₀ kd t/\Pre a₀.size (arrOf t) 0)\/(1<=x/\c=(none,a₀.size)/\(arrOf t).Perm a₀/\failedOf t=none/\pendingOf t = #[(0,a₀.size,0)]/\fK kf (arrOf t) a₀.size))
  (Q:=λc t=>c=(none,a₀.size)/\(arrOf t).Perm a₀/\failedOf t=none/\pendingOf t = #[(0,a₀.size,0)]/\fK kf (arrOf t) a₀.size) ?_ ?_ (.inl ⟨rfl,rfl,B,p⟩)) ?_)
 .rintro x c t _ hx (⟨rfl,rfl,B',p'⟩|⟨hx1,rfl,D⟩)
  .skip
   rw[if_neg (by lia)]
   simp only[Nat.sub_zero,Nat.min_self,Nat.zero_add]
   refine wpS_bind (ad4 ask (Nat.le_refl _) (by lia) B' p' λm u B2 m1 m2 d2 p2=>?_)
   show wpS _ _ _ _ (if m<a₀.size then _ else _) _ _
   by_cases g:m<a₀.size
   .rw[if_pos g]
    refine wpS_bind (wpS_lift (wpAny_rule ⟨rfl,?_⟩))
    refine wpS_bind (ad5 ask (Nat.le_refl _) m1 m2 B2 p2 d2 λv B3 d3=>?_)
    refine wpS_bind (wpS_get ?_)
    rw[show(pendingOf v).back? = none by rw[B3.pd]; rfl]
    exact wpS_bind (wpS_modify (wpS_pure (.inr ⟨by lia,rfl,fin v B3 d3⟩)))
   .rw[if_neg g]
    have e:m=a₀.size:=by lia
    subst e
    refine wpS_bind (wpS_get ?_)
    rw[show(pendingOf u).back? = none by rw[B2.pd]; rfl]
    exact wpS_bind (wpS_modify (wpS_pure (.inr ⟨by lia,rfl,fin u B2 d2⟩)))
  .skip
   rw[if_pos (Nat.le_refl _)]
   exact wpS_pure ⟨rfl,D⟩
 .rintro c t (⟨hx,_,_⟩|⟨_,hc,D⟩)
  .lia
  .exact⟨hc,D⟩
 .rintro c t ⟨rfl,D⟩
  refine wpS_bind (wpS_mono (wpS_forRange (I:=λ_ c u=>u=t/\c=(none,())) (Q:=λc u=>u=t/\c=(none,())) ?_ (λ_ _ z=>z) ⟨rfl,rfl⟩) ?_)
  .rintro x c u _ _ ⟨rfl,rfl⟩
   refine wpS_bind (wpS_get ?_)
   rw[if_pos (by rw[D.2.2.1]; exact Nat.le_refl 1)]
   exact wpS_pure ⟨rfl,rfl⟩
  .rintro c u ⟨rfl,rfl⟩
   exact wpS_pure (h _ D.1 D.2.1 D.2.2.2)
end
open PySem.W
section
variable {X:Cx}{pins:List (Addr × Obj)}{σ : St}{H:Hp}{s:Shared}
theorem Inv.track(I:Inv X pins σ H s)(f:cA X pins H a)(e:s.heap.get? a=some {cls:=.type "list",data:=.seq its.toArray n }) (r:Vals xs its) (hz:xs.length<=sizeLine):Inv X pins σ (upd H a (.lst xs)) s:=by
 obtain⟨f0,f1,f2,f3,f4,f5⟩:=f
 have ok:bZ X.prog X.w (upd H a (.lst xs)) s.heap:=λb u q=>by
  by_cases hb:b=a
  .subst hb; rw[bN]at q; cases q; exact⟨hz,its,n,r,e⟩
  .rw[aH hb]at q
   exact(I.hok b u q).stay (λc v _ z=>z) (λc z=>by rw[aH (iJ z f0)]; exact z) λc ys z=>by rw[aH (iJ z f0)]; exact z
 exact I.step (h':=s.heap) (g':=s.gens) (t':=s.toks) (d':=s.drawn) (ch:=[a]) (λb hb=>by
   have:b=a:=by simpa using hb
   subst this
   exact⟨f3,f1,f4,f5⟩) (λb o _ _ _ q _=>q) (λb o _ _ _ q _=>⟨o.slots,q⟩) (λb o hb _ q=>by rw[aH (by simpa using hb)]; exact q) (λb o _ q=>⟨o,q⟩)
  (λb ys q=>by rw[aH (iJ q f0)]; exact q) (λb o u q=>by rw[aH (iJ q f0)]; exact q) (λb ps q=>⟨#[],by rw[aH (iJ q f0),q]; simp⟩) (λm q=>q) ok I.bare
theorem Inv.sub(I:Inv X pins σ H s)(h:∀p∈mX,p∈pins):Inv X mX σ H s:=I.wU λp hp=>I.pin p (List.mem_append_right _ (h p hp))
theorem Inv.pC(I:Inv X pins σ H s)(f:cA X pins H a)(e:s.heap.get? a=some o)(d:∀v,o.data ≠ .cell v):Inv X ((a,o)::pins) σ H s:=I.wU λp hp=>by
 rcases List.mem_cons.mp hp with rfl|hp
 .exact⟨e,f.1,f.2.1,f.2.2.1,d⟩
 .exact I.pin p (List.mem_append_right _ hp)
theorem cA.pC(f:cA X pins H b)(n:a≠b):cA X ((a,o)::pins) H b:=⟨f.1,f.2.1,f.2.2.1,f.2.2.2.1,f.2.2.2.2.1,λp hp=>by
 rcases List.mem_append.mp hp with hp|hp
 .exact f.2.2.2.2.2 p (List.mem_append_left _ hp)
 .rcases List.mem_cons.mp hp with rfl|hp
  .exact n
  .exact f.2.2.2.2.2 p (List.mem_append_right _ hp)⟩
theorem Inv.wr(I:Inv X pins σ H s)(f:cA X pins H a):Inv X pins σ H {s with heap:=s.heap.update a (Obj.mapSeq g),toks:=t' }:=by
 obtain⟨f0,f1,f2,f3,f4,f5⟩:=f
 exact I.turned (it:=a) (λb o hb e=>((Heap.SameBut.update s.heap a _).2 b hb).trans e) f0 f1 f3 f4 f5
end
noncomputable instance nfI:NF:=⟨numOf⟩
noncomputable def lU(n:Nat)(kz:Nat->Int × Int)(ys:List Nat):Prop:=ys.Perm (List.range n)/\ys.Pairwise λi j=>((kz i).1<(kz j).1\/((kz i).1=(kz j).1/\(kz i).2<(kz j).2))\/(((kz i).1=(kz j).1/\(kz i).2=(kz j).2)/\i<j)
structure nq(X:Cx)(Kv:Hp->Value->Int × Int->Prop)(kd:SortKind):Prop where
 kind:∀(H:Hp) (keys:Array Value) (kz:Nat->Int × Int),2<=keys.size->(∀i v,keys[i]?=some v->Kv H v (kz i))->∀{pins σ s Q E},Inv X pins σ H s->Q kd s->wpAny (model X.prog X.w) X.A.in1.in1 (keyKind' keys) Q E s
 ask:∀{pins σ H s} {E:Value->Shared->Prop} (a₀ : Array Keyed) (kf:Value->Int × Int),Inv X pins σ H s->(∀p,p∈a₀.toList->Kv H p.1 (kf p.1))->Asks X.prog X.w X.A.in1.in1 E s a₀ kd kf
section
variable {X:Cx}
theorem O8:nq X (λ_ v k=>∃t,v=.int k.1 t/\k.2=0) oneType' where
 kind:=λH keys kz h2 hk pins σ s Q E I q=>by
  have hi:IntsAre keys.toList (keys.toList.map numOf):=by
   refine intsAre_map _ λv hv=>?_
   obtain⟨i,hi,e⟩:=List.getElem_of_mem hv
   obtain⟨t,z,_⟩:=hk i v (by rw[<-e]; simp[Array.getElem?_eq_getElem (show i<keys.size by simpa using hi)])
   exact⟨_,t,z⟩
  rw[ksk_kind hi h2]
  exact wpAny_pure q
 ask:=λa₀ kf I h st i j Q B hi hj q=>by
  have h0:IntKeys a₀ := λp hp=>by
   obtain⟨t,z,_⟩:=h p hp
   exact⟨_,t,z⟩
  have B':SBase a₀ st:=⟨B.pm,B.kn,B.fl,B.pd⟩
  have at_:∀i,i<a₀.size->q1 kf (arrOf st) i=K (arrOf st) i/\q2 kf (arrOf st) i=0:=λi hi=>by
   obtain⟨t,p,e⟩:=B'.at h0 hi
   have hi':i<(arrOf st).size:=by rw[B.sz]; exact hi
   have hm:(arrOf st)[i]∈a₀.toList:=(Array.perm_iff_toList_perm.mp B.pm).mem_iff.mp (by simp)
   obtain⟨t',z,z2⟩:=h _ hm
   have e':(arrOf st)[i]?=some (arrOf st)[i]:=getElem?_pos _ i hi'
   have e2:(arrOf st)[i]=(Value.int (K (arrOf st) i) t,p):=by rw[e']at e; exact Option.some.inj e
   rw[e2]at z z2
   unfold q1 q2
   rw[e]
   refine⟨?_,z2⟩
   injection z with z
   exact z.symm
  refine wpS_ltK B' h0 hi hj ?_
  have:decide (Kl kf (arrOf st) i j)=decide (K (arrOf st) i<K (arrOf st) j):=by
   rw[decide_eq_decide]
   unfold Kl
   rw[(at_ i hi).1,(at_ j hj).1,(at_ i hi).2,(at_ j hj).2]
   lia
  rw[this]at q
  exact q
end
section
variable {X:Cx}{pins:List (Addr × Obj)}{σ : St}{H:Hp}{s:Shared}{Kv:Hp->Value->Int × Int->Prop}{kd:SortKind}{a kS:Addr}{n:Nat}{kz:Nat->Int × Int}{vs:List Value}
theorem O9{st:SortSt}(I:Inv X pins σ H s)(fk:cA X pins H kS)(fa:cA X pins H a)(ne:kS≠a)(hk:s.heap.get? kS=some (seqObj "list" keys e)) (ha:s.heap.get? a=some (seqObj "list" #[] e1)) (hks:keys.size<=64) (hst:(arrOf st).size<=64) (fl:failedOf st=none)
  (h:∀s' c,Inv X pins σ H s'->s'.heap.get? a=some (seqObj "list" ((arrOf st).map (·.2)) c)->P (.done (.ret .none)) s'):wpAny (model X.prog X.w) X.A.in1.in1 (ksk_tail a false e1 (.ref kS) st) P E s:=by
 refine wpAny_bind (listUpdate_at hk rfl ?_ (by rw[sizeLine_eq]; lia) (Nat.zero_le _))
 refine wpAny_bind (wpAny_letGo ?_)
 have I1:=I.wr (g:=λ_=>#[]) (t':=s.toks) fk
 have ha1:(s.heap.update kS (Obj.mapSeq λ_=>(#[]:Array Value))).get? a=some (seqObj "list" #[] e1):=((Heap.SameBut.update s.heap kS _).2 a (Ne.symm ne)).trans ha
 refine wpAny_bind (seqEpoch_at ha1 rfl ?_)
 refine wpAny_bind (listUpdate_at ha1 rfl ?_ (Nat.zero_le _) (by simp only[Bool.false_eq_true,if_false,Array.size_map]; rw[sizeLine_eq]; lia))
 rw[fl]
 simp only[bne_self_eq_false,Bool.false_eq_true,if_false]
 exact wpAny_pure (h _ _ (I1.wr (t':=s.toks) fa) (get?_update_seq ha1 _))
theorem ad7(T:nq X Kv kd)(I:Inv X pins σ H s)(fk:cA X pins H kS)(fa:cA X pins H a)(ne:kS≠a)(hk:s.heap.get? kS=some (seqObj "list" keys e)) (ha:s.heap.get? a=some (seqObj "list" #[] e1))
  (hv:∀(i:Nat) (v:Value),vs[i]?=some v->∃t,v=Value.int i t) (hl:vs.length=n) (hkn:keys.size=n) (h64:n<64) (hK:∀i v,keys[i]?=some v->Kv H v (kz i)) (inj:∀v k k',Kv H v k->Kv H v k'->k=k')
  (h:∀s' c out,Inv X pins σ H s'->s'.heap.get? a=some (seqObj "list" out c)->(∃ys,lU n kz ys/\Vals (ys.map λi:Nat=>V.int i) out.toList)->P (.done (.ret .none)) s'):wpAny (model X.prog X.w) X.A.in1.in1 (ksk_end a false vs.toArray e1 (.ref kS) keys) P E s:=by
 have qY:(keys.zip vs.toArray).size=n:=by rw[Array.size_zip,hkn,List.size_toArray,hl,Nat.min_self]
 have uE:∀i,i<n->∃v t,(keys.zip vs.toArray)[i]?=some (v,.int i t)/\Kv H v (kz i):=λi hi=>by
  obtain⟨t,e2⟩:=hv i vs[i] (by simp[hl,hi])
  have e1:keys[i]?=some keys[i]:=getElem?_pos _ _ (by lia)
  refine⟨keys[i],t,?_,hK i _ e1⟩
  rw[<-Array.getElem?_toList,ksk_zip,List.getElem?_zip_eq_some]
  refine⟨by simp[Array.getElem?_toList,e1],?_⟩
  show vs[i]?=some (Value.int i t)
  rw[List.getElem?_eq_getElem (by lia),e2]
 -- what the sorted array says
 have fin:∀(kf:Value->Int × Int) (xs:Array Keyed),(∀(i:Nat) v t,(keys.zip vs.toArray)[i]?=some (v,Value.int i t)->kf v=kz i)->xs.Perm (keys.zip vs.toArray)->fK kf xs n->∃ys,lU n kz ys/\Vals (ys.map λi:Nat=>V.int i) (xs.map (·.2)).toList:=λkf xs hkf hp hs=>by
  have hpl:=Array.perm_iff_toList_perm.mp hp
  have mem:∀p∈xs.toList,∃i t,i<n/\p.2=.int (i:Nat) t/\kf p.1=kz i:=λp hp'=>by
   obtain⟨i,hi,e⟩:=List.getElem_of_mem (hpl.mem_iff.mp hp')
   have hi':i<n:=by rw[Array.length_toList,qY]at hi; exact hi
   obtain⟨v,t,e1,_⟩:=uE i hi'
   have e2:(keys.zip vs.toArray)[i]?=some p:=by rw[<-Array.getElem?_toList,List.getElem?_eq_getElem hi,e]
   rw[e1]at e2
   cases e2
   exact⟨i,t,hi',rfl,hkf i v t e1⟩
  refine⟨xs.toList.map λp=>(numOf p.2).toNat,⟨?_,?_⟩,?_⟩
  .have h1:=hpl.map λp:Keyed=>(numOf p.2).toNat
   refine h1.trans (List.Perm.of_eq ?_)
   refine List.ext_getElem? λi=>?_
   by_cases hi:i<n
   .obtain⟨v,t,e1,_⟩:=uE i hi
    rw[List.getElem?_map,Array.getElem?_toList,e1,List.getElem?_range hi]
    simp[numOf]
   .rw[List.getElem?_eq_none (by simp[qY]; lia),List.getElem?_eq_none (by simp; lia)]
  .rw[List.pairwise_map,List.pairwise_iff_getElem]
   intro i j hi hj hij
   have sz:xs.size=n:=by rw[hp.size_eq,qY]
   have hi':i<xs.size:=by simpa using hi
   have hj':j<xs.size:=by simpa using hj
   have z:=hs i j hij (by lia)
   obtain⟨a1,t1,_,b1,c1⟩:=mem _ (List.getElem_mem hi)
   obtain⟨a2,t2,_,b2,c2⟩:=mem _ (List.getElem_mem hj)
   have x1:xs[i]?=some xs.toList[i]:=by rw[<-Array.getElem?_toList,List.getElem?_eq_getElem hi]
   have x2:xs[j]?=some xs.toList[j]:=by rw[<-Array.getElem?_toList,List.getElem?_eq_getElem hj]
   unfold Lq Kl Ke q1 q2 qr at z
   rw[x1,x2]at z
   dsimp only at z
   rw[b1,b2,c1,c2]at z
   rw[b1,b2]
   simp only[NF.f,nfI,numOf,Int.toNat_natCast]at z ⊢
   lia
  .rw[Array.toList_map,List.map_map]
   have go:∀l:List Keyed,(∀p∈l,∃i t,i<n/\p.2=.int (i:Nat) t/\kf p.1=kz i)->Vals (l.map ((λi:Nat=>V.int i) ∘ λp:Keyed=>(numOf p.2).toNat)) (l.map (·.2)):=λl=>by
    induction l with
    |nil=>intro _; exact .nil
    |cons p r ih =>
     intro hm
     refine .cons ?_ (ih λq hq=>hm q (List.mem_cons_of_mem _ hq))
     obtain⟨i,t,_,e,_⟩:=hm p (List.mem_cons_self ..)
     exact⟨t,by simp[e,numOf]⟩
   exact go _ mem
 -- a function of the keys
 obtain⟨kf,hkf⟩:∃kf:Value->Int × Int,∀v k,Kv H v k->kf v=k:=by
  classical
  refine⟨λv=>if q:∃k,Kv H v k then q.choose else(0,0),λv k hk=>?_⟩
  have q:∃k,Kv H v k:=⟨k,hk⟩
  dsimp only
  rw[dif_pos q]
  exact inj v _ _ q.choose_spec hk
 have Pa:∀(i:Nat) v t,(keys.zip vs.toArray)[i]?=some (v,Value.int i t)->kf v=kz i:=λi v t e=>by
  have hi:i<n:=by
   have:=(Array.getElem?_eq_some_iff.mp e).1
   lia
  obtain⟨v',t',e1,q⟩:=uE i hi
  rw[e1]at e
  cases e
  exact hkf _ _ q
 unfold ksk_end
 simp only[Bool.false_eq_true,if_false]
 rw[List.size_toArray,hl]
 by_cases h2:n<2
 .rw[if_pos h2,if_pos h2]
  refine wpAny_bind (wpAny_pure ?_)
  rw[StateT.run_pure]
  refine wpAny_bind (wpAny_pure ?_)
  refine O9 (st:=SortSt.mk' general' (keys.zip vs.toArray) #[] 7 none) I fk fa ne hk ha (by lia) (by show(keys.zip vs.toArray).size<=64; lia) rfl λs' c I' e'=>h s' c _ I' e' (fin kf _ Pa (Array.Perm.refl _) λi j hij hj=>by lia)
 .rw[if_neg h2,if_neg h2]
  refine wpAny_bind (T.kind H keys kz (by lia) hK I ?_)
  have ask:=T.ask (E:=E) (s:=s) (keys.zip vs.toArray) kf I (λp hp=>by
   obtain⟨i,hi,e⟩:=List.getElem_of_mem hp
   have hi':i<n:=by rw[Array.length_toList,qY]at hi; exact hi
   obtain⟨v,t,e1,q⟩:=uE i hi'
   have e2:(keys.zip vs.toArray)[i]?=some p:=by rw[<-Array.getElem?_toList,List.getElem?_eq_getElem hi,e]
   rw[e1]at e2
   cases e2
   rw[hkf _ _ q]
   exact q)
  have B:SB (keys.zip vs.toArray) kd (SortSt.mk' kd (keys.zip vs.toArray) #[] 7 none):=⟨Array.Perm.refl _,rfl,rfl,rfl⟩
  have p0:Pre (keys.zip vs.toArray).size (arrOf (SortSt.mk' kd (keys.zip vs.toArray) #[] 7 none)) 0:=⟨λk hk=>by lia,λk _ hk=>by
   obtain⟨v,t,e1,_⟩:=uE k (by lia)
   show qr (keys.zip vs.toArray) k=k
   unfold qr
   rw[e1]
   rfl⟩
  refine wpAny_bind (wpAny_mono (ad6 (Q:=λ_ t=>(arrOf t).Perm (keys.zip vs.toArray)/\failedOf t=none/\fK kf (arrOf t) (keys.zip vs.toArray).size) ask B (by lia) (by lia) p0 λt a1 a2 a3=>⟨a1,a2,a3⟩) ?_ λ_ _ z=>z)
  rintro⟨⟨⟩,t⟩ s' ⟨rfl,hp,hf,hs⟩
  rw[qY]at hs
  exact O9 I fk fa ne hk ha (by lia) (by rw[hp.size_eq,qY]; lia) hf λs' c I' e'=>h s' c _ I' e' (fin kf _ Pa hp hs)
end
section
variable {X:Cx}{pins:List (Addr × Obj)}{σ : St}{H:Hp}{s:Shared}{Kv:Hp->Value->Int × Int->Prop}{kd:SortKind}{n:Nat}{kz:Nat->Int × Int}{vs:List Value}{f:Value}
theorem cA.up(h:cA X pins H b)(e:H' b=none):cA X pins H' b:=⟨e,h.2⟩
noncomputable def Ew(X:Cx)(pins:List (Addr × Obj))(σ : St)(H:Hp)(Kv:Hp->Value->Int × Int->Prop)(n:Nat)(kz:Nat->Int × Int)(f:Value):Prop :=
 ∀(mX:List (Addr × Obj)) (i:Nat) (t:Tok) (s':Shared) (H':Hp),i<n->(∀p∈pins,p∈mX)->Same H H'->Inv X mX σ H' s' ->
  wpAny (model X.prog X.w) X.A.in1.in1 (call f [.int i t]) (λv s''=>∃dM,Same H' dM/\Kv dM v (kz i)/\Inv X mX σ dM s'') (λ_ _=>False) s'
theorem ad8(T:nq X Kv kd)(mono:∀{H H':Hp} {v k},Same H H'->Kv H v k->Kv H' v k)(inj:∀{pins:List (Addr × Obj)} {σ : St} {H:Hp} {s:Shared},Inv X pins σ H s->∀v k k',Kv H v k->Kv H v k'->k=k')
  (I:Inv X pins σ H s) (fk:cA X pins H kS) (fa:cA X pins H a) (ne:kS≠a) (hk:s.heap.get? kS=some (seqObj "list" #[] 0)) (ha:s.heap.get? a=some (seqObj "list" #[] e1))
  (hv:∀(i:Nat) (v:Value),vs[i]?=some v->∃t,v=Value.int i t) (hl:vs.length=n) (h64:n<64) (key:Ew X pins σ H Kv n kz f)
  (h:∀s' c out H',Same H H'->H' a=none->Inv X pins σ H' s'->s'.heap.get? a=some (seqObj "list" out c)->(∃ys,lU n kz ys/\Vals (ys.map λi:Nat=>V.int i) out.toList)->P (.done (.ret .none)) s') :
  wpAny (model X.prog X.w) X.A.in1.in1 (ksk_rest a f false vs.toArray e1 (.ref kS)) P E s:=by
 unfold ksk_rest
 refine wpAny_bind (wpAny_rule ?_)
 rw[<-Array.forIn_toList]
 refine wpAny_bind (ksk_fold (λi s'=>∃H' kA e,Same H H'∧H' kS=none∧H' a=none∧Inv X pins σ H' s'∧s'.heap.get? kS=some (seqObj "list" kA e)∧s'.heap.get? a=some (seqObj "list" #[] e1)∧kA.size=i∧∀(j:Nat) v,kA[j]?=some v→Kv H' v (kz j)) vs 0 s
  ⟨H,#[],0,Same.refl _,fk.1,fa.1,I,hk,ha,rfl,λj v z=>by simp at z⟩ ?_ ?_)
 .rintro j x s' hx ⟨H',kA,e,sm,nk,na,I',hk',ha',sz,hK⟩
  rw[Nat.zero_add]at sz ⊢
  have hj:j<vs.length:=(List.getElem?_eq_some_iff.mp hx).1
  obtain⟨t,rfl⟩:=hv j x hx
  have fk':=fk.up nk
  have nA:=fa.up na
  have I2:=(I'.pC nA ha' (λv z=>by cases z)).pC (fk'.pC (Ne.symm ne)) hk' (λv z=>by cases z)
  refine wpAny_bind (wpAny_attempt (wpAny_mono (key _ j t s' H' (by lia) (λp hp=>List.mem_cons_of_mem _ (List.mem_cons_of_mem _ hp)) sm I2) (λv s'' he=>?_) λ_ _ z=>z.elim))
  obtain⟨dM,Pb,kv,I3⟩:=he
  have p1:=I3.pin (kS,seqObj "list" kA e) (List.mem_append_right _ (List.mem_cons_self ..))
  have p2:=I3.pin (a,seqObj "list" #[] e1) (List.mem_append_right _ (List.mem_cons_of_mem _ (List.mem_cons_self ..)))
  have I4:=I3.sub λp hp=>List.mem_cons_of_mem _ (List.mem_cons_of_mem _ hp)
  refine wpAny_bind (listUpdate_at p1.1 rfl ?_ (by rw[sizeLine_eq]; lia) (Nat.le_trans (Nat.le_of_eq (Array.size_push ..)) (by rw[sizeLine_eq]; lia)))
  refine wpAny_pure ⟨rfl,dM,kA.push v,_,sm.trans Pb,p1.2.1,p2.2.1,I4.wr (t':=s''.toks) (fk.up p1.2.1),get?_update_seq p1.1 _,((Heap.SameBut.update s''.heap kS _).2 a (Ne.symm ne)).trans p2.1,by rw[Array.size_push,sz],λi u q=>?_⟩
  rw[Array.getElem?_push]at q
  split at q
  .rename_i z
   cases q
   rw[z,sz]
   exact kv
  .exact mono Pb (hK i u q)
 .rintro s' ⟨H',kA,e,sm,nk,na,I',hk',ha',sz,hK⟩
  refine wpAny_bind (listItems_at hk' rfl ?_)
  exact ad7 T I' (fk.up nk) (fa.up na) ne hk' ha' hv hl (by lia) h64 hK (inj I') λs'' c out Ez e'' q=>h s'' c out H' sm na Ez e'' q
theorem ad9(T:nq X Kv kd)(mono:∀{H H':Hp} {v k},Same H H'->Kv H v k->Kv H' v k)(inj:∀{pins:List (Addr × Obj)} {σ : St} {H:Hp} {s:Shared},Inv X pins σ H s->∀v k k',Kv H v k->Kv H v k'->k=k')
  (I:Inv X pins σ H s) (fa:cA X pins H a) (ha:s.heap.get? a=some (seqObj "list" vs.toArray c0))
  (hv:∀(i:Nat) (v:Value),vs[i]?=some v->∃t,v=Value.int i t) (hl:vs.length=n) (h64:n<64) (key:Ew X pins σ H Kv n kz f)
  (h:∀s' c out H',Same H H'->H' a=none->Inv X pins σ H' s'->s'.heap.get? a=some (seqObj "list" out c)->(∃ys,lU n kz ys/\Vals (ys.map λi:Nat=>V.int i) out.toList)->P (.done (.ret .none)) s') :
  wpAny (model X.prog X.w) X.A.in1.in1 (ksk_tree a f false) P E s:=by
 refine wpAny_bind (listItems_at ha rfl ?_)
 refine wpAny_bind (listUpdate_at ha rfl ?_ (by rw[List.size_toArray,sizeLine_eq]; lia) (Nat.zero_le _))
 have I1:=I.wr (g:=λ_=>#[]) (t':=s.toks) fa
 obtain⟨e1,ha1⟩:∃e1,(s.heap.update a (Obj.mapSeq λ_=>(#[]:Array Value))).get? a=some (seqObj "list" #[] e1):=⟨_,get?_update_seq ha _⟩
 refine wpAny_bind (seqEpoch_at ha1 rfl ?_)
 refine wpAny_bind (wpAny_newTuple ?_ (by show vs.toArray.toList.length<=_; rw[List.toList_toArray,sizeLine_eq]; lia))
 refine wpAny_bind (wpAny_newList ?_ (Nat.zero_le _))
 have I2:Inv X pins σ H {s with heap:=(s.heap.update a (Obj.mapSeq λ_=>(#[]:Array Value))).push {cls:=.type "tuple",data:=.seq vs.toArray.toList.toArray } }:=I1.kept (t':=s.toks) λb o e=>Heap.get?_push_of_some _ e
 have I3:Inv X pins σ H {s with heap:=((s.heap.update a (Obj.mapSeq λ_=>(#[]:Array Value))).push {cls:=.type "tuple",data:=.seq vs.toArray.toList.toArray }).push {cls:=.type "list",data:=.seq ([]:List Value).toArray } }:=I2.kept (t':=s.toks) λb o e=>Heap.get?_push_of_some _ e
 have lt:a<((s.heap.update a (Obj.mapSeq λ_=>(#[]:Array Value))).push {cls:=.type "tuple",data:=.seq vs.toArray.toList.toArray }).objs.size:=by
  rw[size_push',Heap.size_update]
  exact Nat.lt_succ_of_lt (Heap.lt_size ha)
 refine wpAny_holding ?_
 exact ad8 T mono inj I3 (I2.lA (Nat.le_refl _) (I2.hok.fresh (Nat.le_refl _))) fa (Nat.ne_of_gt lt) (Heap.get?_push_size _ rfl) (Heap.get?_push_of_some _ (Heap.get?_push_of_some _ ha1)) hv hl h64 key h
theorem aea(hh:A.handled=none)(hr:IsRange s.heap r 0 n 1 t u v)(hn:n<=1000)
  (h:∀h' tk (vs:List Value),(∀b o,s.heap.get? b=some o->h'.get? b=some o)->vs.length=n->(∀(i:Nat) (v:Value),vs[i]?=some v->∃t,v=Value.int i t)->Q vs {s with heap:=h',toks:=tk }) :
  wpAny (model P w) A (collect (.ref r)) Q E s:=by
 refine wpAny_bind (wpAny_runValue (codeAny_builtin F.entry_proto_collect ?_))
 refine wpAny_bind (wpAny_newList ?_ (Nat.zero_le _))
 refine wpAny_pure ⟨plainId_quiet F.plain_list_iadd _,codeAny_builtin F.entry_list_iadd ?_⟩
 have sz1:Builtin.Range.rangeSize 0 (n:Int) 1=n:=by rw[rangeSize_one]; split <;> lia
 have keep:∀b o,s.heap.get? b=some o->(s.heap.push {cls:=.type "list",data:=.seq ([]:List Value).toArray }).get? b=some o:=λb o e=>Heap.get?_push_of_some _ e
 refine wpAny_extend_range (A:=A) (R:=λr s'=>match r with
  | Except.ok (Flow.ret v)=>wpAny (model P w) A (match v with
   |Value.ref a=>do
    let __do_lift <-load a
    match __do_lift.data with
     |Data.seq xs epoch=>pure xs.toList
     |x=>unsupported "internal:collect"
   |x=>unsupported "internal:collect") Q E s'
  |Except.ok a=>False
  |Except.error e=>E e s') (s:={s with heap:=s.heap.push {cls:=.type "list",data:=.seq ([]:List Value).toArray } }) hh (keep _ _ hr) (small_one (by lia) (by lia) (by lia) (by lia)) sz1 (by lia) s.heap.objs.size (.ref s.heap.objs.size) 0 (Heap.get?_push_size _ rfl) λh' tk acc c hk hS hi=>?_
 refine wpAny_bind (wpAny_load hS ?_)
 refine wpAny_pure (h h' tk acc.toList (λb o e=>hk b o (Nat.ne_of_lt (Heap.lt_size e)) (keep b o e)) (by rw[Array.length_toList]; exact hi.1) λi v e=>?_)
 rw[Array.getElem?_toList]at e
 obtain⟨t,z⟩:=hi.2 i v e
 exact⟨t,by rw[z]; simp⟩
theorem aeb(T:nq X Kv kd)(mono:∀{H H':Hp} {v k},Same H H'->Kv H v k->Kv H' v k)(inj:∀{pins:List (Addr × Obj)} {σ : St} {H:Hp} {s:Shared},Inv X pins σ H s->∀v k k',Kv H v k->Kv H v k'->k=k')
  (I:Inv X pins σ H s) (hh:X.A.handled=none) (hr:IsRange s.heap r 0 n 1 t u v) (h64:n<64) (key:Ew X pins σ H Kv n kz (.ref q))
  (h:∀s' D ys H',Same H H'->H' D=none->Inv X pins σ (upd H' D (.lst (ys.map λi:Nat=>V.int i))) s'->lU n kz ys->Q (.ref D) s') :
  wpAny (model X.prog X.w) X.A (call (.builtin "sorted") [.ref r] [(Str.ofString "key",.ref q)]) Q E s:=by
 refine call_function_entry_kw kind_sorted plain_sorted entry_sorted (ksk_s1 _ _) ?_
 refine wpAny_bind (m:=checkCount "sorted" 1 1 _) (wpAny_pure ?_)
 refine wpAny_bind (aea (A:=X.A.in1) hh hr (by lia) λh1 tk vs keep hl hv=>?_)
 have I1:Inv X pins σ H {s with heap:=h1,toks:=tk }:=I.kept keep
 refine wpAny_bind (wpAny_newList ?_ (by rw[sizeLine_eq]; lia))
 have I2:Inv X pins σ H {s with heap:=h1.push {cls:=.type "list",data:=.seq vs.toArray },toks:=tk }:=I1.kept (t':=tk) λb o e=>Heap.get?_push_of_some _ e
 have ha:(h1.push {cls:=.type "list",data:=.seq vs.toArray }).get? h1.objs.size=some (seqObj "list" vs.toArray 0):=Heap.get?_push_size _ rfl
 refine wpAny_bind (wpAny_holding (wpAny_call_entry_kw slot_list_sort ⟨_,ha,rfl⟩ entry_list_sort ?_ (ksk_l1 _ _)))
 rw[ksk_t1]
 have fa:=I1.lA (Nat.le_refl _) (I1.hok.fresh (Nat.le_refl _))
 refine ad9 T mono inj I2 fa ha hv hl h64 key λs' c out H' sm na I' e' ⟨ys,hs,hv'⟩=>⟨_,rfl,?_⟩
 refine wpAny_pure ⟨_,rfl,h s' _ ys H' sm na (I'.track (its:=out.toList) (n:=c) (fa.up na) e' hv' ?_) hs⟩
 have:=hs.1.length_eq
 rw[List.length_map,this,List.length_range,sizeLine_eq]
 lia
end
noncomputable def yO(X:Cx)(A:Around)(N:List Str)(qual:Str)(scope:Scope)(f:Addr)(cd:Value)(s:Shared)(H:Hp):Cx where
 prog:=X.prog
 w:=X.w
 K:=X.K
 mg:=X.mg
 base:=X.base
 A:=A.deeper (envX qual scope s.heap.objs.size f cd (bV X.env.cells scope.names []))
 N:=N
 s₀ := s
 H₀ := H
 env:=envX qual scope s.heap.objs.size f cd (bV X.env.cells scope.names [])
 outer:=X.stack
 stack:=envX qual scope s.heap.objs.size f cd (bV X.env.cells scope.names [])::X.stack
 ex:=[]
 fn:=λ_=>false
 calm:=true
 pn:=[]
 xe:=λ_ _=>False
structure yP(sc:Scope)(No:List Str)(x:Str)(Ns:List Str)(src:List (Option Nat))(scope:Scope):Prop where
 c:qG sc No (x::Ns) (none::src) scope
 Pg:∀y∈scope.names,y.2 ≠ .cell
 par:scope.names.lookup x=some .local
 co:scope.isCoroutine=false
 gen:scope.isGenerator=false
section
variable {X:Cx}{pins:List (Addr × Obj)}{σ : St}{H:Hp}{s:Shared}{sc scope:Scope}{No Ns:List Str}{src:List (Option Nat)}{x qual:Str}
theorem aec(hsc:X.env.scope=sc)(iM:X.N=No)(S:yP sc No x Ns src scope)(hfr:A.frames=some X.stack)(hhd:A.handled=none)(I:Inv X pins σ H s)(rv:RelV v u)
  (hns:h₁.Ns s.heap.objs.size (λy=>([(x,u)]:List (Str × Value)).reverse.lookup y)) (old:∀b o,s.heap.get? b=some o->h₁.get? b=some o) :
  Inv (yO X A (x::Ns) qual scope f cd s H) [] (some v::cR src σ) H {s with heap:=h₁,toks:=tk }:=by
 subst hsc
 subst iM
 have uF:∀x c,(bV X.env.cells scope.names []).lookup x=some c->X.env.cells.lookup x=some c:=λx c h=>by
  rcases oW h with q|q
  .simp at q
  .exact q
 refine⟨⟨I.ok.mod,S.c.kind,rfl,rfl,Nat.le_refl _,λx y c h1 h2=>I.ok.inj x y c (uF _ _ h1) (uF _ _ h2),λy hy=>?_,λx c h=>(Bool.false_ne_true h).elim,λ_=>hhd,Around.frames_deeper hfr,.inr ⟨rfl,rfl⟩,λb hb=>absurd (show b∈([]:List Addr)from hb) (by simp),
   I.bs,Nat.le_trans I.ok.jx I.sz,λb o e=>by intro hb; exact absurd (show b∈([]:List Addr)from hb) (by simp),λb hb=>absurd (show b∈([]:List Addr)from hb) (by simp),I.stack,I.wQ⟩,
  rfl,I.bare,Un.kept old,⟨_,hns,λi y w' h1 h2 h3=>?_⟩,λy c e=>?_,I.hok.fresh (Nat.le_refl _),λy c e=>I.jy y c (uF y c e),λp hp=>absurd (show p∈([]:List (Addr × Obj))from hp) (by simp),I.hok.kept old,?_⟩
 .skip
  have m:(y,NameKind.free)∈scope.names:=by
   rcases hy with z|z
   .exact absurd rfl (S.Pg _ (PySem.mem_of_lookup z))
   .exact PySem.mem_of_lookup z
  have q:=oX (cells:=X.env.cells) (acc:=[]) (.inr ⟨m,by
   obtain⟨c,e⟩:=I.ok.has y (S.c.free _ m rfl)
   rw[e]; rfl⟩)
  exact Option.isSome_iff_exists.mp q
 .cases i with
  |zero =>
   have h1:some x=some y:=h1
   cases h1
   cases h2
   exact⟨u,rv,.inl ⟨S.par,by show([(x,u)]:List (Str × Value)).reverse.lookup x=some u; simp⟩⟩
  |succ i =>
   have h1:Ns[i]?=some y:=h1
   have h2:(cR src σ)[i]?=some (some w'):=h2
   have hi:i<src.length:=by
    unfold cR at h2
    have:=(List.getElem?_eq_some_iff.mp h2).1
    simpa using this
   have h2':((src[i]).bind λj=>(σ[j]?).join)=some w':=by
    unfold cR at h2
    rw[List.getElem?_map,List.getElem?_eq_getElem hi]at h2
    exact Option.some.inj h2
   cases es:src[i]with
   |none=>rw[es]at h2'; cases h2'
   |some j =>
    rw[es]at h2'
    have hj : σ[j]?=some (some w'):=by
     have z:(σ[j]?).join=some w':=h2'
     cases q : σ[j]? with
     |none=>rw[q]at z; cases z
     |some o=>rw[q]at z; have z':o=some w':=z; rw[z']
    have hz:(y,some j)∈(x::Ns).zip (none::src):=by
     refine List.mem_of_getElem? (i:=i+1) ?_
     rw[List.getElem?_zip_eq_some]
     exact⟨by simpa using h1,by simp[List.getElem?_eq_getElem hi,es]⟩
    obtain⟨u1,u2⟩:=S.c.up _ hz j rfl
    have m:(y,NameKind.free)∈scope.names:=PySem.mem_of_lookup u2
    have kx:=S.c.free _ m rfl
    obtain⟨m0,hn0,hl0⟩:=id I.loc
    obtain⟨u',r,lk⟩:=hl0 j y w' u1 hj (kx.elim (λz=>.inr (.inl z)) λz=>.inr (.inr z))
    refine⟨u',r,?_⟩
    rcases lk with⟨k,_⟩|⟨_,c,e,ic⟩
    .have k':X.env.scope.names.lookup y=some .local:=k
     rcases kx with z|z <;> (rw[z]at k'; cases k')
    .refine .inr ⟨.inr u2,c,?_,?_⟩
     .have q:=oX (cells:=X.env.cells) (acc:=[]) (.inr ⟨m,by rw[e]; rfl⟩)
      obtain⟨c',e'⟩:=Option.isSome_iff_exists.mp q
      have e2:=uF y c' e'
      rw[e]at e2; cases e2
      exact e'
     .obtain⟨o,ho,hd⟩:=ic
      exact⟨o,old _ _ ho,hd⟩
 .obtain⟨v,o,ho,hd⟩:=I.cell y c (uF y c e)
  exact⟨v,o,old _ _ ho,hd⟩
 .have:=S.c.len
  show _=(x::Ns).length
  rw[List.length_cons]at this ⊢
  rw[List.length_cons]
  unfold cR
  rw[List.length_map]
  exact this
theorem aed(hsc:X.env.scope=sc)(iM:X.N=No)(S:yP sc No x Ns src scope)(hfr:A.frames=some X.stack)(hhd:A.handled=none)(hroom:A.depth<recursionLimit)
  (I:Inv X pins σ H s) (ho:s.heap.get? f=some (kla_obj "<lambda>" qual params body scope (bV X.env.cells scope.names []) pm c' ctv)) (hcd:s.heap.CodeRec (.ref c') qual) (rv:RelV v u)
  (hbind:bindArgs (kla_fn "<lambda>" qual params body scope (bV X.env.cells scope.names []) pm (.ref c') ctv) ⟨[u],[]⟩=pure [(x,u)])
  (he:∀s H,PE (yO X A (x::Ns) qual scope f (.ref c') s H) body te) (hq:te (some v::cR src σ) H Q):wpAny (model X.prog X.w) A (call (.ref f) [u]) (EP X pins σ Q) E s:=by
 refine wpAny_call (kla_callFunE hroom ho rfl S.co S.gen rfl hcd ?_)
 rw[hbind]
 refine wpAny_pure (wpAny_newFunctionEnv S.Pg (λy hy=>?_) (λh₁ hns hsb=>⟨I.nolimit.fresh _ hsb,?_⟩) S.c.kind)
 .have:y=(x,u):=by simpa using hy
  subst this
  exact S.par
 have old:=λb o e=>hsb.extBut b o (Nat.ne_of_lt (Heap.lt_size e)) (Heap.get?_push_of_some _ e)
 have J:=aec (A:=A) (f:=f) (cd:=.ref c') (qual:=qual) (tk:=s.toks+[(x,u)].length) hsc iM S hfr hhd I rv hns old
 refine kla_codeExpr (wpAny_mono (he s H [] _ _ H Q J hq) (λw' s' hw=>?_) λ_ _ z=>z.elim)
 obtain⟨v',H',J',r',q'⟩:=hw
 exact⟨v',H',I.call' (ch:=[]) J'.os J'.base J'.hok J'.bare (λb hb=>absurd hb (by simp)),r',q'⟩
end
noncomputable def lV(mg:Str→Option Value)(base:Heap):Prop:=∃bm ob,mg "__builtins__" = some (.ref bm)∧bm≠builtinsNs∧bm≠mainGlobals∧base.get? bm=some ob∧ob.cls=.type "module" ∧ ob.dict=some builtinsNs∧ob.data=.plain
theorem Ph:∀{l:List Value},TriplesOk l->TriplesOk (l++[.int a t,.int b u,c])
 | [],_=>trivial
 |.int _ _ :: .int _ _::_::r,h=>Ph (l:=r) h
theorem Pk:∀{l:List Value},TriplesOk l->codeAmong pos (l++[.int a t,.int b u,c])=some v->codeAmong pos l=some v\/v=c
 | [],_,h=>by
  have h:(if _ then some c else none)=some v:=h
  split at h
  .cases h; exact .inr rfl
  .cases h
 |.int x _ :: .int y _::z::r,o,h=>by
  have h:(if(x == pos.line&&y == pos.col)=true then some z else codeAmong pos (r++[.int a t,.int b u,c]))=some v:=h
  show(if(x == pos.line&&y == pos.col)=true then some z else codeAmong pos r)=some v\/_
  split at h
  .rename_i q
   rw[if_pos q]
   exact .inl h
  .rename_i q
   rw[if_neg q]
   exact Pk (l:=r) o h
section
variable {X:Cx}{pins:List (Addr × Obj)}{σ : St}{H:Hp}{s:Shared}{sc scope:Scope}{No Ns:List Str}{src:List (Option Nat)}{x:Str}
structure yQ(P:Addr)(q:Str)(H H':Hp):Prop where
 kp:∀b o,H b=some o->b≠P->H' b=some o
 tb:∃ps,H' P=some (.bM ps)/\yd H' q ps
theorem aee(hsc:X.env.scope=sc)(S:yP sc No x Ns src scope)(hcode:X.env.code=.ref c)(C:CodeHd X.base c P)(B:lV X.mg X.base)
  (hdef:defaultsOf params X.env=([],[])) (I:Inv X pins σ H s) (hP:H P=some (.bM ps)) (ok:yd H (X.env.qual++("<lambda>" : Str)) ps)
  (h:∀f c' ctv pm H' s' oc,yQ P (X.env.qual++("<lambda>" : Str)) H H'→Inv X ((f,kla_obj "<lambda>" (X.env.qual++("<lambda>" : Str)) params body scope (bV X.env.cells scope.names []) pm c' ctv)::pins) σ H' s'→H' c'=some (.cL oc (.own 0))→Og oc (X.env.qual++("<lambda>" : Str))→Q (.ref f) s') :
  wpAny (model X.prog X.w) A (eval (.Lambda params body scope pos) X.env) Q E s:=by
 have hcl:closureFor scope X.env=pure (bV X.env.cells scope.names []):=Dt λy hy e=>by
  have k:=S.c.free y hy e
  rw[<-hsc]at k
  obtain⟨c,q⟩:=I.ok.has y.1 k
  rw[q]; rfl
 have oP:s.heap.get? P=some (tabObj ps):=I.hok P _ hP
 have nP:mainGlobals≠P:=λz=>by
  obtain⟨o,es,ep,e,hd,_⟩:=I.ok.mod.glob
  have:=(I.bs _ _ e).2
  rw[z,hP]at this
  cases this
 have hg:s.heap.Ns mainGlobals X.mg:=let⟨o,es,ep,e,r⟩:=I.ok.mod.glob; ⟨o,es,ep,I.bk _ _ e,r⟩
 have hB:s.heap.BuiltinsAt X.mg P:=by
  obtain⟨bm,ob,b1,b2,b3,b4,b5,b6,b7⟩:=B
  refine⟨bm,ob,b1,b2,b3,λz=>?_,I.bk _ _ b4,b5,b6,b7⟩
  have:=(I.bs _ _ b4).2
  rw[z,hP]at this
  cases this
 have C':CodeHd s.heap c P:=C.keeps I.bk
 refine kla_eval hdef ?_
 cases hf:codeAmong pos ps.toList with
 |some cv =>
  obtain⟨c',oc,rfl,e1,e2⟩:=ok.2 pos cv hf
  refine kla_makeFunctionHit (mg:=X.mg) hcl I.ok.glob hg hcode C' oP ok.1 hf hB λctv h' tk keep hsz=>?_
  have I1:Inv X pins σ H {s with heap:=h',toks:=tk }:=I.kept keep
  have I2:Inv X pins σ H {s with heap:=h'.push (kla_obj "<lambda>" (X.env.qual++("<lambda>" : Str)) params body scope (bV X.env.cells scope.names []) ((X.mg "__name__").getD .none) c' ctv),toks:=tk }:=I1.kept (t':=tk) λb o e=>Heap.get?_push_of_some _ e
  refine h _ c' ctv _ H _ oc ⟨λ_ _ q _=>q,ps,hP,ok⟩ (I2.pC (I1.lA (Nat.le_refl _) (I1.hok.fresh (Nat.le_refl _))) (Heap.get?_push_size _ rfl) (λv z=>by cases z)) e1 e2
 |none =>
  refine kla_makeFunction (mg:=X.mg) hcl I.ok.glob hg hcode C' oP ok.1 hf nP hB λc' ctv h' tk ext hge hlt hrec htb=>?_
  obtain⟨c2,oc,vs,t,e2,hoc,hd,hv⟩:=hrec
  cases e2
  have nc:H c'=none:=I.hok.fresh hge
  have cP:c'≠P:=λz=>by rw[z,hP]at nc; cases nc
  have ne:∀b u,H b=some u->b≠c':=λb u q=>iJ q nc
  have up:∀b u,H b=some u->b≠P->(upd (upd H P (.bM (ps ++ #[rawInt pos.line,rawInt pos.col,.ref c']))) c' (.cL oc (.own 0))) b=some u:=λb u q z=>by rw[aH (ne b u q),aH z]; exact q
  have EY:(upd (upd H P (.bM (ps ++ #[rawInt pos.line,rawInt pos.col,.ref c']))) c' (.cL oc (.own 0))) P=some (.bM (ps ++ #[rawInt pos.line,rawInt pos.col,.ref c'])):=by rw[aH (Ne.symm cP)]; exact bN
  have keep:∀b o,b≠P->s.heap.get? b=some o->h'.get? b=some o:=λb o z e=>ext b o z e
  have hok:bZ X.prog X.w (upd (upd H P (.bM (ps ++ #[rawInt pos.line,rawInt pos.col,.ref c']))) c' (.cL oc (.own 0))) h':=λb u q=>by
   by_cases z1:b=c'
   .subst z1
    rw[bN]at q
    cases q
    exact⟨hoc,oc,hoc⟩
   .by_cases z2:b=P
    .subst z2
     rw[EY]at q
     cases q
     exact htb
    .rw[aH z1,aH z2]at q
     refine(I.hok b u q).stay (λd v hd' e=>keep d v ?_ e) (λd z=>up d _ z ?_) λd ys z=>up d _ z ?_
     .rcases hd' with rfl|hd'
      .exact z2
      .rintro rfl
       rw[hP]at hd'
       cases hd'
     .rintro rfl
      rw[hP]at z
      cases z
     .rintro rfl
      rw[hP]at z
      cases z
  have qz:∀b,H b=none->b≠P:=λb n z=>by rw[z,hP]at n; cases n
  have I1:Inv X pins σ (upd (upd H P (.bM (ps ++ #[rawInt pos.line,rawInt pos.col,.ref c']))) c' (.cL oc (.own 0))) {s with heap:=h',toks:=tk } :=
   I.step (h':=h') (g':=s.gens) (d':=s.drawn) (t':=tk) (ch:=[]) (λ_ z=>nomatch z) (λb o _ _ _ e n=>keep b o (qz b n) e) (λb o _ _ _ e n=>⟨o.slots,keep b o (qz b n) e⟩)
    (λb o _ e n=>by
     rw[aH (λz=>by rw[z]at e; exact absurd (Heap.lt_size e) (Nat.not_lt.mpr hge)),aH (qz b n)]; exact n)
    (λb o _ e=>by
     by_cases z:b=P
     .subst z; exact⟨_,htb⟩
     .exact⟨o,keep b o z e⟩)
    (λb ys q=>up b _ q (by rintro rfl; rw[hP]at q; cases q)) (λb o u q=>up b _ q (by rintro rfl; rw[hP]at q; cases q))
    (λb qs q=>by
     by_cases z:b=P
     .subst z
      rw[hP]at q
      cases q
      exact⟨_,EY⟩
     .exact⟨#[],by rw[up b _ q z]; simp⟩)
    (λm q=>q.extBut ext (qz _ I.free)) hok I.bare
  have I2:=I1.kept (t':=tk) (h':=h'.push (kla_obj "<lambda>" (X.env.qual++("<lambda>" : Str)) params body scope (bV X.env.cells scope.names []) ((X.mg "__name__").getD .none) c' ctv)) λb o e=>Heap.get?_push_of_some _ e
  refine h _ c' ctv _ _ _ oc ⟨up,_,EY,?_,λpos' v q=>?_⟩ (I2.pC (I1.lA (Nat.le_refl _) (I1.hok.fresh (Nat.le_refl _))) (Heap.get?_push_size _ rfl) (λv z=>by cases z)) bN ⟨vs,t,hd,hv⟩
  .have:(ps ++ #[rawInt pos.line,rawInt pos.col,.ref c']).toList=ps.toList++[rawInt pos.line,rawInt pos.col,.ref c']:=by simp
   rw[this]
   exact Ph ok.1
  .have:(ps ++ #[rawInt pos.line,rawInt pos.col,.ref c']).toList=ps.toList++[rawInt pos.line,rawInt pos.col,.ref c']:=by simp
   rw[this]at q
   rcases Pk ok.1 q with q|q
   .obtain⟨d,o,z1,z2,z3⟩:=ok.2 pos' v q
    exact⟨d,o,z1,up d _ z2 (by rintro rfl; rw[hP]at z2; cases z2),z3⟩
   .exact⟨c',oc,q,bN,vs,t,hd,hv⟩
end
noncomputable abbrev KW:=Hp->V->Int × Int->Prop
noncomputable def yR:KW:=λ_ v k=>v=.int k.1/\k.2=0
noncomputable def Pn(Kw:KW)(P:Addr)(q:Str)(src:List (Option Nat))(ta:TA)(te:TE):TE:=λσ H Q=>ta σ H λvs H1=>∃(n:Nat) (kz:Nat->Int × Int),vs=[.int n]/\n<64/\(∃ps,H1 P=some (.bM ps)/\yd H1 q ps)/\∀H2,yQ P q H1 H2 ->
 (∀(i:Nat),i<n->∀H3,Same H2 H3->te (some (.int i)::cR src σ) H3 λv H4=>Kw H4 v (kz i)/\Same H3 H4)/\∀D (ys:List Nat) H3,Same H2 H3->H3 D=none->lU n kz ys->Q (.ref D) (upd H3 D (.lst (ys.map λi:Nat=>V.int i)))
section
variable {X:Cx}{sc scope:Scope}{No Ns:List Str}{src:List (Option Nat)}{x:Str}{Kw:KW}{kd:SortKind}
theorem aef(T:nq X (λH u k=>∃v,RelV v u/\Kw H v k) kd)(mono:∀{H H':Hp} {v k},Same H H'->Kw H v k->Kw H' v k)(inj:∀{pins:List (Addr × Obj)} {σ : St} {H:Hp} {s:Shared},Inv X pins σ H s->∀u k k',(∃v,RelV v u/\Kw H v k)->(∃v,RelV v u/\Kw H v k')->k=k')
  (hr:bO k X.A) (h1:X.mg "sorted" = none) (h2:X.mg "range" = none) (hsc:X.env.scope=sc) (iM:X.N=No) (S:yP sc No x Ns src scope) (hcode:X.env.code=.ref c) (C:CodeHd X.base c P) (B:lV X.mg X.base) (hdef:defaultsOf params X.env=([],[]))
  (ha:PA X [e] ta) (hbind:∀(pm cd ctv u:Value),bindArgs (kla_fn "<lambda>" (X.env.qual++("<lambda>" : Str)) params body scope (bV X.env.cells scope.names []) pm cd ctv) ⟨[u],[]⟩=pure [(x,u)])
  (he:∀A f cd s H,PE (yO X A (x::Ns) (X.env.qual++("<lambda>" : Str)) scope f cd s H) body te)
  (hg:X.env.kindOf "sorted" = some .globalImplicit:=by kernel_rfl) (hg2:X.env.kindOf "range" = some .globalImplicit:=by kernel_rfl) (hs:notStar e=true:=by kernel_rfl) :
  PE X (.Call (.Name "sorted" p) [.Call (.Name "range" p2) [e] [] pos2] [⟨some (Str.ofString "key"),.Lambda params body scope alq,kp⟩] pos) (Pn Kw P (X.env.qual++("<lambda>" : Str)) src ta te):=by
 refine⟨λpins s σ H Q I h=>?_⟩
 refine wpAny_Call_Name_kw (oH I hg h1 (by decide +kernel:bootBuiltins "sorted" = some (.builtin "sorted")) ?_ (by decide +kernel) (by kernel_rfl))
 refine callWith_kw (Calls.spliced_cons (wpAny_Call_Name_kw (oH I hg2 h2 boot_range (PyProof.Rows.callWith_type1 (aD (ha pos2 pins s σ H _ I h) λus s1 ⟨vs,H1,I1,r1,q1⟩=>?_) (iy hs) rfl) (by decide +kernel) (by kernel_rfl))))
 obtain⟨n,kz,rfl,h64,⟨ps,hP,ok⟩,hq⟩:=q1
 obtain⟨u1,rfl,t1,rfl⟩:=vals1 r1
 refine call_range_1 ?_
 have rfp:=I1.lA (Nat.le_refl _) (I1.hok.fresh (Nat.le_refl _))
 have I2:Inv X pins σ H1 {s1 with heap:=s1.heap.push {cls:=.type "range",data:=.fields #[.int 0 s1.toks,.int n t1,.int 1 (s1.toks+1)] },toks:=s1.toks+1+1 }:=I1.kept λb o e=>Heap.get?_push_of_some _ e
 have I3:=I2.pC rfp (Heap.get?_push_size _ rfl) (λv z=>by cases z)
 refine Calls.spliced_nil ?_
 refine kws_cons (aee hsc S hcode C B hdef I3 hP ok λf c' ctv pm H2 s2 oc lh I4 e1 e2=>?_)
 refine kws_nil ?_
 have pr:=I4.pin _ (List.mem_append_right _ (List.mem_cons_of_mem _ (List.mem_cons_self ..)))
 obtain⟨key,fin⟩:=hq H2 lh
 refine aeb T (λ{H H' u k} sm ⟨v,a1,a2⟩=>⟨v,a1,mono sm a2⟩) inj I4 hr.hd pr.1 h64 (λmX i t s' H' hi sub sm I'=>?_) λs' D ys H3 sm nD I' hs'=>⟨.ref D,_,I'.sub λp hp=>List.mem_cons_of_mem _ (List.mem_cons_of_mem _ hp),rfl,fin D ys H3 sm nD hs'⟩
 have pf:=I'.pin _ (List.mem_append_right _ (sub _ (List.mem_cons_self ..)))
 have hcd:s'.heap.CodeRec (.ref c') (X.env.qual++("<lambda>" : Str)):=by
  obtain⟨vs,t,a1,a2⟩:=e2
  exact⟨c',oc,vs,t,rfl,(I'.hok c' _ (sm _ _ e1)).1,a1,a2⟩
 refine aD (aed (A:=X.A.in1.in1) (v:=.int i) (te:=te) (Q:=λv H4=>Kw H4 v (kz i)/\Same H' H4) hsc iM S I.ok.frames hr.hd hr.depth I' pf.1 hcd ⟨t,rfl⟩ (hbind _ _ _ _) (λs H=>he _ _ _ _ _) (key i hi H' sm)) λu s'' ⟨v,H4,Ez,rv,q1,q2⟩=>⟨H4,q2,⟨v,rv,q1⟩,Ez⟩
theorem aeg:nq X (λH u k=>∃v,RelV v u/\yR H v k) oneType' where
 kind:=λH keys kz h2 hk pins σ s Q E I q=>O8.kind H keys kz h2 (λi v e=>by
  obtain⟨w,r,rfl,z⟩:=hk i v e
  obtain⟨t,rfl⟩:=r
  exact⟨t,rfl,z⟩) I q
 ask:=λa₀ kf I h=>O8.ask a₀ kf I λp hp=>by
  obtain⟨w,r,z1,z⟩:=h p hp
  subst z1
  obtain⟨t,r⟩:=r
  exact⟨t,r,z⟩
theorem aeh(_:Inv X pins σ H s)(u:Value)(k k':Int × Int)(h:∃v,RelV v u/\yR H v k)(h':∃v,RelV v u/\yR H v k'):k=k':=by
 obtain⟨v,r,rfl,z⟩:=h
 obtain⟨v',r',rfl,z'⟩:=h'
 obtain⟨t,rfl⟩:=r
 obtain⟨t',r'⟩:=r'
 injection r' with r' _
 exact Prod.ext r' (z.trans z'.symm)
end
noncomputable def uG(K:PySem.W.Frag)(mg:Str->Option Value)(x:Str)(st:Stmt)(c:Addr):Prop:=∃f fd,iV K x x st f fd/\mg x=some (.ref f)/\fd.code=.ref c
section
variable {P:Program}{w:World}{K:PySem.W.Frag}{mg:Str->Option Value}{base:Heap}
theorem uG.aei{c:Addr}{k:Nat}{x:Str}{st:Stmt}{N ps:List Str}{sp:Sp}(a:uG K mg x st c)(S:oV N ps (bD st))
  (hb:∀(kV doc pm:Value) (an:Option Addr) (cdv ct:Value) (us:List Value),us.length=ps.length->bindArgs (fnOf x x (iw st) (d8 st) (bD st) .none kV doc pm an cdv ct) ⟨us,[]⟩=pure (ps.zip us))
  (len:∀vs H Q E,sp vs H Q E->vs.length=ps.length)
  (hbody:∀(f:Addr) (A:Around) (outer:List Env) (s:Shared) (H:Hp) (vs:List V) (Q:VK) (E:XK),bO k (A.deeper (envOfC x (bD st) s.heap.objs.size f (.ref c)))->sp vs H Q E ->
   ∃t,cQ (fY (eO P w) P w K mg base N x (bD st) f (.ref c) A outer s H E) (d8 st) t/\t {nx:=λ_ H'=>Q .non H',rt:=Q } (start N vs) H):iz P w K mg base (k+1) x ps sp:=by
 obtain⟨f,fd,F,m,hc⟩:=a
 refine⟨f,fd,?_,F.binds hb,F.kp,m⟩
 obtain⟨oc,od,kV,doc,pm,an,cdv,ct,osl,rfl,lk,hcd⟩:=F.ex
 have hc:cdv=.ref c:=hc
 subst hc
 exact Dg lk hcd S len λA outer s H vs Q E hr h=>hbody f A outer s H vs Q E hr h
end
theorem Fb{o:Obj}(h:(o.cls == .type "list")=false):cg o=o:=by
 unfold cg
 rw[if_neg]
 rintro⟨z,_⟩
 rw[z]at h
 exact absurd h (by decide +kernel)
theorem Pq{K:PySem.W.Frag}{x:Str}{o:Obj}(h:K.lookup mainGlobals=some o)(n:(o.cls == .type "list")=false):nsIn (aq K) mainGlobals x=nsIn K mainGlobals x:=by
 have e:(aq K).lookup mainGlobals=K.lookup mainGlobals:=by
  rw[iW,h]
  show some (cg o)=some o
  rw[Fb n]
 unfold nsIn
 rw[e]
theorem Fd{K:PySem.W.Frag}{x:Str}{f c P:Addr}{oc:Value}{od:Option Addr}{fd:FuncData}{sl:Array (Option Value)}{cc:Value}{cd:Option Addr}{vs:Array Value}{cs:Array (Option Value)}(a:nsIn K mainGlobals x=some (some (.ref f)))(l2:K.lookup f=some ⟨oc,od,.func fd,sl⟩)(hc:fd.code=.ref c)(l3:K.lookup c=some ⟨cc,cd,.fields vs,cs⟩)(hv:vs[11]?=some (.ref P)):tabIn K x=some (c,P):=by
 unfold tabIn
 rw[a]
 dsimp only
 rw[l2]
 dsimp only
 rw[hc]
 dsimp only
 rw[l3]
 dsimp only
 rw[hv]
theorem Fe{o:Obj}{d:Data}(h:(cg o).data=d)(n:d ≠ .fields #[]):cg o=o:=by
 unfold cg at h ⊢
 split at h
 .exact(n h.symm).elim
 .rename_i q
  rw[if_neg q]
theorem Pu{K:PySem.W.Frag}{x:Str}{z:Addr × Addr}(h:tabIn (aq K) x=some z):tabIn K x=some z:=by
 unfold tabIn at h
 split at h
 .rename_i f hf
  have g1:nsIn K mainGlobals x=some (some (.ref f)):=by
   unfold nsIn at hf
   rw[iW]at hf
   cases e:K.lookup mainGlobals with
   |none=>rw[e]at hf; cases hf
   |some o =>
    rw[e]at hf
    unfold nsIn
    rw[e]
    have q:cg o=o:=by
     dsimp only[Option.map]at hf
     split at hf
     .rename_i a b es ep c eq
      have eq:cg o=⟨a,b,.dict es ep,c⟩:=Option.some.inj eq
      exact Fe (d:=.dict es ep) (by rw[eq]) (by intro z; cases z)
     .cases hf
    dsimp only[Option.map]at hf
    rw[q]at hf
    exact hf
  split at h
  .rename_i a b fd osl hfo
   have g2:K.lookup f=some ⟨a,b,.func fd,osl⟩:=by
    rw[iW]at hfo
    cases e:K.lookup f with
    |none=>rw[e]at hfo; cases hfo
    |some o =>
     rw[e]at hfo
     have eq:cg o=⟨a,b,.func fd,osl⟩:=Option.some.inj hfo
     rw[Fe (d:=.func fd) (by rw[eq]) (by intro z; cases z)]at eq
     rw[eq]
   split at h
   .rename_i c hc
    split at h
    .rename_i a' b' vs Px hco
     split at h
     .rename_i Pp hv
      cases h
      have g3:K.lookup c=some ⟨a',b',.fields vs,Px⟩:=by
       rw[iW]at hco
       cases e:K.lookup c with
       |none=>rw[e]at hco; cases hco
       |some o =>
        rw[e]at hco
        have eq:cg o=⟨a',b',.fields vs,Px⟩:=Option.some.inj hco
        rw[Fe (d:=.fields vs) (by rw[eq]) (by intro z; injection z with z; subst z; simp at hv)]at eq
        rw[eq]
      exact Fd g1 g2 hc g3 hv
     .cases h
    .cases h
   .cases h
  .cases h
 .cases h
structure yS(K:PySem.W.Frag)(mg:Str->Option Value)(base:Heap)(x:Str)(c P:Addr):Prop where
 nm:x∈fD
 hd:CodeHd base c P
 bm:lV mg base
 tab:tabIn (aq K) x=some (c,P)
 un:∀x'∈fD,∀c',tabIn (aq K) x'=some (c',P)->x'=x
theorem aej{K:PySem.W.Frag}{x:Str}{f c P:Addr}{o1:Obj}{oc:Value}{od:Option Addr}{fd:FuncData}{sl:Array (Option Value)}{cc:Value}{cd:Option Addr}{vs:Array Value}{cs:Array (Option Value)}(a:nsIn K mainGlobals x=some (some (.ref f)))(l1:K.lookup mainGlobals=some o1)(n1:(o1.cls == .type "list")=false)
  (l2:K.lookup f=some ⟨oc,od,.func fd,sl⟩) (n2:(oc == .type "list")=false) (hc:fd.code=.ref c) (l3:K.lookup c=some ⟨cc,cd,.fields vs,cs⟩) (n3:(cc == .type "list")=false) (hv:vs[11]?=some (.ref P)):tabIn K x=some (c,P)/\tabIn (aq K) x=some (c,P):=⟨Fd a l2 hc l3 hv,Fd ((Pq l1 n1).trans a) (by rw[iW,l2,Option.map_some,Fb n2]) hc (by rw[iW,l3,Option.map_some,Fb n3]) hv⟩
theorem Py{K:PySem.W.Frag}{x:Str}(a:nsIn K mainGlobals x=some none):tabIn K x=none:=by
 unfold tabIn
 rw[a]
theorem aek{K:PySem.W.Frag}{mg:Str->Option Value}{base:Heap}{x:Str}{c P:Addr}(nm:x∈fD)(hc:∀x∈fD,∀c b,tabIn K x=some (c,b)->CodeHd base c b)(bm:lV mg base)(q:tabIn K x=some (c,P)/\tabIn (aq K) x=some (c,P))(ho:∀x'∈fD,x'=x\/∀c',tabIn K x'≠some (c',P)):yS K mg base x c P :=
 ⟨nm,hc x nm c P q.1,bm,q.2,λx' hx' c' e=>(ho x' hx').elim id λz=>(z c' (Pu e)).elim⟩
end L2
end
section
namespace L2
open PySem PySem.Spec PyProof.Rows
noncomputable abbrev FP:=List Tr->Rs (Tr × Bool)
abbrev yU:List Value:=[.type "ValueError",.type "Exception",.type "BaseException",.type "object"]
noncomputable abbrev tx(cl:Str->Addr)(E:XK)(X:Cx):Tx:=⟨aq X.K,λc H'=>E (.ref (cl c)) none H'⟩
noncomputable def nC(K:PySem.W.Frag)(cl:Str->Addr)(n:Nat)(f:FP):Sp:=λvs H Q E=>∃G ts,vs.length=n/\au (aq K) G vs ts/\Same G H/\bf (aq K) H/\(∀b,Tb (aq K) b->G b=none) /\
 bB ⟨aq K,λc H'=>E (.ref (cl c)) none H'⟩ H (λ_=>[]) (f ts) λp=>∀v G' H',Gw (aq K) G H G' H'->VN (aq K) H G' H' v p.1 p.2->Q v H'
structure Vw(K:PySem.W.Frag)(R:Addr->Prop)(Hs:Hp)(Fs:Fp)(G H:Hp)(F:Fp)(vs:List V)(Ts:List Tr)(bs:List Addr):Prop where
 nd:bs.Nodup
 al:∀b∈bs,(Hs b=none\/Fn Fs b)/\¬Fn F b/\¬R b/\G b=none
 dr:DR K G H vs Ts bs
noncomputable def yV(K:PySem.W.Frag)(cl:Str->Addr)(n:Nat)(f:FP):Sp:=λvs H Q E=>∃G ts,vs.length=n/\au (aq K) G vs ts/\Same G H/\bf (aq K) H/\(∀b,Tb (aq K) b->G b=none) /\
 bB ⟨aq K,λc H'=>E (.ref (cl c)) none H'⟩ H (λ_=>[]) (f ts) λp=>∀v G' H',Gw (aq K) G H G' H'->(∃bs,Vw (aq K) (λ_=>False) H (λ_=>[]) G' H' (λ_=>[]) [v] [p.1] bs)->Q v H'
noncomputable abbrev FM:=Sl->List Tr->Rs (Tr × Sl)
noncomputable def jc(fp:List Addr):Fp:=λi=>if i=0 then fp else []
structure Fg(K:PySem.W.Frag)(a:Addr)(G H:Hp)(fp:List Addr)(G' H':Hp)(fp':List Addr)(v:V)(T:Tr)(S':Sl):Prop where
 st:aB K G H (jc fp) G' H' (jc fp')
 sub:Same G' H'
 tb:bf K H'
 hid:∀b∈fp',G' b=none
 sl:cW K (λb=>b=a) G' H' (some (some (.ref a))) fp' (some S')
 vl:∃bs,Vw K (λb=>b=a) H (jc fp) G' H' (jc fp') [v] [T] bs
noncomputable def lW(K:PySem.W.Frag)(cl:Str->Addr)(n:Nat)(f:FM):Sp:=λvs H Q E=>∃G a fp S ws ts,vs=.ref a::ws/\vs.length=n/\au (aq K) G ws ts/\Same G H/\bf (aq K) H/\(∀b,Tb (aq K) b->G b=none)/\a∈fp/\(∀b∈fp,G b=none)/\cW (aq K) (λb=>b=a) G H (some (some (.ref a))) fp (some S) /\
 bB ⟨aq K,λc H'=>E (.ref (cl c)) none H'⟩ H (jc fp) (f S ts) λp=>∀v G' H' fp',Fg (aq K) a G H fp G' H' fp' v p.1 p.2->Q v H'
noncomputable def Gk(K:PySem.W.Frag)(mg:Str->Option Value)(x:Str)(v:V)(T:Tr):Prop:=∃u,mg x=some u/\RelV v u/\∀H,Rep (aq K) H v T
inductive Ey
 |fn (x:Str) (ps:List Str) (f:FP) (l:Nat)
 |fd (x:Str) (ps:List Str) (f:FP) (l:Nat)
 |gk (x:Str) (T:Tr)
 |fm (x:Str) (ps:List Str) (f:FM) (l:Nat)
 |mt (c m:Str) (ps:List Str) (f:FM) (l:Nat)
 |mk (c:Str) (ps:List Str) (f:FM) (l:Nat)
 |cz (c k:Str)
structure Cc where
 P:Program
 w:World
 K:PySem.W.Frag
 mg:Str->Option Value
 base:Heap
 cl:Str->Addr
noncomputable def Ey.fQ(c:Cc):Ey->Prop
 |.fn x ps f l=>iz c.P c.w c.K c.mg c.base l x ps (nC c.K c.cl ps.length f)
 |.fd x ps f l=>iz c.P c.w c.K c.mg c.base l x ps (yV c.K c.cl ps.length f)
 |.gk x T=>∃v,Gk c.K c.mg x v T
 |.fm x ps f l=>iz c.P c.w c.K c.mg c.base l x ps (lW c.K c.cl ps.length f)
 |.mt n m ps f l=>∃C g fd,iY (aq c.K) n C/\Cls c.K C/\Meth c.K C m g/\dg c.P c.w c.K c.mg c.base (eO c.P c.w) l g fd ps (lW c.K c.cl ps.length f)/\Binds c.K fd ps []
 |.mk n ps f l=>∃C g fd,iY (aq c.K) n C/\c.mg n=some (.ref C)/\Mk c.K C g/\dg c.P c.w c.K c.mg c.base (eO c.P c.w) l g fd ps (lW c.K c.cl ps.length f)/\Binds c.K fd ps []
 |.cz n k=>∃C,iY (aq c.K) n C/\Cls c.K C/\oU c.K C k
noncomputable abbrev Ey.ok(cl:Str->Addr)(X:Cx)(y:Ey):Prop:=y.fQ ⟨X.prog,X.w,X.K,X.mg,X.base,cl⟩
structure Gx where
 N:List Str
 sc:Scope
 fn:Str->Bool
 B:List Str
 R:List Str
 nx:Bool
 k:Nat
 L:List Str
structure Ox(cl:Str->Addr)(Γ : Gx)(E:XK)(X:Cx):Prop where
 N:X.N = Γ.N
 s:X.env.scope = Γ.sc
 d:X.N.Nodup
 l:X.calm=true
 r:bO Γ.k X.A
 e:Passes (eO X.prog X.w) X E
 B:∀x∈Γ.B,X.mg x=none
 R:∀x∈Γ.R,OwnCls x (cl x) yU "ValueError.__new__" X.mg X.base/\Raises X E
 x:lF X.K
 f:X.fn = Γ.fn
 n : Γ.nx=true->X.xe=λ_ _=>False
 lm:∀x∈Γ.L,∃c P,yS X.K X.mg X.base x c P/\X.env.code=.ref c/\X.env.qual++("<lambda>" : Str)=xZ x
structure Vn{τ : Type}(J:(Str->Addr)->XK->Cx -> τ -> Prop) where
 ck:Gx -> τ -> Bool
 cs:List Ey
 ok:∀{cl E Γ X e},(∀y∈cs,y.ok cl X)->Ox cl Γ E X->ck Γ e=true->J cl E X e
noncomputable abbrev VE(f:EF):=Vn λcl E X e=>PE X e (Te (tx cl E X) f)
noncomputable abbrev VT(f:BF):=Vn λcl E X e=>PT X e (Tt (tx cl E X) f)
noncomputable abbrev VO(f:OF):=Vn λcl E X e=>PO X e (To (tx cl E X) f)
noncomputable abbrev VA(f:AF):=Vn λcl E X e=>PA X e (Ta (tx cl E X) f)/\(∀ρ p,f ρ=.ok p->p.1.length=e.length)/\∀x∈e,notStar x=true
theorem an{a b:Bool}:(a&&b)=true↔a=true/\b=true:=by simp
theorem ml{P:Ey->Prop}{l m:List Ey}(h:∀y∈l++m,P y):∀y∈l,P y:=λy q=>h y (List.mem_append_left _ q)
theorem mr{P:Ey->Prop}{l m:List Ey}(h:∀y∈l++m,P y):∀y∈m,P y:=λy q=>h y (List.mem_append_right _ q)
theorem PT.imp(h:PT X e t)(i:∀σ H Q,u σ H Q->t σ H Q):PT X e u:=⟨λpins s σ H Q I q=>h pins s σ H Q I (i σ H Q q)⟩
theorem PO.imp(h:PO X e t)(i:∀σ H Q,u σ H Q->t σ H Q):PO X e u:=λpins s σ H Q I q=>h pins s σ H Q I (i σ H Q q)
noncomputable def bY(i:Nat):EF:=λρ=>match ρ[i]? with
 |some (.sh T)=>.ok (.v T false,ρ)
 |some (.ow _)=>.ok (.s i,ρ)
 |some (.rf _)=>.ok (.s i,ρ)
 |_=>.bad
noncomputable def gh(Γ : Gx)(i:Nat)(x:Str):Bool := Γ.N[i]? == some x&&(Γ.sc.names.lookup x == some .local || Γ.sc.names.lookup x == some .cell || Γ.sc.names.lookup x == some .free) && !(x == ("__debug__" : Str)) && !(x == ("__classdict__" : Str))
theorem jd(o:Ox cl Γ E X)(h:gh Γ i x=true):PE X (.Name x p) (tV i):=by
 simp only[gh,an]at h
 obtain⟨⟨⟨h1,h2⟩,h3⟩,h4⟩:=h
 exact K8 (by rw[o.N]; exact eq_of_beq h1) (by rw[o.s]; unfold wK; simpa[or_assoc]using h2) (by simpa using h3) (by simpa using h4)
theorem ael(h:Te t (bY i) σ H Q):tV i σ H Q:=by
 obtain⟨R,ρ,G,F,e,h⟩:=h
 have z:=e.sl i
 unfold bY at h
 split at h <;> rename_i k <;> (try exact h.elim) <;> rw[k]at z
 .obtain⟨_,v,h1,h2⟩:=z
  exact⟨v,h1,h v G H F e .refl (.low h2)⟩
 all_goals
  obtain⟨a,xs,h1,_⟩:=z
  exact⟨_,h1,h _ G H F e .refl h1⟩
noncomputable def aj(i:Nat):VE (bY i) where
 ck Γ e:=atName e λx _=>gh Γ i x
 cs:=[]
 ok _ o h:=by
  walk_at "o"
  exact(jd o h).imp λ_ _ _=>ael
noncomputable def eC(T:Tr):EF:=λρ=>.ok (.v T false,ρ)
theorem uH(r:∀H,Rep t.K H v T)(h:Te t (eC T) σ H Q):tC v σ H Q:=by
 obtain⟨R,ρ,G,F,e,h⟩:=h
 exact h v G H F e .refl (.low (r _))
noncomputable def vC(T:Tr):VE (eC T) where
 ck _ e:=Ep e λc _ _=>match T with
  |.int j=>Er c λi=>decide (i=j)
  |.str j=>Es c λi=>i == j
  |.bl j=>Et c λi=>i == j
  |.non=>Eu c
  |_=>false
 cs:=[]
 ok _ o h:=by
  walk_at "o"
  cases T <;> dsimp only at h
  .walk_at "o"
   exact La.imp λ_ _ _=>uH λ_=>.non
  .walk_at "o"
   cases eq_of_beq h; exact K9.imp λ_ _ _=>uH λ_=>.bl _
  .walk_at "o"
   cases of_decide_eq_true h; exact Ce.imp λ_ _ _=>uH λ_=>.int _
  .walk_at "o"
   cases eq_of_beq h; exact Lb.imp λ_ _ _=>uH λ_=>.str _
  all_goals cases h
noncomputable def je(Γ : Gx)(x:Str):Bool := Γ.sc.names.lookup x == some .globalImplicit && !(x == ("__debug__" : Str))
theorem cX(o:Ox cl Γ E X)(h:je Γ x=true):Gl X x/\(x == ("__debug__" : Str))=false:=by
 simp only[je,an]at h
 exact⟨by show X.env.scope.names.lookup _=_; rw[o.s]; exact eq_of_beq h.1,by simpa using h.2⟩
noncomputable def vG(x:Str)(T:Tr):VE (eC T) where
 ck Γ e:=atName e λy _=>x == y&&je Γ x
 cs:=[.gk x T]
 ok g o h:=by
  walk_at "o"
  simp only[an]at h
  cases eq_of_beq h.1
  obtain⟨v,u,h1,h2,h3⟩:=g _ (List.mem_singleton.mpr rfl)
  exact(aat (cX o h.2).1 h1 h2 (cX o h.2).2).imp λ_ _ _=>uH h3
section
variable {t:Tx}{R:Addr->Prop}{ρ : En}{σ : St}{G H G0 H0 G' H':Hp}{F F0:Fp}{Q:VK}
theorem Ok.fin(e:Ok t.K R ρ σ G H F)(s:aB t.K G0 H0 F0 G H F)(w:Gw t.K G H G' H')(n:VN t.K H G' H' v T fr)(h:∀v G' H' F',Ok t.K R ρ σ G' H' F'->aB t.K G0 H0 F0 G' H' F'->fH t.K σ H0 G' H' F' v (.v T fr)->Q v H'):Q v H':=by
 obtain⟨e',s'⟩:=e.grow w
 exact h v G' H' F e' (s.trans s') ((n.ok e).back s.dm)
noncomputable def dN(g:G2)(fa fb:EF):EF:=λρ=>(fa ρ).bind λp=>(fb p.2).bind λq=>(dr q.2 p.1).bind λa=>(dr q.2 q.1).bind λb=>(g a b).bind λz=>.ok (.v z.1 z.2,q.2)
theorem yW(o:cF t.K r g)(h:Te t (dN g fa fb) σ H Q):tY r (Te t fa) (Te t fb) σ H Q:=by
 obtain⟨R,ρ,G,F,e,h⟩:=h
 refine dh e .refl h λp h x G1 H1 F1 e1 s1 v1=>dh e1 s1 h λq h y G2 H2 F2 e2 s2 v2=>?_
 obtain⟨a,k1,h⟩:=h.okb (iC _ _)
 obtain⟨b,k2,h⟩:=h.okb (iC _ _)
 obtain⟨z,k3,h⟩:=h.okb (o.nx a b)
 refine o.ok G2 H2 x y a b Q e2.sub (iD e2 (v1.step e1.tb s2) k1) (iD e2 v2 k2) (by rw[k3]; exact λv G' H' w vn=>e2.fin (s1.trans s2) w.gw vn h)
noncomputable def v2(o:Operator)(r:PySem.W.Frag->R2)(g:G2)(hp:∀X,bh X (binaryOp o) (r X.K))(hs:∀K,cF (aq K) (r K) g)(a:VE aA)(b:VE bT):VE (dN g aA bT) where
 ck Γ e:=yr e λx p y _=>decide (p=o)&&a.ck Γ x&&b.ck Γ y
 cs:=a.cs++b.cs
 ok q O h:=by
  walk_at "o"
  simp only[an]at h
  cases of_decide_eq_true h.1.1
  exact(xq (hp _) (a.ok (ml q) O h.1.2) (b.ok (mr q) O h.2)).imp λ_ _ _=>yW (hs _)
noncomputable def Fi(g:G1)(fa:EF):EF:=λρ=>(fa ρ).bind λp=>(dr p.2 p.1).bind λa=>(g a).bind λz=>.ok (.v z.1 z.2,p.2)
theorem aem(o:jP t.K r g)(h:Te t (Fi g fa) σ H Q):LK r (Te t fa) σ H Q:=by
 obtain⟨R,ρ,G,F,e,h⟩:=h
 refine dh e .refl h λp h x G1 H1 F1 e1 s1 v1=>?_
 obtain⟨a,k1,h⟩:=h.okb (iC _ _)
 obtain⟨z,k3,h⟩:=h.okb (o.nx a)
 exact o.ok G1 H1 x a Q e1.sub (iD e1 v1 k1) (by rw[k3]; exact λv G' H' w vn=>e1.fin s1 w.gw vn h)
noncomputable def PB(a:VE aA):VE (Fi qw aA) where
 ck Γ e:=o8 e λaL x _=>jC aL .USub (a.ck Γ x)
 cs:=a.cs
 ok q O h:=by
  walk_at "o"
  exact(Cz CJ (a.ok q O h)).imp λ_ _ _=>aem Ot
noncomputable def dO(fa:EF):BF:=λρ=>(fa ρ).bind λp=>(dr p.2 p.1).bind λa=>(qp a).bind λb=>.ok (b,p.2)
theorem yX{Q:Bool->Hp->Prop}(h:Tt t (dO fa) σ H Q):mZ (Te t fa) σ H Q:=by
 obtain⟨R,ρ,G,F,e,h⟩:=h
 refine dh e .refl h λp h x G1 H1 F1 e1 s1 v1=>?_
 obtain⟨a,k1,h⟩:=h.okb (iC _ _)
 obtain⟨b,k2,h⟩:=h.okb (Ov _)
 exact⟨b,Ow (iD e1 v1 k1) k2,h G1 H1 F1 e1 s1⟩
noncomputable def PJ(fa:EF):BF:=λρ=>(fa ρ).bind λp=>(dr p.2 p.1).bind λa=>(ou a).bind λb=>.ok (b,p.2)
noncomputable def uJ(f g:BF):BF:=λρ=>(f ρ).bind λp=>if p.1=true then g p.2 else .ok (false,p.2)
noncomputable def uK(f g:BF):BF:=λρ=>(f ρ).bind λp=>if p.1=true then .ok (true,p.2)else g p.2
noncomputable def Fj(f:BF):BF:=λρ=>(f ρ).bind λp=>.ok (!p.1,p.2)
theorem bB.go{α : Type}{r:Rs α}{P P' : α -> Prop}(s:aB t.K G0 H0 F0 G H F)(h:bB t H0 F0 r P)(k:∀a,P a->P' a):bB t H F r P':=by
 cases r with
 |bad=>exact h
 |ex c=>exact λH' f=>h H' (s.back f)
 |ok a=>exact k a h
theorem Fo(e:Ok t.K R ρ σ G H F)(s:aB t.K G0 H0 F0 G H F)(h:bB t H0 F0 (f ρ) λp=>∀v G' H' F',Ok t.K R p.2 σ G' H' F'->aB t.K G0 H0 F0 G' H' F'->fH t.K σ H0 G' H' F' v p.1->Q v H'):Te t f σ H Q :=
 ⟨R,ρ,G,F,e,h.go s λp h v G' H' F' e' s' v'=>h v G' H' F' e' (s.trans s') (v'.back s.dm)⟩
theorem PK{Q:Bool->Hp->Prop}(e:Ok t.K R ρ σ G H F)(s:aB t.K G0 H0 F0 G H F)(h:bB t H0 F0 (f ρ) λp=>∀G' H' F',Ok t.K R p.2 σ G' H' F'->aB t.K G0 H0 F0 G' H' F'->Q p.1 H'):Tt t f σ H Q :=
 ⟨R,ρ,G,F,e,h.go s λp h G' H' F' e' s'=>h G' H' F' e' (s.trans s')⟩
theorem aen{Q:Bool->Hp->Prop}(h:Tt t (Fj f) σ H Q):Lf (Tt t f) σ H Q:=by
 obtain⟨R,ρ,G,F,e,h⟩:=h
 exact m9 e .refl h λp h G1 H1 F1 e1 s1=>h G1 H1 F1 e1 s1
theorem aeo{Q:Bool->Hp->Prop}(h:Tt t (uJ f g) σ H Q):Ld (Tt t f) (Tt t g) σ H Q:=by
 obtain⟨R,ρ,G,F,e,h⟩:=h
 refine m9 e .refl h λp h G1 H1 F1 e1 s1=>?_
 split at h <;> rename_i c
 .rw[if_pos c]; exact PK e1 s1 h
 .rw[if_neg c]; exact h G1 H1 F1 e1 s1
theorem aep{Q:Bool->Hp->Prop}(h:Tt t (uK f g) σ H Q):Le (Tt t f) (Tt t g) σ H Q:=by
 obtain⟨R,ρ,G,F,e,h⟩:=h
 refine m9 e .refl h λp h G1 H1 F1 e1 s1=>?_
 split at h <;> rename_i c
 .rw[if_pos c]; exact h G1 H1 F1 e1 s1
 .rw[if_neg c]; exact PK e1 s1 h
noncomputable def eB(b:Bool):Rv:=.v (.bl b) false
noncomputable def Ft(f g:EF):EF:=λρ=>(dO f ρ).bind λp=>if p.1=true then g p.2 else .ok (eB false,p.2)
noncomputable def eOr(f g:EF):EF:=λρ=>(dO f ρ).bind λp=>if p.1=true then .ok (eB true,p.2)else g p.2
noncomputable def Fv(f:EF):EF:=λρ=>(dO f ρ).bind λp=>.ok (eB (!p.1),p.2)
noncomputable def uL(c:BF)(f g:EF):EF:=λρ=>(c ρ).bind λp=>if p.1=true then f p.2 else g p.2
theorem aer(h:Te t (uL c f g) σ H Q):Li (Tt t c) (Te t f) (Te t g) σ H Q:=by
 obtain⟨R,ρ,G,F,e,h⟩:=h
 refine m9 e .refl h λp h G1 H1 F1 e1 s1=>?_
 split at h <;> rename_i c
 .rw[if_pos c]; exact Fo e1 s1 h
 .rw[if_neg c]; exact Fo e1 s1 h
theorem aes(h:Te t (Ft f g) σ H Q):Lg (Te t f) (Te t g) σ H Q:=by
 obtain⟨R,ρ,G,F,e,h⟩:=h
 refine yX (m9 (f:=dO f) e .refl h λp h G1 H1 F1 e1 s1=>?_)
 split at h <;> rename_i c
 .rw[if_pos c]; exact Fo e1 s1 h
 .rw[if_neg c]; exact h _ G1 H1 F1 e1 s1 (.low (.bl _))
theorem aeu(h:Te t (Fv f) σ H Q):Lh (Te t f) σ H Q:=by
 obtain⟨R,ρ,G,F,e,h⟩:=h
 exact yX (m9 (f:=dO f) e .refl h λp h G1 H1 F1 e1 s1=>h _ G1 H1 F1 e1 s1 (.low (.bl _)))
end
noncomputable def aev(a:VE aA):VE (Fv aA) where
 ck Γ e:=o8 e λaL x _=>jC aL .Not (a.ck Γ x)
 cs:=a.cs
 ok q O h:=by
  walk_at "o"
  exact(aaC (a.ok q O h)).imp λ_ _ _=>aeu
noncomputable abbrev VQ(f:EF):=Vn λcl E X e=>PE X e (Te (tx cl E X) f)/\PT X e (Tt (tx cl E X) (dO f))
noncomputable def vK(a:VQ f):VE f:=⟨a.ck,a.cs,λq O h=>(a.ok q O h).1⟩
noncomputable def tK(a:VQ f):VT (dO f):=⟨a.ck,a.cs,λq O h=>(a.ok q O h).2⟩
theorem mZ.imp{a b:TE}(i:∀Q,a σ H Q->b σ H Q)(h:mZ a σ H Q):mZ b σ H Q:=i _ h
structure Cq(g:G2) where
 o:CmpOp
 r:PySem.W.Frag->R2
 p:∀X:Cx,X.A.units+64<cLine->bh X (compareOp o) (r X.K)
 s:∀K,cF (aq K) (r K) g
theorem qZ(o:Ox cl Γ E X):X.A.units+64<cLine:=by have:=o.r.un; lia
noncomputable def aP(z:Cq g)(a:VE aA)(b:VE bT):VQ (dN g aA bT) where
 ck Γ e:=ux e λx aL bA _=>aR aL λp bG=>aU bG (aR bA λy cN=>aU cN (decide (p=z.o)&&a.ck Γ x&&b.ck Γ y && !behindInMarks p y))
 cs:=a.cs++b.cs
 ok q O h:=by
  walk_at "o"
  simp only[an]at h
  obtain⟨⟨⟨h1,h2⟩,h3⟩,h4⟩:=h
  cases of_decide_eq_true h1
  have pa:=a.ok (ml q) O h2
  have pb:=b.ok (mr q) O h3
  have h4:=(Bool.not_eq_true' _).mp h4
  exact⟨(abf (z.p _ (qZ O)) pa pb h4).imp λ_ _ _=>yW (z.s _),(abg (z.p _ (qZ O)) pa pb h4).imp λ_ _ _ h=>mZ.imp (λ_=>yW (z.s _)) (yX h)⟩
noncomputable def Fw(g g':G2)(fa fb fc:EF):EF:=λρ=>(fa ρ).bind λp=>(fb p.2).bind λq=>(dr q.2 p.1).bind λa=>(dr q.2 q.1).bind λb=>(g a b).bind λz=>(qp z.1).bind λk =>
 if k=true then(fc q.2).bind λs=>(dr s.2 q.1).bind λb=>(dr s.2 s.1).bind λc=>(g' b c).bind λz=>.ok (.v z.1 z.2,s.2)else .ok (eB false,q.2)
theorem PL(o:cF t.K r g)(o':cF t.K r' g')(h:Te t (Fw g g' fa fb fc) σ H Q):CK r r' (Te t fa) (Te t fb) (Te t fc) σ H Q:=by
 obtain⟨R,ρ,G,F,e,h⟩:=h
 refine dh e .refl h λp h x G1 H1 F1 e1 s1 v1=>dh e1 s1 h λq h y G2 H2 F2 e2 s2 v2=>?_
 obtain⟨a,k1,h⟩:=h.okb (iC _ _)
 obtain⟨b,k2,h⟩:=h.okb (iC _ _)
 obtain⟨z,k3,h⟩:=h.okb (o.nx a b)
 obtain⟨k,k4,h⟩:=h.okb (Ov _)
 refine o.ok G2 H2 x y a b _ e2.sub (iD e2 (v1.step e1.tb s2) k1) (iD e2 v2 k2) (by
  rw[k3]
  refine λv G3 H3 w vn=>?_
  obtain⟨e3,s3⟩:=e2.grow w.gw
  have Fy:=(s1.trans s2).trans s3
  refine⟨k,Ow (K:=t.K) (G:=G3) (H:=H3) (.inl ?_) k4,?_⟩
  .obtain⟨T,fr⟩:=z
   cases fr
   .exact vn
   .obtain⟨_,_,_,_,rfl,_⟩:=vn; cases k4
  split at h <;> rename_i c
  .rw[if_pos c]
   refine dh e3 Fy h λu h w G4 H4 F4 e4 s4 v4=>?_
   obtain⟨b',k5,h⟩:=h.okb (iC _ _)
   obtain⟨c',k6,h⟩:=h.okb (iC _ _)
   obtain⟨z',k7,h⟩:=h.okb (o'.nx b' c')
   exact o'.ok G4 H4 y w b' c' Q e4.sub (iD e4 ((v2.step e2.tb s3).step e3.tb s4) k5) (iD e4 v4 k6) (by rw[k7]; exact λv G' H' w vn=>e4.fin (Fy.trans s4) w.gw vn h)
  .rw[if_neg c]
   exact h _ G3 H3 F2 e3 Fy (.low (.bl _)))
noncomputable def rz(z:Cq g)(z':Cq g')(a:VE aA)(b:VE bT)(d:VE d_f):VQ (Fw g g' aA bT d_f) where
 ck Γ e:=ux e λx aL bA _=>aR aL λp bG=>aR bG λp' cN=>aU cN (aR bA λy eU=>aR eU λw gM=>aU gM (decide (p=z.o)&&decide (p'=z'.o)&&a.ck Γ x&&b.ck Γ y&&d.ck Γ w && !lastMarks [p,p'] [y,w]))
 cs:=a.cs++(b.cs++d.cs)
 ok q O h:=by
  walk_at "o"
  simp only[an]at h
  obtain⟨⟨⟨⟨⟨h1,h2⟩,h3⟩,h4⟩,h5⟩,h6⟩:=h
  cases of_decide_eq_true h1
  cases of_decide_eq_true h2
  have pa:=a.ok (ml q) O h3
  have pb:=b.ok (ml (mr q)) O h4
  have pd:=d.ok (mr (mr q)) O h5
  have h6:=(Bool.not_eq_true' _).mp h6
  exact⟨(abh (z.p _ (qZ O)) (z'.p _ (qZ O)) pa pb pd h6).imp λ_ _ _=>PL (z.s _) (z'.s _),(abj (z.p _ (qZ O)) (z'.p _ (qZ O)) pa pb pd h6).imp λ_ _ _ h=>mZ.imp (λ_=>PL (z.s _) (z'.s _)) (yX h)⟩
noncomputable def eV(a:VT aA):VT (Fj aA) where
 ck Γ e:=o8 e λaL x _=>jC aL .Not (a.ck Γ x)
 cs:=a.cs
 ok q O h:=by
  walk_at "o"
  exact(aaz (a.ok q O h)).imp λ_ _ _=>aen
noncomputable def PN:Expr->Bool
 |.UnaryOp .Not _ _=>false
 |.BoolOp .. => false
 |.IfExp .. => false
 |.Compare .. => false
 |_=>true
theorem aew(h:PN e=true):∀whole,isTrue e env whole=(do let v <-whole; standAt e.pos; holding [v] (truthy v)):=by
 intro w
 cases e <;> try cases h
 all_goals first|rfl|skip
 next o _ _=>cases o <;> first|rfl|cases h
noncomputable def eE(a:VE aA):VT (PJ aA) where
 ck Γ e:=PN e&&a.ck Γ e
 cs:=a.cs
 ok q O h:=by
  simp only[an]at h
  refine(abl (a.ok q O h.2) (aew h.1)).imp λσ H Q=>bF λR ρ G F e h=>dh e .refl h λp h x G1 H1 F1 e1 s1 v1=>?_
  obtain⟨a,k1,h⟩:=h.okb (iC _ _)
  obtain⟨b,k2,h⟩:=h.okb (adQ _)
  exact⟨b,adR e1.sub (iD e1 v1 k1) k2,h G1 H1 F1 e1 s1⟩
theorem PW.imp(h:PW X e t)(i:∀σ H Q,u σ H Q->t σ H Q):PW X e u:=⟨λwh pins s σ H Q I q=>h.run wh pins s σ H Q I (i σ H Q q)⟩
noncomputable abbrev VW(b:BoolOp)(f:BF):=Vn λcl E X e=>∀p,PW X (.BoolOp b e p) (Tt (tx cl E X) f)
noncomputable def w1(b:BoolOp)(a:VT aA):VW b (aA) where
 ck Γ e:=aR e λx aL=>aU aL (a.ck Γ x)
 cs:=a.cs
 ok q O h:=by
  walk_at "o"
  exact λp=>by cases b <;> first|exact aav (a.ok q O h)|exact aaw (a.ok q O h)
noncomputable def wA(a:VT aA)(r:VW .And dU):VW .And (uJ aA dU) where
 ck Γ e:=aR e λx aL=>aR aL λy l=>a.ck Γ x&&r.ck Γ (y::l)
 cs:=a.cs++r.cs
 ok q O h:=by
  walk_at "o"
  simp only[an]at h
  exact λp=>(aax (a.ok (ml q) O h.1) (r.ok (mr q) O h.2 p)).imp λ_ _ _=>aeo
noncomputable def wO(a:VT aA)(r:VW .Or dU):VW .Or (uK aA dU) where
 ck Γ e:=aR e λx aL=>aR aL λy l=>a.ck Γ x&&r.ck Γ (y::l)
 cs:=a.cs++r.cs
 ok q O h:=by
  walk_at "o"
  simp only[an]at h
  exact λp=>(aay (a.ok (ml q) O h.1) (r.ok (mr q) O h.2 p)).imp λ_ _ _=>aep
noncomputable def tW(b:BoolOp)(r:VW b dU):VT (dU) where
 ck Γ e:=uy e λp l _=>decide (p=b)&&r.ck Γ l
 cs:=r.cs
 ok q O h:=by
  walk_at "o"
  simp only[an]at h
  cases of_decide_eq_true h.1
  exact(r.ok q O h.2 _).pt
noncomputable abbrev VV(b:BoolOp)(f:EF):=Vn λcl E X e=>∀p,PE X (.BoolOp b e p) (Te (tx cl E X) f)
noncomputable def u1(b:BoolOp)(a:VE aA):VV b (aA) where
 ck Γ e:=aR e λx aL=>aU aL (a.ck Γ x)
 cs:=a.cs
 ok q O h:=by
  walk_at "o"
  exact λp=>aaA (a.ok q O h)
noncomputable def uA(a:VE aA)(r:VV .And dU):VV .And (Ft aA dU) where
 ck Γ e:=aR e λx aL=>aR aL λy l=>a.ck Γ x&&r.ck Γ (y::l)
 cs:=a.cs++r.cs
 ok q O h:=by
  walk_at "o"
  simp only[an]at h
  exact λp=>(aaB (a.ok (ml q) O h.1) (r.ok (mr q) O h.2 p)).imp λ_ _ _=>aes
noncomputable def vV(b:BoolOp)(r:VV b dU):VE (dU) where
 ck Γ e:=uy e λp l _=>decide (p=b)&&r.ck Γ l
 cs:=r.cs
 ok q O h:=by
  walk_at "o"
  simp only[an]at h
  cases of_decide_eq_true h.1
  exact r.ok q O h.2 _
noncomputable def Fz(t:VT FJ)(a:VE aA)(b:VE bT):VE (uL FJ aA bT) where
 ck Γ e:=yt e λz x y _=>t.ck Γ z&&a.ck Γ x&&b.ck Γ y
 cs:=t.cs++(a.cs++b.cs)
 ok q O h:=by
  walk_at "o"
  simp only[an]at h
  exact(aaD (t.ok (ml q) O h.1.1) (a.ok (ml (mr q)) O h.1.2) (b.ok (mr (mr q)) O h.2)).imp λ_ _ _=>aer
noncomputable def uM:Expr->Bool
 |.Slice .. => false
 |_=>true
theorem FN(h:uM b=true):Nb b:=λo i=>by
 cases b <;> first|rfl|cases h
noncomputable def aC(a:VE aA)(b:VE bT):VE (dN aX aA bT) where
 ck Γ e:=lM e λx y _=>uM y&&a.ck Γ x&&b.ck Γ y
 cs:=a.cs++b.cs
 ok q O h:=by
  walk_at "o"
  simp only[an]at h
  exact(Dk Dl (a.ok (ml q) O h.1.2) (b.ok (mr q) O h.2) (FN h.1.1)).imp λ_ _ _=>yW Oo
section
variable {t:Tx}{K:PySem.W.Frag}{R:Addr->Prop}{ρ : En}{σ : St}{G H G0 H0 G' H':Hp}{F F0:Fp}{Q:VK}
theorem dK.step(tb:bf K H)(s:aB K G H F G' H' F'):∀{vs:List V} {rs:List Rv},dK K σ Hs G H F vs rs->dK K σ Hs G' H' F' vs rs
 |_,_,.nil=>.nil
 |_,_,.cons h r=>.cons (h.step tb s) (dK.step tb s r)
theorem dK.back(d:∀b,H1 b=none->H b=none):∀{vs:List V} {rs:List Rv},dK K σ H1 G' H' F' vs rs->dK K σ H G' H' F' vs rs
 |_,_,.nil=>.nil
 |_,_,.cons h r=>.cons (h.back d) (dK.back d r)
theorem dK.length:∀{vs:List V} {rs:List Rv},dK K σ Hs G H F vs rs->vs.length=rs.length
 |_,_,.nil=>rfl
 |_,_,.cons _ r=>by rw[List.length_cons,List.length_cons,dK.length r]
noncomputable def drs(ρ : En):List Rv->Rs (List Tr)
 | []=>.ok []
 |r::rs=>(dr ρ r).bind λt=>(drs ρ rs).bind λts=>.ok (t::ts)
theorem yZ{α β : Type}{r:Rs α}{f : α -> Rs β}(h1:∀c,r ≠ .ex c)(h2:∀a c,f a ≠ .ex c)(c:Str):r.bind f ≠ .ex c:=by
 cases r with
 |bad=>intro z; cases z
 |ex d=>exact(h1 d rfl).elim
 |ok a=>exact h2 a c
theorem eX{α β : Type}{r:Rs α}{f : α -> Rs β}{b : β}(h:r.bind f=.ok b):∃a,r=.ok a/\f a=.ok b:=by
 cases r with
 |bad=>cases h
 |ex c=>cases h
 |ok a=>exact⟨a,rfl,h⟩
theorem uN(ρ : En):∀(rs:List Rv) (c:Str),drs ρ rs ≠ .ex c
 | [],c=>by intro z; cases z
 |r::rs,c=>yZ (iC ρ r) (λ_=>yZ (uN ρ rs) λ_ _ z=>by cases z) c
theorem uO(e:Ok K R ρ σ G H F):∀{vs:List V} {rs:List Rv} {ts:List Tr},dK K σ Hs G H F vs rs->drs ρ rs=.ok ts->lJ K G H vs ts
 |_,_,_,.nil,q=>by cases q; exact .nil
 |_,_,_,.cons h r,q=>by
  obtain⟨t,q1,q⟩:=eX q
  obtain⟨ts,q2,q⟩:=eX q
  cases q
  exact .cons (iD e h q1) (uO e r q2)
noncomputable def cls:List Rv->Rs (List Tr)
 | []=>.ok []
 |.v t _::rs=>(cls rs).bind λts=>.ok (t::ts)
 |.s _::_=>.bad
theorem nF:∀(rs:List Rv) (c:Str),cls rs ≠ .ex c
 | [],c=>by intro z; cases z
 |.s _::_,c=>by intro z; cases z
 |.v t _::rs,c=>yZ (nF rs) (λ_ _ z=>by cases z) c
theorem dK.vis(nR:∀b,Hs b=none->¬R b){rs:List Rv}:∀{vs:List V} {ts:List Tr} {G1:Hp},dK K σ Hs G H F vs rs->cls rs=.ok ts->Same G G1->Ok K R ρ σ G1 H F->(∀b,G1 b≠none->G b≠none\/Hs b=none) ->
  ∃G2,Same G1 G2/\Ok K R ρ σ G2 H F/\(∀b,G2 b≠none->G b≠none\/Hs b=none)/\au K G2 vs ts:=by
 induction rs with
 |nil =>
  intro vs ts G1 h q _ e n
  cases h
  cases q
  exact⟨G1,Same.refl _,e,n,.nil⟩
 |cons r0 rs ih =>
  intro vs ts G1 h q m e n
  cases h with
  |cons h r =>
   cases r0 with
   |s _=>cases q
   |v T fr =>
    obtain⟨ts,q1,q⟩:=eX q
    cases q
    cases fr with
    |false =>
     obtain⟨G2,m2,e2,n2,r2⟩:=ih r q1 m e n
     exact⟨G2,m2,e2,n2,.cons (Rep.mono (m.trans m2) h.1) r2⟩
    |true =>
     obtain⟨⟨a,xs,us,e1,e2,hs,_,ha,ra⟩,f⟩:=h
     obtain⟨e',m'⟩:=e.show ha (f rfl a e1) (nR a hs)
     obtain⟨G2,m2,e3,n2,r2⟩:=ih r q1 (m.trans m') e' λb z=>by
      by_cases y:b=a
      .subst y; exact .inr hs
      .rw[aH y]at z; exact n b z
     subst e1; subst e2
     exact⟨G2,m'.trans m2,e3,n2,.cons (.lst (aM.of (m2 a _ bN)) (ra.mono (m.trans (m'.trans m2)))) r2⟩
theorem Ok.vis(e:Ok K R ρ σ G H F)(e0:Ok K R ρ0 σ0 G0 H0 F0)(s:aB K G0 H0 F0 G H F)(h:dK K σ H0 G H F vs rs)(q:cls rs=.ok ts):∃G2,Ok K R ρ σ G2 H F/\aB K G0 H0 F0 G2 H F/\Same G G2/\au K G2 vs ts:=by
 obtain⟨G2,m,e2,n,r⟩:=h.vis (λb=>e0.rn) q (Same.refl _) e λb z=>.inl z
 exact⟨G2,e2,⟨s.gg.trans m,s.fr,λb z=>(n b z).elim (s.nw b) λz=>.inr (.inl z),s.nf,s.dm⟩,m,r⟩
noncomputable def ju:Rv->Rs Tr
 |.v T _=>.ok T
 |.s _=>.bad
theorem FQ(r:Rv)(c:Str):ju r ≠ .ex c:=by cases r <;> (intro z; cases z)
theorem Ok.rA(e:Ok K R ρ σ G H F)(e0:Ok K R ρ0 σ0 G0 H0 F0)(s:aB K G0 H0 F0 G H F)(h:fH K σ H0 G H F v r)(q:ju r=.ok T):∃G2,Ok K R ρ σ G2 H F/\aB K G0 H0 F0 G2 H F/\Same G G2/\Rep K G2 v T:=by
 cases r with
 |s i=>cases q
 |v U fr =>
  cases q
  obtain⟨G2,e2,s2,m,r⟩:=e.vis (vs:=[v]) e0 s (.cons h .nil) rfl
  cases r with
  |cons r _=>exact⟨G2,e2,s2,m,r⟩
noncomputable def fL:AF:=λρ=>.ok ([],ρ)
noncomputable def fU(f:EF)(g:AF):AF:=λρ=>(f ρ).bind λp=>(g p.2).bind λq=>.ok (p.1::q.1,q.2)
end
noncomputable def ao:VA fL where
 ck _ e:=e.isEmpty
 cs:=[]
 ok:=@λ_ _ _ X e _ _ h=>by
  cases e <;> try cases h
  exact⟨xG.imp λσ H Q=>bF λR ρ G F e h=>h [] G H F e .refl .nil,λρ p h=>(by cases h; rfl),λ_ z=>nomatch z⟩
noncomputable def ak(a:VE aA)(r:VA dU):VA (fU aA dU) where
 ck Γ e:=aR e λx y=>notStar x&&a.ck Γ x&&r.ck Γ y
 cs:=a.cs++r.cs
 ok q O h:=by
  walk_at "o"
  simp only[an]at h
  obtain⟨pb,lb,nb⟩:=r.ok (mr q) O h.2
  exact⟨(qD (a.ok (ml q) O h.1.2) pb (iy h.1.1)).imp λσ H Q=>bF λR ρ G F e h=>dh e .refl h λp h x G1 H1 F1 e1 s1 v1=>lH e1 s1 h λq h xs G2 H2 F2 e2 s2 v2=>h (x::xs) G2 H2 F2 e2 (s1.trans s2) (.cons (v1.step e1.tb s2) (v2.back s1.dm)),λρ p q=>(by
   obtain⟨a,q1,q⟩:=eX q
   obtain⟨b,q2,q⟩:=eX q
   cases q
   rw[List.length_cons,lb _ _ q2,List.length_cons]),List.forall_mem_cons.mpr ⟨h.1.1,nb⟩⟩
theorem jT:∀{es:List Expr},(∀x∈es,notStar x=true)->∀env,(backTo pos (starEach es env)).any (·.1)=false
 | [],_,_=>rfl
 |e::es,h,env=>by
  rw[iy (h e (List.mem_cons_self ..))]
  exact jT (λx q=>h x (List.mem_cons_of_mem _ q)) env
noncomputable def PX(g:AF):EF:=λρ=>(g ρ).bind λp=>(cls p.1).bind λts=>if ts.length<=1000 then .ok (.v (.lst ts) true,p.2)else .bad
noncomputable def FT(g:AF):EF:=λρ=>(g ρ).bind λp=>(cls p.1).bind λts=>if ts.length<=1000 then .ok (.v (.tup ts) false,p.2)else .bad
noncomputable def jD(a:VA aA):VE (FT aA) where
 ck Γ e:=jQ e λl _ _=>a.ck Γ l
 cs:=a.cs
 ok q O h:=by
  walk_at "o"
  refine(Mr (a.ok q O h).1).imp λσ H Q=>bF λR ρ G F e h=>lH e .refl h λp h vs G1 H1 F1 e1 s1 v1=>?_
  obtain⟨ts,k1,h⟩:=h.okb (nF _)
  obtain⟨G2,e2,s2,_,r⟩:=e1.vis e s1 v1 k1
  split at h
  .exact⟨by rw[r.length]; exact Nat.le_trans ‹_› (by decide),λp hp=>e2.fin s2 (.new e2.sub hp) (.newT e2.sub hp r) h⟩
  .exact h.elim
noncomputable def uP(a:VA aA):VE (PX aA) where
 ck Γ e:=uz e λl _=>a.ck Γ l
 cs:=a.cs
 ok q O h:=by
  walk_at "o"
  refine(Ms (a.ok q O h).1).imp λσ H Q=>bF λR ρ G F e h=>lH e .refl h λp h vs G1 H1 F1 e1 s1 v1=>?_
  obtain⟨ts,k1,h⟩:=h.okb (nF _)
  obtain⟨G2,e2,s2,_,r⟩:=e1.vis e s1 v1 k1
  split at h
  .exact⟨by rw[r.length]; exact Nat.le_trans ‹_› (by decide),λp hp=>e2.fin s2 (.flt e2.sub hp) (.flt e2.sub hp r) h⟩
  .exact h.elim
open Classical in
noncomputable def pD(G H0:Hp):Hp->Hp:=λH b=>if H0 b=none then H b else if H b=G b then G b else none
theorem FW(G H0:Hp):Pj (pD G H0) H0:=⟨λs b o h=>(by
  unfold pD at h ⊢
  split at h
  .rw[if_pos ‹_›]; exact s b o h
  .rw[if_neg ‹_›]
   split at h
   .rename_i e
    rw[h]at e ⊢
    rw[if_pos (s b o e)]
   .cases h),λH b o h=>(by
  unfold pD at h
  split at h
  .exact h
  .split at h
   .rw[‹H b=G b›]; exact h
   .cases h),λs h=>by
  unfold pD
  rw[if_pos (s.free h),bN]⟩
theorem P0{K:PySem.W.Frag}(g:Same G H)(s:Same H H'):Gw K G H (pD G H H') H':=⟨λb o h=>by
  have q:=s b o (g b o h)
  unfold pD
  rw[if_neg (by rw[g b o h]; exact λz=>by cases z),q,h]
  exact if_pos rfl,λb o h _=>s b o h,(FW G H).sub H',λt=>t.fr λb o _ h=>s b o h,λb h=>by
  unfold pD at h
  split at h
  .exact .inr ‹_›
  .split at h
   .exact .inl h
   .exact(h rfl).elim⟩
noncomputable def Kg(Ts:List Tr):EF:=λρ=>.ok (.v (.lst Ts) true,ρ)
mutual
noncomputable def Qa:Tr->Tr->Bool
 |.non,.non=>true
 |.bl a,.bl b=>a == b
 |.int a,.int b=>decide (a=b)
 |.str a,.str b=>a == b
 |.tup a,.tup b=>uQ a b
 |.lst a,.lst b=>uQ a b
 |_,_=>false
noncomputable def uQ:List Tr->List Tr->Bool
 | [],[]=>true
 |a::l,b::m=>Qa a b&&uQ l m
 |_,_=>false
end
mutual
theorem aex:∀{a b:Tr},Qa a b=true->a=b
 |.non,b,h=>by cases b <;> first|rfl|cases h
 |.bl a,b,h=>by cases b <;> first|cases h; done|rw[eq_of_beq h]
 |.int a,b,h=>by cases b <;> first|cases h; done|rw[of_decide_eq_true h]
 |.str a,b,h=>by cases b <;> first|cases h; done|rw[eq_of_beq h]
 |.tup a,b,h=>by cases b <;> first|cases h; done|rw[zf h]
 |.lst a,b,h=>by cases b <;> first|cases h; done|rw[zf h]
 |.bQ a,b,h=>by cases h
theorem zf:∀{a b:List Tr},uQ a b=true->a=b
 | [],[],_=>rfl
 |a::l,b::m,h=>by
  obtain⟨h1,h2⟩:=an.mp h
  rw[aex h1,zf h2]
end
noncomputable def Ga:Option (List Tr)->List Tr->Bool
 |some Us,Ts=>uQ Us Ts
 |none,_=>false
theorem Qc(h:Ga o Ts=true):o=some Ts:=by
 cases o <;> first|cases h; done|rw[zf h]
noncomputable def nH(Ts:List Tr):VE (eC (.tup Ts)) where
 ck _ e:=jQ e λl _ _=>Ga (gJ l) Ts
 cs:=[]
 ok:=@λ_ _ _ X e _ _ h=>by
  walk_at "o"
  refine(ad2 (G:=aq X.K) (Qc h)).imp λσ H Q ⟨R,ρ,G,F,e,h⟩ v H' s r=>?_
  exact e.fin .refl (P0 e.sub s) (show VN _ _ _ _ _ _ false from r _ (FW _ _)) h
noncomputable def Qd(Ts:List Tr):VE (Kg Ts) where
 ck _ e:=uz e λl _=>Ga (gJ l) Ts
 cs:=[]
 ok:=@λ_ _ _ X e _ _ h=>by
  walk_at "o"
  refine(ad1 (G:=aq X.K) (Qc h)).imp λσ H Q ⟨R,ρ,G,F,e,h⟩ a xs H1 s ha r _=>?_
  obtain⟨e1,s1⟩:=e.grow (P0 e.sub s)
  exact e1.fin s1 (.flt e1.sub ha) (.flt e1.sub ha (r _ (FW _ _))) h
noncomputable def Kf:OF:=λρ=>.ok (none,ρ)
noncomputable def Qe(fa:EF):OF:=λρ=>(fa ρ).bind λp=>(dr p.2 p.1).bind λa=>(qW a).bind λb=>.ok (some b,p.2)
noncomputable def oN:VO Kf where
 ck _ e:=e.isNone
 cs:=[]
 ok:=@λ_ _ _ X e _ _ h=>by
  cases e <;> try cases h
  exact ab5.imp λσ H Q=>bF λR ρ G F e h=>h G H F e .refl
noncomputable def oS(a:VE aA):VO (Qe aA) where
 ck Γ e:=lO e λx=>a.ck Γ x
 cs:=a.cs
 ok q O h:=by
  walk_at "o"
  refine(ab6 (a.ok q O h)).imp λσ H Q=>bF λR ρ G F e h=>dh e .refl h λp h x G1 H1 F1 e1 s1 v1=>?_
  obtain⟨a,k1,h⟩:=h.okb (iC _ _)
  obtain⟨b,k2,h⟩:=h.okb (Oz _)
  exact⟨b,OD (iD e1 v1 k1) k2,h G1 H1 F1 e1 s1⟩
noncomputable def cut{α : Type}(xs:List α)(lo hi:Option Int):List α := (xs.drop (HT.aO xs.length 0 lo)).take (HT.aO xs.length xs.length hi-HT.aO xs.length 0 lo)
theorem au.cut{K:PySem.W.Frag}{H:Hp}{xs:List V}{ts:List Tr}(r:au K H xs ts)(lo hi:Option Int):au K H (m5 xs lo hi) (L2.cut ts lo hi):=by
 unfold m5 L2.cut
 rw[r.length]
 exact(r.drop _).take _
noncomputable def Qf(K:PySem.W.Frag):V->Option Int->Option Int->Hp->VK->Prop:=λx lo hi H Q=>Nj K x lo hi H Q\/M6 K x lo hi H Q
theorem aey:lB X (Qf X.K):=lB.or acp ab8
noncomputable def oA(lo hi:Option Int):G1
 |.lst ts=>.ok (.lst (cut ts lo hi),true)
 |.tup ts=>if ¬(HT.aO ts.length 0 lo=0/\HT.aO ts.length ts.length hi=ts.length)then .ok (.tup (cut ts lo hi),false)else .bad
 |_=>.bad
theorem Qg{K:PySem.W.Frag}(lo hi:Option Int):jP (aq K) (λx H Q=>Qf K x lo hi H Q) (oA lo hi):=⟨λa c=>by unfold oA; (repeat' split) <;> (intro z; cases z),λG H x a Q s rx h=>by
 cases a <;> try exact h.elim
 .dsimp only[oA]at h
  split at h
  .obtain⟨b,xs,rfl,q,r⟩:=rx.tup s
   exact .inr ⟨b,xs,rfl,q.toK,by rw[r.length]; assumption,λy hy=>h _ _ _ (.new s hy) (.newT s hy (r.cut _ _))⟩
  .exact h.elim
 .obtain⟨b,xs,rfl,q,r⟩:=rx.lst s
  exact .inl ⟨b,xs,rfl,q.toK,λy hy=>h _ _ _ (.flt s hy) (.flt s hy (r.cut _ _))⟩⟩
noncomputable def Qh(fa:EF)(fl fh:OF):EF:=λρ=>(fa ρ).bind λp=>(fl p.2).bind λl=>(fh l.2).bind λh=>(dr h.2 p.1).bind λa=>(oA l.1 h.1 a).bind λz=>.ok (.v z.1 z.2,h.2)
noncomputable def vSl(a:VE aA)(l:VO l_f)(r:VO dU):VE (Qh aA l_f dU) where
 ck Γ e:=lM e λx aL _=>yu aL λy z bA _=>pA bA (a.ck Γ x&&l.ck Γ y&&r.ck Γ z)
 cs:=a.cs++(l.cs++r.cs)
 ok q O h:=by
  walk_at "o"
  simp only[an]at h
  refine(ab7 aey (a.ok (ml q) O h.1.1) (l.ok (ml (mr q)) O h.1.2) (r.ok (mr (mr q)) O h.2)).imp λσ H Q=>bF λR ρ G F e h=>dh e .refl h λp h x G1 H1 F1 e1 s1 v1=>Oi e1 s1 h λl h G2 H2 F2 e2 s2=>Oi e2 (s1.trans s2) h λu h G3 H3 F3 e3 s3=>?_
  obtain⟨a,k1,h⟩:=h.okb (iC _ _)
  obtain⟨z,k2,h⟩:=h.okb ((Qg (K:=[]) _ _).nx _)
  exact(Qg l.1 u.1).ok G3 H3 x a Q e3.sub (iD e3 (v1.step e1.tb (s2.trans s3)) k1) (by rw[k2]; exact λv G' H' w vn=>e3.fin ((s1.trans s2).trans s3) w.gw vn h)
noncomputable def pG(Γ : Gx)(x:Str)(as:VA gj):Expr->Bool
 |.Call (.Name y _) (e::es) [] _=>y == x&&je Γ x&&as.ck Γ (e::es)
 |_=>false
theorem uR(h:pG Γ x as e=true):∃p a es q,e=.Call (.Name x p) (a::es) [] q/\je Γ x=true/\as.ck Γ (a::es)=true:=by
 unfold pG at h
 split at h
 case h_2=>cases h
 simp only[an]at h
 cases eq_of_beq h.1.1
 exact⟨_,_,_,_,rfl,h.1.2,h.2⟩
noncomputable def pH(g:GN)(fa:AF):EF:=λρ=>(fa ρ).bind λp=>(drs p.2 p.1).bind λas=>(g as).bind λz=>.ok (.v z.1 z.2,p.2)
theorem Qi{t:Tx}(o:yg t.K r g)(h:Te t (pH g fa) σ H Q):xH r (Ta t fa) σ H Q:=by
 obtain⟨R,ρ,G,F,e,h⟩:=h
 refine lH e .refl h λp h xs G1 H1 F1 e1 s1 v1=>?_
 obtain⟨as,k1,h⟩:=h.okb (uN _ _)
 obtain⟨z,k3,h⟩:=h.okb (o.nx as)
 exact o.ok G1 H1 xs as Q e1.sub (uO e1 v1 k1) (by rw[k3]; exact λv G' H' w vn=>e1.fin s1 w.gw vn h)
noncomputable def vB(x:Str)(u:Value)(r:PySem.W.Frag->List V->Hp->VK->Prop)(g:List Tr->Rs (Tr × Bool))(hv:bootBuiltins x=some u/\x ≠ "__name__" /\ ((∃i,u=.builtin i)\/∃i,u=.type i)) (hp:∀{cl Γ E X},Ox cl Γ E X->eN X u (r X.K)) (hs:∀K,yg (aq K) (r K) g) (as:VA gj):VE (pH g gj) where
 ck Γ e := Γ.B.contains x&&pG Γ x as e
 cs:=as.cs
 ok q o h:=by
  obtain⟨h1,h⟩:=an.mp h
  obtain⟨p,a,es,p',rfl,h2,h3⟩:=uR h
  obtain⟨pa,la,na⟩:=as.ok q o h3
  obtain⟨hv1,hv2,⟨i,rfl⟩|⟨i,rfl⟩⟩:=hv
  .exact(MN (hp o) (cX o h2).1 (o.B x (by simpa using h1)) hv1 pa hv2 (cX o h2).2 (iy (na _ (List.mem_cons_self ..))) (jT (λy m=>na y (List.mem_cons_of_mem _ m)) _)).imp λ_ _ _=>Qi (hs _)
  .exact(abL (hp o) (cX o h2).1 (o.B x (by simpa using h1)) hv1 pa hv2 (cX o h2).2 (iy (na _ (List.mem_cons_self ..))) (jT (λy m=>na y (List.mem_cons_of_mem _ m)) _)).imp λ_ _ _=>Qi (hs _)
noncomputable def Qj(c:Ty)(fa:EF):EF:=λρ=>(fa ρ).bind λp=>(dr p.2 p.1).bind λa=>.ok (eB (qK a c),p.2)
noncomputable def zj(x:Str)(ty:Ty)(hb:bootBuiltins x=some (.type ty.name)/\x ≠ "__name__") (a:VE aA):VE (Qj ty aA) where
 ck Γ e:=f9 e λaL bA bG _=>atName aL λy _=>aR bA λb cN=>aR cN λeU gM=>atName eU λz _=>aU gM (aU bG (y == ("isinstance" : Str)&&je Γ y&&z == x&&je Γ z&&Γ.B.contains y&&Γ.B.contains z&&a.ck Γ b&&notStar b))
 cs:=a.cs
 ok q o h:=by
  walk_at "o"
  simp only[an]at h
  obtain⟨⟨⟨⟨⟨⟨⟨h1,h2⟩,h3⟩,h4⟩,h5⟩,h6⟩,h7⟩,h8⟩:=h
  cases eq_of_beq h1
  cases eq_of_beq h3
  refine(acL o.x ty (a.ok q o h7) (o.B _ (by simpa using h5)) (o.B _ (by simpa using h6)) hb.1 (cX o h2).1 (cX o h4).1 hb.2 (cX o h4).2 (iy h8)).imp λσ H Q=>bF λR ρ G F e h=>dh e .refl h λp h x G1 H1 F1 e1 s1 v1=>?_
  obtain⟨a,k1,h⟩:=h.okb (iC _ _)
  exact⟨x,a,ty,rfl,((iD e1 v1 k1).rep e1.sub).toK,h _ G1 H1 F1 e1 s1 (.low (.bl _))⟩
noncomputable def pI(G G':Hp):Prop:=∀b o,lG o=false->G b=some o->G' b=some o
theorem pI.jA{K:PySem.W.Frag}{G G':Hp}(m:pI G G')(h:aW K G a xs):aW K G' a xs:=by
 rcases h with(h|⟨o,h⟩)|h
 .exact .inl (.inl (m _ _ rfl h))
 .exact .inl (.inr ⟨o,m _ _ rfl h⟩)
 .exact .inr h
theorem Qk{K:PySem.W.Frag}{G G':Hp}(m:pI G G'):(∀{v T},Rep K G v T->aZ T=true->Rep K G' v T)/\∀{vs Ts},au K G vs Ts->bR Ts=true->au K G' vs Ts:=by
 refine Rep.both (λ_=>.non) (λb _=>.bl b) (λi _=>.int i) (λx _=>.str x) (λa xs ts h q n=>?_) (λa xs ts h q n=>?_) (λa C c h k n _=>.bQ (m _ _ rfl h) k n) (λ_=>.nil) λx t xs ts p q n=>?_
 .exact .tup (m.jA h) (q (by unfold aZ at n; exact n))
 .unfold aZ at n; cases n
 .unfold bR at n
  obtain⟨n1,n2⟩:=an.mp n
  exact .cons (p n1) (q n2)
theorem Rep.flat{K:PySem.W.Frag}{G G':Hp}(m:pI G G'){v:V}{T:Tr}(h:Rep K G v T)(n:aZ T=true):Rep K G' v T:=(Qk m).1 h n
theorem au.flat{K:PySem.W.Frag}{G G':Hp}(m:pI G G'){v:List V}{T:List Tr}(h:au K G v T)(n:bR T=true):au K G' v T:=(Qk m).2 h n
noncomputable def wL(G H:Hp):Hp:=λb=>match G b with
 |some o=>some o
 |none=>match H b with
  |some o=>if lG o=true then some o else none
  |none=>none
theorem rB(h:G b=some o):wL G H b=some o:=by unfold wL; rw[h]
theorem pJ(h:wL G H b=some o):G b=some o\/G b=none/\H b=some o/\lG o=true:=by
 unfold wL at h
 split at h
 .exact .inl (by rw[<-h]; assumption)
 .split at h
  .split at h <;> cases h
   exact .inr ⟨‹_›,‹_›,‹_›⟩
  .cases h
theorem Ql(h:H b=some o)(m:lG o=true)(n:G b=none):wL G H b=some o:=by unfold wL; rw[n,h]; exact if_pos m
theorem Qm(h:H b=some (.lst xs))(n:G b=none):wL G H b=some (.lst xs):=Ql h rfl n
noncomputable def wB(G H G':Hp):Hp:=λb=>match wL G H b with
 |some _=>G b
 |none=>G' b
noncomputable def pK:Rv->Bool
 |.s _=>true
 |_=>false
noncomputable def fM(z:Tr × Bool):Bool:=aZ z.1 || (z.2&&(match z.1 with
 |.lst us=>bR us
 |_=>false))
section
variable {K:PySem.W.Frag}{G H G' H':Hp}
theorem Gb(s:Same G H)(w:Gw K (wL G H) H G' H'):Gw K G H (wB G H G') H':=by
 have low:Same (wB G H G') G':=λb o h=>by
  unfold wB at h
  split at h
  .exact w.gg b o (rB h)
  .exact h
 refine⟨λb o h=>by unfold wB; rw[rB h]; exact h,w.hh,low.trans w.sub,w.tb,λb h=>?_⟩
 cases q:G b with
 |some o=>exact .inl λz=>by cases z
 |none =>
  unfold wB at h
  split at h
  .exact(h q).elim
  .rename_i z
   exact .inr ((w.nw b h).elim (λy=>(y z).elim) id)
theorem zq(w:Gw K (wL G H) H G' H'):pI G' (wB G H G'):=λb o n h=>by
 unfold wB
 split
 .rename_i u z
  have y:=w.gg b _ z
  rw[h]at y
  cases y
  rcases pJ z with z|⟨_,_,z⟩
  .exact z
  .rw[n]at z; cases z
 .exact h
theorem VN.flat(s:Same G H)(w:Gw K (wL G H) H G' H')(h:VN K H G' H' v T fr)(f:fM (T,fr)=true):VN K H (wB G H G') H' v T fr:=by
 cases fr with
 |false=>exact Rep.flat (zq w) h (by simpa[fM]using f)
 |true =>
  obtain⟨a,xs,ts,e1,rfl,e3,e4,e5,r⟩:=h
  refine⟨a,xs,ts,e1,rfl,e3,?_,e5,r.flat (zq w) (by simpa[fM,aZ]using f)⟩
  unfold wB
  split
  .exact s.free e3
  .exact e4
theorem lJ.reps(s:Same G H):∀{vs:List V} {ts:List Tr},lJ K G H vs ts->au K (wL G H) vs ts
 |_,_,.nil=>.nil
 |_,_,.cons (.inl h) r=>.cons (h.mono λ_ _=>rB) (lJ.reps s r)
 |_,_,.cons (.inr ⟨a,xs,ts,e1,e2,q,r0⟩) r=>by
  subst e1 e2
  refine .cons (.lst (aM.of ?_) (r0.mono λ_ _=>rB)) (lJ.reps s r)
  cases z:G a with
  |none=>exact Qm q z
  |some o=>have y:=s a o z; rw[q]at y; cases y; exact rB z
end
theorem Qn:∀{rs:List Rv} {ts:List Tr},drs ρ rs=.ok ts->rs.any pK=false->cls rs=.ok ts
 | [],_,h,_=>h
 |.s _::_,_,_,n=>by simp[pK]at n
 |.v T fr::rs,_,h,n=>by
  obtain⟨ts,q2,q⟩:=eX (show((drs ρ rs).bind _)=_ from h)
  cases q
  unfold cls
  rw[Qn q2 (by simpa[pK]using n)]
  rfl
noncomputable def rC(f:FP)(fa:AF):EF:=λρ=>(fa ρ).bind λp=>(drs p.2 p.1).bind λas=>(f as).bind λz=>if p.1.any pK=true/\fM z=false then .bad else .ok (.v z.1 z.2,p.2)
theorem Fr.none{K:PySem.W.Frag}(h:Fr K H (λ_=>[]) H'):Fr K H F H':=⟨λb o q _=>h.fr b o q λ⟨_,z⟩=>(by cases z),h.tb⟩
theorem aez(hn:∀ρ p,fa ρ=.ok p->p.1.length=n)(h:Te (tx cl E X) (rC f fa) σ H Q):CW (nC X.K cl n f) [] E (Ta (tx cl E X) fa) σ H Q:=by
 obtain⟨R,ρ,G,F,e,h⟩:=h
 cases ek:fa ρ with
 |bad=>rw[rC,ek]at h; exact h.elim
 |ex c=>exact⟨R,ρ,G,F,e,by rw[rC,ek]at h; rw[ek]; exact h⟩
 |ok p =>
 refine⟨R,ρ,G,F,e,?_⟩
 simp only[rC,ek,Rs.bind]at h
 rw[ek]
 intro vs G1 H1 F1 e1 s1 v1
 obtain⟨as,k1,h⟩:=h.okb (uN _ _)
 show nC X.K cl n f (vs++[]) H1 Q E
 rw[List.append_nil]
 have fin:∀Gc,au (aq X.K) Gc vs as->Same Gc H1->(∀b,Tb (aq X.K) b->Gc b=none)->(∀z,f as=.ok z->∀v G' H',Gw (aq X.K) Gc H1 G' H'->VN (aq X.K) H1 G' H' v z.1 z.2->Q v H')->nC X.K cl n f vs H1 Q E:=λGc r s tg k=>by
  refine⟨Gc,as,by rw[v1.length,hn ρ p ek],r,s,e1.tb,tg,?_⟩
  cases ef:f as with
  |bad=>rw[ef]at h; exact h.elim
  |ex c=>rw[ef]at h; exact λH' q=>h H' (s1.back q.none)
  |ok z=>exact k z ef
 by_cases a:p.1.any pK=true
 .refine fin (wL G1 H1) ((uO e1 v1 k1).reps e1.sub) (λb o q=>(pJ q).elim (e1.sub b o) λq=>q.2.1) (λb t=>?_) λz ef v G' H' w vn=>?_
  .cases q:wL G1 H1 b with
   |none=>rfl
   |some o =>
    rcases pJ q with q|⟨_,q,m⟩
    .rw[e1.tg b t]at q; cases q
    .exact(e1.tb.nm q m t).elim
  .simp only[ef,Rs.bind]at h
   split at h
   .exact h.elim
   .rename_i c
    exact e1.fin s1 (Gb e1.sub w) (vn.flat e1.sub w (by cases q:fM z with|true=>rfl|false=>exact(c ⟨a,q⟩).elim)) h
 .obtain⟨G2,e2,s2,_,r⟩:=e1.vis e s1 v1 (Qn k1 (by simpa using a))
  refine fin G2 r e2.sub e2.tg λz ef v G' H' w vn=>?_
  simp only[ef,Rs.bind]at h
  rw[if_neg λy=>a y.1]at h
  exact e2.fin s2 w vn h
noncomputable def vF(x:Str)(ps:List Str)(f:FP)(l:Nat)(as:VA gj):VE (rC f gj) where
 ck Γ e:=f9 e λ_ m _ _=>m.length == ps.length&&decide (l <= Γ.k)&&pG Γ x as e
 cs:=.fn x ps f l::as.cs
 ok q o h:=by
  obtain⟨_,_,_,_,e0,h⟩:=wj h
  subst e0
  simp only[an]at h
  obtain⟨⟨h1,h0⟩,h⟩:=h
  obtain⟨p,a,es,p',e',h2,h3⟩:=uR h
  cases e'
  obtain⟨D,q⟩:=List.forall_mem_cons.mp q
  obtain⟨pa,la,na⟩:=as.ok q o h3
  rw[eq_of_beq h1]at la
  obtain⟨d,fd,d1,d2,d3,d4⟩:=iz.mono D (of_decide_eq_true h0)
  exact(Dd d1 o.r (cX o h2).1 d4 d3 d2 .nil o.e pa (cX o h2).2 (iy (na _ (List.mem_cons_self ..))) (jT (λy m=>na y (List.mem_cons_of_mem _ m)) _)).imp λ_ _ _=>aez la
noncomputable def eG(F:Fp)(i:Nat)(f:List Addr):Fp:=λj=>if j=i then f else F j
theorem jU(h:Fn (eG F i f) b):b∈f\/∃j,j≠i/\b∈F j:=by
 obtain⟨j,h⟩:=h
 unfold eG at h
 split at h
 .exact .inl h
 .exact .inr ⟨j,‹_›,h⟩
section
variable {t:Tx}{K:PySem.W.Frag}{R:Addr->Prop}{ρ ρ':En}{σ σ':St}{G H G0 H0 G' H':Hp}{F F0 F':Fp}{Q:VK}
theorem Ok.one(e:Ok K R ρ σ G H F)(i:Nat)(f:List Addr)(len : ρ'.length = σ'.length)(ne:∀j,j≠i -> ρ'[j]?=ρ[j]? /\ σ'[j]?=σ[j]?)(gg:Same G G')(sub:Same G' H')(tb:bf K H')(hG:∀b,G' b≠none->G b≠none\/(∀j,j≠i->b∉F j)/\¬Tb K b/\¬R b)
  (hh:∀j,j≠i->∀b∈F j,∀o,H b=some o->H' b=some o) (hr:∀b,R b->H' b≠none) (hf:∀b∈f,G' b=none/\∀j,j≠i->b∉F j) (si:cW K R G' H' σ'[i]? f ρ'[i]?):Ok K R ρ' σ' G' H' (eG F i f):=by
 have no:∀b,G b=none->(∃j,j≠i/\b∈F j)\/Tb K b\/R b->G' b=none:=λb q c=>by
  cases z:G' b with
  |none=>rfl
  |some o =>
   rcases hG b (by rw[z]; exact λz=>by cases z)with y|⟨y1,y2,y3⟩
   .exact(y q).elim
   .rcases c with⟨j,c1,c2⟩|c|c
    .exact(y1 j c1 c2).elim
    .exact(y2 c).elim
    .exact(y3 c).elim
 refine⟨len,sub,tb,λb t=>no b (e.tg b t) (.inr (.inl t)),λb h=>?_,λb h=>⟨no b (e.rg b h).1 (.inr (.inr h)),hr b h⟩,λj k b h1 h2=>?_,λj=>?_⟩
 .rcases jU h with h|⟨j,n,h⟩
  .exact(hf b h).1
  .exact no b (e.hid b ⟨j,h⟩) (.inl ⟨j,n,h⟩)
 .unfold eG at h1 h2
  split at h1 <;> split at h2
  .rw[‹j=i›,‹k=i›]
  .exact((hf b h1).2 k ‹_› h2).elim
  .exact((hf b h2).2 j ‹_› h1).elim
  .exact e.di j k b h1 h2
 .unfold eG
  split
  .rw[‹j=i›]; exact si
  .rw[(ne j ‹_›).1,(ne j ‹_›).2]
   exact(e.sl j).mono gg (hh j ‹_›)
theorem gq{α : Type}{l:List α}{a : α}(h:j≠i):(l.set i a)[j]?=l[j]? := List.getElem?_set_ne (Ne.symm h)
theorem eY{α : Type}{l:List α}{a : α}(h:i<l.length):(l.set i a)[i]?=some a:=by
 rw[List.getElem?_set_self',List.getElem?_eq_getElem h]
 rfl
theorem nJ{α : Type}{l:List α}{a : α}(h:¬i<l.length):l.set i a=l:=List.set_eq_of_length_le (Nat.le_of_not_lt h)
theorem aB.sub(h:∀b,Fn F' b->Fn F b):aB K G H F G H F':=⟨Same.refl _,λ_ _ h _ _=>h,λ_ h=>.inl h,λb z=>.inr (h b z),λ_ h=>h⟩
theorem Ok.Gd(e:Ok K R ρ σ G H F)(i:Nat)(r:Rep K G v T):∃F',Ok K R (ρ.set i (.sh T)) (σ.set i (some v)) G H F'/\∀b,Fn F' b->Fn F b:=by
 by_cases l:i < ρ.length
 .refine⟨eG F i [],e.one i [] (by rw[List.length_set,List.length_set,e.len]) (λj n=>⟨gq n,gq n⟩) (Same.refl _) e.sub e.tb (λb h=>.inl h) (λ_ _ _ _ _ h=>h) (λb h=>(e.rg b h).2) (λb h=>by cases h) ?_,λb h=>?_⟩
  .rw[eY l,eY (e.len▸l)]
   exact⟨rfl,v,rfl,r⟩
  .rcases jU h with h|⟨j,_,h⟩
   .cases h
   .exact⟨j,h⟩
 .rw[nJ l,nJ (e.len▸l)]
  exact⟨F,e,λb h=>h⟩
theorem Ok.aeA(e:Ok K R ρ σ G H F)(i:Nat)(h:H a=some (.lst xs))(g:G a=none)(n:¬Fn F a)(nR:¬R a)(r:au K G xs ts):∃F',Ok K R (ρ.set i (.ow ts)) (σ.set i (some (.ref a))) G H F'/\∀b,Fn F' b->b=a\/Fn F b:=by
 by_cases l:i < ρ.length
 .refine⟨eG F i [a],e.one i [a] (by rw[List.length_set,List.length_set,e.len]) (λj n=>⟨gq n,gq n⟩) (Same.refl _) e.sub e.tb (λb h=>.inl h) (λ_ _ _ _ _ h=>h) (λb h=>(e.rg b h).2) (λb h=>?_) ?_,λb h=>?_⟩
  .cases List.mem_singleton.mp h
   exact⟨g,λj _ z=>n ⟨j,z⟩⟩
  .rw[eY l,eY (e.len▸l)]
   exact⟨a,xs,rfl,rfl,nR,h,r⟩
  .rcases jU h with h|⟨j,_,h⟩
   .exact .inl (List.mem_singleton.mp h)
   .exact .inr ⟨j,h⟩
 .rw[nJ l,nJ (e.len▸l)]
  exact⟨F,e,λb h=>.inr h⟩
noncomputable def con(ρ : En)(i:Nat):Rs (List Tr):=match ρ[i]? with
 |some (.ow ts)=>.ok ts
 |some (.rf ts)=>.ok ts
 |_=>.bad
theorem zu(ρ : En)(i:Nat)(c:Str):con ρ i ≠ .ex c:=by
 unfold con
 split <;> (intro z; cases z)
noncomputable def bH(i:Nat)(us:List Tr)(ρ : En):En:=match ρ[i]? with
 |some (.ow _)=>ρ.set i (.ow us)
 |some (.rf _)=>ρ.set i (.rf us)
 |_=>ρ
theorem Ok.con(e:Ok K R ρ σ G H F)(q:con ρ i=.ok ts):∃a xs,σ[i]?=some (some (.ref a))/\F i=[a]/\H a=some (.lst xs)/\au K G xs ts:=by
 have z:=e.sl i
 unfold L2.con at q
 split at q <;> rename_i k <;> cases q <;> (rw[k]at z; obtain⟨a,xs,h1,h2,_,h3,h4⟩:=z; exact⟨a,xs,h1,h2,h3,h4⟩)
theorem Ge(h:j≠i):(bH i ts ρ)[j]?=ρ[j]? := by
 unfold bH
 split
 .exact gq h
 .exact gq h
 .rfl
theorem Gf:(bH i us ρ).length = ρ.length:=by
 unfold bH
 split
 .rw[List.length_set]
 .rw[List.length_set]
 .rfl
theorem Ok.mov(e:Ok K R ρ σ G H F)(q:L2.con ρ i=.ok ts)(f:F i=[a])(g:Gw K G (upd H a (.lst ys)) G' H')(hx:H' a=some (.lst xs))(r:au K G' xs us):Ok K R (bH i us ρ) σ G' H' F/\aB K G H F G' H' F:=by
 have ha:Fn F a:=⟨i,by rw[f]; exact List.mem_singleton.mpr rfl⟩
 obtain⟨zs,hz,mz⟩:=e.fl ha
 have ne:∀b o,H b=some o->b≠a->¬Tb K b->H' b=some o:=λb o h n t=>g.hh b o (by rw[aH n]; exact h) t
 have nn:∀b,upd H a (.lst ys) b=none->H b=none:=λb h=>by
  by_cases z:b=a
  .subst z; rw[bN]at h; cases h
  .rw[aH z]at h; exact h
 have tb:=g.tb (e.tb.Eb hz mz)
 have dm:∀b,H' b=none->H b=none:=λb h=>by
  cases q:H b with
  |none=>rfl
  |some o =>
   by_cases z:b=a
   .subst z; rw[hx]at h; cases h
   .by_cases t:Tb K b
    .obtain⟨ps,y⟩:=tb.bM t; rw[h]at y; cases y
    .rw[ne b o q z t]at h; cases h
 have nw:∀b,G' b≠none->G b≠none\/H b=none:=λb h=>(g.nw b h).imp id (nn b)
 have eF:eG F i [a]=F:=by funext j; unfold eG; split <;> first|rfl|rw[‹j=i›,f]
 refine⟨eF▸e.one i [a] (by rw[Gf,e.len]) (λj n=>⟨Ge n,rfl⟩) g.gg g.sub tb (λb h=>(nw b h).imp id λz=>⟨λj _ y=>e.fs z ⟨j,y⟩,λt=>?_,e.rn z⟩) (λj n b hb o h=>?_) (λb h z=>(e.rg b h).2 (dm b z)) (λb h=>?_) ?_,g.gg,λb o h n t=>ne b o h (λz=>n (z▸ha)) t,λb h=>(nw b h).imp id .inl,λb h=>.inr h,dm⟩
 .obtain⟨ps,y⟩:=e.tb.bM t; rw[z]at y; cases y
 .obtain⟨_,q,m⟩:=e.fl ⟨j,hb⟩
  exact ne b o h (λz=>n (e.di j i b hb (by rw[f,z]; exact List.mem_singleton.mpr rfl))) (e.tb.nm q m)
 .cases List.mem_singleton.mp h
  refine⟨?_,λj n z=>n (e.di j i a z (by rw[f]; exact List.mem_singleton.mpr rfl))⟩
  cases q:G' a with
  |none=>rfl
  |some o=>exact((nw a (by rw[q]; exact λz=>by cases z)).elim (λz=>z (e.hid a ha)) λz=>by rw[hz]at z; cases z).elim
 .have z:=e.sl i
  unfold L2.con at q
  unfold bH
  split at q <;> rename_i k <;> cases q <;>
  .rw[k]at z
   obtain⟨b,_,h1,h2,h3,_⟩:=z
   rw[f]at h2
   cases h2
   rw[eY (List.getElem?_eq_some_iff.mp k).1]
   exact⟨a,xs,h1,rfl,h3,hx,r⟩
theorem Ok.put(e:Ok K R ρ σ G H F)(q:L2.con ρ i=.ok ts)(f:F i=[a])(r:au K G xs us):Ok K R (bH i us ρ) σ G (upd H a (.lst xs)) F/\aB K G H F G (upd H a (.lst xs)) F:=by
 refine e.mov q f (ys:=xs) (.refl λb o h=>?_) bN r
 rw[aH λz=>?_]
 .exact e.sub b o h
 .rw[z,e.hid a ⟨i,by rw[f]; exact List.mem_singleton.mpr rfl⟩]at h
  cases h
end
noncomputable abbrev GM:=List Tr->List Tr->Rs (List Tr × Tr)
structure Gg(r:V->List V->Hp->VK->Prop)(m:GM):Prop where
 nx:∀ts as c,m ts as ≠ .ex c
 ok:∀(K:PySem.W.Frag) (G:Hp) a xs ts vs as H Q ts' T,H a=some (.lst xs)->au K G xs ts->au K G vs as->m ts as=.ok (ts',T)->(∀xs' v,au K G xs' ts'->Rep K G v T->Q v (upd H a (.lst xs')))->r (.ref a) vs H Q
noncomputable def zx(i:Nat)(m:GM)(fa:AF):EF:=λρ=>(con ρ i).bind λ_=>(fa ρ).bind λp=>(cls p.1).bind λas=>(con p.2 i).bind λts=>(m ts as).bind λz=>.ok (.v z.2 false,bH i z.1 p.2)
theorem Qo(h:∀x∈e::es,notStar x=true)(l:(e::es).length<30):((backTo p (starEach (e::es) env)).all (λx=>!x.1)&&(backToKw p (keywordEach [] env)).all (λx=>x.1.isSome)&&decide ((e::es).length+([]:List Keyword).length+(if([]:List Keyword).isEmpty then 0 else 1)<30))=true:=by
 have:(backTo p (starEach (e::es) env)).all (λx=>!x.1)=true:=by
  have:=jT (pos:=p) h env
  rw[List.all_eq_not_any_not]
  simpa using this
 rw[this]
 simpa[keywordEach,backToKw]using l
noncomputable def vM(nm:Str)(id:String)(r:V→List V→Hp→VK→Prop)(m:GM)(hp:Slot "list" nm id∧typeOf (.builtin id)=pure (.type "method_descriptor")∧∀X,Dm X id r) (hs:Gg r m) (i:Nat) (as:VA gj):VE (zx i m gj) where
 ck Γ e:=f9 e λaL bA bG q=>lN aL λcN a p=>atName cN λx _=>aR bA λy l=>aU bG (a == nm&&gh Γ i x&&decide ((y::l).length<30)&&p.endLine == q.line&&as.ck Γ (y::l))
 cs:=as.cs
 ok q o h:=by
  walk_at "o"
  simp only[an]at h
  obtain⟨⟨⟨⟨h1,h2⟩,h3⟩,h4⟩,h5⟩:=h
  cases eq_of_beq h1
  obtain⟨pa,la,na⟩:=as.ok q o h5
  refine(acv PySem.F.plainAttrs_list hp.1 hp.2.1 (hp.2.2 _) (jd o h2) pa rfl (Qo na (of_decide_eq_true h3)) h4 (iy (na _ (List.mem_cons_self ..))) (jT (λy m=>na y (List.mem_cons_of_mem _ m)) _)).imp λσ H Q=>bF λR ρ G F e h=>?_
  obtain⟨us,k0,h⟩:=h.okb (zu _ _)
  obtain⟨a,xs,hi,_,hx,_⟩:=e.con k0
  refine⟨_,hi,.inl ⟨rfl,xs,aM.of hx⟩,lH e .refl h λp h vs G1 H1 F1 e1 s1 v1=>?_⟩
  obtain⟨as,k1,h⟩:=h.okb (nF _)
  obtain⟨ts,k2,h⟩:=h.okb (zu _ _)
  obtain⟨⟨ts',T⟩,k3,h⟩:=h.okb (hs.nx _ _)
  obtain⟨G2,e2,s2,_,r⟩:=e1.vis e s1 v1 k1
  obtain⟨a',ys,hi',hf,hy,ry⟩:=e2.con k2
  rw[hi]at hi'
  cases hi'
  refine hs.ok _ G2 a ys ts vs as H1 Q ts' T hy ry r k3 λxs' v r' rv=>?_
  obtain⟨e3,s3⟩:=e2.put k2 hf r'
  exact h v G2 _ F1 e3 (s2.trans s3) (.low rv)
noncomputable def pL:GM:=λts as=>match as with
 | [T]=>if ts.length<=100000 then .ok (ts++[T],.non)else .bad
 |_=>.bad
theorem aeB:Gg Dp pL:=⟨λts as c=>by unfold pL; (repeat' split) <;> (intro z; cases z),λK G a xs ts vs as H Q ts' T hx r ra q h=>by
 unfold pL at q
 (repeat' split at q) <;> cases q
 cases ra with
 |cons h1 r1 =>
  cases r1
  exact⟨a,xs,_,rfl,rfl,hx,Nat.lt_of_le_of_lt (by rw[r.length]; assumption) (by decide),h _ _ (r.app (.cons h1 .nil)) .non⟩⟩
structure Rt(K:PySem.W.Frag)(R:Addr->Prop)(G H:Hp)(F:Fp)(G' H':Hp)(v:V)(T:Tr)(fr:Bool):Prop where
 gg:Same G G'
 fm:Fr K H F H'
 sub:Same G' H'
 nw:∀b,G' b≠none->G b≠none\/H b=none\/Fn F b
 rg:∀b,R b->G' b=none
 vl:match fr with
  |false=>Rep K G' v T
  |true=>∃a xs ts,v=.ref a/\T=.lst ts/\(H a=none\/Fn F a)/\¬R a/\G' a=none/\H' a=some (.lst xs)/\au K G' xs ts
noncomputable def nO(t:Tx)(R:Addr->Prop)(G H:Hp)(F:Fp)(D:Ends)(p:Fl × En):Prop:=match p.1 with
 |.nx=>∀σ' G' H' F',Ok t.K R p.2 σ' G' H' F'->aB t.K G H F G' H' F'->D.nx σ' H'
 |.bk=>∀σ' G' H' F',Ok t.K R p.2 σ' G' H' F'->aB t.K G H F G' H' F'->D.bk σ' H'
 |.ct=>∀σ' G' H' F',Ok t.K R p.2 σ' G' H' F'->aB t.K G H F G' H' F'->D.ct σ' H'
 |.rt T fr=>∀v G' H',Rt t.K R G H F G' H' v T fr->D.rt v H'
noncomputable def Ts(t:Tx)(f:SF):TS:=λD σ H=>∃R ρ G F,Ok t.K R ρ σ G H F/\bB t H F (f ρ) (nO t R G H F D)
theorem Te.imp{t:Tx}(h:Te t f σ H Q)(k:∀v H',Q v H'->Q' v H'):Te t f σ H Q':=by
 obtain⟨R,ρ,G,F,e,h⟩:=h
 exact⟨R,ρ,G,F,e,h.go (aB.refl (G:=G)) λp h v G' H' F' e' s' v'=>k v H' (h v G' H' F' e' s' v')⟩
theorem PS.imp(h:PS X e t)(i:∀D σ H,u D σ H->t D σ H):PS X e u:=⟨λpins s σ H D I q=>h pins s σ H D I (i D σ H q)⟩
theorem cQ.imp(h:cQ X e t)(i:∀D σ H,u D σ H->t D σ H):cQ X e u:=⟨λpins s σ H D I q=>h pins s σ H D I (i D σ H q)⟩
noncomputable abbrev VS(f:SF):=Vn λcl E X e=>PS X e (Ts (tx cl E X) f)
noncomputable abbrev VB(f:SF):=Vn λcl E X e=>cQ X e (Ts (tx cl E X) f)
section
variable {t:Tx}{K:PySem.W.Frag}{R:Addr->Prop}{ρ : En}{σ : St}{G H G0 H0 G' H':Hp}{F F0 F':Fp}{D:Ends}
theorem Rt.back(s:aB K G0 H0 F0 G H F)(h:Rt K R G H F G' H' v T fr):Rt K R G0 H0 F0 G' H' v T fr:=by
 have ff:∀b,H b=none\/Fn F b->H0 b=none\/Fn F0 b:=λb=>λz=>z.elim (λz=>.inl (s.dm b z)) (s.nf b)
 refine⟨s.gg.trans h.gg,s.back h.fm,h.sub,λb z=>(h.nw b z).elim (s.nw b) λz=>.inr (ff b z),h.rg,?_⟩
 cases fr with
 |false=>exact h.vl
 |true =>
  obtain⟨a,xs,ts,e1,e2,e3,q⟩:=h.vl
  exact⟨a,xs,ts,e1,e2,ff a e3,q⟩
theorem nO.back(s:aB t.K G0 H0 F0 G H F)(h:nO t R G0 H0 F0 D p):nO t R G H F D p:=by
 obtain⟨fl,ρ⟩:=p
 cases fl with
 |nx=>exact λσ' G' H' F' e u=>h σ' G' H' F' e (s.trans u)
 |bk=>exact λσ' G' H' F' e u=>h σ' G' H' F' e (s.trans u)
 |ct=>exact λσ' G' H' F' e u=>h σ' G' H' F' e (s.trans u)
 |rt T fr=>exact λv G' H' r=>h v G' H' (r.back s)
theorem zy(e:Ok t.K R ρ σ G H F)(s:aB t.K G0 H0 F0 G H F)(h:bB t H0 F0 (f ρ) (nO t R G0 H0 F0 D)):Ts t f D σ H:=⟨R,ρ,G,F,e,h.go s λ_=>nO.back s⟩
end
noncomputable def Qp:SF:=λρ=>.ok (.nx,ρ)
noncomputable def b0:VB Qp where
 ck _ e:=e.isEmpty
 cs:=[]
 ok:=@λ_ _ _ X e _ _ h=>by
  cases e <;> try cases h
  exact Lp.imp λD σ H=>bF λR ρ G F e h=>h σ G H F e .refl
noncomputable def b1(a:VS aA):VB aA where
 ck Γ e:=aR e λx aL=>aU aL (a.ck Γ x)
 cs:=a.cs
 ok q O h:=by
  walk_at "o"
  exact Cg (a.ok q O h)
noncomputable def Gh(f g:SF):SF:=λρ=>(f ρ).bind λp=>match p.1 with
 |.nx=>g p.2
 |fl=>.ok (fl,p.2)
theorem aeC{t:Tx}(h:Ts t (Gh f g) D σ H):Ln (Ts t f) (Ts t g) D σ H:=by
 obtain⟨R,ρ,G,F,e,h⟩:=h
 refine⟨R,ρ,G,F,e,h.run (aB.refl (G:=G)) λp h=>?_⟩
 obtain⟨fl,ρ1⟩:=p
 cases fl with
 |nx=>exact λσ1 G1 H1 F1 e1 s1=>zy e1 s1 h
 |rt T fr=>exact h
 |bk=>exact h
 |ct=>exact h
noncomputable def bC(a:VS aA)(r:VB dU):VB (Gh aA dU) where
 ck Γ e:=aR e λx l=>a.ck Γ x&&r.ck Γ l
 cs:=a.cs++r.cs
 ok q O h:=by
  walk_at "o"
  simp only[an]at h
  exact(Lr (a.ok (ml q) O h.1) (r.ok (mr q) O h.2)).imp λ_ _ _=>aeC
noncomputable def nQ(K:PySem.W.Frag)(g:GF)(js:List Nat):TG:=λv σ H Q=>∃R ρ G F T,Ok K R ρ σ G H F/\Rep K G v T/\Pz (g T ρ) λρ'=>∀σ' F',Ok K R ρ' σ' G H F'->(∀b,Fn F' b->Fn F b)->(∀k,k∉js -> σ'[k]?=σ[k]?)->Q σ' H
noncomputable def aeD(K:PySem.W.Frag)(g:qP)(js:List Nat):oJ:=λvs σ H Q=>∃R ρ G F Ts,Ok K R ρ σ G H F/\au K G vs Ts/\Pz (g Ts ρ) λρ'=>∀σ' F',Ok K R ρ' σ' G H F'->(∀b,Fn F' b->Fn F b)->(∀k,k∉js -> σ'[k]?=σ[k]?)->Q σ' H
theorem PG.imp(h:PG X e t)(i:∀v σ H Q,u v σ H Q->t v σ H Q):PG X e u:=λpins s σ H v w Q I r q=>h pins s σ H v w Q I r (i _ σ H Q q)
theorem mY.imp(h:mY X e t)(i:∀v σ H Q,u v σ H Q->t v σ H Q):mY X e u:=λpins s σ H v w Q I r q=>h pins s σ H v w Q I r (i _ σ H Q q)
theorem Pz.ok{α : Type}{r:Rs α}{P : α -> Prop}(h:Pz r P):∃a,r=.ok a/\P a:=by
 cases r with
 |ok a=>exact⟨a,rfl,h⟩
 |_=>exact h.elim
noncomputable abbrev VG(f:GF)(js:List Nat):=Vn λcl E X e=>PG X e (nQ (aq X.K) f js)/\(∀T ρ y,f T ρ ≠ .ex y)/\notStar e=true
noncomputable abbrev zA(f:qP)(js:List Nat):=Vn λcl E X e=>mY X e (aeD (aq X.K) f js)/\(∀T ρ y,f T ρ ≠ .ex y)/\∀env,(assignEach e env).length=e.length/\(assignEach e env).findIdx? (·.1)=none
noncomputable def uT(Γ : Gx)(i:Nat)(x:Str):Bool := Γ.N[i]? == some x&&(Γ.sc.names.lookup x == some .local || Γ.sc.names.lookup x == some .cell&&Γ.fn x)
noncomputable def Wr(X:Cx)(i:Nat)(x:Str):Prop:=X.N[i]?=some x/\Loc X.env.scope x/\(X.fn x=true\/X.env.scope.names.lookup x=some .local)
theorem zB(o:Ox cl Γ E X)(h:uT Γ i x=true):Wr X i x:=by
 obtain⟨h1,h2⟩:=an.mp h
 refine⟨by rw[o.N]; exact eq_of_beq h1,?_⟩
 unfold Loc
 rw[o.s,o.f]
 rcases(Bool.or_eq_true _ _).mp h2 with h|h
 .exact⟨.inl (eq_of_beq h),.inr (eq_of_beq h)⟩
 .exact⟨.inr (eq_of_beq (an.mp h).1),.inl (an.mp h).2⟩
noncomputable def gN(i:Nat):GF:=λT ρ=>.ok (ρ.set i (.sh T))
theorem Qq(T:Tr)(ρ : En)(c:Str):gN i T ρ ≠ .ex c:=by intro z; cases z
theorem Qs{K:PySem.W.Frag}(h:nQ K (gN i) [i] v σ H Q):jM i v σ H Q:=by
 obtain⟨R,ρ,G,F,T,e,r,h⟩:=h
 obtain⟨F',e',s⟩:=e.Gd i r
 exact h _ F' e' s λk n=>gq λz=>n (by rw[z]; exact List.mem_singleton.mpr rfl)
noncomputable def gV(i:Nat):VG (gN i) [i] where
 ck Γ e:=atName e λx _=>uT Γ i x
 cs:=[]
 ok q o h:=by
  walk_at "o"
  obtain⟨w1,w2,w3⟩:=zB o h
  exact⟨(aaL o.d w1 w2 w3).imp λ_ _ _ _=>Qs,Qq,rfl⟩
noncomputable def uU:qP:=λTs ρ=>match Ts with
 | []=>.ok ρ
 |_=>.bad
noncomputable def jV(f:GF)(g:qP):qP:=λTs ρ=>match Ts with
 |T::r=>(f T ρ).bind λρ'=>g r ρ'
 | []=>.bad
noncomputable def jW:zA uU [] where
 ck _ e:=e.isEmpty
 cs:=[]
 ok:=@λ_ _ _ X e _ _ h=>by
  cases e <;> try cases h
  refine⟨aaO.imp λvs σ H Q ⟨R,ρ,G,F,Ts,e,r,h⟩=>?_,λT _ _=>by cases T <;> (intro z; cases z),λ_=>⟨rfl,rfl⟩⟩
  cases r with
  |nil=>exact⟨rfl,h σ F e (λ_ z=>z) λ_ _=>rfl⟩
  |cons _ _=>exact h.elim
theorem Gi(h:notStar e=true):assignEach (e::es) env=(false,assign e env)::assignEach es env:=by
 cases e <;> first|rfl|cases h
noncomputable def eH(a:VG aA a_j)(r:zA dU Gj):zA (jV aA dU) (a_j++Gj) where
 ck Γ e:=aR e λx y=>a.ck Γ x&&r.ck Γ y
 cs:=a.cs++r.cs
 ok q O h:=by
  walk_at "o"
  simp only[an]at h
  obtain⟨pa,na,ea⟩:=a.ok (ml q) O h.1
  obtain⟨pb,nb,eb⟩:=r.ok (mr q) O h.2
  refine⟨(aaP pa pb (by rw[Gi ea]; rfl)).imp λvs σ H Q ⟨R,ρ,G,F,Ts,e,r,h⟩=>?_,λTs ρ c=>?_,λenv=>?_⟩
  .cases r with
   |nil=>exact h.elim
   | @cons x T xs Ts r1 r2 =>
    obtain⟨ρ2,k,h⟩:=h.ok
    obtain⟨ρ1,k1,k2⟩:=eX k
    refine⟨x,xs,rfl,R,ρ,G,F,T,e,r1,?_⟩
    rw[k1]
    intro σ1 F1 e1 f1 n1
    refine⟨R,ρ1,G,F1,Ts,e1,r2,?_⟩
    rw[k2]
    refine λσ2 F2 e2 f2 n2=>h σ2 F2 e2 (λb z=>f1 b (f2 b z)) λk n=>?_
    rw[List.mem_append,not_or]at n
    rw[n2 k n.2,n1 k n.1]
  .cases Ts with
   |nil=>intro z; cases z
   |cons T r=>exact yZ (na T ρ) (λρ'=>nb r ρ') c
  .rw[Gi ea]
   obtain⟨e1,e2⟩:=eb env
   exact⟨by rw[List.length_cons,e1,List.length_cons],by rw[List.findIdx?_cons,e2]; rfl⟩
noncomputable def gT(n:Nat)(f:qP):GF:=λT ρ=>match T with
 |.tup Ts=>if Ts.length=n then f Ts ρ else .bad
 |_=>.bad
noncomputable def jX(n:Nat)(r:zA dU Gj):VG (gT n dU) Gj where
 ck Γ e:=jQ e λl _ _=>l.length == n&&r.ck Γ l
 cs:=r.cs
 ok q o h:=by
  walk_at "o"
  simp only[an]at h
  obtain⟨pb,nb,eb⟩:=r.ok q o h.2
  refine⟨(aaR o.l pb ((eb _).1.trans (eq_of_beq h.1)) (eb _).2).imp λv σ H Q ⟨R,ρ,G,F,T,e,r,h⟩=>?_,λT ρ y=>?_,rfl⟩
  .cases T <;> try exact h.elim
   dsimp only[gT]at h
   split at h
   case isFalse=>exact h.elim
   cases r with
   | @tup a xs _ q r=>exact⟨a,xs,rfl,(e.sub.jA q).toK,by rw[r.length]; assumption,R,ρ,G,F,_,e,r,h⟩
  .cases T <;> first|(intro z; cases z; done)|(dsimp only[gT]; split <;> first|exact nb _ _ _|(intro z; cases z))
noncomputable def lX:Expr->Bool
 |.ListComp .. => false
 |.SetComp .. => false
 |.DictComp .. => false
 |_=>true
theorem pN(h:lX e=true):swapsWith e t l env=pure false:=by
 cases e <;> first|rfl|(unfold lX at h; cases h)
noncomputable abbrev VC(f:EF):=Vn λcl E X e=>PE X e (Te (tx cl E X) f)/\∀i y p sp,Wr X i y->PS X (.Assign [.Name y p] e sp) (jN (Te (tx cl E X) f) (jM i))
noncomputable def gO(a:VC f):VE f:=⟨a.ck,a.cs,λq O h=>(a.ok q O h).1⟩
noncomputable def aE(a:VE aA):VC aA where
 ck Γ e:=lX e&&a.ck Γ e
 cs:=a.cs
 ok q o h:=by
  simp only[an]at h
  have pa:=a.ok q o h.2
  exact⟨pa,λi y p sp w=>Cm o.d w.1 w.2.1 pa (pN h.1) w.2.2⟩
noncomputable def zE(Γ : Gx)(i:Nat)(a:VC f):Stmt->Bool
 |.Assign [.Name x _] v _=>uT Γ i x&&a.ck Γ v
 |_=>false
theorem Qt{a:VC f}(q:∀y∈a.cs,y.ok cl X)(o:Ox cl Γ E X)(h:zE Γ i a e=true):PS X e (jN (Te (tx cl E X) f) (jM i)):=by
 unfold zE at h
 split at h
 case h_2=>cases h
 simp only[an]at h
 exact(a.ok q o h.2).2 _ _ _ _ (zB o h.1)
noncomputable def uV(f:EF)(g:GF):SF:=λρ=>(f ρ).bind λp=>match p.1 with
 |.v T _=>(g T p.2).bind λρ'=>.ok (.nx,ρ')
 |.s _=>.bad
theorem Qu{t:Tx}(nx:∀T ρ y,g T ρ ≠ .ex y)(h:Ts t (uV f g) D σ H):jN (Te t f) (nQ t.K g js) D σ H:=by
 obtain⟨R,ρ,G,F,e,h⟩:=h
 refine dh e .refl h λp h v G1 H1 F1 e1 s1 v1=>?_
 obtain⟨r,ρ1⟩:=p
 cases r with
 |s i=>exact h.elim
 |v T fr =>
  obtain⟨G2,e2,s2,_,r⟩:=e1.rA e s1 v1 rfl
  obtain⟨ρ',k,h⟩:=h.okb (nx T ρ1)
  exact⟨R,ρ1,G2,F1,T,e2,r,by rw[k]; exact λσ' F' e' hf _=>h σ' G2 H1 F' e' (s2.trans (.sub hf))⟩
noncomputable def sA(i:Nat)(a:VC aA):VS (uV aA (gN i)) where
 ck Γ e:=zE Γ i a e
 cs:=a.cs
 ok q o h:=(Qt q o h).imp λ_ _ _ h=>Te.imp (Qu (js:=[i]) Qq h) λ_ _=>Qs
noncomputable def Qv(i:Nat)(f:EF):SF:=λρ=>(f ρ).bind λp=>match p.1 with
 |.v (.lst ts) true=>.ok (.nx,p.2.set i (.ow ts))
 |_=>.bad
noncomputable def sO(i:Nat)(a:VC aA):VS (Qv i aA) where
 ck Γ e:=zE Γ i a e
 cs:=a.cs
 ok q o h:=by
  refine(Qt q o h).imp λD σ H=>bF λR ρ G F e h=>dh e .refl h λp h v G1 H1 F1 e1 s1 v1=>?_
  obtain⟨r,ρ1⟩:=p
  dsimp only at h
  split at h
  case h_2=>exact h.elim
  obtain⟨⟨a,xs,us,rfl,z,n,g,hx,r⟩,f⟩:=v1
  cases z
  obtain⟨F',e',hf⟩:=e1.aeA i hx g (f rfl a rfl) (e.rn n) r
  exact h _ G1 H1 F' e' ⟨s1.gg,s1.fr,s1.nw,λb z=>(hf b z).elim (λz=>.inl (z▸n)) (s1.nf b),s1.dm⟩
noncomputable def Qw:Expr->Bool
 |.Tuple .. => false
 |_=>true
theorem aeE(h:Qw v=true):swappedStores [.Tuple l k p] v env=pure none:=by
 cases v <;> first|rfl|cases h
noncomputable def Qx(a:VE aA)(g:VG iQ jY):VS (uV aA iQ) where
 ck Γ e:=jB e λaL v _=>aR aL λbA bG=>jQ bA λl k p=>aU bG (lX v&&Qw v&&a.ck Γ v&&g.ck Γ (.Tuple l k p))
 cs:=a.cs++g.cs
 ok q o h:=by
  walk_at "o"
  simp only[an]at h
  obtain⟨⟨⟨h1,h2⟩,h3⟩,h4⟩:=h
  obtain⟨pg,ng,eg⟩:=g.ok (mr q) o h4
  exact(Ck (a.ok (ml q) o h3) pg (by unfold swapsWithSole; exact pN h1) (aeE h2) (by rw[Gi eg]; rfl)).imp λ_ _ _=>Qu ng
noncomputable def Gm(Γ : Gx)(i:Nat)(x:Str):Bool := Γ.N[i]? == some x&&Γ.sc.names.lookup x == some .local
theorem rD(o:Ox cl Γ E X)(h:Gm Γ i x=true):X.N[i]?=some x/\X.env.scope.names.lookup x=some .local:=by
 obtain⟨h1,h2⟩:=an.mp h
 exact⟨by rw[o.N]; exact eq_of_beq h1,by rw[o.s]; exact eq_of_beq h2⟩
theorem aeF{env:Env}(n1:notStar u=true)(n2:notStar v=true)(k1:env.scope.names.lookup x=some .local)(k2:env.scope.names.lookup y=some .local)(h4:p.line=p'.line)(e1:(foldedForSure 8 u&&foldedForSure 8 v)=false)(e2:(constantsAlone 8 u&&constantsAlone 8 v)=false)(h8:x≠y)(h9:env.scope.kind=.function):swappedStores [.Tuple [.Name x p,.Name y p'] k q] (.Tuple [u,v] k' q') env=pure (some [x,y]):=by
 have kx:env.kindOf x=some .local:=k1
 have ky:env.kindOf y=some .local:=k2
 have hb:env.blockKind=.function:=by unfold Env.blockKind; rw[h9]; rfl
 unfold swappedStores
 have hy:(y == x)=false:=by simpa using λz=>h8 (z.symm)
 have hx:(x == y)=false:=by simpa using h8
 have ep:∀(z:Str) (p:Pos),(Expr.Name z p).pos=p:=λ_ _=>rfl
 simp[hb,kx,ky,h4,List.eraseDups,List.filterMap_cons,ep,List.eraseDupsBy,List.eraseDupsBy.loop,hx,hy]
 rw[if_neg]
 .rw[if_neg λh=>(by rw[h.1,h.2]at e1; cases e1),if_neg λh=>(by rw[h.1,h.2]at e2; cases e2)]
 .rintro(h|h)
  .cases u <;> first|cases h; done|cases n1
  .cases v <;> first|cases h; done|cases n2
noncomputable def Qy(i j:Nat)(fa:AF):SF:=λρ=>(fa ρ).bind λp=>(cls p.1).bind λTs=>match Ts with
 | [T,U]=>.ok (.nx,(p.2.set i (.sh T)).set j (.sh U))
 |_=>.bad
noncomputable def Qz(i j:Nat)(a:VA aA):VS (Qy i j aA) where
 ck Γ e:=jB e λaL bA _=>aR aL λbG cN=>jQ bG λeU _ _=>aR eU λgM lY=>atName gM λx p=>aR lY λuW uX=>atName uW λy p'=>aU uX (aU cN (jQ bA λGn _ _=>aR Gn λu Gp=>aR Gp λv Gq=>aU Gq (Gm Γ i x&&Gm Γ j y&&decide (i≠j)&&decide (p.line=p'.line)&&a.ck Γ [u,v] && !(foldedForSure 8 u&&foldedForSure 8 v) && !(constantsAlone 8 u&&constantsAlone 8 v)&&decide (x≠y)&&decide (Γ.sc.kind=.function))))
 cs:=a.cs
 ok q o h:=by
  walk_at "o"
  simp only[an]at h
  obtain⟨⟨⟨⟨⟨⟨⟨⟨h1,h2⟩,h3⟩,h4⟩,h5⟩,h6⟩,h7⟩,h8⟩,h9⟩:=h
  obtain⟨pa,_,na⟩:=a.ok q o h5
  refine(aaU o.l o.d (rD o h1).1 (rD o h2).1 (of_decide_eq_true h3) (rD o h1).2 (rD o h2).2 pa (aeF (na _ (List.mem_cons_self ..)) (na _ (List.mem_cons_of_mem _ (List.mem_cons_self ..))) (rD o h1).2 (rD o h2).2 (of_decide_eq_true h4) ((Bool.not_eq_true' _).mp h6) ((Bool.not_eq_true' _).mp h7) (of_decide_eq_true h8) (by rw[o.s]; exact of_decide_eq_true h9)) rfl).imp λD σ H=>bF λR ρ G F e h=>lH e .refl h λp h vs G1 H1 F1 e1 s1 v1=>?_
  obtain⟨Ts,k1,h⟩:=h.okb (nF _)
  obtain⟨G2,e2,s2,_,r⟩:=e1.vis e s1 v1 k1
  split at h
  case h_2=>exact h.elim
  cases r with
  |cons r1 r =>
   cases r with
   |cons r2 r =>
    cases r
    obtain⟨F3,e3,f3⟩:=e2.Gd i r1
    obtain⟨F4,e4,f4⟩:=e3.Gd j r2
    exact⟨_,_,rfl,h _ G2 H1 F4 e4 (s2.trans (.sub λb z=>f3 b (f4 b z)))⟩
noncomputable def QB(f:EF):SF:=λρ=>(f ρ).bind λp=>.ok (.nx,p.2)
noncomputable def jf(a:VE aA):VS (QB aA) where
 ck Γ e:=yx e λx _=>lX x&&a.ck Γ x
 cs:=a.cs
 ok q o h:=by
  walk_at "o"
  simp only[an]at h
  exact(aaH (a.ok q o h.2) (pN h.1)).imp λD σ H=>bF λR ρ G F e h=>dh e .refl h λp h v G1 H1 F1 e1 s1 v1=>h σ G1 H1 F1 e1 s1
noncomputable def QC(f:EF):SF:=λρ=>(f ρ).bind λp=>match p.1 with
 |.v T fr=>.ok (.rt T fr,p.2)
 |.s i=>match p.2[i]? with
  |some (.ow ts)=>.ok (.rt (.lst ts) true,p.2)
  |_=>.bad
noncomputable def aG(a:VE aA):VS (QC aA) where
 ck Γ e:=qX e λaL _=>lO aL λx=>a.ck Γ x
 cs:=a.cs
 ok q o h:=by
  walk_at "o"
  refine(Ci (a.ok q o h)).imp λD σ H=>bF λR ρ G F e h=>dh e .refl h λp h v G1 H1 F1 e1 s1 v1=>?_
  obtain⟨r,ρ1⟩:=p
  have rg:=λb z=>(e1.rg b z).1
  match r,h,v1 with
  |.v T false,h,v1=>exact h v G1 H1 ⟨s1.gg,⟨s1.fr,e1.tb⟩,e1.sub,s1.nw,rg,v1.1⟩
  |.v T true,h,⟨⟨a,xs,ts,q1,q2,n,g,q3,q4⟩,_⟩=>exact h v G1 H1 ⟨s1.gg,⟨s1.fr,e1.tb⟩,e1.sub,s1.nw,rg,a,xs,ts,q1,q2,.inl n,e.rn n,g,q3,q4⟩
  |.s i,h,v1 =>
   dsimp only at h
   split at h
   case h_2=>exact h.elim
   rename_i ts k
   have z:=e1.sl i
   rw[k]at z
   obtain⟨a,xs,h1,h2,h3,h4,h5⟩:=z
   have f:Fn F1 a:=⟨i,by rw[h2]; exact List.mem_singleton.mpr rfl⟩
   have v1 : σ[i]?=some (some v):=v1
   rw[h1]at v1
   cases v1
   exact h _ G1 H1 ⟨s1.gg,⟨s1.fr,e1.tb⟩,e1.sub,s1.nw,rg,a,xs,ts,rfl,rfl,s1.nf a f,h3,e1.hid a f,h4,h5⟩
noncomputable def QD(c:BF)(f g:SF):SF:=λρ=>(c ρ).bind λp=>if p.1=true then f p.2 else g p.2
noncomputable def sI(t:VT FJ)(a:VB aA)(b:VB bT):VS (QD FJ aA bT) where
 ck Γ e:=yC e λz x y _=>t.ck Γ z&&a.ck Γ x&&b.ck Γ y
 cs:=t.cs++(a.cs++b.cs)
 ok q o h:=by
  walk_at "o"
  simp only[an]at h
  refine(aaK (t.ok (ml q) o h.1.1) (a.ok (ml (mr q)) o h.1.2) (b.ok (mr (mr q)) o h.2)).imp λD σ H=>bF λR ρ G F e h=>m9 e .refl h λp h G1 H1 F1 e1 s1=>?_
  split at h <;> rename_i c
  .rw[if_pos c]; exact zy e1 s1 h
  .rw[if_neg c]; exact zy e1 s1 h
noncomputable def cL(i:Nat)(ρ : En):En:=match ρ[i]? with
 |some (.ow ts)=>ρ.set i (.sh (.lst ts))
 |_=>ρ
theorem Ok.cL{K:PySem.W.Frag}(e:Ok K R ρ σ G H F)(i:Nat):∃G' F',Ok K R (L2.cL i ρ) σ G' H F'/\aB K G H F G' H F':=by
 unfold L2.cL
 split
 case h_2=>exact⟨G,F,e,.refl⟩
 rename_i ts k
 have z:=e.sl i
 rw[k]at z
 obtain⟨a,xs,h1,h2,h3,h4,h5⟩:=z
 have f:Fn F a:=⟨i,by rw[h2]; exact List.mem_singleton.mpr rfl⟩
 have g:=e.hid a f
 have m:Same G (upd G a (.lst xs)):=fC g _
 have l:=(List.getElem?_eq_some_iff.mp k).1
 refine⟨_,eG F i [],e.one (G':=upd G a (.lst xs)) i [] (by rw[List.length_set,e.len]) (λj n=>⟨gq n,rfl⟩) m (λb o q=>?_) e.tb (λb q=>?_) (λ_ _ _ _ _ h=>h) (λb h=>(e.rg b h).2) (λb h=>by cases h) ?_,m,λ_ _ h _ _=>h,λb q=>?_,λb z=>?_,λ_ h=>h⟩
 .by_cases z:b=a
  .subst z; rw[bN]at q; rw[h4]; exact q
  .rw[aH z]at q; exact e.sub b o q
 .by_cases z:b=a
  .subst z; exact .inr ⟨λj n z=>n (e.di j i b z (by rw[h2]; exact List.mem_singleton.mpr rfl)),e.tb.nt h4,h3⟩
  .rw[aH z]at q; exact .inl q
 .rw[eY l]
  exact⟨rfl,.ref a,h1,.lst (aM.of bN) (h5.mono m)⟩
 .by_cases z:b=a
  .subst z; exact .inr (.inr f)
  .rw[aH z]at q; exact .inl q
 .rcases jU z with z|⟨j,_,z⟩
  .cases z
  .exact .inr ⟨j,z⟩
noncomputable def aeG(i:Nat)(f:SF):SF:=λρ=>f (cL i ρ)
noncomputable def aeH(c:Str)(f:EF):SF:=λρ=>(f ρ).bind λ_=>.ex c
noncomputable def rE(x:Str)(a:VE aA):VS (aeH x aA) where
 ck Γ e:=yD e λaL bA _=>lO aL λbG=>f9 bG λcN eU gM _=>atName cN λy _=>aR eU λv lY=>aU lY (aU gM (pA bA (y == x&&Γ.R.contains y&&je Γ y&&notStar v&&a.ck Γ v)))
 cs:=a.cs
 ok q o h:=by
  walk_at "o"
  simp only[an]at h
  obtain⟨⟨⟨⟨h1,h2⟩,h3⟩,h4⟩,h5⟩:=h
  cases eq_of_beq h1
  exact(acQ (o.R _ (by simpa using h2)).2 (o.R _ (by simpa using h2)).1 PySem.F.excBase_ValueError o.l (a.ok q o h5) (cX o h3).1 (cX o h3).2 (iy h4)).imp λD σ H=>bF λR ρ G F e h=>dh e .refl h λp h v G1 H1 F1 e1 s1 v1=>⟨rfl,h H1 ⟨s1.fr,e1.tb⟩⟩
noncomputable def cU{α : Type}:Rs α -> Rs α
 |.bad=>.bad
 |.ex _=>.bad
 |.ok a=>.ok a
theorem PS.iK{X:Cx}{st:Stmt}{t:TS}(h:PS X.iK st t):PS X st t:=⟨λpins s σ H D I hw =>
 wpAny_mono (h pins s σ H D (I.wish _) hw) (λ_ _ q=>q.jz) λ_ _ z=>False.elim z⟩
noncomputable def uY(f:SF):SF:=λρ=>cU (f ρ)
noncomputable def nG(Γ : Gx):Gx:={Γ with R:=[],nx:=true,L:=[] }
theorem aeI(o:Ox cl Γ E X):Ox cl (nG Γ) E0 X.iK:=⟨o.N,o.s,o.d,o.l,o.r,N7,o.B,(λ_ z=>nomatch z),o.x,o.f,(λ_=>rfl),λ_ z=>nomatch z⟩
noncomputable def sN(a:VS aA):VS (uY aA) where
 ck Γ e:=a.ck (nG Γ) e
 cs:=a.cs
 ok:=@λcl E Γ X e q o h=>(PS.iK (a.ok (X:=X.iK) q (aeI o) h)).imp λD σ H=>bF λR ρ G F e h=>⟨R,ρ,G,F,e,by
  unfold uY at h
  cases k:aA ρ <;> rw[k]at h <;> first|exact h|exact h.elim⟩
theorem QG(o:Ox cl Γ E X)(h : Γ.nx=true):PassesOwn (model X.prog X.w) X.A X.env X.xe:=by
 rw[o.n h]; exact .never
noncomputable def uZ(c:BF)(b:SF):Nat->SF
 | 0=>λ_=>.bad
 | n + 1=>λρ => (c ρ).bind λp=>if p.1=true then (b p.2).bind λq=>(match q.1 with
  |.nx=>uZ c b n q.2
  |.ct=>uZ c b n q.2
  |.bk=>.ok (.nx,q.2)
  |.rt T fr=>.ok (.rt T fr,q.2))else .ok (.nx,p.2)
noncomputable def QH(fu:En->Nat)(c:BF)(b:SF):SF:=λρ=>uZ c b (fu ρ) ρ
noncomputable def sW(fu:En->Nat)(k:VT rF)(b:VB bT):VS (QH fu rF bT) where
 ck Γ e:=yE e λt l aL _=>aU aL (Γ.nx&&k.ck Γ t&&b.ck Γ l)
 cs:=k.cs++b.cs
 ok:=@λcl E Γ X e q o h=>by
  walk_at "o"
  simp only[an]at h
  refine(aaW (QG o h.1.1) (k.ok (ml q) o h.1.2) (b.ok (mr q) o h.2)).imp λD σ H=>bF λR ρ G F e h=>?_
  refine⟨λm σ' H'=>∃ρ' G' F',Ok (aq X.K) R ρ' σ' G' H' F'/\aB (aq X.K) G H F G' H' F'/\bB (tx cl E X) H F (uZ rF bT m ρ') (nO (tx cl E X) R G H F D),⟨fu ρ,ρ,G,F,e,.refl,h⟩,?_⟩
  rintro m σ1 H1 ⟨ρ1,G1,F1,e1,s1,h1⟩
  cases m with
  |zero=>exact h1.elim
  |succ n =>
   refine m9 e1 s1 h1 λp h G2 H2 F2 e2 s2=>?_
   split at h <;> rename_i d
   .rw[if_pos d]
    refine⟨_,λσ' H' q=>⟨n,Nat.lt_succ_self n,q⟩,R,p.2,G2,F2,e2,h.run (s1.trans s2) λq h=>?_⟩
    obtain⟨fl,ρ3⟩:=q
    cases fl with
    |nx=>exact λσ3 G3 H3 F3 e3 s3=>⟨ρ3,G3,F3,e3,(s1.trans s2).trans s3,h⟩
    |ct=>exact λσ3 G3 H3 F3 e3 s3=>⟨ρ3,G3,F3,e3,(s1.trans s2).trans s3,h⟩
    |bk=>exact λσ3 G3 H3 F3 e3 s3=>h σ3 G3 H3 F3 e3 ((s1.trans s2).trans s3)
    |rt T fr=>exact λv G' H' r=>h v G' H' (r.back (s1.trans s2))
   .rw[if_neg d]
    exact h σ1 G2 H2 F2 e2 (s1.trans s2)
noncomputable def zF(K:PySem.W.Frag)(G:Hp)(J:It)(us:List Tr):Prop:=∀G' H',Same G G'->Same G' H'->∀i,(i=us.length->J.stop i H')/\∀u,us[i]?=some u->J.go i H'/\∀x dM,J.oM i H' x dM->∃G'',Gw K G' H' G'' dM/\Rep K G'' x u
noncomputable def Ti(t:Tx)(f:IF):TI:=λσ H Q=>∃R ρ G F,Ok t.K R ρ σ G H F/\bB t H F (f ρ) λp=>∀J G' H' F',Ok t.K R p.2 σ G' H' F'->aB t.K G H F G' H' F'->zF t.K G' J p.1->Q J H'
theorem PI.imp(h:PI X tg e t)(i:∀σ H Q,u σ H Q->t σ H Q):PI X tg e u:=λpins s σ H Q I q=>h pins s σ H Q I (i σ H Q q)
noncomputable def Gu:Expr->Bool
 |.Set .. => false
 |_=>true
theorem nU(h:Gu e=true)(x:Value):foldedSetIterable e env x=pure x:=by
 cases e <;> first|rfl|cases h
noncomputable abbrev VI(f:IF):=Vn (τ := Expr × Expr) λcl E X e=>PI X e.1 e.2 (Ti (tx cl E X) f)/\Gu e.2=true
noncomputable def jZ(g:GF)(b:SF):List Tr->SF
 | []=>λρ=>.ok (.nx,ρ)
 | u :: us=>λρ => (g u ρ).bind λρ1=>(b ρ1).bind λq=>(match q.1 with
  |.nx=>jZ g b us q.2
  |.ct=>jZ g b us q.2
  |.bk=>.ok (.nx,q.2)
  |.rt T fr=>.ok (.rt T fr,q.2))
noncomputable def QJ(fi:IF)(g:GF)(b:SF):SF:=λρ=>(fi ρ).bind λp=>jZ g b p.1 p.2
noncomputable def sF(i:VI lZ)(g:VG iQ jY)(b:VB bT):VS (QJ lZ iQ bT) where
 ck Γ e:=yF e λt y l aL _=>aU aL (Γ.nx&&i.ck Γ (t,y)&&g.ck Γ t&&b.ck Γ l)
 cs:=i.cs++(g.cs++b.cs)
 ok:=@λcl E Γ X e q o h=>by
  walk_at "o"
  simp only[an]at h
  obtain⟨⟨⟨h1,h2⟩,h3⟩,h4⟩:=h
  obtain⟨pi,ni⟩:=i.ok (ml q) o h2
  obtain⟨pg,ng,_⟩:=g.ok (ml (mr q)) o h3
  refine(aa7 (QG o h1) o.l pi pg (b.ok (mr (mr q)) o h4) (nU ni)).imp λD σ H=>bF λR ρ G F e h=>⟨R,ρ,G,F,e,h.run (aB.refl (G:=G)) λp h J G1 H1 F1 e1 s1 it=>?_⟩
  obtain⟨us,ρ1⟩:=p
  refine⟨λi m σ' H'=>m=us.length-i/\i<=us.length/\∃ρ' G' F',Ok (aq X.K) R ρ' σ' G' H' F'/\aB (aq X.K) G H F G' H' F'/\Same G1 G'/\bB (tx cl E X) H F (jZ iQ bT (us.drop i) ρ') (nO (tx cl E X) R G H F D),⟨us.length,by simp,Nat.zero_le _,ρ1,G1,F1,e1,s1,Same.refl _,h⟩,?_⟩
  rintro i m σ2 H2 ⟨rfl,hi,ρ2,G2,F2,e2,s2,m2,h2⟩
  have q:=it G2 H2 m2 e2.sub i
  by_cases hlt:i<us.length
  .rw[List.drop_eq_getElem_cons hlt]at h2
   obtain⟨go,y⟩:=q.2 us[i] (by simp[hlt])
   refine .inr ⟨go,_,λσ' H' z=>⟨us.length-(i+1),by omega,rfl,hlt,z⟩,λx H3 yl=>?_⟩
   obtain⟨G3,w3,r3⟩:=y x H3 yl
   obtain⟨e3,s3⟩:=e2.grow w3
   obtain⟨ρ4,k4,h⟩:=h2.okb (ng _ _)
   refine⟨R,ρ2,G3,F2,_,e3,r3,?_⟩
   rw[k4]
   intro σ4 F4 e4 f4 _
   have s4:=s3.trans (aB.sub f4)
   refine⟨R,ρ4,G3,F4,e4,h.run (s2.trans s4) λr h=>?_⟩
   obtain⟨fl,ρ5⟩:=r
   cases fl with
   |nx=>exact λσ5 G5 H5 F5 e5 s5=>⟨ρ5,G5,F5,e5,(s2.trans s4).trans s5,m2.trans (s4.gg.trans s5.gg),h⟩
   |ct=>exact λσ5 G5 H5 F5 e5 s5=>⟨ρ5,G5,F5,e5,(s2.trans s4).trans s5,m2.trans (s4.gg.trans s5.gg),h⟩
   |bk=>exact λσ5 G5 H5 F5 e5 s5=>h σ5 G5 H5 F5 e5 ((s2.trans s4).trans s5)
   |rt T fr=>exact λv G' H' r=>h v G' H' (r.back (s2.trans s4))
  .have z:i=us.length:=by omega
   subst z
   rw[List.drop_length]at h2
   exact .inl ⟨q.1 rfl,h2 σ2 G2 H2 F2 e2 s2⟩
noncomputable abbrev QK(h:Heap)(T:Addr)(a b c:Value):Prop:=h.get? T=some {cls:=.type "tuple",data:=.seq #[a,b,c] }
noncomputable def QL(m1 m2 m3 y I O j1 j2 j3:Addr)(i:Nat)(h:Heap):Prop:=IsZip h y I O .none/\QK h I (.ref j1) (.ref j2) (.ref j3)/\(∃a b c,QK h O a b c)/\h.IsListIter j1 m1 i/\h.IsListIter j2 m2 i/\h.IsListIter j3 m3 i
section
variable {P:Program}{w:World}{K:PySem.W.Frag}
theorem QL.at(st:QL m1 m2 m3 y I O j1 j2 j3 i h):∀b∈[y,I,O,j1,j2,j3],∃o,h.get? b=some o/\∀v,o.data ≠ .cell v:=λb hb=>by
 obtain⟨hy,hI,⟨a,b',c,hO⟩,⟨o1,e1,_,d1⟩,⟨o2,e2,_,d2⟩,⟨o3,e3,_,d3⟩⟩:=st
 simp only[List.mem_cons,List.not_mem_nil,or_false]at hb
 rcases hb with rfl|rfl|rfl|rfl|rfl|rfl
 .exact⟨_,hy,λv q=>nomatch q⟩
 .exact⟨_,hI,λv q=>nomatch q⟩
 .exact⟨_,hO,λv q=>nomatch q⟩
 .exact⟨o1,e1,λv q=>by rw[d1]at q; cases q⟩
 .exact⟨o2,e2,λv q=>by rw[d2]at q; cases q⟩
 .exact⟨o3,e3,λv q=>by rw[d3]at q; cases q⟩
end
theorem n5(n m:Nat)(h:m<n):m∉[n+5,n+4,n,n+1,n+2]:=by
 simp only[List.mem_cons,List.not_mem_nil,or_false,not_or]
 lia
noncomputable def QM(K:PySem.W.Frag)(tl:TE):TI:=λσ H R=>Ly K tl σ H R\/Lz K tl σ H R
theorem aeJ(hl:PE X l tl):PI X tg l (QM X.K tl):=λpins s σ H R I h=>by
 rcases h with h|h
 .exact aa0 hl pins s σ H R I h
 .exact aa1 hl pins s σ H R I h
noncomputable def Bg:Rv->Rs (List Tr × Bool)
 |.v (.lst ts) _=>.ok (ts,true)
 |.v (.tup ts) _=>.ok (ts,false)
 |_=>.bad
noncomputable def zG(f:EF):IF:=λρ=>(f ρ).bind λp=>(Bg p.1).bind λz=>.ok (z.1,p.2)
theorem aeK{K:PySem.W.Frag}(q:aM (aq K) G a xs)(r:au (aq K) G xs us):zF (aq K) G (Cu K a) us:=λG' H' m s i=>by
 have q':=(s.seq (m.seq q)).toK
 refine⟨λz=>⟨xs,q',by rw[r.length]; lia⟩,λu hu=>?_⟩
 obtain⟨x,hx,rx⟩:=r.nj hu
 refine⟨⟨xs,x,q',hx⟩,λy dM ⟨e,z⟩=>?_⟩
 have:=z xs q'
 rw[hx]at this
 cases this
 subst e
 exact⟨G',.refl s,rx.mono m⟩
theorem aeL{K:PySem.W.Frag}(q:aW (aq K) G a xs)(r:au (aq K) G xs us):zF (aq K) G (Cv K a) us:=λG' H' m s i=>by
 have q':=(s.jA (m.jA q)).toK
 refine⟨λz=>⟨xs,q',by rw[r.length]; lia⟩,λu hu=>?_⟩
 obtain⟨x,hx,rx⟩:=r.nj hu
 refine⟨⟨xs,x,q',hx⟩,λy dM ⟨e,z⟩=>?_⟩
 have:=z xs q'
 rw[hx]at this
 cases this
 subst e
 exact⟨G',.refl s,rx.mono m⟩
theorem aeM{K:PySem.W.Frag}(h:Ti ⟨aq K,xe⟩ (zG f) σ H Q):QM K (Te ⟨aq K,xe⟩ f) σ H Q:=by
 obtain⟨R,ρ,G,F,e,h⟩:=h
 unfold zG at h
 cases k:f ρ with
 |bad=>rw[k]at h; exact h.elim
 |ex c=>rw[k]at h; exact .inl ⟨R,ρ,G,F,e,by rw[k]; exact h⟩
 |ok p =>
  obtain⟨r,ρ1⟩:=p
  rw[k]at h
  match r,h,k with
  |.v (.lst ts) fr,h,k =>
   refine .inl ⟨R,ρ,G,F,e,?_⟩
   rw[k]
   intro v G1 H1 F1 e1 s1 v1
   obtain⟨G2,e2,s2,_,r⟩:=e1.rA e s1 v1 rfl
   cases r with
   |lst q r=>exact⟨_,rfl,⟨_,(e2.sub.seq q).toK⟩,h _ G2 H1 F1 e2 s2 (aeK q r)⟩
  |.v (.tup ts) fr,h,k =>
   refine .inr ⟨R,ρ,G,F,e,?_⟩
   rw[k]
   intro v G1 H1 F1 e1 s1 v1
   obtain⟨G2,e2,s2,_,r⟩:=e1.rA e s1 v1 rfl
   cases r with
   |tup q r=>exact⟨_,rfl,⟨_,(e2.sub.jA q).toK⟩,h _ G2 H1 F1 e2 s2 (aeL q r)⟩
noncomputable def dW(a:VE aA):VI (zG aA) where
 ck Γ e:=Gu e.2&&a.ck Γ e.2
 cs:=a.cs
 ok q o h:=⟨(aeJ (a.ok q o (an.mp h).2)).imp λ_ _ _=>aeM,(an.mp h).1⟩
noncomputable def upTo(lo:Int):Nat->List Tr
 | 0=>[]
 |n+1=>.int lo::upTo (lo+1) n
theorem aeN(lo:Int):∀n,(upTo lo n).length=n:=λn=>by
 induction n generalizing lo with
 |zero=>rfl
 |succ n ih=>rw[upTo,List.length_cons,ih]
theorem aeO{lo:Int}{n i:Nat}(h:(upTo lo n)[i]?=some u):i<n/\u=.int (lo+i):=by
 induction n generalizing lo i with
 |zero=>simp[upTo]at h
 |succ n ih =>
  rw[upTo]at h
  cases i with
  |zero =>
   simp at h
   subst h
   exact⟨Nat.zero_lt_succ _,by simp⟩
  |succ i =>
   obtain⟨h1,h2⟩:=ih (lo:=lo+1) (i:=i) (by simpa using h)
   refine⟨Nat.succ_lt_succ h1,h2.trans ?_⟩
   congr 1
   lia
theorem aeP{K:PySem.W.Frag}(lo:Int)(n:Nat):zF K G (wZ lo n) (upTo lo n):=λG' H' m s i=>by
 refine⟨λz=>?_,λu hu=>?_⟩
 .rw[aeN]at z
  exact Nat.le_of_eq z.symm
 .obtain⟨h1,rfl⟩:=aeO hu
  refine⟨h1,λx dM yl=>?_⟩
  obtain⟨rfl,rfl⟩:=yl
  exact⟨G',.refl s,.int _⟩
noncomputable def okR(i:Int):Bool:=decide (-1000000<=i)&&decide (i<=1000000)
theorem aeQ(h:okR i=true) : -1000000<=i/\i<=1000000:=by simpa[okR]using h
noncomputable def Gv(fa:AF):IF:=λρ=>(fa ρ).bind λp=>(drs p.2 p.1).bind λas=>match as with
 | [.int j]=>if okR j=true then .ok (upTo 0 j.toNat,p.2)else .bad
 |_=>.bad
noncomputable def j4(a:VA aA):VI (Gv aA) where
 ck Γ e:=f9 e.2 λ_ aL _ _=>aR aL λ_ bA=>aU bA (Γ.B.contains ("range" : Str)&&pG Γ "range" a e.2)
 cs:=a.cs
 ok:=@λcl E Γ X e q o h=>by
  obtain⟨u,e⟩:=e
  dsimp only at h
  walk_at "O"
  obtain⟨h1,h⟩:=an.mp h
  obtain⟨p,b,es,p',e',h2,h3⟩:=uR h
  cases e'
  obtain⟨pa,la,na⟩:=a.ok q o h3
  refine⟨(aa4 (cX o h2).1 (o.B _ (by simpa using h1)) pa (iy (na _ (List.mem_cons_self ..)))).imp λσ H Q=>bF λR ρ G F e h=>lH e .refl h λp h vs G1 H1 F1 e1 s1 v1=>?_,rfl⟩
  obtain⟨as,k1,h⟩:=h.okb (uN _ _)
  have r:=uO e1 v1 k1
  split at h
  case h_2=>exact h.elim
  split at h
  case isFalse=>exact h.elim
  have c:=aeQ ‹_›
  cases r with
  |cons h1 r1 =>
   cases r1
   rw[h1.int]
   exact⟨_,rfl,by lia,by lia,h _ G1 H1 F1 e1 s1 (aeP 0 _)⟩
theorem Gy:∀{es:List Expr},(∀x∈es,notStar x=true)->∀env,starEach es env=es.map λe=>(false,eval e env)
 | [],_,_=>rfl
 |e::es,h,env=>by
  rw[iy (h e (List.mem_cons_self ..)),Gy (λy m=>h y (List.mem_cons_of_mem _ m)) env]; rfl
theorem yT{K:PySem.W.Frag}(s:Same G H)(h:H p=none)(r:au K G xs ts):∃G',Gw K G H G' (upd H p (.tup xs))/\Rep K G' (.ref p) (.tup ts):=⟨_,.new s h,VN.newT s h r⟩
noncomputable def rG(us vs:List Tr):List Tr:=(us.zip vs).map λp=>.tup [p.1,p.2]
noncomputable def QS(fa:AF):IF:=λρ=>(fa ρ).bind λp=>match p.1 with
 | [.v (.lst us) _,.v (.lst vs) _]=>.ok (rG us vs,p.2)
 |_=>.bad
theorem QT{K:PySem.W.Frag}(r:au K G vs (.lst us::ts)):∃a xs vs',vs=.ref a::vs'/\aM K G a xs/\au K G xs us/\au K G vs' ts:=by
 cases r with
 |cons h r=>cases h with
  |lst q p=>exact⟨_,_,_,rfl,q,p,r⟩
noncomputable def iZ(a:VA aA):VI (QS aA) where
 ck Γ e:=jQ e.1 λ_ _ _=>f9 e.2 λ_ aL _ _=>aR aL λ_ bA=>aR bA λ_ bG=>aU bG (Γ.B.contains ("zip" : Str)&&pG Γ "zip" a e.2)
 cs:=a.cs
 ok:=@λcl E Γ X e q o h=>by
  obtain⟨u,e⟩:=e
  walk_at "O"
  obtain⟨h1,h⟩:=an.mp h
  obtain⟨p,b,es,p',e',h2,h3⟩:=uR h
  cases e'
  obtain⟨pa,la,na⟩:=a.ok q o h3
  refine⟨(ada (o.B _ (by simpa using h1)) pa (cX o h2).1 (Gy na _) (Gy (λy m=>na y (List.mem_cons_of_mem _ m)) _)).imp λσ H Q=>bF λR ρ G F e h=>lH e .refl h λp h vs G1 H1 F1 e1 s1 v1=>?_,rfl⟩
  split at h
  case h_2=>exact h.elim
  rename_i us _ ws _ ep
  rw[ep]at v1
  obtain⟨G2,e2,s2,_,r⟩:=e1.vis e s1 v1 rfl
  obtain⟨_,_,_,rfl,q1,p1,r⟩:=QT r
  obtain⟨_,_,_,rfl,q2,p2,r⟩:=QT r
  cases r
  refine⟨_,_,rfl,⟨_,(e2.sub.seq q1).toK⟩,⟨_,(e2.sub.seq q2).toK⟩,h _ G2 H1 F1 e2 s2 λG' H' m s i=>?_⟩
  have Gz:=(s.seq (m.seq q1)).toK
  have GC:=(s.seq (m.seq q2)).toK
  refine⟨λz=>⟨_,_,Gz,GC,by rw[p1.length,p2.length,z]; simp[rG]⟩,λu hu=>?_⟩
  unfold rG at hu
  rw[List.getElem?_map]at hu
  obtain⟨p,hp,rfl⟩:=Option.map_eq_some_iff.mp hu
  obtain⟨k1,k2⟩:=List.getElem?_zip_eq_some.mp hp
  obtain⟨x,hx,rx⟩:=p1.nj k1
  obtain⟨y,hy,ry⟩:=p2.nj k2
  refine⟨⟨_,_,x,y,Gz,GC,hx,hy⟩,λv dM yl=>?_⟩
  obtain⟨T,x',y',rfl,fT,rfl,z⟩:=yl
  obtain⟨z1,z2⟩:=z _ _ Gz GC
  rw[hx]at z1
  rw[hy]at z2
  cases z1
  cases z2
  exact yT s fT (.cons (rx.mono m) (.cons (ry.mono m) .nil))
noncomputable def GD:List Tr->List Tr->List Tr->List Tr
 |u::us,v::vs,w::ws=>.tup [u,v,w]::GD us vs ws
 |_,_,_=>[]
noncomputable def aeR(fa:AF):IF:=λρ=>(fa ρ).bind λp=>match p.1 with
 | [.v (.lst us) _,.v (.lst vs) _,.v (.lst ws) _]=>if us.length<=vs.length/\us.length<=ws.length then .ok (GD us vs ws,p.2)else .bad
 |_=>.bad
noncomputable def QV(ifs:List Expr)(env:Env):Sem Bool:=forIn ifs true λc r=>if r=true then do let ok <-isTrue c env (eval c env); pure (ForInStep.yield ok)else pure (ForInStep.yield r)
noncomputable def u0(X:Cx)(ifs:List Expr)(tc:TT):Prop:=∀(pins:List (Addr × Obj)) s σ H Q,Inv X pins σ H s->tc σ H Q->wpAny (model X.prog X.w) X.A (QV ifs X.env) (TP X pins σ Q) X.xe s
theorem QW(h:PT X c tc):u0 X [c] tc:=λpins s σ H Q I q=>wpAny_tests_one (h pins s σ H Q I q)
theorem u5:u0 X [] λ_ H Q=>Q true H:=λpins s σ H Q I q=>wpAny_pure ⟨H,I,q⟩
section
variable {prog:Program}{w:World}{A:Around}{R:Result->Shared->Prop}{s:Shared}
theorem aeS(I:Nat->Shared->Prop)
  (turn:∀n s,I n s->wpAny (model prog w) A (pyNext it) (λr s₁=>match r with
   |none=>R (.ok .next) s₁
   | some v=>wpAny (model prog w) A (letOwnedTupleGo target it v) (λ_ s₁'=>wpAny (model prog w) A (assign target env v) (λ_ s₂ => wpAny (model prog w) A (QV ifs env) (λb s₂'=>if b=true then wpAny (model prog w) A (eval elt env) (λx s₃ =>
     wpAny (model prog w) A (call (.builtin "list.append") [acc,x]) (λ_ s₄=>∃m,m<n/\I m s₄) (λ_ _=>False) s₃) (λ_ _=>False) s₂' else ∃m,m<n/\I m s₂') (λ_ _=>False) s₂) (λ_ _=>False) s₁') (λ_ _=>False) s₁) (λ_ _=>False) s)
  (n:Nat) (h:I n s) :
  codeAny (model prog w) A (.compLoop (.ListComp elt [⟨target,iter,ifs,0⟩] scope pos) 0 it acc env) R s:=by
 refine codeAny_loop rfl I (λn s hI=>?_) n h
 show wpAny _ _ ((compTurn (.ListComp elt [⟨target,iter,ifs,0⟩] scope pos) 0 it acc env).onRaise (λx=>do noteFrame x env; theTreesLotGoes x)) _ _ s
 refine wpAny_noted (wpAny_noRaise ?_)
 rw[compTurn_list]
 refine wpAny_bind (wpAny_standAt (wpAny_bind (wpAny_mono (turn n s hI) (λr s₁ h₁=>?_) λ_ _ h'=>h')))
 cases r with
 |none=>exact wpAny_pure h₁
 |some v =>
  refine wpAny_bind (wpAny_mono h₁ (λ_ s₁' h₁'=>?_) λ_ _ h'=>h')
  refine wpAny_bind (wpAny_mono h₁' (λ_ s₂ h₂=>wpAny_bind (wpAny_mono h₂ (λok s₃ h₃=>?_) λ_ _ h'=>h')) λ_ _ h'=>h')
  cases ok with
  |false=>exact wpAny_pure ⟨rfl,h₃⟩
  |true =>
   exact wpAny_bind (wpAny_bind (wpAny_mono h₃ (λx s₄ h₄=>wpAny_bind (wpAny_mono h₄ (λ_ s₅ h₅=>wpAny_pure (wpAny_pure ⟨rfl,h₅⟩)) λ_ _ h'=>h')) λ_ _ h'=>h'))
end
noncomputable def rH(wi:TI)(g:TG)(src:List (Option Nat))(tc:TT)(te:TE):TE:=λσ H Q=>wi σ H λJ H1=>∀D,H1 D=none ->
 ∃W:Nat->Nat->St->Hp->Prop,(∃m,W 0 m (cR src σ) (upd H1 D (.lst [])))/\∀i m σ' H',W i m σ' H' ->
  (J.stop i H'/\Nx Q D H')\/(J.go i H'/\∀x dM,J.oM i H' x dM->g x σ' dM λσ2 H2=>tc σ2 H2 λb u6=>if b=true then te σ2 u6 λv H3=>∃xs,H3 D=some (.lst xs)/\xs.length<sizeLine/\∃m',m'<m/\W (i+1) m' σ2 (upd H3 D (.lst (xs++[v])))else ∃m',m'<m/\W (i+1) m' σ2 u6)
section
variable {X:Cx}{elt tg iter:Expr}{ifs:List Expr}{scope sc:Scope}{pos:Pos}{No N:List Str}{src:List (Option Nat)}{wi:TI}{g:TG}{te:TE}{tc:TT}
theorem QX{pins:List (Addr × Obj)}{RR:Value->Addr->Result->Shared->Prop}(hsc:X.env.scope=sc)(iM:X.N=No)(S:qG sc No N src scope)(hc:X.calm=true)
  (hi:PI X tg iter wi) (hg:∀C s H ex,PG (cj X N scope C s H ex) tg g) (hq:∀C s H ex,u0 (cj X N scope C s H ex) ifs tc) (he:∀C s H ex,PE (cj X N scope C s H ex) elt te) (I:Inv X pins σ H s) (h:rH wi g src tc te σ H Q)
  (hRR:∀D C H' s' m,Inv X pins σ H' s'->H' C=none->C≠X.env.locals->X.s₀.heap.objs.size<=C->(∀x c,X.env.cells.lookup x=some c->c≠C)->(∀p∈X.pn++pins,p.1≠C)->s'.heap.Ns C m->Q (.ref D) H'->RR (.ref D) C (.ok .next) s') :
  wpAny (model X.prog X.w) X.A (eval iter X.env) (λx s₁=>wpAny (model X.prog X.w) X.A (pyIter x) (λit s₂=>wpAny (model X.prog X.w) X.A (newList []) (λacc s₃ =>
   wpAny (model X.prog X.w) X.A (newFunctionEnv scope X.env.globals (bV X.env.cells scope.names []) [] X.env.qual none .none (some X.env)) (λcenv s₄ =>
    codeAny (model X.prog X.w) X.A (.compStart (.ListComp elt [⟨tg,iter,ifs,0⟩] scope pos) 0 it acc {cenv with scope:=relabel scope X.env }) (RR acc cenv.locals) s₄) X.xe s₃) X.xe s₂) X.xe s₁) X.xe s:=by
 refine aD (hi pins s σ H _ I h) λv s1 h1=>aD h1 λitv s2 h2=>?_
 obtain⟨it,fp,tn,J,H2,e,I2,T,st2,f2,hW⟩:=h2
 subst e
 have hD0:H2 s2.heap.objs.size=none:=I2.hok.fresh (Nat.le_refl _)
 obtain⟨W,⟨m0,w0⟩,turn⟩:=hW s2.heap.objs.size hD0
 have QZ:∀b∈fp,b<s2.heap.objs.size:=λb hb=>by
  obtain⟨o,e,_⟩:=T.obj 0 _ st2 b hb
  exact Heap.lt_size e
 refine wpAny_newObj_type ?_
 have I3:Inv X pins σ (upd H2 s2.heap.objs.size (.lst [])) {s2 with heap:=s2.heap.push {cls:=.type "list",dict:=none,data:=.seq ([]:List Value).toArray } }:=I2.Dn (t':=s2.toks) (ys:=[]) .nil (Nat.zero_le _)
 have f3:∀b∈fp,cA X pins (upd H2 s2.heap.objs.size (.lst [])) b:=λb hb=>by
  obtain⟨q,r⟩:=f2 b hb
  exact⟨by rw[aH (Nat.ne_of_lt (QZ b hb))]; exact q,r⟩
 have st3:tn 0 (s2.heap.push {cls:=.type "list",dict:=none,data:=.seq ([]:List Value).toArray }):=T.keep _ _ _ st2 λb hb o e=>Heap.get?_push_of_some _ e
 have GJ:∀b∈fp,b<(s2.heap.push {cls:=.type "list",dict:=none,data:=.seq ([]:List Value).toArray }).objs.size:=λb hb=>by
  rw[Heap.size_push]; exact Nat.lt_succ_of_lt (QZ b hb)
 generalize hD:s2.heap.objs.size=D at *
 generalize hh3:s2.heap.push {cls:=.type "list",dict:=none,data:=.seq ([]:List Value).toArray }=h3 at *
 generalize hH3:upd H2 D (.lst [])=H3 at *
 refine acC λh₁ hns old ck=>?_
 dsimp only at hns old ck ⊢
 have I4:Inv (cj X N scope h3.objs.size {s2 with heap:=h3 } H3 fp) [] (cR src σ) H3 {s2 with heap:=h₁,toks:=s2.toks+([]:List (Str × Value)).length }:=acD (s:={s2 with heap:=h3 }) hsc iM S I3 f3 GJ hns old ck
 have wu:tn 0 h₁ := T.keep _ _ _ st3 λb hb o e=>old b o e
 have loop:codeAny (model X.prog X.w) X.A (.compLoop (.ListComp elt [⟨tg,iter,ifs,0⟩] scope pos) 0 (.ref it) (.ref D) (compEnvC scope (cellsFrom (h3.objs.size+1) scope.names (bV X.env.cells scope.names [])) h3.objs.size X.env)) (RR (.ref D) h3.objs.size) {s2 with heap:=h₁,toks:=s2.toks+([]:List (Str × Value)).length }:=by
  have stat:∀{H':Hp},(∀b∈fp,H' b=none)->∀b∈fp,cA (cj X N scope h3.objs.size {s2 with heap:=h3 } H3 fp) [] H' b:=λhn b hb=>by
   obtain⟨g0,g1,g2,g3,g4,g5⟩:=f3 b hb
   refine⟨hn b hb,Nat.ne_of_lt (GJ b hb),λz=>?_,.inl hb,λx c e=>?_,λp hp=>absurd (show p∈([]:List (Addr × Obj))from hp) (by simp)⟩
   .rcases List.mem_cons.mp (I3.wN b z)with z|z
    .exact g1 z
    .exact g2 z
   .have e:(cellsFrom (h3.objs.size+1) scope.names (bV X.env.cells scope.names [])).lookup x=some c:=e
    rw[m6,ud]at e
    split at e
    .rename_i z
     cases e
     exact λy=>absurd (Nat.le_trans (ck.empty x c (PySem.mem_of_lookup z)).2 (y▸Nat.le_of_lt (GJ b hb))) (Nat.not_succ_le_self _)
    .rcases oW e with q|q
     .simp at q
     .exact g4 x c q
  refine aeS (λn s'=>∃i σ' H',Inv (cj X N scope h3.objs.size {s2 with heap:=h3 } H3 fp) [] σ' H' s'/\tn i s'.heap/\(∀b∈fp,H' b=none)/\W i n σ' H') ?_ m0 ⟨0,cR src σ,H3,I4,wu,λb hb=>(f3 b hb).1,w0⟩
  rintro n s5 ⟨i,σ5,H5,I5,mO,xg,w5⟩
  rcases turn i n σ5 H5 w5 with⟨stop,qn⟩|⟨go,step⟩
  .refine aD (T.done (cj X N scope h3.objs.size {s2 with heap:=h3 } H3 fp) rfl rfl rfl hc i [] s5 σ5 H5 (λ_ _=>False) I5 (stat xg) mO stop) λr s6 ⟨hr,I6⟩=>?_
   subst hr
   obtain⟨mC,hnC,_⟩:=id I6.loc
   have I7:Inv X pins σ H5 s6:=I3.call' (ch:=fp) I6.os I6.base I6.hok I6.bare λb hb=>by
    obtain⟨g0,g1,g2,g3,g4,g5⟩:=f3 b hb
    exact⟨g3,g1,g4,g5⟩
   refine hRR D h3.objs.size H5 s6 mC I7 I6.free (Nat.ne_of_gt I3.lt) I3.sz (λx c e z=>?_) (λp hp z=>?_) hnC qn
   .obtain⟨v,q⟩:=I3.cell x c e
    exact absurd q.lt (by rw[z]; exact Nat.lt_irrefl _)
   .exact absurd (Heap.lt_size (I3.pin p hp).1) (by rw[z]; exact Nat.lt_irrefl _)
  .refine aD (T.item (cj X N scope h3.objs.size {s2 with heap:=h3 } H3 fp) rfl rfl rfl hc i [] s5 σ5 H5 (λ_ _=>False) I5 (stat xg) mO go) λr s6 ⟨u,hr,h6⟩=>?_
   subst hr
   refine aD h6 λ_ s7 ⟨x,H7,I7,r7,y7,oE,fr7⟩=>?_
   have I7':=I7.pinned (stat fr7) (T.obj _ _ oE)
   refine aD (hg _ _ _ _ _ s7 σ5 H7 x u _ I7' r7 (step x H7 y7)) λ_ s8 ⟨σ8,H8,I8,q8⟩=>?_
   refine aD (hq _ _ _ _ _ s8 σ8 H8 _ I8 q8) λbb s8' ⟨Q5,zH,zJ⟩=>?_
   cases bb with
   |false =>
    rw[if_neg (by decide)]at zJ ⊢
    obtain⟨m',hm,w9⟩:=zJ
    refine⟨m',hm,i+1,σ8,Q5,zH.tX (pins:=[]),T.keep _ _ _ oE λb hb o e=>(zH.pin (b,o) (List.mem_append_right _ (List.mem_append_right _ (qC hb e)))).1,λb hb=>?_,w9⟩
    obtain⟨o,e,d⟩:=T.obj _ _ oE b hb
    exact(zH.pin (b,o) (List.mem_append_right _ (List.mem_append_right _ (qC hb e)))).2.1
   |true =>
   rw[if_pos rfl]at zJ ⊢
   refine aD (he _ _ _ _ _ s8' σ8 Q5 _ zH zJ) λyv s9 ⟨y,H9,I9,r9,q9⟩=>?_
   obtain⟨xs,e9,l9,m',hm,w9⟩:=q9
   refine aD (Nq (X:=cj X N scope h3.objs.size {s2 with heap:=h3 } H3 fp) _ s9 σ8 H9 (.ref D) [y] (.ref D) [yv] (λ_ H'=>W (i+1) m' σ8 H') I9 rfl (.cons r9 .nil) ⟨D,xs,y,rfl,rfl,e9,l9,w9⟩) λ_ GK ⟨_,H10,GP,_,q10⟩=>?_
   refine⟨m',hm,i+1,σ8,H10,GP.tX (pins:=[]),T.keep _ _ _ oE λb hb o e=>(GP.pin (b,o) (List.mem_append_right _ (List.mem_append_right _ (qC hb e)))).1,λb hb=>?_,q10⟩
   obtain⟨o,e,d⟩:=T.obj _ _ oE b hb
   exact(GP.pin (b,o) (List.mem_append_right _ (List.mem_append_right _ (qC hb e)))).2.1
 exact codeAny_compStart_list loop (T.self _ _ _ _ _ wu loop)
theorem zK(hsc:X.env.scope=sc)(iM:X.N=No)(S:qG sc No N src scope)(hc:X.calm=true)
  (hi:PI X tg iter wi) (hg:∀C s H ex,PG (cj X N scope C s H ex) tg g) (hq:∀C s H ex,u0 (cj X N scope C s H ex) ifs tc) (he:∀C s H ex,PE (cj X N scope C s H ex) elt te)
  (hs:∀x,foldedSetIterable iter X.env x=pure x:=by intro _; rfl):PE X (.ListComp elt [⟨tg,iter,ifs,0⟩] scope pos) (rH wi g src tc te):=by
 refine⟨λpins s σ H Q I h=>?_⟩
 rw[eval_ListComp]
 have hcl:closureFor scope X.env=pure (bV X.env.cells scope.names []):=Dt λy hy e=>by
  have k:=S.free y hy e
  rw[<-hsc]at k
  obtain⟨c,q⟩:=I.ok.has y.1 k
  rw[q]; rfl
 refine wpAny_comprehension_free (use:=none) rfl hs hcl S.kind S.names (QX (RR:=λacc C=>compPost (model X.prog X.w) X.A X.xe none (EP X pins σ Q) acc C) hsc iM S hc hi hg hq he I h ?_)
 intro D C H' s' m I' n1 n2 n3 n4 n5 hn q
 refine⟨m,hn,λh' hs'=>⟨.ref D,H',?_,rfl,q⟩⟩
 exact I'.turned (t':=s'.toks) (λb o hb e=>(hs'.2 b hb).trans e) n1 (Ne.symm (Ne.symm n2)) (.inr n3) n4 n5
theorem GQ(hN:X.N.Nodup)(hyi:X.N[i]?=some y)(hy:Loc X.env.scope y)(hsc:X.env.scope=sc)(iM:X.N=No)(S:qG sc No N src scope)(hc:X.calm=true)
  (hi:PI X tg iter wi) (hg:∀C s H ex,PG (cj X N scope C s H ex) tg g) (hq:∀C s H ex,u0 (cj X N scope C s H ex) ifs tc) (he:∀C s H ex,PE (cj X N scope C s H ex) elt te)
  (hsw:swapsWith (.ListComp elt [⟨tg,iter,ifs,0⟩] scope pos) (some (.Name y py)) spos.line X.env=pure true:=by rfl) (hs:∀x,foldedSetIterable iter X.env x=pure x:=by intro _; rfl)
  (hf:X.fn y=true\/X.env.scope.names.lookup y=some .local:=by first|exact .inl rfl|exact .inr rfl|assumption) :
  PS X (.Assign [.Name y py] (.ListComp elt [⟨tg,iter,ifs,0⟩] scope pos) spos) (jN (rH wi g src tc te) (jM i)):=by
 refine⟨λpins s σ H D I h=>?_⟩
 rw[exec_Assign_Name_used _ _ _ _ hsw]
 have hcl:closureFor scope X.env=pure (bV X.env.cells scope.names []):=Dt λy hy e=>by
  have k:=S.free y hy e
  rw[<-hsc]at k
  obtain⟨c,q⟩:=I.ok.has y.1 k
  rw[q]; rfl
 refine wpAny_bind (wpAny_standAt (wpAny_bind ?_))
 show wpAny _ X.A (do let _ <-comprehension (.ListComp elt [⟨tg,iter,ifs,0⟩] scope pos) scope X.env _ (newList []) false (eval iter X.env) (some (assign (.Name y py) X.env))) _ _ s
 refine wpAny_bind (wpAny_mono (wpAny_comprehension_free (use:=some (assign (.Name y py) X.env)) (Q:=λ_ s'=>SP X pins D .next s') rfl hs hcl S.kind S.names
  (QX (Q:=λv H'=>D.nx (σ.set i (some v)) H') (RR:=λacc C=>compPost (model X.prog X.w) X.A X.xe (some (assign (.Name y py) X.env)) (λ_ s'=>SP X pins D .next s') acc C) hsc iM S hc hi hg hq he I h ?_)) (λ_ s' hq=>wpAny_pure (wpAny_pure hq)) λ_ _ e=>e)
 intro Da C H' s' m I' n1 n2 n3 n4 n5 hn q
 show wpAny _ X.A (assign (.Name y py) X.env (.ref Da)) _ _ _
 refine wpAny_assign_Name (K6 I' hN hyi hy (v:=.ref Da) rfl (λs2 I2 hsame=>?_) hf)
 obtain⟨a,hsb,ha⟩:=hsame
 have hCa:C≠a:=by
  rcases ha with z|z
  .rw[z]; exact n2
  .exact λe=>n4 y a z e.symm
 refine⟨m,hn.sameBut hsb hCa,λh' hs'=>⟨σ.set i (some (.ref Da)),H',?_,q⟩⟩
 exact I2.turned (t':=s2.toks) (λb o hb e=>(hs'.2 b hb).trans e) n1 n2 (.inr n3) n4 n5
end
noncomputable def Mu(ρ : En)(i:Nat):Prop:=∃ts,ρ[i]?=some (Sl.ow ts)\/ρ[i]?=some (Sl.rf ts)
noncomputable def aeT:Sl->Sl
 |.dp _=>.un
 |.ob _ _ _=>.un
 |.dt _=>.un
 |s=>s
noncomputable def cO(src:List (Option Nat))(ρ : En):En:=src.map λo=>match o with
 |some j=>aeT ((ρ[j]?).getD .un)
 |none=>.un
noncomputable def aY:List (Option Nat)->En->En->En
 |some j::src,.ow ts::ρi,ρ=>aY src ρi (bH j ts ρ)
 |some j::src,.rf ts::ρi,ρ=>aY src ρi (bH j ts ρ)
 |_::src,_::ρi,ρ=>aY src ρi ρ
 |_,_,ρ=>ρ
noncomputable def jg:Option Sl->Bool
 |some (.ow _)=>true
 |some (.rf _)=>true
 |_=>false
noncomputable def dG:List (Option Nat)->En->En->Bool
 |some j::src,s::ρi,ρ=>(!jg ρ[j]? || jg (some s))&&dG src ρi ρ
 |none::src,_::ρi,ρ=>dG src ρi ρ
 | [],_,_=>true
 |_,[],_=>false
theorem zL:jg ρ[i]?=true↔Mu ρ i:=by
 constructor
 .intro h
  unfold jg at h
  split at h <;> rename_i q
  .exact⟨_,.inl q⟩
  .exact⟨_,.inr q⟩
  .cases h
 .rintro⟨ts,h|h⟩ <;> rw[h] <;> rfl
theorem GR:∀{src:List (Option Nat)} {ρi ρ : En} {k j:Nat},dG src ρi ρ = true->src[k]?=some (some j)->Mu ρ j->Mu ρi k
 | [],_,_,_,_,_,h,_=>by simp at h
 |some j'::src,s::ρi,ρ,k,j,h,hk,m=>by
  unfold dG at h
  rw[Bool.and_eq_true]at h
  cases k with
  |zero =>
   simp at hk
   subst hk
   have h1:=h.1
   rw[zL.mpr m]at h1
   cases s with
   |un=>cases h1
   |sh _=>cases h1
   |dp _=>cases h1
   |ob _ _ _=>cases h1
   |vo _ _=>cases h1
   |dt _=>cases h1
   |ow ts=>exact⟨ts,.inl rfl⟩
   |rf ts=>exact⟨ts,.inr rfl⟩
  |succ k =>
   obtain⟨ts,q⟩:=GR (k:=k) h.2 (by simpa using hk) m
   exact⟨ts,by simpa using q⟩
 |none::src,s::ρi,ρ,k,j,h,hk,m=>by
  unfold dG at h
  cases k with
  |zero=>simp at hk
  |succ k =>
   obtain⟨ts,q⟩:=GR (k:=k) h (by simpa using hk) m
   exact⟨ts,by simpa using q⟩
 |some j'::src,[],ρ,k,j,h,hk,m=>by unfold dG at h; cases h
 |none::src,[],ρ,k,j,h,hk,m=>by unfold dG at h; cases h
noncomputable def Inj(src:List (Option Nat)):Prop:=∀(k k' j:Nat),src[k]?=some (some j)->src[k']?=some (some j)->k=k'
theorem aeU(h:(src.filterMap id).Nodup):Inj src:=by
 induction src with
 |nil=>intro k k' j h1; simp at h1
 |cons o src ih =>
  have tail:Inj src:=by
   cases o with
   |none=>exact ih (by simpa using h)
   |some j=>exact ih (by simpa using(List.nodup_cons.mp (by simpa using h)).2)
  intro k k' j h1 h2
  have no:∀{m:Nat},o=some j->src[m]?=some (some j)->False:=λ{m} e q=>by
   subst e
   have n:=(List.nodup_cons.mp (show(j::src.filterMap id).Nodup by simpa using h)).1
   exact n (List.mem_filterMap.mpr ⟨some j,List.mem_of_getElem? q,rfl⟩)
  cases k with
  |zero =>
   have e1:o=some j:=by simpa using h1
   cases k' with
   |zero=>rfl
   |succ k'=>exact(no e1 (by simpa using h2)).elim
  |succ k =>
   cases k' with
   |zero=>exact(no (by simpa using h2) (by simpa using h1)).elim
   |succ k'=>rw[tail k k' j (by simpa using h1) (by simpa using h2)]
theorem aeV(h : ρ[i]?=ρ'[i]?):(bH i ts ρ)[i]?=(bH i ts ρ')[i]? := by
 unfold bH
 rw[h]
 cases q : ρ'[i]? with
 |none=>dsimp only; rw[h,q]
 |some s =>
  have l':=(List.getElem?_eq_some_iff.mp q).1
  have l:=(List.getElem?_eq_some_iff.mp (h.trans q)).1
  cases s with
  |un=>dsimp only; rw[h,q]
  |sh _=>dsimp only; rw[h,q]
  |dp _=>dsimp only; rw[h,q]
  |ob _ _ _=>dsimp only; rw[h,q]
  |vo _ _=>dsimp only; rw[h,q]
  |dt _=>dsimp only; rw[h,q]
  |ow _=>dsimp only; rw[eY l,eY l']
  |rf _=>dsimp only; rw[eY l,eY l']
theorem j5:∀(src:List (Option Nat)) (ρi ρ : En),(aY src ρi ρ).length = ρ.length
 | [],ρi,ρ=>by unfold aY; rfl
 |o::src,[],ρ=>by cases o <;> (unfold aY; rfl)
 |none::src,s::ρi,ρ=>by unfold aY; exact j5 src ρi ρ
 |some j::src,.un::ρi,ρ=>by unfold aY; exact j5 src ρi ρ
 |some j::src,.sh _::ρi,ρ=>by unfold aY; exact j5 src ρi ρ
 |some j::src,.dp _::ρi,ρ=>by unfold aY; exact j5 src ρi ρ
 |some j::src,.ob _ _ _::ρi,ρ=>by unfold aY; exact j5 src ρi ρ
 |some j::src,.vo _ _::ρi,ρ=>by unfold aY; exact j5 src ρi ρ
 |some j::src,.dt _::ρi,ρ=>by unfold aY; exact j5 src ρi ρ
 |some j::src,.ow ts::ρi,ρ=>by unfold aY; rw[j5 src ρi,Gf]
 |some j::src,.rf ts::ρi,ρ=>by unfold aY; rw[j5 src ρi,Gf]
theorem GX:∀{src:List (Option Nat)} {ρi ρ : En} {j:Nat} {s:Option Sl},Inj src->(aY src ρi ρ)[j]?=s ->
  (∃(k:Nat) (ts:List Tr),src[k]?=some (some j)/\(ρi[k]?=some (.ow ts)\/ρi[k]?=some (.rf ts))/\(bH j ts ρ)[j]?=s)\/((∀k:Nat,src[k]?=some (some j)->¬Mu ρi k)/\ρ[j]?=s)
 | [],ρi,ρ,j,s,_,h=>by
  unfold aY at h
  exact .inr ⟨λk q=>by simp at q,h⟩
 |o::src,[],ρ,j,s,_,h=>by
  have h : ρ[j]?=s:=by cases o <;> (unfold aY at h; exact h)
  refine .inr ⟨λk _ m=>?_,h⟩
  obtain⟨_,q|q⟩:=m <;> simp at q
 |o::src,x::ρi,ρ,j,s,I,h=>by
  have It:Inj src:=λk k' j h1 h2=>by
   have:=I (k+1) (k'+1) j (by simpa using h1) (by simpa using h2)
   omega
  have keep:(o=none\/jg (some x)=false)->(aY src ρi ρ)[j]?=s->(∃(k:Nat) (ts:List Tr),(o::src)[k]?=some (some j)/\((x::ρi)[k]?=some (.ow ts)\/(x::ρi)[k]?=some (.rf ts))/\(bH j ts ρ)[j]?=s)\/((∀k:Nat,(o::src)[k]?=some (some j)->¬Mu (x::ρi) k)/\ρ[j]?=s):=λc h=>by
   rcases GX It h with⟨k,ts,q1,q2,q3⟩|⟨n,q⟩
   .exact .inl ⟨k+1,ts,by simpa using q1,by simpa using q2,q3⟩
   .refine .inr ⟨λk qk m=>?_,q⟩
    cases k with
    |zero =>
     rcases c with c|c
     .subst c; simp at qk
     .rw[<-zL]at m
      have m:jg (some x)=true:=m
      rw[c]at m
      cases m
    |succ k =>
     obtain⟨ts,m⟩:=m
     exact n k (by simpa using qk) ⟨ts,by simpa using m⟩
  have put:∀(i:Nat) (ts:List Tr),o=some i->(x=.ow ts\/x=.rf ts)->(aY src ρi (bH i ts ρ))[j]?=s->(∃(k:Nat) (ts:List Tr),(o::src)[k]?=some (some j)/\((x::ρi)[k]?=some (.ow ts)\/(x::ρi)[k]?=some (.rf ts))/\(bH j ts ρ)[j]?=s)\/((∀k:Nat,(o::src)[k]?=some (some j)->¬Mu (x::ρi) k)/\ρ[j]?=s):=λi ts eo ex h=>by
   rcases GX It h with⟨k,us,q1,q2,q3⟩|⟨n,q⟩
   .have ne:j≠i:=λz=>by
     subst z
     have:=I 0 (k+1) j (by simpa using eo) (by simpa using q1)
     omega
    refine .inl ⟨k+1,us,by simpa using q1,by simpa using q2,?_⟩
    rw[<-aeV (Ge ne)]
    exact q3
   .by_cases e:j=i
    .subst e
     refine .inl ⟨0,ts,by simpa using eo,?_,q⟩
     rcases ex with rfl|rfl
     .exact .inl rfl
     .exact .inr rfl
    .rw[Ge e]at q
     refine .inr ⟨λk qk m=>?_,q⟩
     cases k with
     |zero =>
      rw[eo]at qk
      simp at qk
      exact e qk.symm
     |succ k =>
      obtain⟨ts,m⟩:=m
      exact n k (by simpa using qk) ⟨ts,by simpa using m⟩
  cases o with
  |none=>unfold aY at h; exact keep (.inl rfl) h
  |some i =>
   cases x with
   |un=>unfold aY at h; exact keep (.inr rfl) h
   |sh _=>unfold aY at h; exact keep (.inr rfl) h
   |dp _=>unfold aY at h; exact keep (.inr rfl) h
   |ob _ _ _=>unfold aY at h; exact keep (.inr rfl) h
   |vo _ _=>unfold aY at h; exact keep (.inr rfl) h
   |dt _=>unfold aY at h; exact keep (.inr rfl) h
   |ow ts=>unfold aY at h; exact put i ts rfl (.inl rfl) h
   |rf ts=>unfold aY at h; exact put i ts rfl (.inr rfl) h
theorem GZ{src:List (Option Nat)}{k j:Nat}(h:src[k]?=some (some j)):(cR src σ)[k]?=some ((σ[j]?).join):=by
 unfold cR
 rw[List.getElem?_map,h]
 rfl
theorem aeW{k j:Nat}(h:src[k]?=some (some j))(q:(cR src σ)[k]?=some (some v)) : σ[j]?=some (some v):=by
 rw[GZ h]at q
 cases z : σ[j]? with
 |none=>rw[z]at q; cases q
 |some o =>
  rw[z]at q
  rw[show o=some v from Option.some.inj q]
noncomputable def inF(src:List (Option Nat))(ρ : En)(F:Fp):Fp:=λk=>match src[k]? with
 |some (some j)=>if jg ρ[j]?=true then F j else []
 |_=>[]
theorem u9(h:b∈inF src ρ F k):∃j,src[k]?=some (some j)/\jg ρ[j]?=true/\b∈F j:=by
 unfold inF at h
 split at h
 .split at h
  .exact⟨_,‹_›,‹_›,h⟩
  .cases h
 .cases h
theorem vd(h:Fn (inF src ρ F) b):Fn F b:=h.elim λ_ h=>(u9 h).elim λj h=>⟨j,h.2.2⟩
section
variable {K:PySem.W.Frag}{R:Addr->Prop}{ρ ρ1:En}{σ τ : St}{G H G1 H1 G' H':Hp}{F F1 F':Fp}{src:List (Option Nat)}
theorem Ok.enter(e:Ok K R ρ σ G H F)(I:Inj src):Ok K R (cO src ρ) (cR src σ) G H (inF src ρ F):=by
 refine⟨by simp[cO,cR],e.sub,e.tb,e.tg,λb h=>e.hid b (vd h),e.rg,λk k' b h1 h2=>?_,λk=>?_⟩
 .obtain⟨j,q1,_,q2⟩:=u9 h1
  obtain⟨j',q3,_,q4⟩:=u9 h2
  cases e.di j j' b q2 q4
  exact I k k' j q1 q3
 .unfold cO inF
  rw[List.getElem?_map]
  cases q:src[k]? with
  |none=>rfl
  |some o =>
   cases o with
   |none=>rfl
   |some j =>
    rw[GZ q]
    have z:=e.sl j
    dsimp only[Option.map]
    cases w : ρ[j]? with
    |none=>rfl
    |some sl =>
     rw[w]at z
     cases sl with
     |un=>rfl
     |dp ts=>rfl
     |ob _ _ _=>rfl
     |dt _=>rfl
     |vo c fs =>
      obtain⟨_,a,dx,C,xs,z1,z2⟩:=z
      rw[z1]
      exact⟨rfl,a,dx,C,xs,rfl,z2⟩
     |sh T =>
      obtain⟨_,u,z1,z2⟩:=z
      rw[z1]
      exact⟨rfl,u,rfl,z2⟩
     |ow ts =>
      obtain⟨a,xs,z1,z2⟩:=z
      rw[z1]
      exact⟨a,xs,rfl,z2⟩
     |rf ts =>
      obtain⟨a,xs,z1,z2⟩:=z
      rw[z1]
      exact⟨a,xs,rfl,z2⟩
theorem Ok.mu(e:Ok K R ρ σ G H F)(m:Mu ρ i):∃a,σ[i]?=some (some (.ref a))/\F i=[a]:=by
 have z:=e.sl i
 obtain⟨ts,q|q⟩:=m <;> (rw[q]at z; obtain⟨a,xs,z1,z2,_⟩:=z; exact⟨a,z1,z2⟩)
theorem Ok.leave(e1:Ok K R ρ1 σ G1 H1 F1)(e:Ok K R ρ τ G' H' F')(s:aB K G1 H1 (inF src ρ1 F1) G' H' F')(I:Inj src)(ag:∀k j:Nat,src[k]?=some (some j) -> τ[k]?=(cR src σ)[k]?)(so:dG src ρ ρ1=true):Ok K R (aY src ρ ρ1) σ G' H' F1/\aB K G1 H1 F1 G' H' F1:=by
 have inn:∀{k j:Nat},src[k]?=some (some j)->jg ρ1[j]?=true->Mu ρ k/\∃a,F1 j=[a]/\F' k=[a]/\σ[j]?=some (some (.ref a))/\τ[k]?=some (some (.ref a)):=λq m=>by
  have mk:=GR so q (zL.mp m)
  obtain⟨a,q1,q2⟩:=e.mu mk
  obtain⟨b,q3,q4⟩:=e1.mu (zL.mp m)
  have z:=ag _ _ q
  rw[q1]at z
  have z:=aeW q z.symm
  rw[q3]at z
  cases z
  exact⟨mk,_,q4,q2,q3,q1⟩
 have out:∀j,(∀k,src[k]?=some (some j)->jg ρ1[j]?=true->False)->∀b∈F1 j,∀o,H1 b=some o->H' b=some o:=λj n b hb o h=>by
  refine s.fr b o h (λ⟨k,z⟩=>?_) ?_
  .obtain⟨j',q1,q2,q3⟩:=u9 z
   cases e1.di j j' b hb q3
   exact n k q1 q2
  .obtain⟨_,z,m⟩:=e1.fl ⟨j,hb⟩
   exact e1.tb.nm z m
 refine⟨⟨by rw[j5,e1.len],e.sub,e.tb,e.tg,λb ⟨j,hb⟩=>?_,e.rg,e1.di,λj=>?_⟩,s.gg,λb o h n=>s.fr b o h λz=>n (vd z),λb h=>(s.nw b h).imp id (Or.imp id vd),λb h=>.inr h,s.dm⟩
 .cases z:G' b with
  |none=>rfl
  |some o =>
   rcases s.nw b (by rw[z]; exact λy=>by cases y)with y|y|⟨k,y⟩
   .exact(y (e1.hid b ⟨j,hb⟩)).elim
   .exact(e1.fs y ⟨j,hb⟩).elim
   .obtain⟨j',q1,q2,q3⟩:=u9 y
    obtain⟨_,a,h1,h2,_⟩:=inn q1 q2
    rw[h1]at q3
    rw[e.hid b ⟨k,by rw[h2]; exact q3⟩]at z
    cases z
 .rcases GX I (rfl:(aY src ρ ρ1)[j]?=_)with⟨k,ts,q1,q2,q3⟩|⟨n,q⟩
  .rw[<-q3]
   cases m:jg ρ1[j]? with
   |false =>
    have:(bH j ts ρ1)[j]?=ρ1[j]? := by
     unfold bH
     split <;> first|rfl|(rename_i y; rw[y]at m; cases m)
    rw[this]
    exact(e1.sl j).mono s.gg (out j λk _ z=>by rw[m]at z; cases z)
   |true =>
    obtain⟨_,a,h1,h2,h3,h4⟩:=inn q1 m
    have z:=e.sl k
    have z1:=e1.sl j
    have y:∃xs,H' a=some (.lst xs)/\au K G' xs ts:=by
     rcases q2 with q2|q2 <;> (rw[q2,h4]at z; obtain⟨b,xs,y1,_,_,y2⟩:=z; cases y1; exact⟨xs,y2⟩)
    obtain⟨xs,y1,y2⟩:=y
    unfold bH
    unfold jg at m
    split at m <;> rename_i w <;> (try cases m) <;>
    .rw[w]at z1
     obtain⟨b,_,y3,_,y4,_⟩:=z1
     rw[h3]at y3
     cases y3
     try simp only[w]
     rw[eY (List.getElem?_eq_some_iff.mp w).1]
     exact⟨a,xs,h3,h1,y4,y1,y2⟩
  .rw[<-q]
   exact(e1.sl j).mono s.gg (out j λk q1 z=>n k q1 (inn q1 z).1)
theorem Ok.aeX(e:Ok K R ρ σ G H F)(h:H D=some (.lst xs))(n:¬Fn F D)(g:G D=none):Ok K R ρ σ G (upd H D (.lst ys)) F:=by
 have ne:∀b,Fn F b->b≠D:=λb z y=>n (y▸z)
 refine⟨e.len,λb o q=>?_,e.tb.upd h,e.tg,e.hid,λb z=>⟨(e.rg b z).1,λy=>?_⟩,e.di,λi=>(e.sl i).mono (Same.refl _) λb hb o q=>?_⟩
 .rw[aH λz=>by rw[z,g]at q; cases q]
  exact e.sub b o q
 .by_cases z:b=D
  .subst z; rw[bN]at y; cases y
  .rw[aH z]at y; exact(e.rg b ‹_›).2 y
 .rw[aH (ne b ⟨i,hb⟩)]; exact q
theorem aB.flt(s:aB K G H F G' H' F')(tb:bf K H)(h:H D=some (.lst xs))(n:¬Fn F D)(g:G D=none):H' D=some (.lst xs)/\¬Fn F' D/\G' D=none:=by
 refine⟨s.fr D _ h n (tb.nt h),s.out h n,?_⟩
 cases k:G' D with
 |none=>rfl
 |some o=>exact((s.nw D (by rw[k]; exact λz=>by cases z)).elim (λz=>z g) λz=>z.elim (λz=>by rw[h]at z; cases z) n).elim
end
noncomputable abbrev G8:=Hp->Hp->Fp->List V->List Tr->Prop
noncomputable def nW(cv:Rv->Rs Tr)(g:GF)(c:BF)(f:EF):List Tr->En->Rs (List Tr × En)
 | [],ρ=>.ok ([],ρ)
 |u::us,ρ=>(g u ρ).bind λρ1=>(c ρ1).bind λb=>if b.1=true then(f b.2).bind λp=>(cv p.1).bind λT=>(nW cv g c f us p.2).bind λz=>.ok (T::z.1,z.2)else nW cv g c f us b.2
structure Acc(K:PySem.W.Frag)(R:Addr->Prop)(H1:Hp)(D:Addr)(cv:Rv->Rs Tr)(A:G8):Prop where
 nx:∀r c,cv r ≠ .ex c
 nil:∀G H F,A G H F [] []
 stp:∀{G H F G' H' F' xs ts},bf K H->aB K G H F G' H' F'->A G H F xs ts->A G' H' F' xs ts
 pok:∀{G H F xs ts ys},A G H F xs ts->A G (upd H D ys) F xs ts
 add:∀{ρ ρ0 σ σ0 G H F G0 H0 F0 xs ts v r T},A G0 H0 F0 xs ts->Ok K R ρ0 σ0 G0 H0 F0->(∀b,H0 b=none->H1 b=none/\b≠D)->Ok K R ρ σ G H F->aB K G0 H0 F0 G H F->fH K σ H0 G H F v r->cv r=.ok T->∃G2,Ok K R ρ σ G2 H F/\aB K G0 H0 F0 G2 H F/\A G2 H F (xs++[v]) (ts++[T])
noncomputable abbrev InC(K:PySem.W.Frag)(R:Addr->Prop)(A:G8)(cv:Rv->Rs Tr)(gf:GF)(cf:BF)(f:EF)(src:List (Option Nat))(σ : St)(D:Addr)(G1 H1:Hp)(F1:Fp)(us:List Tr)(z:List Tr × En):Nat->Nat->St->Hp->Prop:=λi m τ H'=>m=us.length-i/\i<=us.length/\∃ρ' G' F' xs acc,Ok K R ρ' τ G' H' F'/\aB K G1 H1 F1 G' H' F'/\(H' D=some (.lst xs)/\¬Fn F' D/\G' D=none)/\A G' H' F' xs acc/\xs.length<=i/\(∀k j:Nat,src[k]?=some (some j) -> τ[k]?=(cR src σ)[k]?)/\∃y,nW cv gf cf f (us.drop i) ρ'=.ok y/\z=(acc++y.1,y.2)
theorem G9{K:PySem.W.Frag}{A:G8}{G1:Hp}{J:It}{tc:TT}(hc:∀σ H Q,Tt ⟨K,λ_ _=>False⟩ cf σ H Q->tc σ H Q)(I:Inj src)(hj:∀k j:Nat,src[k]?=some (some j)->k∉js)(ng:∀T ρ c,gf T ρ ≠ .ex c)(hlen:us.length<=100000)(hD:H1 D=none)(ac:Acc K R H1 D cv A)(e1:Ok K R ρ1 σ G1 H1 F1)
  (it:∀G' H',Same G1 G'->Same G' H'->(∀b o,H1 b=some o->¬Fn (inF src ρ1 F1) b->¬Tb K b->H' b=some o)->∀i,(i=us.length->J.stop i H')/\∀u,us[i]?=some u->J.go i H'/\∀x dM,J.oM i H' x dM->∃G'',Gw K G' H' G'' dM/\Rep K G'' x u)
  (kz:nW cv gf cf f us (cO src ρ1)=.ok z) (so:dG src z.2 ρ1=true) (fin:∀G' H' F' xs,Ok K R (aY src z.2 ρ1) σ G' H' F1->aB K G1 H1 F1 G' H' F1->H' D=some (.lst xs)->G' D=none->(∀b,Fn F' b->H1 b=none\/Fn F1 b)->¬Fn F' D->A G' H' F' xs z.1->Q (.ref D) H') :
  ∃W:Nat->Nat->St->Hp->Prop,(∃m,W 0 m (cR src σ) (upd H1 D (.lst [])))/\∀i m σ' H',W i m σ' H' ->
  (J.stop i H'/\Nx Q D H')\/(J.go i H'/\∀x dM,J.oM i H' x dM->nQ K gf js x σ' dM λσ2 H2=>tc σ2 H2 λb u6=>if b=true then Te ⟨K,λ_ _=>False⟩ f σ2 u6 λv H3=>∃xs,H3 D=some (.lst xs)/\xs.length<sizeLine/\∃m',m'<m/\W (i+1) m' σ2 (upd H3 D (.lst (xs++[v])))else ∃m',m'<m/\W (i+1) m' σ2 u6):=by
 refine⟨InC K R A cv gf cf f src σ D G1 H1 (inF src ρ1 F1) us z,⟨us.length,by simp,Nat.zero_le _,cO src ρ1,G1,inF src ρ1 F1,[],[],?_,?_,⟨bN,λh=>e1.fs hD (vd h),e1.sub.free hD⟩,ac.nil _ _ _,Nat.le_refl _,λ_ _ _=>rfl,z,kz,rfl⟩,?_⟩
 .exact((e1.enter I).grow (.flt e1.sub hD)).1
 .exact((e1.enter I).grow (.flt e1.sub hD)).2
 rintro i m τ H2 ⟨rfl,hi,ρ2,G2,F2,xs,acc,e2,s2,d2,a2,l2,g2,y,ky,rfl⟩
 have q:=it G2 H2 s2.gg e2.sub s2.fr i
 have mv:∀{G3 H3 F3},aB K G1 H1 (inF src ρ1 F1) G3 H3 F3->∀ys,aB K G1 H1 (inF src ρ1 F1) G3 (upd H3 D (.lst ys)) F3:=λs ys=>⟨s.gg,λb o h n t=>by rw[aH (iJ h hD)]; exact s.fr b o h n t,s.nw,s.nf,λb h=>by
  by_cases z:b=D
  .subst z; exact hD
  .rw[aH z]at h; exact s.dm b h⟩
 by_cases hlt:i<us.length
 .rw[List.drop_eq_getElem_cons hlt]at ky
  obtain⟨go,yl⟩:=q.2 us[i] (by simp[hlt])
  refine .inr ⟨go,λx H3 yy=>?_⟩
  obtain⟨G3,w3,r3⟩:=yl x H3 yy
  obtain⟨e3,s3⟩:=e2.grow w3
  obtain⟨ρ4,k4,ky⟩:=eX ky
  obtain⟨b,k5,ky⟩:=eX ky
  refine⟨R,ρ2,G3,F2,_,e3,r3,?_⟩
  rw[k4]
  intro σ4 F4 e4 f4 a4
  have s4:=s3.trans (aB.sub f4)
  have g4:∀k j:Nat,src[k]?=some (some j) -> σ4[k]?=(cR src σ)[k]? := λk j h=>(a4 k (hj k j h)).trans (g2 k j h)
  refine hc _ _ _ ⟨R,ρ4,G3,F4,e4,?_⟩
  rw[k5]
  intro G5 H5 F5 e5 s5
  have rJ:=s4.trans s5
  have d5:=rJ.flt e2.tb d2.1 d2.2.1 d2.2.2
  split at ky <;> rename_i c
  .rw[if_pos c]
   obtain⟨p,k6,ky⟩:=eX ky
   obtain⟨T,k7,ky⟩:=eX ky
   obtain⟨y',k8,ky⟩:=eX ky
   cases ky
   refine⟨R,b.2,G5,F5,e5,?_⟩
   rw[k6]
   intro v G6 H6 F6 e6 s6 v6
   obtain⟨G7,e7,s7,a7⟩:=ac.add (ac.stp e2.tb rJ a2) e5 (λb h=>⟨(s2.trans rJ).dm b h,λz=>by rw[z,d5.1]at h; cases h⟩) e6 s6 v6 k7
   have d7:=s7.flt e5.tb d5.1 d5.2.1 d5.2.2
   refine⟨xs,d7.1,Nat.lt_of_le_of_lt (show xs.length<=100000 by omega) (by decide),us.length-(i+1),by omega,rfl,hlt,p.2,G7,F6,xs++[v],acc++[T],e7.aeX d7.1 d7.2.1 d7.2.2,mv ((s2.trans rJ).trans s7) _,⟨bN,d7.2⟩,ac.pok a7,by simp; omega,g4,y',k8,by simp⟩
  .rw[if_neg c]
   exact⟨us.length-(i+1),by omega,rfl,hlt,b.2,G5,F5,xs,acc,e5,s2.trans rJ,d5,ac.stp e2.tb rJ a2,by omega,g4,y,ky,rfl⟩
 .have z:i=us.length:=by omega
  subst z
  rw[List.drop_length]at ky
  cases ky
  obtain⟨e',s'⟩:=e1.leave e2 s2 I g2 so
  exact .inl ⟨q.1 rfl,fin G2 H2 F2 xs e' s' d2.1 d2.2.2 (λb h=>(s2.nf b h).imp id vd) d2.2.1 (by rw[List.append_nil]; exact a2)⟩
theorem aeY{K:PySem.W.Frag}:Acc K R H1 D ju λG _ _ xs ts=>au K G xs ts:=⟨FQ,λ_ _ _=>.nil,λ_ s a=>a.mono s.gg,λa=>a,λa e0 _ e s v q=>by
 obtain⟨G2,e2,s2,m,r⟩:=e.rA e0 s v q
 exact⟨G2,e2,s2,(a.mono s2.gg).app (.cons r .nil)⟩⟩
noncomputable def fV(g:GF)(c:BF)(f:EF):List Tr->En->Rs (List Tr × En)
 | [],ρ=>.ok ([],ρ)
 |u::us,ρ=>(g u ρ).bind λρ1=>(c ρ1).bind λb=>if b.1=true then(f b.2).bind λp=>(ju p.1).bind λT=>(fV g c f us p.2).bind λz=>.ok (T::z.1,z.2)else fV g c f us b.2
theorem Q6(g:GF)(c:BF)(f:EF):∀us,fV g c f us=nW ju g c f us
 | []=>rfl
 |u::us=>by funext ρ; simp only[fV,nW,Q6 g c f us]
noncomputable def gW:BF:=λρ=>.ok (true,ρ)
noncomputable def mj(src:List (Option Nat))(fi:IF)(g:GF)(c:BF)(f:EF):EF:=λρ=>(fi ρ).bind λp=>if p.1.length<=100000 then(cU (fV g c f p.1 (cO src p.2))).bind λz=>if dG src z.2 p.2=true then .ok (.v (.lst z.1) true,aY src z.2 p.2)else .bad else .bad
theorem nY{α β : Type}{r:Rs α}{f : α -> Rs β}{t:Tx}{P : β -> Prop}(h:bB t H F ((cU r).bind f) P):∃a,r=.ok a/\bB t H F (f a) P:=by
 cases r with
 |ok a=>exact⟨a,rfl,h⟩
 |_=>exact h.elim
theorem Q7{t:Tx}{tc:TT}(hc:∀σ H Q,Tt ⟨t.K,λ_ _=>False⟩ cf σ H Q->tc σ H Q)(I:Inj src)(hj:∀k j:Nat,src[k]?=some (some j)->k∉js)(ng:∀T ρ c,gf T ρ ≠ .ex c)(h:Te t (mj src fi gf cf f) σ H Q):rH (Ti t fi) (nQ t.K gf js) src tc (Te ⟨t.K,λ_ _=>False⟩ f) σ H Q:=by
 obtain⟨R,ρ,G,F,e,h⟩:=h
 refine⟨R,ρ,G,F,e,h.run (aB.refl (G:=G)) λp h J G1 H1 F1 e1 s1 it D hD=>?_⟩
 split at h
 case isFalse=>exact h.elim
 obtain⟨z,kz,h⟩:=nY h
 split at h
 case isFalse=>exact h.elim
 rw[Q6]at kz
 exact G9 hc I hj ng ‹_› hD aeY e1 (λG' H' m s _=>it G' H' m s) kz ‹_› λG' H' F' xs e' s' d g _ _ a=>h _ G' H' F1 e' (s1.trans s') ⟨⟨D,xs,_,rfl,rfl,s1.dm D hD,g,d,a⟩,λ_ a q=>by cases q; exact e1.fs hD⟩
noncomputable def cG(Γ : Gx)(N:List Str)(scope:Scope):Gx:=⟨N,Nt scope Γ.sc,λx=>scope.names.lookup x == some .cell,Γ.B,[],true,Γ.k,[]⟩
theorem mq(o:Ox cl Γ E X)(d:N.Nodup):Ox cl (cG Γ N scope) E0 (cj X N scope C s H ex):=⟨rfl,by show Nt scope X.env.scope=_; rw[o.s]; rfl,d,o.l,o.r,N7,o.B,(λ_ z=>nomatch z),o.x,rfl,(λ_=>rfl),λ_ z=>nomatch z⟩
noncomputable def pO(Γ : Gx)(N:List Str)(src:List (Option Nat))(scope:Scope)(js:List Nat):Bool :=
 decide (scope.kind=.function)&&decide (∀y∈scope.names,y.2=.cell->scope.names.lookup y.1=some .cell)&&decide (∀y∈scope.names,y.2=.local->scope.names.lookup y.1=some .local)&&decide (∀y∈scope.names,y.2=.free -> Γ.sc.names.lookup y.1=some .cell\/Γ.sc.names.lookup y.1=some .free)&&decide (src.length=N.length)&&decide (∀p∈N.zip src,∀j∈p.2,Γ.N[j]?=some p.1/\scope.names.lookup p.1=some .free)&&decide N.Nodup&&decide (src.filterMap id).Nodup&&js.all λk=>(src[k]?).join.isNone
theorem vf(h:pO Γ N src scope js=true):qG Γ.sc Γ.N N src scope/\N.Nodup/\Inj src/\∀k j:Nat,src[k]?=some (some j)->k∉js:=by
 simp only[pO,an]at h
 obtain⟨⟨⟨⟨⟨⟨⟨⟨h1,h2⟩,h3⟩,h4⟩,h5⟩,h6⟩,h7⟩,h8⟩,h9⟩:=h
 refine⟨⟨of_decide_eq_true h1,of_decide_eq_true h2,of_decide_eq_true h3,of_decide_eq_true h4,of_decide_eq_true h5,of_decide_eq_true h6⟩,of_decide_eq_true h7,aeU (of_decide_eq_true h8),λk j e m=>?_⟩
 have:=List.all_eq_true.mp h9 k m
 rw[e]at this
 cases this
noncomputable def Hf(v t:Pos)(scope:Scope)(y:Str)(env:Env):Bool:=env.blockKind == .function&&env.kindOf y == some .local&&t.line == v.line && !(scope.names.any λ(n,k)=>n == y&&(k == .local || k == .cell))
theorem Hg{te Hh:TE}{b:Str->Pos->Bool}(o:Ox cl Γ E X)(hw:∀y p l,swapsWith e (some (.Name y p)) l X.env=pure (b y p))(hP:PE X e te)(hS:∀i y p sp,Wr X i y->b y p=true->PS X (.Assign [.Name y p] e sp) (jN te (jM i)))(imp:∀σ H Q,Hh σ H Q->te σ H Q):PE X e Hh/\∀i y p sp,Wr X i y->PS X (.Assign [.Name y p] e sp) (jN Hh (jM i)):=by
 refine⟨hP.imp imp,λi y p sp w=>?_⟩
 cases hb:b y p
 .exact Cm o.d w.1 w.2.1 (hP.imp imp) ((hw y p _).trans (congrArg pure hb)) w.2.2
 .exact(hS i y p sp w hb).imp λD σ H=>imp σ H _
noncomputable def cC(src:List (Option Nat))(N:List Str)(i:VI lZ)(g:VG iQ jY)(b:VE bT):VC (mj src lZ iQ gW bT) where
 ck Γ e:=o9 e λx aL sc _=>aR aL λbA bG=>pq bA λt y cN eU=>aU cN (jC eU 0 (aU bG (i.ck Γ (t,y)&&g.ck (cG Γ N sc) t&&b.ck (cG Γ N sc) x&&pO Γ N src sc jY)))
 cs:=i.cs++(g.cs++b.cs)
 ok:=@λcl E Γ X e q o h=>by
  walk_at "O"
  rename_i x0 sc pos t0 y0
  simp only[an]at h
  obtain⟨⟨⟨h1,h2⟩,h3⟩,h4⟩:=h
  obtain⟨pi,ni⟩:=i.ok (ml q) o h1
  obtain⟨S,nd,I,hj⟩:=vf h4
  have pg:=λC s H ex=>g.ok (X:=cj X N sc C s H ex) (ml (mr q)) (mq o nd) h2
  have pb:=λC s H ex=>b.ok (X:=cj X N sc C s H ex) (mr (mr q)) (mq o nd) h3
  exact Hg o (b:=λy p=>Hf pos p sc y X.env) (λ_ _ _=>rfl) (zK o.s o.N S o.l pi (λC s H ex=>(pg C s H ex).1) (λ_ _ _ _=>u5) pb (nU ni)) (λi y p sp w hb=>GQ o.d w.1 w.2.1 o.s o.N S o.l pi (λC s H ex=>(pg C s H ex).1) (λ_ _ _ _=>u5) pb (congrArg pure hb) (nU ni) w.2.2) λσ H Q h=>by
   exact Q7 (λσ H Q ⟨R,ρ,G,F,e,h⟩=>h G H F e .refl) I hj (pg 0 X.s₀ X.H₀ []).2.1 h
noncomputable def Q8(src:List (Option Nat))(N:List Str)(i:VI lZ)(g:VG iQ jY)(k:VT rF)(b:VE bT):VC (mj src lZ iQ rF bT) where
 ck Γ e:=o9 e λx aL sc _=>aR aL λbA bG=>pq bA λt y cN eU=>aR cN λz gM=>aU gM (jC eU 0 (aU bG (i.ck Γ (t,y)&&g.ck (cG Γ N sc) t&&b.ck (cG Γ N sc) x&&k.ck (cG Γ N sc) z&&pO Γ N src sc jY)))
 cs:=i.cs++(g.cs++(b.cs++k.cs))
 ok:=@λcl E Γ X e q o h=>by
  walk_at "O"
  rename_i x0 sc pos t0 y0 z0
  simp only[an]at h
  obtain⟨⟨⟨⟨h1,h2⟩,h3⟩,h5⟩,h4⟩:=h
  obtain⟨pi,ni⟩:=i.ok (ml q) o h1
  obtain⟨S,nd,I,hj⟩:=vf h4
  have pg:=λC s H ex=>g.ok (X:=cj X N sc C s H ex) (ml (mr q)) (mq o nd) h2
  have pb:=λC s H ex=>b.ok (X:=cj X N sc C s H ex) (ml (mr (mr q))) (mq o nd) h3
  have pk:=λC s H ex=>k.ok (X:=cj X N sc C s H ex) (mr (mr (mr q))) (mq o nd) h5
  exact Hg o (b:=λy p=>Hf pos p sc y X.env) (λ_ _ _=>rfl) (zK o.s o.N S o.l pi (λC s H ex=>(pg C s H ex).1) (λC s H ex=>QW (pk C s H ex)) pb (nU ni)) (λi y p sp w hb=>GQ o.d w.1 w.2.1 o.s o.N S o.l pi (λC s H ex=>(pg C s H ex).1) (λC s H ex=>QW (pk C s H ex)) pb (congrArg pure hb) (nU ni) w.2.2) λσ H Q=>Q7 (λ_ _ _ h=>h) I hj (pg 0 X.s₀ X.H₀ []).2.1
noncomputable def aeZ(src:List (Option Nat))(n:Nat)(g:GF)(c:BF)(f:EF):EF:=λρ=>(con ρ n).bind λus=>if us.length<=100000 then(cU (fV g c f us (cO src ρ))).bind λz=>if dG src z.2 ρ = true then .ok (.v (.lst z.1) true,aY src z.2 ρ)else .bad else .bad
noncomputable def rK:Rv->Rs Tr
 |.v (.lst us) true=>if bR us=true then .ok (.lst us)else .bad
 |_=>.bad
noncomputable def j6(g:GF)(c:BF)(f:EF):List Tr->En->Rs (List Tr × En)
 | [],ρ=>.ok ([],ρ)
 |u::us,ρ=>(g u ρ).bind λρ1=>(c ρ1).bind λb=>if b.1=true then(f b.2).bind λp=>(rK p.1).bind λT=>(j6 g c f us p.2).bind λz=>.ok (T::z.1,z.2)else j6 g c f us b.2
theorem Hi(g:GF)(c:BF)(f:EF):∀us,j6 g c f us=nW rK g c f us
 | []=>rfl
 |u::us=>by funext ρ; simp only[j6,nW,Hi g c f us]
section
variable {K:PySem.W.Frag}{R:Addr->Prop}{ρ : En}{σ : St}{G H H1 G' H':Hp}{F F':Fp}
structure zM(K:PySem.W.Frag)(R:Addr->Prop)(H1:Hp)(D:Addr)(G H:Hp)(F:Fp)(xs:List V)(ts:List Tr)(bs:List Addr):Prop where
 nd:bs.Nodup
 al:∀b∈bs,H1 b=none/\b≠D/\¬R b/\¬Fn F b/\G b=none
 dr:DR K G H xs ts bs
theorem zM.stp(tb:bf K H)(s:aB K G H F G' H' F')(a:zM K R H1 D G H F xs ts bs):zM K R H1 D G' H' F' xs ts bs:=by
 refine⟨a.nd,λb hb=>?_,a.dr.mono s.gg λb hb o q=>?_⟩ <;> obtain⟨h1,h2,h3,h4,h5⟩:=a.al b hb <;> obtain⟨ys,hy⟩:=a.dr.lst b hb
 .exact⟨h1,h2,h3,(s.flt tb hy h4 h5).2⟩
 .rw[hy]at q
  cases q
  exact(s.flt tb hy h4 h5).1
theorem Q9:Acc K R H1 D rK λG H F xs ts=>∃bs,zM K R H1 D G H F xs ts bs:=by
 refine⟨λr c=>(by unfold rK; (repeat' split) <;> (intro z; cases z)),λ_ _ _=>⟨[],.nil,(λ_ h=>by cases h),.nil⟩,λtb s ⟨bs,a⟩=>⟨bs,a.stp tb s⟩,λ⟨bs,a⟩=>⟨bs,a.nd,a.al,a.dr.mono (Same.refl _) λb hb o q=>?_⟩,λ⟨bs,a0⟩ e0 hn e s v q=>?_⟩
 .rw[aH (a.al b hb).2.1]; exact q
 .have a:=a0.stp e0.tb s
  unfold rK at q
  (repeat' split at q) <;> cases q
  rename_i nl
  obtain⟨⟨c,ys,us,rfl,q1,q2,q3,q4,q5⟩,f⟩:=v
  cases q1
  refine⟨_,e,s,bs++[c],List.nodup_append.mpr ⟨a.nd,by simp,λb hb d hd z=>?_⟩,λb hb=>?_,a.dr.app (.rw q4 (.flat q5 nl) .nil)⟩
  .cases List.mem_singleton.mp hd
   obtain⟨zs,hz⟩:=a0.dr.lst b hb
   rw[z,q2]at hz
   cases hz
  .rcases List.mem_append.mp hb with hb|hb
   .exact a.al b hb
   .cases List.mem_singleton.mp hb
    exact⟨(hn _ q2).1,(hn _ q2).2,e0.rn q2,f rfl _ rfl,q3⟩
end
noncomputable def Hj(i:Nat)(src:List (Option Nat))(fi:IF)(g:GF)(c:BF)(f:EF):SF:=λρ=>(fi ρ).bind λp=>if p.1.length<=100000 then(cU (j6 g c f p.1 (cO src p.2))).bind λz=>if dG src z.2 p.2=true then .ok (.nx,(aY src z.2 p.2).set i (.dp z.1))else .bad else .bad
theorem Ok.ae0{K:PySem.W.Frag}(e:Ok K R ρ σ G H F)(i:Nat)(n:(a::bs).Nodup)(al:∀b∈a::bs,¬R b/\¬Fn F b/\G b=none)(h:H a=some (.lst xs))(d:DR K G H xs ts bs):∃F',Ok K R (ρ.set i (.dp ts)) (σ.set i (some (.ref a))) G H F'/\∀b,Fn F' b->b∈a::bs\/Fn F b:=by
 by_cases l:i < ρ.length
 .refine⟨eG F i (a::bs),e.one i _ (by rw[List.length_set,List.length_set,e.len]) (λj n=>⟨gq n,gq n⟩) (Same.refl _) e.sub e.tb (λb h=>.inl h) (λ_ _ _ _ _ h=>h) (λb h=>(e.rg b h).2) (λb h=>⟨(al b h).2.2,λj _ z=>(al b h).2.1 ⟨j,z⟩⟩) ?_,λb h=>?_⟩
  .rw[eY l,eY (e.len▸l)]
   exact⟨a,xs,bs,rfl,rfl,n,λb hb=>(al b hb).1,h,d⟩
  .rcases jU h with h|⟨j,_,h⟩
   .exact .inl h
   .exact .inr ⟨j,h⟩
 .rw[nJ l,nJ (e.len▸l)]
  exact⟨F,e,λb h=>.inr h⟩
theorem ae1{t:Tx}{tc:TT}(hc:∀σ H Q,Tt ⟨t.K,λ_ _=>False⟩ cf σ H Q->tc σ H Q)(I:Inj src)(hj:∀k j:Nat,src[k]?=some (some j)->k∉js)(ng:∀T ρ c,gf T ρ ≠ .ex c)(h:Ts t (Hj n src fi gf cf f) D σ H):jN (rH (Ti t fi) (nQ t.K gf js) src tc (Te ⟨t.K,λ_ _=>False⟩ f)) (jM n) D σ H:=by
 obtain⟨R,ρ,G,F,e,h⟩:=h
 refine⟨R,ρ,G,F,e,h.run (aB.refl (G:=G)) λp h J G1 H1 F1 e1 s1 it D hD=>?_⟩
 split at h
 case isFalse=>exact h.elim
 obtain⟨z,kz,h⟩:=nY h
 split at h
 case isFalse=>exact h.elim
 rw[Hi]at kz
 refine G9 hc I hj ng ‹_› hD Q9 e1 (λG' H' m s _=>it G' H' m s) kz ‹_› λG' H' F' xs e' s' d g _ _ ⟨bs,a⟩=>?_
 have al:∀b∈D::bs,H1 b=none/\¬R b/\¬Fn F1 b/\G' b=none:=List.forall_mem_cons.mpr ⟨⟨hD,e1.rn hD,e1.fs hD,g⟩,λb hb=>⟨(a.al b hb).1,(a.al b hb).2.2.1,e1.fs (a.al b hb).1,(a.al b hb).2.2.2.2⟩⟩
 obtain⟨F2,e2,f2⟩:=e'.ae0 n (List.nodup_cons.mpr ⟨λz=>(a.al D z).2.1 rfl,a.nd⟩) (λb hb=>(al b hb).2) d a.dr
 have s2:=s1.trans s'
 exact h _ G' H' F2 e2 ⟨s2.gg,s2.fr,s2.nw,λb z=>(f2 b z).elim (λz=>.inl (s1.dm b (al b z).1)) (s2.nf b),s2.dm⟩
noncomputable def sCd(n:Nat)(src:List (Option Nat))(N:List Str)(i:VI lZ)(g:VG iQ jY)(b:VE bT):VS (Hj n src lZ iQ gW bT) where
 ck Γ e:=jB e λaL bA _=>aR aL λbG cN=>atName bG λy p=>aU cN (o9 bA λx eU sc pos=>aR eU λgM lY=>pq gM λt z uW uX=>aU uW (jC uX 0 (aU lY (uT Γ n y&&i.ck Γ (t,z)&&g.ck (cG Γ N sc) t&&b.ck (cG Γ N sc) x&&pO Γ N src sc jY))))
 cs:=i.cs++(g.cs++b.cs)
 ok:=@λcl E Γ X e q o h=>by
  walk_at "O"
  rename_i sp y p x0 sc pos t0 y0
  simp only[an]at h
  obtain⟨⟨⟨⟨hw,h1⟩,h2⟩,h3⟩,h4⟩:=h
  obtain⟨pi,ni⟩:=i.ok (ml q) o h1
  obtain⟨S,nd,I,hj⟩:=vf h4
  have pg:=λC s H ex=>g.ok (X:=cj X N sc C s H ex) (ml (mr q)) (mq o nd) h2
  have pb:∀C s H ex,PE (cj X N sc C s H ex) x0 (Te (tx cl E0 X) bT):=λC s H ex=>b.ok (X:=cj X N sc C s H ex) (mr (mr q)) (mq o nd) h3
  have Ra:∀C s H ex,PG (cj X N sc C s H ex) t0 (nQ (aq X.K) iQ jY):=λC s H ex=>(pg C s H ex).1
  refine((Hg o (b:=λy p=>Hf pos p sc y X.env) (λ_ _ _=>rfl) (zK o.s o.N S o.l pi Ra (λ_ _ _ _=>u5) pb (nU ni)) (λi y p sp w hb=>GQ o.d w.1 w.2.1 o.s o.N S o.l pi Ra (λ_ _ _ _=>u5) pb (congrArg pure hb) (nU ni) w.2.2) λσ H Q h=>h).2 _ _ _ _ (zB o hw)).imp λD σ H h=>?_
  exact ae1 (λσ H Q ⟨R,ρ,G,F,e,h⟩=>h G H F e .refl) I hj (pg 0 X.s₀ X.H₀ []).2.1 h
noncomputable def pP(i:Nat)(ρ : En):En:=match ρ[i]? with
 |some (.dp ts)=>ρ.set i (.ow ts)
 |_=>ρ
noncomputable def vg(i:Nat)(f:SF):SF:=λρ=>f (pP i ρ)
open Classical in
theorem Ok.pP{K:PySem.W.Frag}(e:Ok K R ρ σ G H F)(i:Nat):∃G' F',Ok K R (L2.pP i ρ) σ G' H F'/\aB K G H F G' H F':=by
 unfold L2.pP
 split
 case h_2=>exact⟨G,F,e,.refl⟩
 rename_i ts k
 have z:=e.sl i
 rw[k]at z
 obtain⟨a,xs,bs,h1,h2,nd,h3,h4,d⟩:=z
 have Rb:∀b∈bs,b∈F i:=λb hb=>by rw[h2]; exact List.mem_cons_of_mem _ hb
 have nda:=(List.nodup_cons.mp (h2▸nd)).1
 let G':Hp:=λb=>if b∈bs then H b else G b
 have m:Same G G':=λb o q=>by
  show(if b∈bs then H b else G b)=_
  split
  .exact e.sub b o q
  .exact q
 have sp:∀b,G' b≠none->G b≠none\/b∈bs:=λb q=>by
  by_cases z:b∈bs
  .exact .inr z
  .rw[show G' b=G b from if_neg z]at q; exact .inl q
 refine⟨G',eG F i [a],e.one i [a] (by rw[List.length_set,e.len]) (λj n=>⟨gq n,rfl⟩) m (λb o q=>?_) e.tb (λb q=>(sp b q).imp id λz=>⟨λj n y=>n (e.di j i b y (Rb b z)),?_,h3 b (by rw[h2]; exact List.mem_cons_of_mem _ z)⟩) (λ_ _ _ _ _ h=>h) (λb h=>(e.rg b h).2) (λb h=>?_) ?_,m,λ_ _ h _ _=>h,λb q=>(sp b q).imp id λz=>.inr ⟨i,Rb b z⟩,λb z=>?_,λ_ h=>h⟩
 .have q:(if b∈bs then H b else G b)=some o:=q
  split at q
  .exact q
  .exact e.sub b o q
 .obtain⟨ys,hy⟩:=d.lst b z
  exact e.tb.nt hy
 .cases List.mem_singleton.mp h
  refine⟨?_,λj n y=>n (e.di j i a y (by rw[h2]; exact List.mem_cons_self ..))⟩
  rw[show G' a=G a from if_neg nda]
  exact e.hid a ⟨i,by rw[h2]; exact List.mem_cons_self ..⟩
 .rw[eY (List.getElem?_eq_some_iff.mp k).1]
  refine⟨a,xs,h1,rfl,h3 a (by rw[h2]; exact List.mem_cons_self ..),h4,d.reps m λb hb=>if_pos hb⟩
 .rcases jU z with z|⟨j,_,z⟩
  .exact .inr ⟨i,by rw[h2,List.mem_singleton.mp z]; exact List.mem_cons_self ..⟩
  .exact .inr ⟨j,z⟩
noncomputable def sD(i:Nat)(a:VS aA):VS (vg i aA) where
 ck:=a.ck
 cs:=a.cs
 ok q o h:=(a.ok q o h).imp λD σ H=>bF λR ρ G F e h=>by
  obtain⟨G',F',e',s'⟩:=e.pP i
  exact zy e' s' h
open PySem.W
noncomputable def insI(i:Int):List Int->List Int
 | []=>[i]
 |j::r=>if i<=j then i::j::r else j::insI i r
noncomputable def rM(l:List Int):List Int:=l.foldr insI []
theorem insI_perm(i:Int):∀l,(insI i l).Perm (i::l)
 | []=>.refl _
 |j::r=>by
  unfold insI
  split
  .exact .refl _
  .exact((insI_perm i r).cons j).trans (.swap i j r)
theorem Rf(i:Int):∀l,l.Pairwise (· <= ·)->(insI i l).Pairwise (· <= ·)
 | [],_=>by simp[insI]
 |j::r,hp=>by
  have hp':=List.pairwise_cons.mp hp
  unfold insI
  split
  .rename_i b
   refine List.pairwise_cons.mpr ⟨λk hk=>?_,hp⟩
   rcases List.mem_cons.mp hk with rfl|hk
   .exact b
   .have:=hp'.1 k hk; lia
  .rename_i b
   refine List.pairwise_cons.mpr ⟨λk hk=>?_,Rf i r hp'.2⟩
   rcases List.mem_cons.mp ((insI_perm i r).mem_iff.mp hk)with rfl|hk
   .lia
   .exact hp'.1 k hk
theorem Hl:∀l:List Int,(rM l).Perm l/\(rM l).Pairwise (· <= ·)
 | []=>⟨.refl _,.nil⟩
 |i::r=>by
  obtain⟨h1,h2⟩:=Hl r
  exact⟨(insI_perm i _).trans (h1.cons i),Rf i _ h2⟩
theorem Rg:∀{l m:List Int},l.Perm m->l.Pairwise (· <= ·)->m.Pairwise (· <= ·)->l=m
 | [],m,p,_,_=>by rw[List.nil_perm.mp p]
 |a::l,[],p,_,_=>by simpa using p.length_eq
 |a::l,b::m,p,h1,h2=>by
  have h1':=List.pairwise_cons.mp h1
  have h2':=List.pairwise_cons.mp h2
  have e:a=b:=by
   rcases List.mem_cons.mp (p.mem_iff.mp (List.mem_cons_self ..))with z|z
   .exact z
   .rcases List.mem_cons.mp (p.mem_iff.mpr (List.mem_cons_self (a:=b)))with y|y
    .exact y.symm
    .have a1:=h1'.1 b y
     have a2:=h2'.1 a z
     lia
  subst e
  rw[Rg p.cons_inv h1'.2 h2'.2]
theorem Rh(p:m.Perm l)(h:m.Pairwise (· <= ·)):m=rM l:=Rg (p.trans (Hl l).1.symm) h (Hl l).2
theorem Ri:∀{ns:List Int} {vs:List Value},Vals (ns.map V.int) vs->IntsAre vs ns
 | [],_,h=>by cases h; exact .nil
 |n::ns,_,h=>by
  cases h with
  |cons h1 h2 =>
   obtain⟨t,rfl⟩:=h1
   exact .cons n t (Ri h2)
section
variable {X:Cx}
noncomputable def Ho(K:PySem.W.Frag):List V->Hp->VK->Prop:=λxs H Q=>∃p ns,xs=[.ref p]/\aM K H p (ns.map V.int)/\ns.length<64/\∀l,H l=none->Q (.ref l) (upd H l (.lst ((rM ns).map V.int)))
theorem ae2:eN X (.builtin "sorted") (Ho X.K):=by
 intro pins s σ H xs us Q I r h
 obtain⟨p,ns,rfl,hq,h64,q⟩:=h
 obtain⟨u,rfl,rx⟩:=vals1 r
 cases rx
 obtain⟨its,r',pl,hz⟩:=I.list hq
 have hl:=r'.length
 rw[List.length_map]at hl
 refine sorted_ints pl.isList (Ri r') (by lia) λout ns' a1 a2 a3=>?_
 obtain⟨e,he⟩:=sortedAll_at s.heap its out
 have e2:=Rh a2 a3
 subst e2
 have len:=a2.length_eq
 refine⟨.ref (s.heap.objs.size+1),_,I.laid (t':=s.toks) (λb o z=>sortedAll_old z) (Nat.le_succ _) (show fO X.prog X.w _ _ _ (.lst ((rM ns).map V.int))from⟨by rw[List.length_map,sizeLine_eq]; lia,out.toList,e,Dq a1,by rw[Array.toArray_toList]; exact he⟩),rfl,q _ (I.hok.fresh (Nat.le_succ _))⟩
end
end L2
end
section
namespace L2
open PySem PySem.Spec PyProof.Rows
section
variable {X:Cx}
noncomputable def Hq:V->List V->Hp->VK->Prop:=λx vs H Q=>∃(l:Addr) (xs:List V) (k:Nat) (y:V),x=.ref l/\vs=[.int (k:Int),y]/\H l=some (.lst xs)/\k<=xs.length/\xs.length<=100000/\Q .non (upd H l (.lst (xs.take k++y::xs.drop k)))
theorem ae3:Dm X "list.insert" Hq:=by
 intro pins s σ H x vs v us Q I rx rv h
 obtain⟨l,xs,k,y,rfl,rfl,hH,hk,hz,q⟩:=h
 cases rx
 cases rv with
 |cons r1 rv =>
 cases rv with
 |cons ru rv =>
 cases rv
 obtain⟨t,rfl⟩:=r1
 rename_i u
 obtain⟨z,its,n,r,hl,e⟩:=I.Np hH
 have big:100000+1<=sizeLine:=Nat.le_of_lt (show 100001<sizeLine from by unfold sizeLine; lia)
 have hs1:its.toArray.size<=sizeLine:=by rw[List.size_toArray]; lia
 have hk':(if(k:Int)<0 then((k:Int)+(its.toArray.size:Int)).toNat else min (k:Int).toNat its.toArray.size)=k:=by
  rw[if_neg (by lia),Int.toNat_natCast,List.size_toArray]
  lia
 have h1 : -(2 ^ 63)<=(k:Int):=by lia
 have h2:(k:Int)<2 ^ 63:=by lia
 have hfit:¬(!Builtin.List.listFitsIndex (k:Int))=true:=by rw[fitsIndex_both h1 h2]; exact Bool.false_ne_true
 have hlen:(xs.take k++y::xs.drop k).length<=sizeLine:=by
  rw[List.length_append,List.length_cons,List.length_take,List.length_drop]
  lia
 clear h1 h2 big
 generalize (k:Int)=i at *
 refine call_meets F.slot_list_insert ⟨_,e,rfl⟩ F.entry_list_insert (F.args_list_insert_3 _ _ _)
  (AutoSeq1.list_insert_list_int_val_1 l its.toArray n i t u hfit hs1) ⟨e,?_⟩
 refine⟨.non,_,I.Nm (its':=its.take k++u::its.drop k) hH e ?_ (Vals.append (r.take _) (.cons ru (r.drop _))) hlen,rfl,q⟩
 show(its.toArray.extract 0 (if i<0 then(i+(its.toArray.size:Int)).toNat else min i.toNat its.toArray.size)).push u++its.toArray.extract (if i<0 then(i+(its.toArray.size:Int)).toNat else min i.toNat its.toArray.size)=_
 rw[hk']
 exact PySem.W.kl_ins_eq its k u
end
open PySem.W
noncomputable def iR(kz:Nat->Int × Int)(i j:Nat):Prop:=((kz i).1<(kz j).1\/((kz i).1=(kz j).1/\(kz i).2<(kz j).2))\/(((kz i).1=(kz j).1/\(kz i).2=(kz j).2)/\i<j)
noncomputable instance {kz:Nat->Int × Int}{i j:Nat}:Decidable (iR kz i j):=by unfold iR; infer_instance
noncomputable def jE(kz:Nat->Int × Int)(i:Nat):List Nat->List Nat
 | []=>[i]
 |j::r=>if iR kz i j then i::j::r else j::jE kz i r
noncomputable def Hr(n:Nat)(kz:Nat->Int × Int):List Nat:=(List.range n).foldr (jE kz) []
theorem Ht(kz:Nat->Int × Int)(i:Nat):∀l,(jE kz i l).Perm (i::l)
 | []=>.refl _
 |j::r=>by
  unfold jE
  split
  .exact .refl _
  .exact((Ht kz i r).cons j).trans (.swap i j r)
theorem Rj(kz:Nat->Int × Int)(i:Nat):∀l,(∀j∈l,i≠j)->l.Pairwise (iR kz)->(jE kz i l).Pairwise (iR kz)
 | [],_,_=>by simp[jE]
 |j::r,hn,hp=>by
  have hp':=List.pairwise_cons.mp hp
  unfold jE
  split
  .rename_i b
   refine List.pairwise_cons.mpr ⟨λk hk=>?_,hp⟩
   rcases List.mem_cons.mp hk with rfl|hk
   .exact b
   .have:=hp'.1 k hk
    unfold iR at b this ⊢
    lia
  .rename_i b
   refine List.pairwise_cons.mpr ⟨λk hk=>?_,Rj kz i r (λk hk=>hn k (List.mem_cons_of_mem _ hk)) hp'.2⟩
   rcases List.mem_cons.mp ((Ht kz i r).mem_iff.mp hk)with rfl|hk
   .have:=hn j (List.mem_cons_self ..)
    unfold iR at b ⊢
    lia
   .exact hp'.1 k hk
theorem Rk(kz:Nat->Int × Int):∀l:List Nat,l.Nodup->(l.foldr (jE kz) []).Perm l/\(l.foldr (jE kz) []).Pairwise (iR kz)
 | [],_=>⟨.refl _,.nil⟩
 |i::r,nd=>by
  have nd':=List.nodup_cons.mp nd
  obtain⟨h1,h2⟩:=Rk kz r nd'.2
  exact⟨(Ht kz i _).trans (h1.cons i),Rj kz i _ (λj hj z=>nd'.1 (by rw[z]; exact h1.mem_iff.mp hj)) h2⟩
theorem Rn(n:Nat)(kz:Nat->Int × Int):lU n kz (Hr n kz):=Rk kz _ List.nodup_range
theorem Ro(as:∀a b,R a b->¬R b a):∀{l m:List Nat},l.Perm m->l.Pairwise R->m.Pairwise R->l=m
 | [],m,p,_,_=>by rw[List.nil_perm.mp p]
 |a::l,[],p,_,_=>by simpa using p.length_eq
 |a::l,b::m,p,h1,h2=>by
  have h1':=List.pairwise_cons.mp h1
  have h2':=List.pairwise_cons.mp h2
  have e:a=b:=by
   rcases List.mem_cons.mp (p.mem_iff.mp (List.mem_cons_self ..))with z|z
   .exact z
   .rcases List.mem_cons.mp (p.mem_iff.mpr (List.mem_cons_self (a:=b)))with y|y
    .exact y.symm
    .exact(as _ _ (h1'.1 b y) (h2'.1 a z)).elim
  subst e
  rw[Ro as p.cons_inv h1'.2 h2'.2]
theorem lU.eq(h:lU n kz ys):ys=Hr n kz:=by
 have g:=Rn n kz
 refine Ro (R:=iR kz) (λa b h1 h2=>?_) (h.1.trans g.1.symm) h.2 g.2
 unfold iR at h1 h2
 lia
noncomputable def rN:List Tr->Option (List Int)
 | []=>some []
 |.int i::r=>(rN r).map (i :: ·)
 |_::_=>none
theorem Rq:∀{ts:List Tr} {ns:List Int},rN ts=some ns->ts=ns.map Tr.int
 | [],_,h=>by cases h; rfl
 |.int i::r,ns,h=>by
  obtain⟨m,e,rfl⟩:=Option.map_eq_some_iff.mp h
  rw[Rq e]; rfl
theorem Rr{K:PySem.W.Frag}{H:Hp}:∀{ns:List Int} {vs:List V},au K H vs (ns.map Tr.int)->vs=ns.map V.int
 | [],_,h=>by cases h; rfl
 |n::ns,_,h=>by
  cases h with
  |cons h1 h2 =>
   cases h1
   rw[Rr h2]
   rfl
theorem Hu{K:PySem.W.Frag}{H:Hp}:∀ns:List Int,au K H (ns.map V.int) (ns.map Tr.int)
 | []=>.nil
 |n::ns=>.cons (.int n) (Hu ns)
noncomputable def rO:G1
 |.lst ts=>match rN ts with
  |some ns=>if ns.length<64 then .ok (.lst ((rM ns).map Tr.int),true)else .bad
  |none=>.bad
 |_=>.bad
theorem ae4{K:PySem.W.Frag}:jP (aq K) (λx=>Ho K [x]) rO:=⟨λa c=>(by unfold rO; (repeat' split) <;> (intro z; cases z)),λG H x a Q s rx h=>by
 unfold rO at h
 split at h
 case h_2=>exact h.elim
 split at h
 case h_2=>exact h.elim
 rename_i ns e
 split at h
 case isFalse=>exact h.elim
 rw[Rq e]at rx
 obtain⟨p,xs,rfl,q,r⟩:=rx.lst s
 have e2:=Rr r
 subst e2
 exact⟨p,ns,rfl,q.toK,‹_›,λl nl=>h _ _ _ (.flt s nl) (.flt s nl (Hu _))⟩⟩
theorem ae5{K:PySem.W.Frag}(h:dK K σ Hs G H F vs [.v (.int n) fr]):vs=[.int n]:=by
 cases h with
 |cons h r =>
  cases r
  cases fr with
  |false=>cases h.1; rfl
  |true=>obtain⟨_,_,_,_,z,_⟩:=h.1; cases z
theorem Rw{K:PySem.W.Frag}{H:Hp}:∀l:List Nat,au K H (l.map λi:Nat=>V.int i) (l.map λi:Nat=>Tr.int i)
 | []=>.nil
 |n::l=>.cons (.int n) (Rw l)
noncomputable def eLR(fa:AF):EF:=λρ=>(fa ρ).bind λp=>match p.1 with
 | [.v (.int n) _]=>if 0<=n/\n<=1000 then .ok (.v (.lst ((List.range n.toNat).map λi:Nat=>Tr.int i)) true,p.2)else .bad
 |_=>.bad
noncomputable def vh:GM:=λts as=>match as with
 | [.int i,T]=>if 0<=i/\i.toNat<=ts.length/\ts.length<=100000 then .ok (ts.take i.toNat++T::ts.drop i.toNat,.non)else .bad
 |_=>.bad
theorem ae6:Gg Hq vh:=⟨λts as c=>(by unfold vh; (repeat' split) <;> (intro z; cases z)),λK G a xs ts vs as H Q ts' T hx r ra q h=>by
 unfold vh at q
 split at q
 case h_2=>cases q
 split at q
 case isFalse=>cases q
 rename_i i U c
 cases q
 cases ra with
 |cons h1 r1 =>
  cases r1 with
  |cons h2 r2 =>
   cases r2
   cases h1
   have l:=r.length
   exact⟨a,xs,i.toNat,_,rfl,by rw[Int.toNat_of_nonneg c.1],hx,by lia,by lia,h _ _ ((r.take _).app (.cons h2 (r.drop _))) .non⟩⟩
noncomputable abbrev RF:=List (Option Tr)->Rs Tr
noncomputable def Tq(K:PySem.W.Frag)(f:RF):TE:=λσ H Q=>∃G ts T,Same G H/\(∀(i:Nat) U,ts[i]?=some (some U)->∃v,σ[i]?=some (some v)/\Rp K G H v U)/\f ts=.ok T/\∀v G' H',Same G G'->Same H H'->Same G' H'->Rp K G' H' v T->Q v H'
theorem Rp.up{K:PySem.W.Frag}(h:Rp K G H v T)(m:Same G G')(s:Same H H'):Rp K G' H' v T:=by
 rcases h with h|⟨a,xs,ts,e1,e2,e,r⟩
 .exact .inl (h.mono m)
 .exact .inr ⟨a,xs,ts,e1,e2,s _ _ e,r.mono m⟩
theorem VN.rp{K:PySem.W.Frag}(h:VN K Hs G H v T fr):Rp K G H v T:=by
 cases fr with
 |false=>exact .inl h
 |true=>obtain⟨a,xs,ts,e1,e2,_,_,e,r⟩:=h; exact .inr ⟨a,xs,ts,e1,e2,e,r⟩
structure VL(f:RF) where
 ck:Gx->Expr->Bool
 ok:∀{Γ X e},X.N = Γ.N->X.env.scope = Γ.sc->ck Γ e=true->PE X e (Tq (aq X.K) f)
noncomputable def zN(i:Nat):RF:=λts=>match ts[i]? with
 |some (some U)=>.ok U
 |_=>.bad
noncomputable def Rx(i:Nat):VL (zN i) where
 ck Γ e:=atName e λx _=>gh Γ i x
 ok hN hs h:=by
  walk_at "O"
  simp only[gh,an]at h
  obtain⟨⟨⟨h1,h2⟩,h3⟩,h4⟩:=h
  refine(K8 (i:=i) (by rw[hN]; exact eq_of_beq h1) (by rw[hs]; unfold wK; simpa[or_assoc]using h2) (by simpa using h3) (by simpa using h4)).imp λσ H Q ⟨G,ts,T,s,en,e,k⟩=>?_
  unfold zN at e
  split at e <;> cases e
  obtain⟨v,q1,q2⟩:=en i _ ‹_›
  exact⟨v,q1,k v G H (Same.refl _) (Same.refl _) s q2⟩
noncomputable def Ry(g:G2)(fa fb:RF):RF:=λts=>(fa ts).bind λa=>(fb ts).bind λb=>(g a b).bind λz=>.ok z.1
noncomputable def lIx(a:VL aA)(b:VL bT):VL (Ry aX aA bT) where
 ck Γ e:=lM e λx y _=>uM y&&a.ck Γ x&&b.ck Γ y
 ok hN hs h:=by
  walk_at "O"
  simp only[an]at h
  refine(Dk Dl (a.ok hN hs h.1.2) (b.ok hN hs h.2) (FN h.1.1)).imp λσ H Q ⟨G,ts,T,s,en,e,k⟩=>?_
  obtain⟨a,e1,e⟩:=eX e
  obtain⟨b,e2,e⟩:=eX e
  obtain⟨z,e3,e⟩:=eX e
  cases e
  refine⟨G,ts,a,s,en,e1,λx G1 H1 m1 n1 s1 rx=>⟨G1,ts,b,s1,λi U q=>?_,e2,λy G2 H2 m2 n2 s2 ry=>Oo.ok G2 H2 x y a b Q s2 (rx.up m2 n2) ry (by rw[e3]; exact λv G' H' w vn=>k v G' H' (m1.trans (m2.trans w.gw.gg)) (n1.trans (n2.trans w.sm)) w.gw.sub vn.rp)⟩⟩
  obtain⟨v,q1,q2⟩:=en i U q
  exact⟨v,q1,q2.up m1 n1⟩
noncomputable def Rz(g:G1)(fa:RF):RF:=λts=>(fa ts).bind λa=>(g a).bind λz=>.ok z.1
noncomputable def ae7(a:VL aA):VL (Rz qw aA) where
 ck Γ e:=o8 e λaL x _=>jC aL .USub (a.ck Γ x)
 ok hN hs h:=by
  walk_at "O"
  refine(Cz CJ (a.ok hN hs h)).imp λσ H Q ⟨G,ts,T,s,en,e,k⟩=>?_
  obtain⟨a,e1,e⟩:=eX e
  obtain⟨z,e3,e⟩:=eX e
  cases e
  exact⟨G,ts,a,s,en,e1,λx G1 H1 m1 n1 s1 rx=>Ot.ok G1 H1 x a Q s1 rx (by rw[e3]; exact λv G' H' w vn=>k v G' H' (m1.trans w.gw.gg) (n1.trans w.sm) w.gw.sub vn.rp)⟩
noncomputable def mW(ρ : En)(j:Nat):Option Tr:=match ρ[j]? with
 |some (.sh T)=>some T
 |some (.ow ts)=>some (.lst ts)
 |some (.rf ts)=>some (.lst ts)
 |_=>none
noncomputable def zO(src:List (Option Nat))(ρ : En):List (Option Tr):=src.map λo=>o.bind (mW ρ)
noncomputable def rP(kt:Tr->Option (Int × Int))(fb:RF)(ts:List (Option Tr)):List Nat->Rs (List (Int × Int))
 | []=>.ok []
 |i::r=>(fb (some (Tr.int i)::ts)).bind λT=>match kt T with
  |some k=>(rP kt fb ts r).bind λks=>.ok (k::ks)
  |none=>.bad
theorem RB:∀{l:List Nat} {ks:List (Int × Int)},rP kt fb ts l=.ok ks->ks.length=l.length/\∀(j i:Nat),l[j]?=some i->∃T k,fb (some (Tr.int i)::ts)=.ok T/\kt T=some k/\ks[j]?=some k
 | [],ks,h=>by cases h; exact⟨rfl,λj i z=>by simp at z⟩
 |a::l,ks,h=>by
  unfold rP at h
  obtain⟨T,e1,h⟩:=eX h
  split at h
  .rename_i k e2
   obtain⟨ks',e3,h⟩:=eX h
   cases h
   obtain⟨h1,h2⟩:=RB e3
   refine⟨by simp[h1],λj i z=>?_⟩
   cases j with
   |zero=>simp at z; subst z; exact⟨T,k,e1,e2,by simp⟩
   |succ j=>simpa using h2 j i (by simpa using z)
  .cases h
noncomputable def Hv(kt:Tr->Option (Int × Int))(src:List (Option Nat))(fa:AF)(fb:RF):EF:=λρ=>(fa ρ).bind λp=>match p.1 with
 | [.v (.int n) _]=>if 0<=n/\n<64 then(cU (rP kt fb (zO src p.2) (List.range n.toNat))).bind λks=>.ok (.v (.lst ((Hr n.toNat λi=>ks.getD i (0,0)).map λi:Nat=>Tr.int i)) true,p.2)else .bad
 |_=>.bad
theorem yQ.gw{K:PySem.W.Frag}{P c:Addr}{x:Str}{G H H':Hp}(sg:Same G H)(gp:G P=none)(tb:bf K H)(hx:x∈fD)(ht:tabIn K x=some (c,P))(hu:∀x'∈fD,∀c',tabIn K x'=some (c',P)->x'=x)(l:yQ P (xZ x) H H'):Gw K G H G H':=by
 refine⟨Same.refl _,λb o q n=>l.kp b o q λz=>n ?_,λb o q=>l.kp b o (sg b o q) λz=>(by rw[z,gp]at q; cases q),λ_ x' hx' c' b e=>?_,λb h=>.inl h⟩
 .subst z
  exact⟨x,hx,c,ht⟩
 .by_cases z:b=P
  .subst z
   have:=hu x' hx' c' e
   subst this
   exact l.tb
  .obtain⟨ps,q,t1,t2⟩:=tb x' hx' c' b e
   refine⟨ps,l.kp _ _ q z,t1,λpos v k=>?_⟩
   obtain⟨d,o,e1,e2,e3⟩:=t2 pos v k
   refine⟨d,o,e1,l.kp _ _ e2 ?_,e3⟩
   rintro rfl
   obtain⟨qs,y,_⟩:=tb x hx c d ht
   rw[y]at e2
   cases e2
theorem ae8{K:PySem.W.Frag}(e:Ok K R ρ σ G H F)(h:mW ρ j=some U):∃v,σ[j]?=some (some v)/\Rp K G H v U:=by
 have z:=e.sl j
 unfold mW at h
 split at h <;> rename_i k <;> cases h <;> rw[k]at z
 .obtain⟨_,v,h1,h2⟩:=z
  exact⟨v,h1,.inl h2⟩
 all_goals
  obtain⟨a,xs,h1,_,_,h4,h5⟩:=z
  exact⟨_,h1,.inr ⟨a,xs,_,rfl,rfl,h4,h5⟩⟩
theorem ae9{t:Tx}{Kw:KW}(hq:q=xZ x)(hx:x∈fD)(ht:tabIn t.K x=some (c,P))(hu:∀x'∈fD,∀c',tabIn t.K x'=some (c',P)->x'=x)
  (hkt:∀G (H:Hp) v T k,Same G H->Rp t.K G H v T->kt T=some k->Kw H v k) (h:Te t (Hv kt src fa fb) σ H Q):Pn Kw P q src (Ta t fa) (Tq t.K fb) σ H Q:=by
 subst hq
 obtain⟨R,ρ,G,F,e,h⟩:=h
 refine lH e .refl h λp h vs G1 H1 F1 e1 s1 v1=>?_
 obtain⟨rs,ρ1⟩:=p
 dsimp only at h
 split at h
 case h_2=>exact h.elim
 rename_i n fr
 split at h
 case isFalse=>exact h.elim
 obtain⟨ks,k1,h⟩:=nY h
 obtain⟨kl,kg⟩:=RB k1
 have nn:((n.toNat:Nat):Int)=n:=by lia
 refine⟨n.toNat,λi=>ks.getD i (0,0),by rw[ae5 v1,nn],by lia,e1.tb x hx c P ht,λH2 lh=>?_⟩
 obtain⟨e2,s2⟩:=e1.grow (lh.gw e1.sub (e1.tg P ⟨x,hx,c,ht⟩) e1.tb hx ht hu)
 refine⟨λi hi H3 s3=>?_,λD ys H3 s3 nD hs=>?_⟩
 .obtain⟨T,k,f1,f2,f3⟩:=kg i i (List.getElem?_range hi)
  refine⟨G1,_,T,e2.sub.trans s3,λj U z=>?_,f1,λv G4 H4 m4 n4 s4 r4=>⟨hkt G4 H4 v T _ s4 r4 ?_,n4⟩⟩
  .cases j with
   |zero=>simp at z; subst z; exact⟨.int i,by simp,.inl (.int i)⟩
   |succ j =>
    have z:(zO src ρ1)[j]?=some (some U):=z
    unfold zO at z
    rw[List.getElem?_map]at z
    obtain⟨o,eq,z⟩:=Option.map_eq_some_iff.mp z
    obtain⟨l,rfl,z⟩:=Option.bind_eq_some_iff.mp z
    obtain⟨v,h1,h2⟩:=ae8 e2 z
    refine⟨v,?_,h2.up (Same.refl _) s3⟩
    show(cR src σ)[j]?=some (some v)
    rw[GZ eq,h1]
    rfl
  .rw[f2]
   show some k=some (ks.getD i (0,0))
   rw[List.getD_eq_getElem?_getD,f3]
   rfl
 .obtain⟨e3,s4⟩:=e2.grow (G':=G1) (H':=H3) ⟨Same.refl _,λb o q _=>s3 b o q,e2.sub.trans s3,λt=>t.fr λb o _ q=>s3 b o q,λb h=>.inl h⟩
  rw[hs.eq]
  exact e3.fin ((s1.trans s2).trans s4) (.flt e3.sub nD) (.flt e3.sub nD (Rw _)) h
structure Kt(kt:Tr->Option (Int × Int)) where
 w:PySem.W.Frag->KW
 d:SortKind
 T:∀X:Cx,nq X (λH u k=>∃v,RelV v u/\w X.K H v k) d
 m:∀K {H H':Hp} {v k},Same H H'->w K H v k->w K H' v k
 i:∀{X:Cx} {pins:List (Addr × Obj)} {σ : St} {H:Hp} {s:Shared},Inv X pins σ H s->∀u k k',(∃v,RelV v u/\w X.K H v k)->(∃v,RelV v u/\w X.K H v k')->k=k'
 r:∀K G (H:Hp) v T k,Same G H->Rp (aq K) G H v T->kt T=some k->w K H v k
noncomputable def Hw:Tr->Option (Int × Int)
 |.int i=>some (i,0)
 |_=>none
noncomputable def kyI:Kt Hw:=⟨λ_=>yR,_,λ_=>aeg,λ_ _ _ _ _ _ h=>h,aeh,λK G H v T k s r e=>by
 unfold Hw at e
 split at e <;> cases e
 exact⟨r.int,rfl⟩⟩
theorem afa{fc:List (Str × Addr)}:bindArgs (kla_fn "<lambda>" q ⟨[],[⟨x,ann,p⟩],none,[],[],none,[]⟩ body scope fc pm cd ctv) ⟨[u],[]⟩=pure [(x,u)]:=by
 simp[bindArgs,seqItems?]
 rfl
noncomputable def Hx(e:Expr)(k:Str->Expr->Bool):Bool:=f9 e λgM lY uW _=>atName gM λr _=>aR lY λa uX=>aU uX (aU uW (k r a))
theorem afb(h:Hx e k=true):∃r a p q,e=.Call (.Name r p) [a] [] q/\k r a=true:=by
 unfold Hx at h
 walk_at "O"
 exact⟨_,_,_,_,rfl,h⟩
noncomputable def Hy(l:List Keyword)(k:Str->Expr->Bool):Bool:=aR l λGn Gp=>yG Gn λGq v _=>lO Gq λn=>aU Gp (k n v)
theorem afc(h:Hy l k=true):∃n v p,l=[⟨some n,v,p⟩]/\k n v=true:=by
 unfold Hy at h
 walk_at "O"
 exact⟨_,_,_,rfl,h⟩
noncomputable def Hz(e:Expr)(k:Str->Expr->Scope->Bool):Bool:=yw e λafd body sc _=>yI afd λafe afg afh afi afj afk afl=>aU afe (aR afg λafm afn=>yH afm λz _ _=>aU afn (pA afh (aU afi (aU afj (pA afk (aU afl (k z body sc)))))))
theorem afo(h:Hz e k=true):∃z body sc t p q,e=.Lambda ⟨[],[⟨z,t,p⟩],none,[],[],none,[]⟩ body sc q/\k z body sc=true:=by
 unfold Hz at h
 walk_at "O"
 exact⟨_,_,_,_,_,_,rfl,h⟩
noncomputable def vSK(kt:Kt afp)(y:Str)(x:Str)(Ns:List Str)(src:List (Option Nat))(as:VA gj)(b:VL bT):VE (Hv afp src gj bT) where
 ck Γ e:=f9 e λaL bA bG _=>atName aL λf _=>aR bA λcN eU=>aU eU (Hx cN λr a=>Hy bG λk v=>Hz v λz body sc=>f == ("sorted" : Str)&&r == ("range" : Str)&&k == ("key" : Str)&&z == x&&je Γ f&&je Γ r&&Γ.B.contains f&&Γ.B.contains r&&Γ.L.contains y&&as.ck Γ [a]&&pO Γ (x::Ns) (none::src) sc []&&decide (∀y∈sc.names,y.2 ≠ .cell)&&decide (sc.names.lookup x=some .local) && !sc.isCoroutine && !sc.isGenerator&&b.ck ⟨x::Ns,sc,Γ.fn,[],[],true,0,[]⟩ body)
 cs:=as.cs
 ok:=@λcl E Γ X e q o h=>by
  walk_at "O"
  replace h:=afb h
  obtain⟨r,a,_,_,rfl,h⟩:=h
  replace h:=afc h
  obtain⟨k,_,_,rfl,h⟩:=h
  replace h:=afo h
  obtain⟨z,body,sc,_,_,_,rfl,h⟩:=h
  simp only[an]at h
  obtain⟨⟨⟨⟨⟨⟨⟨⟨⟨⟨⟨⟨⟨⟨⟨h1,h2⟩,h3⟩,h4⟩,h5⟩,h6⟩,h7⟩,h8⟩,h9⟩,h10⟩,h11⟩,h12⟩,h13⟩,h14⟩,h15⟩,h16⟩:=h
  cases eq_of_beq h1
  cases eq_of_beq h2
  cases eq_of_beq h3
  cases eq_of_beq h4
  obtain⟨S,nd,_,_⟩:=vf h11
  obtain⟨pa,_,na⟩:=as.ok q o h10
  obtain⟨c,P,L,hc,hq⟩:=o.lm y (by simpa using h9)
  have pb:=λA f cd s H=>b.ok (X:=yO X A (x::Ns) (X.env.qual++("<lambda>" : Str)) _ f cd s H) (Γ := ⟨x::Ns,_,Γ.fn,[],[],true,0,[]⟩) rfl rfl h16
  exact(aef (te:=Tq (aq X.K) bT) (kt.T X) (kt.m X.K) kt.i o.r (o.B _ (by simpa using h7)) (o.B _ (by simpa using h8)) o.s o.N ⟨S,of_decide_eq_true h12,of_decide_eq_true h13,by simpa using h14,by simpa using h15⟩ hc L.hd L.bm rfl pa (λ_ _ _ _=>afa) pb (cX o h5).1 (cX o h6).1 (na _ (List.mem_cons_self ..))).imp λσ H Q=>ae9 (c:=c) hq L.nm L.tab L.un (kt.r X.K)
end L2
end
section
namespace L2
open PySem PySem.Spec PyProof.Rows
noncomputable abbrev QF:=En->Rs Tr
noncomputable def tO(i:Nat):QF:=λρ=>match ρ[i]? with
 |some (.sh T)=>.ok T
 |_=>.bad
noncomputable def jh(ts:List Tr)(k:Tr):Rs (Nat × Tr):=match k with
 | .int i=>(match fB ts.length i with
  | some j=>(match ts[j]? with
   |some u=>.ok (j,u)
   |none=>.bad)
  |none=>.bad)
 |_=>.bad
theorem RJ(h:jh ts k=.ok (j,u)):∃i,k=.int i/\fB ts.length i=some j/\ts[j]?=some u:=by
 unfold jh at h
 (repeat' split at h) <;> cases h
 exact⟨_,rfl,‹_›,‹_›⟩
theorem RK(ts:List Tr)(k:Tr)(c:Str):jh ts k ≠ .ex c:=by unfold jh; (repeat' split) <;> (intro z; cases z)
noncomputable def cJ(ρ : En)(i:Nat):Rs (List Tr):=match ρ[i]? with
 |some (.dp ts)=>.ok ts
 |_=>.bad
theorem afq(ρ : En)(i:Nat)(c:Str):cJ ρ i ≠ .ex c:=by
 unfold cJ
 split <;> (intro z; cases z)
section
variable {K:PySem.W.Frag}{R:Addr->Prop}{ρ : En}{σ : St}{G H:Hp}{F:Fp}
theorem DR.set:∀{ts:List Tr} {xs:List V} {bs:List Addr} (m:Nat) {v:V} {T:Tr},DR K G H xs ts bs->aZ T=true->(∀U,ts[m]?=some U->aZ U=true)->Rep K G v T->DR K G H (xs.set m v) (ts.set m T) bs
 | [],_,_,_,_,_,d,_,_,_=>by cases d; exact .nil
 |t::ts,_,_,m,v,T,d,n,u,r=>by
  obtain⟨w,ys,c,b,rfl,rfl,d1,d2⟩:=d.split
  cases m with
  |zero =>
   have:=d1.nil_of (by show(aZ t&&true)=true; rw[u t rfl]; rfl)
   subst this
   exact .cl n r d2
  |succ m=>exact d1.app (DR.set m d2 n (λU h=>u U (by simpa using h)) r)
theorem Ok.putD(e:Ok K R ρ σ G H F)(q:cJ ρ i=.ok ts)(hm:ts[m]?=some U):∃a xs v cs,σ[i]?=some (some (.ref a))/\H a=some (.lst xs)/\xs.length=ts.length/\xs[m]?=some v/\a∉cs/\cs.Nodup/\DR K G H [v] [U] cs/\∀b ys ys' U',H b=some (.lst ys)->b∈cs->DR K G (upd H b (.lst ys')) [v] [U'] cs->Ok K R (ρ.set i (.dp (ts.set m U'))) σ G (upd H b (.lst ys')) F/\aB K G H F G (upd H b (.lst ys')) F:=by
 unfold cJ at q
 split at q <;> cases q
 rename_i k
 have z:=e.sl i
 rw[k]at z
 obtain⟨a,xs,bs,h1,h2,nd,h3,h4,d⟩:=z
 obtain⟨n1,n2⟩:=List.nodup_cons.mp (h2▸nd)
 obtain⟨v,cs,g1,g2,g3,g4,g5⟩:=d.at n2 hm
 refine⟨a,xs,v,cs,h1,h4,d.length,g1,λz=>n1 (g4 a z),g3,g2,λb ys ys' U' hb bc q=>?_⟩
 have fb:Fn F b:=⟨i,by rw[h2]; exact List.mem_cons_of_mem _ (g4 b bc)⟩
 have nab:a≠b:=λz=>n1 (z▸g4 b bc)
 have gb:=e.hid b fb
 refine⟨?_,Same.refl _,λc o h n t=>by rw[aH (show c≠b from λz=>n (z▸fb))]; exact h,λ_ h=>.inl h,λ_ h=>.inr h,λc h=>?_⟩
 .have eF:eG F i (F i)=F:=by funext j; unfold eG; split <;> first|rfl|rw[‹j=i›]
  refine eF▸e.one i (F i) (by rw[List.length_set,e.len]) (λj n=>⟨gq n,rfl⟩) (Same.refl _) (λc o h=>?_) (e.tb.upd hb) (λc h=>.inl h) (λj n c hc o h=>?_) (λc h z=>?_) (λc h=>⟨e.hid c ⟨i,h⟩,λj n z=>n (e.di j i c z h)⟩) ?_
  .rw[aH λz=>by rw[z,gb]at h; cases h]; exact e.sub c o h
  .rw[aH λz=>n (e.di j i c hc (by rw[h2,z]; exact List.mem_cons_of_mem _ (g4 b bc)))]; exact h
  .by_cases y:c=b
   .subst y; rw[bN]at z; cases z
   .rw[aH y]at z; exact(e.rg c h).2 z
  .rw[eY (List.getElem?_eq_some_iff.mp k).1]
   exact⟨a,xs,bs,h1,h2,nd,h3,by rw[aH nab]; exact h4,g5 _ _ _ (Same.refl _) (λc hc n o h=>by rw[aH (show c≠b from λz=>n (z▸bc))]; exact h) q⟩
 .by_cases y:c=b
  .subst y; rw[bN]at h; cases h
  .rw[aH y]at h; exact h
end
theorem au.set{K:PySem.W.Frag}{H:Hp}{v:V}{T:Tr}(h:Rep K H v T):∀{xs:List V} {ts:List Tr} (j:Nat),au K H xs ts->au K H (xs.set j v) (ts.set j T)
 |_,_,_,.nil=>.nil
 |_,_,0,.cons _ r=>.cons h r
 |_,_,j+1,.cons h1 r=>.cons h1 (au.set h j r)
noncomputable def RL(i:Nat)(fk fj:QF)(fe:EF):SF:=λρ=>(fe ρ).bind λp=>(ju p.1).bind λT=>(cJ p.2 i).bind λts=>(cU (fk p.2)).bind λk=>(jh ts k).bind λz=>match z.2 with
 |.lst us=>(cU (fj p.2)).bind λj=>(jh us j).bind λy=>if(aZ T&&aZ y.2)=true then .ok (.nx,p.2.set i (.dp (ts.set z.1 (.lst (us.set y.1 T)))))else .bad
 |_=>.bad
theorem RM{K:PySem.W.Frag}(e:Ok K R ρ σ G H F)(h:tO k ρ=.ok (.int z)) : σ[k]?=some (some (.int z)):=by
 unfold tO at h
 split at h <;> cases h
 have y:=e.sl k
 rw[‹ρ[k]?=_›]at y
 obtain⟨_,v,h1,h2⟩:=y
 cases h2
 exact h1
theorem RN(h:uM y=true)(v:Value):assign (.Subscript o y p) env v=(do let ov <-holding [v] (eval o env); let iv <-holding [v,ov] (eval y env); standAt p; holding [v,ov,iv] (setItem ov iv v); release [v,ov,iv] []):=by
 cases y <;> first|rfl|cases h
noncomputable def sSd(i k j:Nat)(a:VE aA):VS (RL i (tO k) (tO j) aA) where
 ck Γ e:=jB e λaL v _=>aR aL λbA bG=>lM bA λcN eU _=>lM cN λgM lY _=>atName gM λx _=>atName lY λy _=>atName eU λz _=>aU bG (gh Γ i x&&gh Γ k y&&gh Γ j z&&lX v&&a.ck Γ v)
 cs:=a.cs
 ok q o h:=by
  walk_at "O"
  simp only[an]at h
  obtain⟨⟨⟨⟨h1,h2⟩,h3⟩,h4⟩,h5⟩:=h
  refine(Ck (a.ok q o h5) (Lw (Dk Dl (jd o h1) (jd o h2) (FN rfl)) (jd o h3) set_list (RN rfl)) (by unfold swapsWithSole; exact pN h4) rfl rfl).imp λD σ H=>bF λR ρ G F e h=>dh e .refl h λp h v G1 H1 F1 e1 s1 v1=>?_
  obtain⟨T,kT,h⟩:=h.okb (FQ _)
  obtain⟨G2,e2,s2,_,rv⟩:=e1.rA e s1 v1 kT
  obtain⟨ts,k0,h⟩:=h.okb (afq _ _)
  obtain⟨kk,g1,h⟩:=nY h
  obtain⟨⟨m,u⟩,k2,h⟩:=h.okb (RK _ _)
  cases u <;> try exact h.elim
  obtain⟨jj,g2,h⟩:=nY h
  obtain⟨⟨m',u'⟩,k3,hf⟩:=h.okb (RK _ _)
  obtain⟨z,rfl,h5,h6⟩:=RJ k2
  obtain⟨z',rfl,h7,h8⟩:=RJ k3
  dsimp only at hf
  split at hf
  case isFalse=>exact hf.elim
  rename_i nl
  obtain⟨n1,n2⟩:=an.mp nl
  obtain⟨a,xs,v',cs,q1,q2,q3,q4,_,nd,q5,q7⟩:=e2.putD k0 h6
  cases q5 with
  |cl n _ _=>unfold aZ at n; cases n
  | @rw b ys _ cs _ _ bs hb dq r0 =>
  cases r0
  have nb:=(List.nodup_cons.mp nd).1
  rw[List.append_nil]at nb
  obtain⟨e3,s3⟩:=q7 b ys (ys.set m' v) (.lst (_root_.List.set _ m' T)) hb (List.mem_cons_self ..) (.rw bN ((dq.set m' n1 (λU h=>by rw[h8]at h; cases h; exact n2) rv).mono (Same.refl _) λc hc o h=>(by rw[aH (show c≠b from λz=>nb (z▸hc))]; exact h)) .nil)
  refine⟨_,q1,_,RM e2 g1,.inl ⟨a,xs,z,.ref b,rfl,rfl,aM.of q2,?_,_,RM e2 g2,b,ys,z',m',rfl,rfl,hb,by rw[dq.length]; exact h7,hf σ G2 _ F1 e3 (s2.trans s3)⟩⟩
  unfold dZ
  rw[q3,h5]
  exact q4
noncomputable def vwF:aK->aK
 |.sh T=>.sh T
 |.dp us=>.sh (.lst us)
noncomputable def vm(fs:List (Str × aK)):List (Str × aK):=fs.map λp=>(p.1,vwF p.2)
theorem bx.view{K:PySem.W.Frag}{G G' H:Hp}(m:Same G G'){xs:List (Str × V)}{fs:List (Str × aK)}{bs:List Addr}(h:bx K G H xs fs bs):(∀b∈bs,G' b=H b)->bx K G' H xs (vm fs) []:=by
 induction h with
 |nil=>exact λ_=>.nil
 |sh h _ ih=>exact λk=>.sh (h.mono m) (ih k)
 |dp h q _ ih=>exact λk=>.sh (.lst (aM.of ((k _ (List.mem_cons_self ..)).trans h)) (q.reps m λb hb=>k b (List.mem_cons_of_mem _ (List.mem_append_left _ hb)))) (ih λb hb=>k b (List.mem_cons_of_mem _ (List.mem_append_right _ hb)))
noncomputable def Kq:Sl->Sl
 |.sh T=>.sh T
 |.ow ts=>.sh (.lst ts)
 |.dp ts=>.sh (.lst ts)
 |.ob _ c fs=>.vo c (vm fs)
 |.vo c fs=>.vo c fs
 |.dt T=>.sh T
 |_=>.un
noncomputable def vw(ρ : En):En := ρ.map Kq
noncomputable def RP(c:BF):BF:=λρ=>(cU (c (vw ρ))).bind λp=>.ok (p.1,ρ)
theorem Ok.view{K:PySem.W.Frag}(e:Ok K R ρ σ G H F):Ok K (λ_=>False) (vw ρ) σ (wL G H) H (λ_=>[]):=by
 have m:Same G (wL G H):=λ_ _=>rB
 have ls:∀{b xs},Fn F b->H b=some (.lst xs)->wL G H b=some (.lst xs):=λf h=>Qm h (e.hid _ f)
 refine⟨by rw[vw,List.length_map,e.len],λb o q=>(pJ q).elim (e.sub b o) λq=>q.2.1,e.tb,λb t=>?_,λb ⟨_,z⟩=>(by cases z),λb z=>z.elim,λi j b z=>(by cases z),λi=>?_⟩
 .cases q:wL G H b with
  |none=>rfl
  |some o =>
   rcases pJ q with q|⟨_,q,m⟩
   .rw[e.tg b t]at q; cases q
   .exact(e.tb.nm q m t).elim
 .have z:=e.sl i
  unfold vw
  rw[List.getElem?_map]
  cases k : ρ[i]? with
  |none=>rfl
  |some s =>
   rw[k]at z
   cases s with
   |un=>rfl
   |rf _=>rfl
   |sh T=>obtain⟨_,u,h1,h2⟩:=z; exact⟨rfl,u,h1,h2.mono m⟩
   |ow ts =>
    obtain⟨a,xs,h1,h2,_,h4,h5⟩:=z
    exact⟨rfl,_,h1,.lst (aM.of (ls ⟨i,by rw[h2]; exact List.mem_singleton.mpr rfl⟩ h4)) (h5.mono m)⟩
   |dp ts =>
    obtain⟨a,xs,bs,h1,h2,_,_,h4,d⟩:=z
    refine⟨rfl,_,h1,.lst (aM.of (ls ⟨i,by rw[h2]; exact List.mem_cons_self ..⟩ h4)) (d.reps m λb hb=>?_)⟩
    obtain⟨ys,hy⟩:=d.lst b hb
    rw[hy]
    exact ls ⟨i,by rw[h2]; exact List.mem_cons_of_mem _ hb⟩ hy
   |ob l c fs =>
    obtain⟨a,dx,C,xs,bs,h1,h2,_,_,_,kc,h4,_,d⟩:=z
    refine⟨rfl,a,dx,C,xs,h1,kc,Ql h4 rfl (e.hid _ ⟨i,by rw[h2]; exact List.mem_cons_self ..⟩),d.view m λb hb=>?_⟩
    obtain⟨ys,hy⟩:=d.lst b hb
    rw[hy]
    exact ls ⟨i,by rw[h2]; exact List.mem_cons_of_mem _ (List.mem_cons_of_mem _ hb)⟩ hy
   |vo c fs =>
    obtain⟨_,a,dx,C,xs,h1,kc,h4,d⟩:=z
    exact⟨rfl,a,dx,C,xs,h1,kc,m _ _ h4,d.mono m λ_ z=>by cases z⟩
   |dt T =>
    obtain⟨u,h1,_,_,d⟩:=z
    have r:=d.reps m λb hb=>by
     obtain⟨ys,hy⟩:=d.lst b hb
     rw[hy]
     exact ls ⟨i,hb⟩ hy
    cases r with
    |cons r _=>exact⟨rfl,u,h1,r⟩
noncomputable def afr(i:Nat)(f:EF):SF:=λρ=>(f ρ).bind λp=>match p.1 with
 |.v (.lst ts) true=>.ok (.nx,p.2.set i (.ow ts))
 |.v T _=>.ok (.nx,p.2.set i (.sh T))
 |_=>.bad
noncomputable def RQ(i:Nat)(ρ : En):Nat:=match ρ[i]? with
 |some (.sh (.int n))=>n.natAbs+1
 |_=>0
noncomputable def fuL(i:Nat)(ρ : En):Nat:=match ρ[i]? with
 |some (.sh (.lst ts))=>ts.length+1
 |some (.ow ts)=>ts.length+1
 |some (.rf ts)=>ts.length+1
 |_=>0
noncomputable def gY(nl:Nat)(ts:List Tr):En:=ts.map Sl.sh++List.replicate (nl-ts.length) Sl.un
noncomputable def aN(nl:Nat)(b:SF):FP:=λts=>(b (gY nl ts)).bind λq=>match q.1 with
 |.rt T fr=>.ok (T,fr)
 |.nx=>.ok (.non,false)
 |_=>.bad
theorem Ok.init{K:PySem.W.Frag}{N:List Str}(r:au K G vs ts)(hl:vs.length<=N.length)(s:Same G H)(tb:bf K H)(tg:∀b,Tb K b->G b=none):Ok K (λ_=>False) (gY N.length ts) (start N vs) G H (λ_=>[]):=by
 have l:=r.length
 refine⟨by unfold gY start; simp only[List.length_append,List.length_map,List.length_replicate]; lia,s,tb,tg,λb ⟨_,z⟩=>(by cases z),λ_ z=>z.elim,λ_ _ _ z=>(by cases z),λi=>?_⟩
 unfold gY start
 by_cases h:i<vs.length
 .rw[List.getElem?_append_left (by simpa using h),List.getElem?_append_left (by simp; lia),List.getElem?_map,List.getElem?_map,List.getElem?_eq_getElem h,List.getElem?_eq_getElem (show i<ts.length by lia)]
  obtain⟨x,q1,q2⟩:=r.nj (List.getElem?_eq_getElem (show i<ts.length by lia))
  rw[List.getElem?_eq_getElem h]at q1
  cases q1
  exact⟨rfl,_,rfl,q2⟩
 .rw[List.getElem?_append_right (l₁ := ts.map Sl.sh) (by simp; lia),List.getElem?_replicate]
  split <;> rfl
theorem RT{K:PySem.W.Frag}{N ps:List Str}{b:SF}(hn:ps.length<=N.length)(h:nC K cl ps.length (aN N.length b) vs H Q E):Ts ⟨aq K,λc H'=>E (.ref (cl c)) none H'⟩ b {nx:=λ_ H'=>Q .non H',rt:=Q } (start N vs) H:=by
 obtain⟨G,as,hl,r,sg,tb,tg,h⟩:=h
 refine⟨_,_,G,_,Ok.init r (by lia) sg tb tg,h.run (aB.refl (G:=G)) λq h=>?_⟩
 obtain⟨fl,ρ'⟩:=q
 have nf:∀{b:Addr},¬Fn (λ_=>[]) b:=λ⟨_,z⟩=>by cases z
 cases fl with
 |nx=>exact λσ' G' H' F' e s=>h .non G' H' ⟨s.gg,λb o q t=>s.fr b o q nf t,e.sub,λ_=>e.tb,λb q=>(s.nw b q).imp id λz=>z.resolve_right nf⟩ .non
 |rt T fr =>
  refine λv G' H' r=>h v G' H' ⟨r.gg,λb o q t=>r.fm.fr b o q nf t,r.sub,λ_=>r.fm.tb,λb q=>(r.nw b q).imp id λz=>z.resolve_right nf⟩ ?_
  have z:=r.vl
  cases fr with
  |false=>exact z
  |true =>
   obtain⟨a,xs,ts,e1,e2,e3,_,e4⟩:=z
   exact⟨a,xs,ts,e1,e2,e3.resolve_right nf,e4⟩
 |bk=>exact h.elim
 |ct=>exact h.elim
noncomputable def Ey.nm:Ey->Str
 |.fn x .. => x
 | .fd x .. => ("*" : Str)++x
 |.gk x _=>x
 | .fm x .. => ("&" : Str)++x
 | .mt c m .. => c ++ ("." : Str)++m
 | .mk c .. => ("!" : Str)++c
 | .cz c k=>c ++ (":" : Str)++k
noncomputable def fG(k:Nat)(N:List Str)(st:Stmt)(B R L:List Str):Gx:=⟨N,bD st,λ_=>true,B,R,false,k,L⟩
noncomputable def rQ(N ps:List Str)(st:Stmt):Bool :=
 decide ((bD st).kind=.function) && !(bD st).isCoroutine && !(bD st).isGenerator&&decide N.Nodup&&decide (N.take ps.length=ps)&&decide (∀x∈ps,(bD st).names.lookup x=some .local\/(bD st).names.lookup x=some .cell)&&decide (∀y∈(bD st).names,y.2 ≠ .free)&&decide (ps.length<=N.length)
theorem zP{st:Stmt}(h:rQ N ps st=true):oV N ps (bD st)/\ps.length<=N.length:=by
 simp only[rQ,an]at h
 obtain⟨⟨⟨⟨⟨⟨⟨h1,h2⟩,h3⟩,h4⟩,h5⟩,h6⟩,h7⟩,h8⟩:=h
 exact⟨⟨of_decide_eq_true h1,by simpa using h2,by simpa using h3,of_decide_eq_true h4,of_decide_eq_true h5,of_decide_eq_true h6,of_decide_eq_true h7⟩,of_decide_eq_true h8⟩
structure Kn(c:Cc)(B R:List Str):Prop where
 B:∀x∈B,c.mg x=none
 R:∀x∈R,OwnCls x (c.cl x) yU "ValueError.__new__" c.mg c.base
 x:lF c.K
noncomputable def clz(mg:Str->Option Value)(x:Str):Addr:=match mg x with
 |some (.ref k)=>k
 |_=>0
theorem Kn.mk'{P:Program}{w:World}{K:PySem.W.Frag}{mg:Str->Option Value}{base:Heap}{B R:List Str}(M:∀x∈B,mg x=none)(O:∀x∈R,∃k,OwnCls x k yU "ValueError.__new__" mg base) (XT:lF K):Kn ⟨P,w,K,mg,base,clz mg⟩ B R:=⟨M,λx m=>by
 obtain⟨k,o⟩:=O x m
 have e:clz mg x=k:=by unfold clz; rw[o.bound]
 subst e
 exact o,XT⟩
noncomputable def zQ(x:Str)(st:Stmt)(ps:List Str):Prop:=∀(kV doc pm:Value) (an:Option Addr) (cdv ct:Value) (us:List Value),us.length=ps.length->bindArgs (PySem.W.fnOf x x (iw st) (d8 st) (bD st) .none kV doc pm an cdv ct) ⟨us,[]⟩=pure (ps.zip us)
theorem RV:∀{ps:List Str} {us:List Value} {n:Str},us.length=ps.length->n∈ps->((ps.zip us).lookup n).isNone=false
 |p::ps,u::us,n,h,m=>by
  rw[List.zip_cons_cons,List.lookup_cons]
  cases e:n == p with
  |true=>rfl
  |false =>
   rcases List.mem_cons.mp m with z|z
   .rw[z]at e; simp at e
   .exact RV (by simpa using h) z
theorem RW{α β : Type}{f g : α -> Option β}:∀{l:List α},(∀n∈l,f n=g n)->l.filterMap f=l.filterMap g
 | [],_=>rfl
 |a::l,h=>by rw[List.filterMap_cons,List.filterMap_cons,h a (List.mem_cons_self ..),RW λn m=>h n (List.mem_cons_of_mem _ m)]
theorem RX:∀{ps:List Str} {us:List Value},ps.Nodup->us.length=ps.length->(ps.filterMap λn=>((ps.zip us).lookup n).map λx=>(n,x))=ps.zip us
 | [],us,_,_=>rfl
 |p::ps,u::us,d,h=>by
  obtain⟨d1,d2⟩:=List.nodup_cons.mp d
  have e:(ps.filterMap λn=>(((p::ps).zip (u::us)).lookup n).map λx=>(n,x))=ps.zip us:=by
   rw[<-RX d2 (by simpa using h)]
   exact RW λn m=>by rw[List.zip_cons_cons,List.lookup_cons,beq_false_of_ne (show n≠p from λz=>d1 (z▸m))]
  rw[List.filterMap_cons,e]
  simp
noncomputable def pQ(ps:List Str)(st:Stmt):Bool:=match iw st with
 |⟨[],as,none,[],[],none,[]⟩=>decide (as.map (·.arg)=ps)
 |_=>false
theorem RZ{st:Stmt}{x q:Str}(d:ps.Nodup)(h:pQ ps st=true):∀(kV doc pm:Value) (an:Option Addr) (cdv ct:Value) (us:List Value),us.length=ps.length->bindArgs (PySem.W.fnOf x q (iw st) (d8 st) (bD st) .none kV doc pm an cdv ct) ⟨us,[]⟩=pure (ps.zip us):=λkV doc pm an cdv ct us hl=>by
 unfold pQ at h
 split at h
 case h_2=>cases h
 rename_i as e
 have h:=of_decide_eq_true h
 have f:(ps.filter λn=>(List.lookup n (ps.zip us)).isNone)=[]:=List.filter_eq_nil_iff.mpr λn m=>by rw[RV hl m]; exact Bool.false_ne_true
 simp[bindArgs,PySem.W.fnOf,e,h,seqItems?,hl,List.take_of_length_le,f,RX d hl]
 rfl
theorem HB{st:Stmt}(d:ps.Nodup)(h:pQ ps st=true):zQ x st ps:=RZ d h
noncomputable def nZ(tb:List Ey)(l:List Ey):List Ey:=l.filterMap λy=>tb.find? λz=>z.nm == y.nm
theorem zR{tb l:List Ey}(h:∀y∈tb,y.fQ c)(e:l=nZ tb l):∀y∈l,y.fQ c:=λy m=>by
 rw[e]at m
 obtain⟨z,_,q⟩:=List.mem_filterMap.mp m
 exact h y (List.mem_of_find?_eq_some q)
noncomputable def eZ(st:Stmt):List Str:=((bD st).names.filter λy=>y.2 == .local || y.2 == .cell).map (·.1)
noncomputable def psz(st:Stmt):List Str:=(iw st).args.map (·.arg)
noncomputable def dB:List Ey->Nat
 |.fn _ _ _ l::r=>max l (dB r)
 |.fd _ _ _ l::r=>max l (dB r)
 |.fm _ _ _ l::r=>max l (dB r)
 |.mt _ _ _ _ l::r=>max l (dB r)
 |.mk _ _ _ l::r=>max (l+1) (dB r)
 |_::r=>dB r
 | []=>0
theorem aV{st:Stmt}{B R:List Str}(T:VB b)(kn:Kn c B R)(h:∀y∈tb,y.fQ c)(a:At c.K c.mg x st)(h1:(rQ (eZ st) (psz st) st&&pQ (psz st) st&&T.ck (fG (dB T.cs) (eZ st) st B R []) (d8 st))=true:=by kernel_rfl)(e:T.cs=nZ tb T.cs:=by kernel_rfl):∀y ∈ .fn x (psz st) (aN (eZ st).length b) (dB T.cs+1)::tb,y.fQ c:=by
 obtain⟨h1,h2⟩:=an.mp h1
 obtain⟨h1,h3⟩:=an.mp h1
 obtain⟨S,hn⟩:=zP h1
 have hb:zQ x st (psz st):=HB (S.pre▸S.nd.sublist (List.take_sublist ..)) h3
 exact List.forall_mem_cons.mpr ⟨a.DW S hb (λvs H Q E ⟨_,_,h,_⟩=>h) λf cdv A outer s H vs Q E hr q=>⟨_,T.ok (zR h e) (⟨rfl,rfl,S.nd,rfl,hr,xV,kn.B,λx m=>⟨kn.R x m,xU⟩,kn.x,rfl,(λz=>by cases z),(λ_ z=>nomatch z)⟩:Ox c.cl (fG (dB T.cs) (eZ st) st B R []) E (fY (eO c.P c.w) c.P c.w c.K c.mg c.base (eZ st) x (bD st) f cdv A outer s H E)) h2,RT hn q⟩,h⟩
theorem okL{st:Stmt}{B R:List Str}{k P:Addr}(N:List Str)(T:VB b)(kn:Kn c B R)(h:∀y∈tb,y.fQ c)(a:uG c.K c.mg x st k)(L:yS c.K c.mg c.base x k P)(h1:(rQ N (psz st) st&&pQ (psz st) st&&T.ck (fG (dB T.cs) N st B R [x]) (d8 st))=true:=by kernel_rfl)(e:T.cs=nZ tb T.cs:=by kernel_rfl):∀y ∈ .fn x (psz st) (aN N.length b) (dB T.cs+1)::tb,y.fQ c:=by
 obtain⟨h1,h2⟩:=an.mp h1
 obtain⟨h1,h3⟩:=an.mp h1
 obtain⟨S,hn⟩:=zP h1
 have hb:zQ x st (psz st):=HB (S.pre▸S.nd.sublist (List.take_sublist ..)) h3
 exact List.forall_mem_cons.mpr ⟨a.aei S hb (λvs H Q E ⟨_,_,h,_⟩=>h) λf A outer s H vs Q E hr q=>⟨_,T.ok (zR h e) (⟨rfl,rfl,S.nd,rfl,hr,xV,kn.B,λx m=>⟨kn.R x m,xU⟩,kn.x,rfl,(λz=>by cases z),List.forall_mem_cons.mpr ⟨⟨k,P,L,rfl,rfl⟩,(λ_ z=>nomatch z)⟩⟩:Ox c.cl (fG (dB T.cs) N st B R [x]) E (fY (eO c.P c.w) c.P c.w c.K c.mg c.base N x (bD st) f (.ref k) A outer s H E)) h2,RT hn q⟩,h⟩
theorem fm{tb:List Ey}(x:Str){y:Ey}(h:(tb.find? λz=>z.nm == x)=some y):y∈tb:=List.mem_of_find?_eq_some h
noncomputable abbrev fW{f g:EF}(a:VE f)(b:VE g):=v2 .Add Ef lK (λ_=>adv) (λ_=>adw) a b
noncomputable abbrev pR{f g:EF}(a:VE f)(b:VE g):=v2 .Sub (λ_=>fP λi j=>.int (i-j)) yq (λ_=>Mf) (λ_=>adE) a b
noncomputable abbrev bU{f g:EF}(a:VE f)(b:VE g):=v2 .Mult Eh uq (λ_=>adx) (λ_=>adz) a b
noncomputable abbrev mD{f g:EF}(a:VE f)(b:VE g):=v2 .FloorDiv (λ_=>rI yj λi j=>.int (i.fdiv j)) Ei (λ_=>ady) (λ_=>adA) a b
noncomputable abbrev j7{f g:EF}(a:VE f)(b:VE g):=v2 .Mod (λ_=>rI (λ_ j=>j≠0) λi j=>.int (i.fmod j)) yp (λ_=>aa9) (λ_=>adB) a b
noncomputable abbrev n6{f g:EF}(a:VE f)(b:VE g):=v2 .Pow (λ_=>rI xu λi j=>.int (i ^ j.toNat)) kJ (λ_=>Mg) (λ_=>adD) a b
noncomputable abbrev cY:Cq (iG):=⟨.Eq,Dz,λ_ h=>acH h,λ_=>adp⟩
noncomputable abbrev ji:Cq (dw):=⟨.NotEq,DY,λ_ h=>ade h,λ_=>adq⟩
noncomputable abbrev mG:Cq (qR):=⟨.Lt,Em,λ_ h=>adH h,λ_=>adI⟩
noncomputable abbrev jF:Cq (Ek):=⟨.LtE,λ_=>fP λi j=>.bl (decide (i<=j)),λ_ _=>abd,λ_=>adF⟩
noncomputable abbrev HD:Cq (El):=⟨.GtE,λ_=>fP λi j=>.bl (decide (j<=i)),λ_ _=>abe,λ_=>adG⟩
noncomputable abbrev rR:Cq (fJ id):=⟨.In,DG,λ_ h=>acI h,λ_=>adt⟩
noncomputable abbrev R0:Cq (fJ not):=⟨.NotIn,DX,λ_ h=>adb h,λ_=>adu⟩
theorem bb{x:Str}{i:String}(h:bootBuiltins x=some (.builtin i))(n:x ≠ "__name__"):bootBuiltins x=some (.builtin i)∧x ≠ "__name__" ∧ ((∃j,Value.builtin i=.builtin j)∨∃j,Value.builtin i=.type j):=⟨h,n,.inl ⟨_,rfl⟩⟩
theorem bt{x:Str}{i:String}(h:bootBuiltins x=some (.type i))(n:x ≠ "__name__"):bootBuiltins x=some (.type i)∧x ≠ "__name__" ∧ ((∃j,Value.type i=.builtin j)∨∃j,Value.type i=.type j):=⟨h,n,.inr ⟨_,rfl⟩⟩
noncomputable abbrev dX{f:AF}(a:VA f):=vB "len" (.builtin "len") Eo (g1 fX) (bb (by decide +kernel) (by decide +kernel)) (λ_=>adJ) (λ_=>qT adK) a
noncomputable abbrev R3{f:AF}(a:VA f):=vB "abs" (.builtin "abs") (λ_ xs H Q=>∃i,xs=[.int i]/\Q (.int (if i<0 then -i else i)) H) (g1 ur) (bb (by decide +kernel) (by decide +kernel)) (λ_=>abn) (λ_=>qT adL) a
noncomputable abbrev zT{f:AF}(a:VA f):=vB "all" (.builtin "all") DK (g1 qU) (bb (by decide +kernel) (by decide +kernel)) (λo=>acK o.l) (λ_=>qT adP) a
noncomputable abbrev zU{f:AF}(a:VA f):=vB "list" (.type "list") (λK xs H Q=>∃p ys,xs=[.ref p]/\(aM K H p ys\/aW K H p ys)/\∀l,H l=none->Q (.ref l) (upd H l (.lst ys))) (g1 wD) (bt (by decide +kernel) (by decide +kernel)) (λ_=>acs) (λ_=>qT adM) a
noncomputable abbrev afs{f:AF}(a:VA f):=vB "min" (.builtin "min") (λ_ xs H Q=>∃i j,xs=[.int i,.int j]/\Q (.int (if j<i then j else i)) H) (g2 wz) (bb (by decide +kernel) (by decide +kernel)) (λo=>abp o.l) (λ_=>Oq adN) a
noncomputable abbrev aft{f:AF}(a:VA f):=vB "max" (.builtin "max") (λ_ xs H Q=>∃i j,xs=[.int i,.int j]/\Q (.int (if j > i then j else i)) H) (g2 wC) (bb (by decide +kernel) (by decide +kernel)) (λo=>abo o.l) (λ_=>Oq adO) a
noncomputable abbrev R4{f:AF}(a:VA f):=vB "sorted" (.builtin "sorted") Ho (g1 rO) (bb (by decide +kernel) (by decide +kernel)) (λ_=>ae2) (λ_=>qT ae4) a
noncomputable abbrev afu{f:EF}(a:VE f):=zj "int" .int ⟨by decide +kernel,by decide +kernel⟩ a
noncomputable abbrev afv{f:EF}(a:VE f):=zj "bool" .bool ⟨by decide +kernel,by decide +kernel⟩ a
noncomputable abbrev R5{f:EF}(a:VE f):=zj "tuple" .tuple ⟨by decide +kernel,by decide +kernel⟩ a
noncomputable abbrev HF{f:EF}(a:VE f):=zj "list" .list ⟨by decide +kernel,by decide +kernel⟩ a
noncomputable abbrev afw(i:Nat){f:AF}(a:VA f):=vM "append" "list.append" Dp pL ⟨PySem.F.slot_list_append,PySem.F.type_list_append,λ_=>Nq⟩ aeB i a
noncomputable abbrev afx(i:Nat){f:AF}(a:VA f):=vM "insert" "list.insert" Hq vh ⟨PySem.F.slot_list_insert,PySem.F.type_list_insert,λ_=>ae3⟩ ae6 i a
noncomputable def HJ(i:Nat)(fk fe:EF):SF:=λρ=>(fe ρ).bind λp=>(cls [p.1]).bind λTs=>(con p.2 i).bind λ_=>(fk p.2).bind λq=>(dr q.2 q.1).bind λkT=>(qW kT).bind λk=>(con q.2 i).bind λts=>match Ts,fB ts.length k with
 | [T],some j=>.ok (.nx,bH i (ts.set j T) q.2)
 |_,_=>.bad
noncomputable def sS(i:Nat)(k:VE rF)(a:VE aA):VS (HJ i rF aA) where
 ck Γ e:=jB e λaL v _=>aR aL λbA bG=>lM bA λcN y _=>atName cN λx _=>aU bG (gh Γ i x&&lX v&&k.ck Γ y&&a.ck Γ v&&uM y)
 cs:=k.cs++a.cs
 ok q o h:=by
  walk_at "O"
  simp only[an]at h
  obtain⟨⟨⟨⟨h1,h2⟩,h3⟩,h4⟩,h5⟩:=h
  refine(Ck (a.ok (mr q) o h4) (Lw (jd o h1) (k.ok (ml q) o h3) set_list (RN h5)) (by unfold swapsWithSole; exact pN h2) rfl rfl).imp λD σ H=>bF λR ρ G F e h=>dh e .refl h λp h v G1 H1 F1 e1 s1 v1=>?_
  obtain⟨Ts,k1,h⟩:=h.okb (nF _)
  obtain⟨us,k2,h⟩:=h.okb (zu _ _)
  obtain⟨G2,e2,s2,_,r⟩:=e1.vis (vs:=[v]) e s1 (.cons v1 .nil) k1
  obtain⟨a,xs,hi,_,_,_⟩:=e2.con k2
  refine⟨_,hi,dh e2 s2 h λq h w G3 H3 F3 e3 s3 v3=>?_⟩
  obtain⟨kT,k3,h⟩:=h.okb (iC _ _)
  obtain⟨k,k4,h⟩:=h.okb (Oz _)
  obtain⟨ts,k5,h⟩:=h.okb (zu _ _)
  obtain⟨a',ys,hi',hf,hy,ry⟩:=e3.con k5
  rw[hi]at hi'
  cases hi'
  split at h
  case h_2=>exact h.elim
  cases r with
  |cons r _ =>
   obtain⟨e4,s4⟩:=e3.put k5 hf (ry.set (r.mono s3.gg) _)
   exact⟨a,ys,k,_,rfl,OD (iD e3 v3 k3) k4,hy,by rw[ry.length]; assumption,h σ G3 _ F3 e4 ((s2.trans s3).trans s4)⟩
noncomputable abbrev WF:=En->Rs (Tr × En)
noncomputable abbrev WA:=En->Rs (List Tr × En)
noncomputable def Tw(t:Tx)(f:WF):TE:=λσ H Q=>∃R ρ G F,Ok t.K R ρ σ G H F/\bB t H F (f ρ) λp=>∀v G' H' F' bs,Ok t.K R p.2 σ G' H' F'->aB t.K G H F G' H' F'->Vw t.K R H F G' H' F' [v] [p.1] bs->Q v H'
noncomputable abbrev VX(f:WF):=Vn λcl E X e=>PE X e (Tw (tx cl E X) f)
section
variable {t:Tx}{K:PySem.W.Frag}{R:Addr->Prop}{ρ ρ':En}{σ σ':St}{G H G0 H0 G1 H1 G2 H2 G' H' Hs:Hp}{F F0 F1 F2 F' Fs:Fp}{Q:VK}{vs:List V}{Ts:List Tr}{bs cs:List Addr}
theorem Vw.step(tb:bf K H)(s:aB K G H F G' H' F')(h:Vw K R Hs Fs G H F vs Ts bs):Vw K R Hs Fs G' H' F' vs Ts bs:=by
 refine⟨h.nd,λb hb=>?_,h.dr.mono s.gg λb hb o q=>?_⟩ <;> obtain⟨h1,h2,h3,h4⟩:=h.al b hb <;> obtain⟨ys,hy⟩:=h.dr.lst b hb
 .exact⟨h1,(s.flt tb hy h2 h4).2.1,h3,(s.flt tb hy h2 h4).2.2⟩
 .rw[hy]at q
  cases q
  exact(s.flt tb hy h2 h4).1
theorem Vw.back(s:aB K G0 H0 F0 G1 H1 F1)(h:Vw K R H1 F1 G H F vs Ts bs):Vw K R H0 F0 G H F vs Ts bs:=⟨h.nd,λb hb=>⟨(h.al b hb).1.elim (λz=>.inl (s.dm b z)) (s.nf b),(h.al b hb).2⟩,h.dr⟩
theorem Vw.cons(tb:bf K H1)(s0:aB K G0 H0 F0 G1 H1 F1)(s:aB K G1 H1 F1 G2 H2 F2)(h:Vw K R H0 F0 G1 H1 F1 [v] [T] bs)(h':Vw K R H1 F1 G2 H2 F2 vs Ts cs):Vw K R H0 F0 G2 H2 F2 (v::vs) (T::Ts) (bs++cs):=by
 have h2:=h.step tb s
 have h3:=h'.back s0
 refine⟨List.nodup_append.mpr ⟨h.nd,h'.nd,λb hb c hc z=>?_⟩,λb hb=>(List.mem_append.mp hb).elim (h2.al b) (h3.al b),h2.dr.app h3.dr⟩
 subst z
 obtain⟨ys,hy⟩:=h.dr.lst b hb
 rcases(h'.al b hc).1 with z|z
 .rw[hy]at z; cases z
 .exact(h.al b hb).2.1 z
theorem Vw.of(e0:Ok K R ρ σ G H F)(e:Ok K R ρ' σ G' H' F')(s:aB K G H F G' H' F')(v1:fH K σ H G' H' F' v (.v T fr))(n:fM (T,fr)=true):∃bs,Vw K R H F G' H' F' [v] [T] bs:=by
 cases fr with
 |false=>exact⟨[],.nil,(λ_ h=>by cases h),.cl (by simpa[fM]using n) v1.1 .nil⟩
 |true =>
  obtain⟨⟨a,xs,ts,rfl,rfl,q1,q2,q3,q4⟩,f⟩:=v1
  refine⟨[a],by simp,λb hb=>?_,.rw q3 (.flat q4 (by simpa[fM,aZ]using n)) .nil⟩
  cases List.mem_singleton.mp hb
  exact⟨.inl q1,f rfl a rfl,e0.rn q1,q2⟩
end
noncomputable def R6(f:EF):WF:=λρ=>(f ρ).bind λp=>match p.1 with
 |.v T fr=>if fM (T,fr)=true then .ok (T,p.2)else .bad
 |.s _=>.bad
noncomputable def wE(a:VE aA):VX (R6 aA) where
 ck:=a.ck
 cs:=a.cs
 ok q o h:=(a.ok q o h).imp λσ H Q=>bF λR ρ G F e h=>dh e .refl h λp h v G1 H1 F1 e1 s1 v1=>by
  obtain⟨r,ρ1⟩:=p
  cases r with
  |s _=>exact h.elim
  |v T fr =>
   dsimp only at h
   split at h
   case isFalse=>exact h.elim
   obtain⟨bs,z⟩:=Vw.of e e1 s1 v1 ‹_›
   exact h v G1 H1 F1 bs e1 s1 z
noncomputable def oF(i:Nat):WF:=λρ=>match ρ[i]? with
 |some (.dp ts)=>.ok (.lst ts,ρ.set i .un)
 |some (.ow ts)=>if bR ts=true then .ok (.lst ts,ρ.set i .un)else .bad
 |_=>.bad
noncomputable def BZ:WA:=λρ=>.ok ([],ρ)
noncomputable def yCn(f:WF)(g:WA):WA:=λρ=>(f ρ).bind λp=>(g p.2).bind λq=>.ok (p.1::q.1,q.2)
noncomputable def yTu(g:WA):WF:=λρ=>(g ρ).bind λp=>if p.1.length<=1000 then .ok (.tup p.1,p.2)else .bad
noncomputable def yLs(g:WA):WF:=λρ=>(g ρ).bind λp=>if p.1.length<=1000 then .ok (.lst p.1,p.2)else .bad
theorem DR.low{K:PySem.W.Frag}{G G' H:Hp}(m:pI G G'){xs:List V}{ts:List Tr}{bs:List Addr}(h:DR K G H xs ts bs):DR K G' H xs ts bs:=by
 induction h with
 |nil=>exact .nil
 |cl n h _ ih=>exact .cl n (h.flat m n) ih
 |rw h _ _ i1 i2=>exact .rw h i1 i2
 |tp h _ _ i1 i2=>exact .tp (m.jA h) i1 i2
theorem Vw.out{K:PySem.W.Frag}(e:Ok K R ρ σ G H F)(w:Gw K (wL G H) H G' H')(h:Vw K R' H Fs G' H' F' vs Us bs)(nf:∀b,¬Fn Fs b):∃F2,Ok K R ρ σ (wB G H G') H' F2/\aB K G H F (wB G H G') H' F2/\Vw K R H F (wB G H G') H' F2 vs Us bs:=by
 obtain⟨e2,s2⟩:=e.grow (Gb e.sub w)
 refine⟨F,e2,s2,h.nd,λb hb=>?_,h.dr.low (zq w)⟩
 have n:=(h.al b hb).1.resolve_right (nf b)
 refine⟨.inl n,e.fs n,e.rn n,?_⟩
 unfold wB
 split
 .exact e.sub.free n
 .exact(h.al b hb).2.2.2
noncomputable def rT(f:FP)(fa:AF):WF:=λρ=>(fa ρ).bind λp=>(drs p.2 p.1).bind λas=>(f as).bind λz=>.ok (z.1,p.2)
theorem afy(hn:∀ρ p,fa ρ=.ok p->p.1.length=n)(h:Tw (tx cl E X) (rT f fa) σ H Q):CW (yV X.K cl n f) [] E (Ta (tx cl E X) fa) σ H Q:=by
 obtain⟨R,ρ,G,F,e,h⟩:=h
 cases ek:fa ρ with
 |bad=>rw[rT,ek]at h; exact h.elim
 |ex c=>exact⟨R,ρ,G,F,e,by rw[rT,ek]at h; rw[ek]; exact h⟩
 |ok p =>
 refine⟨R,ρ,G,F,e,?_⟩
 simp only[rT,ek,Rs.bind]at h
 rw[ek]
 intro vs G1 H1 F1 e1 s1 v1
 obtain⟨as,k1,h⟩:=h.okb (uN _ _)
 show yV X.K cl n f (vs++[]) H1 Q E
 rw[List.append_nil]
 refine⟨wL G1 H1,as,by rw[v1.length,hn ρ p ek],(uO e1 v1 k1).reps e1.sub,λb o q=>(pJ q).elim (e1.sub b o) λq=>q.2.1,e1.tb,λb t=>?_,?_⟩
 .cases q:wL G1 H1 b with
  |none=>rfl
  |some o =>
   rcases pJ q with q|⟨_,q,m⟩
   .rw[e1.tg b t]at q; cases q
   .exact(e1.tb.nm q m t).elim
 .cases ef:f as with
  |bad=>rw[ef]at h; exact h.elim
  |ex c=>rw[ef]at h; exact λH' q=>h H' (s1.back q.none)
  |ok z =>
   rw[ef]at h
   refine λv G' H' w ⟨bs,vw⟩=>?_
   obtain⟨F2,e2,s2,v2⟩:=Vw.out e1 w vw λb (z:Fn (λ_=>[]) b)=>z.elim λ_ z=>by cases z
   exact h v _ H' F2 bs e2 (s1.trans s2) (v2.back s1)
noncomputable def vFd(x:Str)(ps:List Str)(f:FP)(l:Nat)(as:VA gj):VX (rT f gj) where
 ck Γ e:=f9 e λ_ m _ _=>m.length == ps.length&&decide (l <= Γ.k)&&pG Γ x as e
 cs:=.fd x ps f l::as.cs
 ok q o h:=by
  obtain⟨_,_,_,_,e0,h⟩:=wj h
  subst e0
  simp only[an]at h
  obtain⟨⟨h1,h0⟩,h⟩:=h
  obtain⟨p,a,es,p',e',h2,h3⟩:=uR h
  cases e'
  obtain⟨D,q⟩:=List.forall_mem_cons.mp q
  obtain⟨pa,la,na⟩:=as.ok q o h3
  rw[eq_of_beq h1]at la
  obtain⟨d,fd,d1,d2,d3,d4⟩:=iz.mono D (of_decide_eq_true h0)
  exact(Dd d1 o.r (cX o h2).1 d4 d3 d2 .nil o.e pa (cX o h2).2 (iy (na _ (List.mem_cons_self ..))) (jT (λy m=>na y (List.mem_cons_of_mem _ m)) _)).imp λ_ _ _=>afy la
noncomputable def HN(f:WF):WF:=λρ=>(cU (f (vw ρ))).bind λp=>.ok (p.1,ρ)
noncomputable def R7(a:VX aA):VX (HN aA) where
 ck:=a.ck
 cs:=a.cs
 ok q o h:=(a.ok q o h).imp λσ H Q=>bF λR ρ G F e h=>by
  obtain⟨p,k,h⟩:=nY h
  refine⟨_,_,_,_,e.view,?_⟩
  rw[k]
  intro v G' H' F' bs e' s' v'
  have nf:∀b,¬Fn (λ_=>[]) b:=λb ⟨_,z⟩=>by cases z
  obtain⟨F2,e2,s2,v2⟩:=Vw.out e ⟨s'.gg,λb o q t=>s'.fr b o q (nf b) t,e'.sub,λ_=>e'.tb,λb q=>(s'.nw b q).imp id λz=>z.resolve_right (nf b)⟩ v' nf
  exact h v _ H' F2 bs e2 s2 v2
theorem Vw.rep{K:PySem.W.Frag}(h:Vw K R Hs Fs G H F [v] [T] bs)(n:aZ T=true):Rep K G v T:=by
 have d:=h.dr
 cases d.nil_of (by show(aZ T&&true)=true; rw[n]; rfl)
 cases d.reps (Same.refl _) (λ_ z=>by cases z)
 assumption
noncomputable def mQ(i:Nat)(T:Tr)(ρ : En):Rs En:=match T with
 |.lst ts=>.ok (ρ.set i (.dp ts))
 |T=>if aZ T=true then .ok (ρ.set i (.sh T))else .bad
noncomputable def afz(i:Nat)(f:WF):SF:=λρ=>(f ρ).bind λp=>(mQ i p.1 p.2).bind λρ'=>.ok (.nx,ρ')
noncomputable def afA(i:Nat)(f:WA):SF:=λρ=>(cJ ρ i).bind λ_=>(f ρ).bind λp=>(cJ p.2 i).bind λts=>match p.1 with
 | [T]=>if ts.length<=100000 then .ok (.nx,p.2.set i (.dp (ts++[T])))else .bad
 |_=>.bad
theorem Ok.cJ{K:PySem.W.Frag}(e:Ok K R ρ σ G H F)(q:L2.cJ ρ i=.ok ts):∃a xs bs,σ[i]?=some (some (.ref a))/\ρ[i]?=some (.dp ts)/\F i=a::bs/\(F i).Nodup/\(∀b∈F i,¬R b)/\H a=some (.lst xs)/\DR K G H xs ts bs:=by
 unfold L2.cJ at q
 split at q <;> cases q
 have z:=e.sl i
 rw[‹ρ[i]?=_›]at z
 obtain⟨a,xs,bs,z1,z⟩:=z
 exact⟨a,xs,bs,z1,‹_›,z⟩
noncomputable def afB(i m:Nat):SF:=λρ=>(cJ ρ i).bind λts=>match ts[m]? with
 |some (.lst us)=>if bR us=true then .ok (.nx,ρ.set i (.dp (ts.set m (.lst []))))else .bad
 |_=>.bad
noncomputable abbrev DF:=En->Rs Tr
structure rW(K:PySem.W.Frag)(R:Addr->Prop)(G H:Hp)(F:Fp)(G' H':Hp)(v:V)(T:Tr):Prop where
 gg:Same G G'
 fm:Fr K H F H'
 sub:Same G' H'
 nw:∀b,G' b≠none->G b≠none\/H b=none\/Fn F b
 vl:∃bs,bs.Nodup/\(∀b∈bs,(H b=none\/Fn F b)/\G' b=none)/\DR K G' H' [v] [T] bs
noncomputable def HS(t:Tx)(g:DF):TS:=λD σ H=>∃R ρ G F,Ok t.K R ρ σ G H F/\bB t H F (g ρ) λT=>∀v G' H',rW t.K R G H F G' H' v T->D.rt v H'
theorem rW.back{K:PySem.W.Frag}(s:aB K G0 H0 F0 G H F)(h:rW K R G H F G' H' v T):rW K R G0 H0 F0 G' H' v T:=by
 have ff:∀b,H b=none\/Fn F b->H0 b=none\/Fn F0 b:=λb=>λz=>z.elim (λz=>.inl (s.dm b z)) (s.nf b)
 obtain⟨bs,nd,al,d⟩:=h.vl
 exact⟨s.gg.trans h.gg,s.back h.fm,h.sub,λb z=>(h.nw b z).elim (s.nw b) λz=>.inr (ff b z),bs,nd,λb hb=>⟨ff b (al b hb).1,(al b hb).2⟩,d⟩
noncomputable abbrev VD(g:DF):=Vn λcl E X e=>cQ X e (HS (tx cl E X) g)
noncomputable abbrev afC{g:DF}(_:VD g):DF:=g
noncomputable def R8(f:WF):DF:=λρ=>(f ρ).bind λp=>.ok p.1
noncomputable def dR(a:VX aA):VD (R8 aA) where
 ck Γ e:=aR e λz l=>aU l (qX z λy _=>lO y λx=>a.ck Γ x)
 cs:=a.cs
 ok q o h:=by
  walk_at "O"
  exact(Cg (Ci (a.ok q o h))).imp λD σ H=>bF λR ρ G F e h=>⟨R,ρ,G,F,e,h.run (aB.refl (G:=G)) λp h v G1 H1 F1 bs e1 s1 v1=>h v G1 H1 ⟨s1.gg,⟨s1.fr,e1.tb⟩,e1.sub,s1.nw,bs,v1.nd,λb hb=>⟨(v1.al b hb).1,(v1.al b hb).2.2.2⟩,v1.dr⟩⟩
noncomputable def afD(f:SF)(g:DF):DF:=λρ=>(f ρ).bind λp=>match p.1 with
 |.nx=>g p.2
 |.rt T false=>if aZ T=true then .ok T else .bad
 |_=>.bad
noncomputable def pU(nl:Nat)(g:DF):FP:=λts=>(g (gY nl ts)).bind λT=>.ok (T,o7 T)
section
variable {K:PySem.W.Frag}{G H G' H':Hp}{F:Fp}{N ps:List Str}{g:DF}{Q:VK}{E:XK}
theorem rW.gw{R:Addr->Prop}(r:rW K R G H (λ_=>[]) G' H' v T):Gw K G H G' H':=by
 have nf:∀{b:Addr},¬Fn (λ_=>[]) b:=λ⟨_,z⟩=>by cases z
 exact⟨r.gg,λb o q t=>r.fm.fr b o q nf t,r.sub,λ_=>r.fm.tb,λb q=>(r.nw b q).imp id λz=>z.resolve_right nf⟩
theorem afE(hn:ps.length<=N.length)(h:yV K cl ps.length (pU N.length g) vs H Q E):HS ⟨aq K,λc H'=>E (.ref (cl c)) none H'⟩ g {nx:=λ_ H'=>Q .non H',rt:=Q } (start N vs) H:=by
 obtain⟨G,as,hl,r,sg,tb,tg,h⟩:=h
 refine⟨_,_,G,_,Ok.init r (by lia) sg tb tg,h.run (aB.refl (G:=G)) λT h v G' H' r=>?_⟩
 obtain⟨bs,nd,al,d⟩:=r.vl
 exact h v G' H' r.gw ⟨bs,nd,λb hb=>⟨(al b hb).1,(λ⟨_,z⟩=>by cases z),id,(al b hb).2⟩,d⟩
open Classical in
theorem Gw.R9(s:Same G H)(w:Gw K G H G' H')(cs:List Addr)(n:∀b∈cs,H b=none):∃G2,Gw K G H G2 H'/\Same G' G2/\(∀b∈cs,G2 b=H' b)/\∀b,b∉cs->G2 b=G' b:=by
 have i1:∀b,b∈cs->(if b∈cs then H' b else G' b)=H' b:=λb h=>if_pos h
 have i2:∀b,b∉cs->(if b∈cs then H' b else G' b)=G' b:=λb h=>if_neg h
 have m:Same G' λb=>if b∈cs then H' b else G' b:=λb o q=>by
  by_cases h:b∈cs
  .exact(i1 b h).trans (w.sub b o q)
  .exact(i2 b h).trans q
 refine⟨λb=>if b∈cs then H' b else G' b,⟨w.gg.trans m,w.hh,λb o q=>?_,w.tb,λb q=>?_⟩,m,i1,i2⟩ <;> by_cases h:b∈cs
 .rw[i1 b h]at q; exact q
 .rw[i2 b h]at q; exact w.sub b o q
 .exact .inr (n b h)
 .rw[i2 b h]at q; exact w.nw b q
theorem afF(hn:ps.length<=N.length)(h:nC K cl ps.length (pU N.length g) vs H Q E):HS ⟨aq K,λc H'=>E (.ref (cl c)) none H'⟩ g {nx:=λ_ H'=>Q .non H',rt:=Q } (start N vs) H:=by
 obtain⟨G,as,hl,r,sg,tb,tg,h⟩:=h
 refine⟨_,_,G,_,Ok.init r (by lia) sg tb tg,h.run (aB.refl (G:=G)) λT h v G' H' r=>?_⟩
 obtain⟨bs,nd,al,d⟩:=r.vl
 have fr:∀b∈bs,H b=none:=λb hb=>(al b hb).1.resolve_right λ⟨_,z⟩=>by cases z
 cases k:o7 T with
 |false =>
  obtain⟨G2,w,m,i1,_⟩:=r.gw.R9 sg bs fr
  rw[k]at h
  refine h v G2 H' w ?_
  cases d.reps m i1
  assumption
 |true =>
  rw[k]at h
  unfold o7 at k
  split at k <;> cases k
  cases d with
  |cl n _ _=>unfold aZ at n; cases n
  | @rw b ys _ cs _ _ bs hb dq r0 =>
  cases r0
  rw[List.append_nil]at nd al fr
  obtain⟨n1,_⟩:=List.nodup_cons.mp nd
  obtain⟨G2,w,m,i1,i2⟩:=r.gw.R9 sg cs λb hb=>fr b (List.mem_cons_of_mem _ hb)
  exact h _ G2 H' w ⟨b,ys,_,rfl,rfl,fr b (List.mem_cons_self ..),(i2 b n1).trans (al b (List.mem_cons_self ..)).2,hb,dq.reps m i1⟩
end
theorem okD{st:Stmt}{B R:List Str}(T:VD g)(kn:Kn c B R)(h:∀y∈tb,y.fQ c)(a:At c.K c.mg x st)(h1:(rQ (eZ st) (psz st) st&&pQ (psz st) st&&T.ck (fG (dB T.cs) (eZ st) st B R []) (d8 st))=true:=by kernel_rfl)(e:T.cs=nZ tb T.cs:=by kernel_rfl):∀y ∈ .fd x (psz st) (pU (eZ st).length g) (dB T.cs+1) :: .fn x (psz st) (pU (eZ st).length g) (dB T.cs+1)::tb,y.fQ c:=by
 obtain⟨h1,h2⟩:=an.mp h1
 obtain⟨h1,h3⟩:=an.mp h1
 obtain⟨S,hn⟩:=zP h1
 have hb:zQ x st (psz st):=HB (S.pre▸S.nd.sublist (List.take_sublist ..)) h3
 have ox:=λf cdv A outer s H E hr=>T.ok (zR h e) (⟨rfl,rfl,S.nd,rfl,hr,xV,kn.B,λx m=>⟨kn.R x m,xU⟩,kn.x,rfl,(λz=>by cases z),(λ_ z=>nomatch z)⟩:Ox c.cl (fG (dB T.cs) (eZ st) st B R []) E (fY (eO c.P c.w) c.P c.w c.K c.mg c.base (eZ st) x (bD st) f cdv A outer s H E)) h2
 exact List.forall_mem_cons.mpr ⟨a.DW S hb (λvs H Q E ⟨_,_,h,_⟩=>h) λf cdv A outer s H vs Q E hr q=>⟨_,ox f cdv A outer s H E hr,afE hn q⟩,List.forall_mem_cons.mpr ⟨a.DW S hb (λvs H Q E ⟨_,_,h,_⟩=>h) λf cdv A outer s H vs Q E hr q=>⟨_,ox f cdv A outer s H E hr,afF hn q⟩,h⟩⟩
noncomputable def HW(src:List (Option Nat))(fi:IF)(g:GF)(f:EF):WF:=λρ=>(fi ρ).bind λp=>if p.1.length<=100000 then(cU (j6 g gW f p.1 (cO src p.2))).bind λz=>if dG src z.2 p.2=true then .ok (.lst z.1,aY src z.2 p.2)else .bad else .bad
theorem afG{t:Tx}{tc:TT}(hc:∀σ H Q,Tt ⟨t.K,λ_ _=>False⟩ gW σ H Q->tc σ H Q)(I:Inj src)(hj:∀k j:Nat,src[k]?=some (some j)->k∉js)(ng:∀T ρ c,gf T ρ ≠ .ex c)(h:Tw t (HW src fi gf f) σ H Q):rH (Ti t fi) (nQ t.K gf js) src tc (Te ⟨t.K,λ_ _=>False⟩ f) σ H Q:=by
 obtain⟨R,ρ,G,F,e,h⟩:=h
 refine⟨R,ρ,G,F,e,h.run (aB.refl (G:=G)) λp h J G1 H1 F1 e1 s1 it D hD=>?_⟩
 split at h
 case isFalse=>exact h.elim
 obtain⟨z,kz,h⟩:=nY h
 split at h
 case isFalse=>exact h.elim
 rw[Hi]at kz
 refine G9 hc I hj ng ‹_› hD Q9 e1 (λG' H' m s _=>it G' H' m s) kz ‹_› λG' H' F' xs e' s' d g _ _ ⟨bs,a⟩=>?_
 have dd:=DR.rw d a.dr .nil
 rw[List.append_nil]at dd
 exact h _ G' H' F1 (D::bs) e' (s1.trans s') ⟨List.nodup_cons.mpr ⟨λz=>(a.al D z).2.1 rfl,a.nd⟩,List.forall_mem_cons.mpr ⟨⟨.inl (s1.dm D hD),e1.fs hD,e1.rn hD,g⟩,λb hb=>⟨.inl (s1.dm b (a.al b hb).1),e1.fs (a.al b hb).1,(a.al b hb).2.2.1,(a.al b hb).2.2.2.2⟩⟩,dd⟩
noncomputable def wCo(src:List (Option Nat))(N:List Str)(i:VI lZ)(g:VG iQ jY)(b:VE bT):VX (HW src lZ iQ bT) where
 ck Γ e:=o9 e λx aL sc _=>aR aL λbA bG=>pq bA λt y cN eU=>aU cN (jC eU 0 (aU bG (i.ck Γ (t,y)&&g.ck (cG Γ N sc) t&&b.ck (cG Γ N sc) x&&pO Γ N src sc jY)))
 cs:=i.cs++(g.cs++b.cs)
 ok:=@λcl E Γ X e q o h=>by
  walk_at "O"
  rename_i x0 sc pos t0 y0
  simp only[an]at h
  obtain⟨⟨⟨h1,h2⟩,h3⟩,h4⟩:=h
  obtain⟨pi,ni⟩:=i.ok (ml q) o h1
  obtain⟨S,nd,I,hj⟩:=vf h4
  have pg:=λC s H ex=>g.ok (X:=cj X N sc C s H ex) (ml (mr q)) (mq o nd) h2
  have pb:=λC s H ex=>b.ok (X:=cj X N sc C s H ex) (mr (mr q)) (mq o nd) h3
  exact(zK o.s o.N S o.l pi (λC s H ex=>(pg C s H ex).1) (λ_ _ _ _=>u5) pb (nU ni)).imp λσ H Q=>afG (λσ H Q ⟨R,ρ,G,F,e,h⟩=>h G H F e .refl) I hj (pg 0 X.s₀ X.H₀ []).2.1
end L2
end
section
namespace L2
open PySem
section
variable {α β : Type}
theorem bk{r:Rs α}{f : α -> Rs β}{a : α}{s:Rs β}(h:r=.ok a)(k:f a=s):r.bind f=s:=by subst h; exact k
end
section
variable {ρ ρ1 ρ2 ρ3:En}{f g:SF}{fa fb:EF}{aa:AF}{T U:Tr}{b b':Bool}{r:Rs (Fl × En)}{i:Nat}{ps:List Rv}{as ts:List Tr}{z:Tr × Bool}{F:FP}{c d:BF}{x y:Rv}
theorem nx_(h:f ρ=.ok q):uY f ρ=.ok q:=by unfold uY; rw[h]; rfl
theorem ac_(h:fa ρ=.ok (x,ρ1))(k:aa ρ1=.ok (ps,ρ2)):fU fa aa ρ=.ok (x::ps,ρ2):=bk h (bk k rfl)
theorem ap_(h:fa ρ=.ok (.v T b,ρ1))(n:con ρ i=.ok as)(k:con ρ1 i=.ok ts)(l:ts.length<=100000):zx i pL (fU fa fL) ρ=.ok (.v .non false,bH i (ts++[T]) ρ1):=bk n (bk (ac_ h rfl) (bk rfl (bk k (bk (by unfold pL; exact if_pos l) rfl))))
end
noncomputable def cS(fl:Fl)(g:SF)(ρ : En):Rs (Fl × En):=match fl with
 |.nx=>g ρ
 |fl=>.ok (fl,ρ)
noncomputable def cB{α : Type}(b:Bool)(f g:En->Rs α)(ρ : En):Rs α := if b=true then f ρ else g ρ
noncomputable def W(r:Rs (Fl × En))(Q:Fl->En->Prop):Prop:=∃fl ρ,r=.ok (fl,ρ)/\Q fl ρ
noncomputable def Bd(x:Rv)(ρ : En):Rs (Tr × Bool):=match x with
 |.v T fr=>.ok (T,fr)
 |.s i=>match ρ[i]? with
  |some (.ow ts)=>.ok (.lst ts,true)
  |_=>.bad
noncomputable def Bf:Fl->Rs (Tr × Bool)
 |.rt T fr=>.ok (T,fr)
 |.nx=>.ok (.non,false)
 |_=>.bad
section
variable {α : Type}{ρ ρ1 ρ2 ρ3:En}{f g:SF}{fa fb:EF}{aa:AF}{T U V:Tr}{b b':Bool}{r:Rs (Fl × En)}{i j n:Nat}{ps:List Rv}{as ts us:List Tr}{F:FP}{c d:BF}{x y:Rv}{q:Rs (Bool × En)}{s:Rs (Rv × En)}{fl:Fl}{z:Tr × Bool}{u v:En->Rs α}{w:Rs α}{S:Sl}{Q Q0:Fl->En->Prop}{gf:GF}{fi:IF}
theorem Zm(h:W (f ρ) λfl ρ1=>W (cS fl g ρ1) Q):W (Gh f g ρ) Q:=by
 obtain⟨fl,ρ1,e,xW,ρ2,e',q⟩:=h
 refine⟨xW,ρ2,bk e ?_,q⟩
 cases fl <;> exact e'
theorem Zn(k:W (g ρ) Q):W (cS .nx g ρ) Q:=k
theorem ZP(k:Q (.rt T b) ρ):W (cS (.rt T b) g ρ) Q:=⟨_,_,rfl,k⟩
theorem ZQ(k:Q .ct ρ):W (cS .ct g ρ) Q:=⟨_,_,rfl,k⟩
theorem ZR(k:Q .nx ρ):W (Qp ρ) Q:=⟨_,_,rfl,k⟩
theorem xT(h:b=true)(k:u ρ = w):cB b u v ρ = w:=(if_pos h).trans k
theorem xF(h:b=false)(k:v ρ = w):cB b u v ρ = w:=(if_neg (by rw[h]; exact Bool.false_ne_true)).trans k
theorem wT(h:b=true)(k:W (f ρ) Q):W (cB b f g ρ) Q:=by unfold cB; rw[if_pos h]; exact k
theorem wF(h:b=false)(k:W (g ρ) Q):W (cB b f g ρ) Q:=by unfold cB; rw[if_neg (by rw[h]; exact Bool.false_ne_true)]; exact k
theorem ZS(h:c ρ=.ok (b,ρ1))(k:W (cB b f g ρ1) Q):W (QD c f g ρ) Q:=k.elim λfl k=>k.elim λρ2 k=>⟨fl,ρ2,bk h k.1,k.2⟩
theorem xEI(h:c ρ=.ok (b,ρ1))(k:cB b fa fb ρ1=s):uL c fa fb ρ = s:=bk h k
theorem xBA(h:c ρ=.ok (b,ρ1))(k:cB b d (λρ=>.ok (false,ρ)) ρ1=q):uJ c d ρ = q:=bk h k
theorem Z0(h:c ρ=.ok (b,ρ1))(k:cB b (λρ=>.ok (true,ρ)) d ρ1=q):uK c d ρ = q:=bk h k
theorem xEA(h:dO fa ρ=.ok (b,ρ1))(k:cB b fb (λρ=>.ok (eB false,ρ)) ρ1=s):Ft fa fb ρ = s:=bk h k
theorem xEO(h:dO fa ρ=.ok (b,ρ1))(k:cB b (λρ=>.ok (eB true,ρ)) fb ρ1=s):eOr fa fb ρ = s:=bk h k
theorem xOv(h:d ρ=.ok (b',ρ)):cB b (λρ=>.ok (true,ρ)) d ρ=.ok (b || b',ρ):=by cases b <;> first|exact h|rfl
theorem xAv(h:d ρ=.ok (b',ρ)):cB b d (λρ=>.ok (false,ρ)) ρ=.ok (b&&b',ρ):=by cases b <;> first|exact h|rfl
theorem xOV(h:fb ρ=.ok (.v (.bl b') false,ρ)):cB b (λρ=>.ok (eB true,ρ)) fb ρ=.ok (.v (.bl (b || b')) false,ρ):=by cases b <;> first|exact h|rfl
theorem xAV(h:fb ρ=.ok (.v (.bl b') false,ρ)):cB b fb (λρ=>.ok (eB false,ρ)) ρ=.ok (.v (.bl (b&&b')) false,ρ):=by cases b <;> first|exact h|rfl
theorem xEN(h:dO fa ρ=.ok (b,ρ1)):Fv fa ρ=.ok (.v (.bl (!b)) false,ρ1):=bk h rfl
theorem ZX(h:c ρ=.ok (b,ρ1)):Fj c ρ=.ok (!b,ρ1):=bk h rfl
theorem ZV(h:fa ρ=.ok (x,ρ1))(k:dr ρ1 x=.ok T)(e:qp T=.ok b):dO fa ρ=.ok (b,ρ1):=bk h (bk k (bk e rfl))
theorem ZW(h:fa ρ=.ok (x,ρ1))(k:dr ρ1 x=.ok T)(e:ou T=.ok b):PJ fa ρ=.ok (b,ρ1):=bk h (bk k (bk e rfl))
theorem Zo(h:fa ρ=.ok (.v T b,ρ1))(e : ρ1.set i (.sh T) = ρ2)(k:Q .nx ρ2):W (uV fa (gN i) ρ) Q:=⟨_,_,e▸bk h rfl,k⟩
theorem wAg(h:fa ρ=.ok (.v T b,ρ1))(k:gf T ρ1=.ok ρ2)(q:Q .nx ρ2):W (uV fa gf ρ) Q:=⟨_,_,bk h (bk k rfl),q⟩
theorem xG2(e:T=.tup [U,V])(h : ρ.set i (.sh U) = ρ1)(k : ρ1.set j (.sh V) = ρ2):gT 2 (jV (gN i) (jV (gN j) uU)) T ρ=.ok ρ2:=by subst e h k; rfl
theorem xG3{k':Nat}{W:Tr}(e:T=.tup [U,V,W])(h : ρ.set i (.sh U) = ρ1)(k : ρ1.set j (.sh V) = ρ2)(l : ρ2.set k' (.sh W) = ρ3):gT 3 (jV (gN i) (jV (gN j) (jV (gN k') uU))) T ρ=.ok ρ3:=by subst e h k l; rfl
theorem xGN(e : ρ.set i (.sh T) = ρ1):gN i T ρ=.ok ρ1:=by subst e; rfl
theorem wOw(h:fa ρ=.ok (.v T true,ρ1))(l:T=.lst ts)(e : ρ1.set i (.ow ts) = ρ2)(k:Q .nx ρ2):W (Qv i fa ρ) Q:=by subst l e; exact⟨_,_,bk h rfl,k⟩
noncomputable def HX(i:Nat)(T:Tr)(b:Bool)(ρ : En):En:=match b,T with
 |true,.lst ts=>ρ.set i (.ow ts)
 |_,T=>ρ.set i (.sh T)
theorem oV1(l:T=.lst ts)(e : ρ.set i (.ow ts) = ρ1):HX i T true ρ = ρ1:=by subst l; exact e
theorem oV2(e : ρ.set i (.sh T) = ρ1):HX i T false ρ = ρ1:=e
theorem wON(h:fa ρ=.ok (.v T b,ρ1))(e:HX i T b ρ1 = ρ2)(k:Q .nx ρ2):W (afr i fa ρ) Q:=⟨_,_,bk h (by subst e; cases b <;> cases T <;> rfl),k⟩
theorem Z2(h:fa ρ=.ok (x,ρ1))(k:Q .nx ρ1):W (QB fa ρ) Q:=⟨_,_,bk h rfl,k⟩
theorem Z1(h:fa ρ=.ok (x,ρ1))(k:Bd x ρ1=.ok (T,b))(q:Q (.rt T b) ρ1):W (QC fa ρ) Q:=⟨_,_,bk h (by
 cases x with
 |v T fr=>cases k; rfl
 |s i =>
  show(match ρ1[i]? with|some (.ow ts)=>_|_=>_)=_
  unfold Bd at k
  dsimp only at k ⊢
  split at k <;> cases k
  rfl),q⟩
theorem wPa(h:aa ρ=.ok (ps,ρ1))(k:cls ps=.ok [T,U])(e : ρ1.set i (.sh T) = ρ2)(e' : ρ2.set j (.sh U) = ρ3)(q:Q .nx ρ3):W (Qy i j aa ρ) Q:=by subst e e'; exact⟨_,_,bk h (bk k rfl),q⟩
theorem wk(h:fa ρ=.ok (x,ρ1))(k:aa ρ1=.ok (ps,ρ2)):fU fa aa ρ=.ok (x::ps,ρ2):=bk h (bk k rfl)
theorem Zq{G:G2}(h:fa ρ=.ok (x,ρ1))(k:fb ρ1=.ok (y,ρ2))(u:dr ρ2 x=.ok T)(v:dr ρ2 y=.ok U)(e:G T U=.ok (V,b)):dN G fa fb ρ=.ok (.v V b,ρ2):=bk h (bk k (bk u (bk v (bk e rfl))))
theorem xUn{G:G1}(h:fa ρ=.ok (x,ρ1))(u:dr ρ1 x=.ok T)(e:G T=.ok (V,b)):Fi G fa ρ=.ok (.v V b,ρ1):=bk h (bk u (bk e rfl))
theorem xCh{G G':G2}{fc:EF}{b1:Bool}(h:fa ρ=.ok (x,ρ1))(k:fb ρ1=.ok (y,ρ2))(u:dr ρ2 x=.ok T)(v:dr ρ2 y=.ok U)(e:G T U=.ok (.bl b,b1))(l:cB b (λρ=>(fc ρ).bind λs=>(dr s.2 y).bind λb=>(dr s.2 s.1).bind λc=>(G' b c).bind λz=>.ok (Rv.v z.1 z.2,s.2)) (λρ=>.ok (eB false,ρ)) ρ2=s):Fw G G' fa fb fc ρ = s:=bk h (bk k (bk u (bk v (bk e (bk rfl l)))))
theorem xCk{G':G2}{fc:EF}(h:fc ρ=.ok (x,ρ1))(u:dr ρ1 y=.ok T)(v:dr ρ1 x=.ok U)(e:G' T U=.ok (V,b)):((fc ρ).bind λs=>(dr s.2 y).bind λb=>(dr s.2 s.1).bind λc=>(G' b c).bind λz=>.ok (Rv.v z.1 z.2,s.2))=.ok (Rv.v V b,ρ1):=bk h (bk u (bk v (bk e rfl)))
theorem xC1{G:G1}(h:fa ρ=.ok (x,ρ1))(k:dr ρ1 x=.ok U)(e:G U=.ok (T,b)):pH (g1 G) (fU fa fL) ρ=.ok (.v T b,ρ1):=bk (bk h rfl) (bk (bk k rfl) (bk e rfl))
theorem xC2{G:G2}(h:aa ρ=.ok (ps,ρ1))(k:drs ρ1 ps=.ok [U,V])(e:G U V=.ok (T,b)):pH (g2 G) aa ρ=.ok (.v T b,ρ1):=bk h (bk k (bk e rfl))
theorem Zr(h:aa ρ=.ok (ps,ρ1))(k:drs ρ1 ps=.ok as)(e:F as=.ok (T,b))(n:(ps.any pK && !fM (T,b))=false):rC F aa ρ=.ok (.v T b,ρ1):=bk h (bk k (bk e (if_neg λq=>by rw[q.1,q.2]at n; cases n)))
theorem Z7(h:fa ρ=.ok (x,ρ1))(k:dr ρ1 x=.ok T):Qj ty fa ρ=.ok (.v (.bl (qK T ty)) false,ρ1):=bk h (bk k rfl)
theorem Z8(h:aa ρ=.ok (ps,ρ1))(k:cls ps=.ok ts)(l:ts.length<=1000):PX aa ρ=.ok (.v (.lst ts) true,ρ1):=bk h (bk k (if_pos l))
theorem Z9(h:aa ρ=.ok (ps,ρ1))(k:cls ps=.ok ts)(l:ts.length<=1000):FT aa ρ=.ok (.v (.tup ts) false,ρ1):=bk h (bk k (if_pos l))
theorem xAp(h:fa ρ=.ok (.v T b,ρ1))(n:con ρ i=.ok as)(k : ρ1[i]?=some (.ow ts))(l:ts.length<=100000)(e : ρ1.set i (.ow (ts++[T])) = ρ2):zx i pL (fU fa fL) ρ=.ok (.v .non false,ρ2):=by
 have c:con ρ1 i=.ok ts:=by unfold con; rw[k]
 have u:bH i (ts++[T]) ρ1 = ρ2:=by unfold bH; rw[k]; exact e
 exact u▸ap_ h n c l
theorem Z4(h:W (f ρ) Q):W (uY f ρ) Q:=h.elim λ_ h=>h.elim λ_ h=>⟨_,_,nx_ h.1,h.2⟩
theorem Z5(h:fi ρ=.ok (us,ρ1))(k:W (jZ gf f us ρ1) Q):W (QJ fi gf f ρ) Q:=k.elim λ_ k=>k.elim λ_ k=>⟨_,_,bk h k.1,k.2⟩
theorem wLp{β : Type}{t : β -> Tr}{xs:List β}(P:Nat->En->Prop)(h0:P 0 ρ)(hs:∀k x ρ,xs[k]?=some x->P k ρ -> ∃ρ1,gf (t x) ρ=.ok ρ1/\W (f ρ1) λfl ρ2=>match fl with
  |.nx=>P (k+1) ρ2
  |.ct=>P (k+1) ρ2
  |.bk=>Q .nx ρ2
  |.rt T b=>Q (.rt T b) ρ2) (hk:∀ρ,P xs.length ρ -> Q .nx ρ):W (jZ gf f (xs.map t) ρ) Q:=by
 have go:∀(ys:List β) (k:Nat) (ρ : En),k<=xs.length->xs.drop k=ys->P k ρ -> W (jZ gf f (ys.map t) ρ) Q:=λys=>by
  induction ys with
  |nil =>
   intro k ρ l e p
   obtain rfl:k=xs.length:=Nat.le_antisymm l (List.drop_eq_nil_iff.mp e)
   exact⟨_,_,rfl,hk _ p⟩
  |cons x ys ih =>
   intro k ρ l e p
   have g:xs[k]?=some x:=by rw[<-List.head?_drop,e]; rfl
   have d:xs.drop (k+1)=ys:=by rw[<-List.tail_drop,e]; rfl
   have l':k+1<=xs.length:=(List.getElem?_eq_some_iff.mp g).1
   obtain⟨ρ1,e1,fl,ρ2,e2,q⟩:=hs k x ρ g p
   have st:jZ gf f ((x::ys).map t) ρ = _:=bk e1 (bk e2 rfl)
   cases fl with
   |nx=>obtain⟨a,b,h,q⟩:=ih (k+1) ρ2 l' d q; exact⟨a,b,st.trans h,q⟩
   |ct=>obtain⟨a,b,h,q⟩:=ih (k+1) ρ2 l' d q; exact⟨a,b,st.trans h,q⟩
   |bk=>exact⟨_,_,st,q⟩
   |rt T b=>exact⟨_,_,st,q⟩
 exact go xs 0 ρ (Nat.zero_le _) rfl h0
noncomputable def pt(ρ : En):List (Nat × Sl)->En
 | []=>ρ
 |(i,s)::r=>pt (ρ.set i s) r
theorem wG{t:Tr}(h:gf t ρ=.ok ρ1)(k:W (f ρ1) Q):∃ρ1,gf t ρ=.ok ρ1/\W (f ρ1) Q:=⟨_,h,k⟩
theorem mH{σ β : Type}{t : β -> Tr}{xs:List β}(js:List Nat)(A : σ -> List (Nat × Sl))(I:Nat -> σ -> Prop)(s0 : σ)(i0:I 0 s0)(h0 : ρ = pt (pt ρ (js.map λj=>(j,ρ.getD j .un))) (A s0))(hs:∀k x (v:Nat->Sl) s,xs[k]?=some x->I k s->∃ρ1,gf (t x) (pt (pt ρ (js.map λj=>(j,v j))) (A s))=.ok ρ1/\W (f ρ1) λfl ρ2=>match fl with
  |.nx=>∃s,I (k+1) s/\∃v:Nat->Sl,ρ2=pt (pt ρ (js.map λj=>(j,v j))) (A s)
  |.ct=>∃s,I (k+1) s/\∃v:Nat->Sl,ρ2=pt (pt ρ (js.map λj=>(j,v j))) (A s)
  |.bk=>Q .nx ρ2
  |.rt T b=>Q (.rt T b) ρ2) (hk:∀(v:Nat->Sl) s,I xs.length s->Q .nx (pt (pt ρ (js.map λj=>(j,v j))) (A s))):W (jZ gf f (xs.map t) ρ) Q :=
 wLp (λk ρ'=>∃s,I k s/\∃v:Nat->Sl,ρ'=pt (pt ρ (js.map λj=>(j,v j))) (A s)) ⟨s0,i0,λj=>ρ.getD j .un,h0⟩ (λk x _ g h=>h.elim λs h=>h.2.elim λv q=>by subst q; exact hs k x v s g h.1) λ_ h=>h.elim λs h=>h.2.elim λv q=>by subst q; exact hk v s h.1
theorem rY{σ : Type}{n:Nat}{t:Nat->Tr}(js:List Nat)(A : σ -> List (Nat × Sl))(I:Nat -> σ -> Prop)(s0 : σ)(i0:I 0 s0)(h0 : ρ = pt (pt ρ (js.map λj=>(j,ρ.getD j .un))) (A s0))(hs:∀k (v:Nat->Sl) s,k<n->I k s->∃ρ1,gf (t k) (pt (pt ρ (js.map λj=>(j,v j))) (A s))=.ok ρ1/\W (f ρ1) λfl ρ2=>match fl with
  |.nx=>∃s,I (k+1) s/\∃v:Nat->Sl,ρ2=pt (pt ρ (js.map λj=>(j,v j))) (A s)
  |.ct=>∃s,I (k+1) s/\∃v:Nat->Sl,ρ2=pt (pt ρ (js.map λj=>(j,v j))) (A s)
  |.bk=>Q .nx ρ2
  |.rt T b=>Q (.rt T b) ρ2) (hk:∀(v:Nat->Sl) s,I n s->Q .nx (pt (pt ρ (js.map λj=>(j,v j))) (A s))):W (jZ gf f ((List.range n).map t) ρ) Q :=
 mH js A I s0 i0 h0 (λk x v s g=>by
  obtain⟨l,rfl⟩:=List.getElem?_eq_some_iff.mp g
  rw[List.getElem_range]
  exact hs k v s (by simpa using l)) (by rw[List.length_range]; exact hk)
theorem Sd{σ : Type}{fu:En->Nat}(js:List Nat)(A : σ -> List (Nat × Sl))(I : σ -> Prop)(μ : σ -> Nat)(s0 : σ)(i0:I s0)(h0 : ρ = pt (pt ρ (js.map λj=>(j,ρ.getD j .un))) (A s0))(hm : μ s0<fu ρ)(hs:∀(v:Nat->Sl) s,I s->∃b ρ1,c (pt (pt ρ (js.map λj=>(j,v j))) (A s))=.ok (b,ρ1)/\if b=true then W (f ρ1) (λfl ρ2=>match fl with
  |.nx=>∃s',I s'/\μ s' < μ s/\∃v:Nat->Sl,ρ2=pt (pt ρ (js.map λj=>(j,v j))) (A s')
  |.rt T b=>Q (.rt T b) ρ2
  |_=>False)else Q .nx ρ1):W (QH fu c f ρ) Q:=by
 have go:∀(n:Nat) (v:Nat->Sl) (s : σ),I s -> μ s<n->W (uZ c f n (pt (pt ρ (js.map λj=>(j,v j))) (A s))) Q:=λn=>by
  induction n with
  |zero=>exact λ_ _ _ h=>absurd h (Nat.not_lt_zero _)
  |succ n ih =>
   intro v s i h
   obtain⟨b,ρ1,e,q⟩:=hs v s i
   cases b with
   |false=>exact⟨_,_,bk e (if_neg Bool.false_ne_true),by simpa using q⟩
   |true =>
    rw[if_pos rfl]at q
    obtain⟨fl,ρ2,e2,q⟩:=q
    cases fl with
    |nx =>
     obtain⟨s',i',l,v',rfl⟩:=q
     obtain⟨a,b,h,q⟩:=ih v' s' i' (by omega)
     exact⟨a,b,bk e ((if_pos rfl).trans (bk e2 h)),q⟩
    |rt T b=>exact⟨_,_,bk e ((if_pos rfl).trans (bk e2 rfl)),q⟩
    |bk=>exact q.elim
    |ct=>exact q.elim
 have z:=go (fu ρ) (λj=>ρ.getD j .un) s0 i0 hm
 rw[<-h0]at z
 exact z
theorem pT{P R:Prop}(h:b=true)(k:P):if b=true then P else R:=by rw[if_pos h]; exact k
theorem pF{P R:Prop}(h:b=false)(k:R):if b=true then P else R:=by rw[if_neg (by rw[h]; exact Bool.false_ne_true)]; exact k
theorem vp(h:c ρ=.ok (b,ρ1)){P:Bool->En->Prop}(k:P b ρ1):∃b ρ1,c ρ=.ok (b,ρ1)/\P b ρ1:=⟨_,_,h,k⟩
theorem Zk{l l':En}{S':Sl}(h:S=S')(k:l=l'):S::l=S'::l':=h▸k▸rfl
theorem exV{R:(Nat->Sl)->En}(e : ρ = R λj=>ρ.getD j .un):∃v,ρ = R v:=⟨_,e⟩
theorem Z6(h:fa ρ=.ok (x,ρ1))(u:Bg x=.ok (us,b)):zG fa ρ=.ok (us,ρ1):=bk h (bk u rfl)
theorem wFr(e:cL i ρ = ρ1)(k:W (f ρ1) Q):W (aeG i f ρ) Q:=by subst e; exact k
theorem xFz(h : ρ[i]?=some (.ow ts))(e : ρ.set i (.sh (.lst ts)) = ρ1):cL i ρ = ρ1:=by unfold cL; rw[h]; exact e
theorem wDw(h : ρ[i]?=some (.dp ts))(e : ρ.set i (.ow ts) = ρ1)(k:W (f ρ1) Q):W (vg i f ρ) Q:=by subst e; unfold vg pP; rw[h]; exact k
theorem xVw{c:BF}(e:vw ρ = ρ2)(h:c ρ2=.ok (b,ρ1)):RP c ρ=.ok (b,ρ):=by subst e; unfold RP; rw[h]; rfl
theorem xSl{l h:OF}{lo hi:Option Int}(e:fa ρ=.ok (x,ρ1))(k:l ρ1=.ok (lo,ρ2))(k':h ρ2=.ok (hi,ρ3))(u:dr ρ3 x=.ok T)(q:oA lo hi T=.ok (V,b)):Qh fa l h ρ=.ok (.v V b,ρ3):=bk e (bk k (bk k' (bk u (bk q rfl))))
theorem xOS{m:Int}(h:fa ρ=.ok (x,ρ1))(k:dr ρ1 x=.ok (.int m)):Qe fa ρ=.ok (some m,ρ1):=bk h (bk k rfl)
theorem Bl(e:gY n as = ρ)(h:W (f ρ) λfl _=>Bf fl=.ok z):aN n f as=.ok z:=by
 subst e
 obtain⟨fl,ρ1,h,k⟩:=h
 refine bk h ?_
 cases fl <;> first|exact k|(cases k; done)
theorem wFe{R:Tr × Bool->Prop}(e:gY n as = ρ)(h:W (f ρ) λfl _=>∃z,Bf fl=.ok z/\R z):∃z,aN n f as=.ok z/\R z:=by
 obtain⟨fl,ρ1,h,z,k,q⟩:=h
 exact⟨z,Bl e ⟨fl,ρ1,h,k⟩,q⟩
theorem xRg{n:Nat}(h:fa ρ=.ok (x,ρ1))(d:dr ρ1 x=.ok (.int (n:Int)))(hn:n<=1000):Gv (fU fa fL) ρ=.ok ((List.range n).map λi:Nat=>Tr.int i,ρ1):=by
 have u:∀(m:Nat) (lo:Nat),L2.upTo (lo:Int) m=(List.range' lo m).map λi:Nat=>Tr.int i:=λm=>by
  induction m with
  |zero=>exact λ_=>rfl
  |succ m ih=>exact λlo=>congrArg (Tr.int lo :: ·) (ih (lo+1))
 have u:=u n 0
 rw[<-List.range_eq_range']at u
 exact bk (wk h rfl) (bk (show drs ρ1 [x]=.ok [.int (n:Int)]from bk d rfl) ((if_pos (by unfold okR; simp; omega)).trans (by rw[Int.toNat_natCast]; exact congrArg (λl=>Rs.ok (l,ρ1)) u)))
theorem Sg{α : Type}{r h : α -> Tr}{fr : α -> Bool}{τ : En}{fe:EF}:∀(xs:List α) (s:Sl),(∀x∈xs,fe (.sh (r x)::τ)=.ok (.v (h x) (fr x),.sh (r x)::τ))->∃s',fV (gN 0) gW fe (xs.map r) (s::τ)=.ok (xs.map h,s'::τ)
 | [],s,_=>⟨s,rfl⟩
 |x::xs,s,q=>by
  obtain⟨s',e'⟩:=Sg xs (.sh (r x)) λv hv=>q v (List.mem_cons_of_mem _ hv)
  exact⟨s',bk (a:=.sh (r x)::τ) rfl (bk rfl ((if_pos rfl).trans (bk (q x (List.mem_cons_self ..)) (bk rfl (bk e' rfl)))))⟩
theorem xMp{β : Type}{t h : β -> Tr}{fr : β -> Bool}{xs:List β}{rest:List (Option Nat)}{fe:EF}{τ : En}(hi:fi ρ=.ok (us,ρ))(hu:us=xs.map t)(hτ : cO rest ρ = τ)(hs:∀s,dG (none::rest) (s::τ) ρ = true)(hd:∀s,aY (none::rest) (s::τ) ρ = ρ)
  (hf:∀x∈xs,fe (.sh (t x)::τ)=.ok (.v (h x) (fr x),.sh (t x)::τ)) (hl:xs.length<=100000):mj (none::rest) fi (gN 0) gW fe ρ=.ok (.v (.lst (xs.map h)) true,ρ):=by
 subst hu hτ
 obtain⟨s,e⟩:=Sg xs .un hf
 refine bk hi ((if_pos (by rw[List.length_map]; exact hl)).trans ?_)
 show(cU (fV _ _ _ _ (Sl.un::cO rest ρ))).bind _=_
 rw[e]
 refine bk rfl ((if_pos (hs s)).trans ?_)
 rw[hd s]
theorem HY{α : Type}{r : α -> Tr}{p : α -> Bool}{τ : En}:∀(xs:List α) (s:Sl),(∀x∈xs,c (.sh (r x)::τ)=.ok (p x,.sh (r x)::τ))->∃s',fV (gN 0) c (bY 0) (xs.map r) (s::τ)=.ok ((xs.filter p).map r,s'::τ)
 | [],s,_=>⟨s,rfl⟩
 |x::xs,s,q=>by
  obtain⟨s',e'⟩:=HY xs (.sh (r x)) λv hv=>q v (List.mem_cons_of_mem _ hv)
  refine⟨s',bk (a:=.sh (r x)::τ) rfl (bk (q x (List.mem_cons_self ..)) ?_)⟩
  rw[List.filter_cons]
  cases p x
  .exact(if_neg Bool.false_ne_true).trans e'
  .exact(if_pos rfl).trans (bk rfl (bk rfl (bk e' rfl)))
theorem xFl{β : Type}{t : β -> Tr}{p : β -> Bool}{xs:List β}{rest:List (Option Nat)}{τ : En}(hi:fi ρ=.ok (us,ρ))(hu:us=xs.map t)(hτ : cO rest ρ = τ)(hs:∀s,dG (none::rest) (s::τ) ρ = true)(hd:∀s,aY (none::rest) (s::τ) ρ = ρ)
  (hf:∀x∈xs,c (.sh (t x)::τ)=.ok (p x,.sh (t x)::τ)) (hl:xs.length<=100000):mj (none::rest) fi (gN 0) c (bY 0) ρ=.ok (.v (.lst ((xs.filter p).map t)) true,ρ):=by
 subst hu hτ
 obtain⟨s,e⟩:=HY xs .un hf
 refine bk hi ((if_pos (by rw[List.length_map]; exact hl)).trans ?_)
 show(cU (fV _ _ _ _ (Sl.un::cO rest ρ))).bind _=_
 rw[e]
 refine bk rfl ((if_pos (hs s)).trans ?_)
 rw[hd s]
theorem xFO{β : Type}{t : β -> Tr}{p : β -> Bool}{xs:List β}{rest:List (Option Nat)}{τ : En}(hi:con ρ n=.ok us)(hu:us=xs.map t)(hτ : cO rest ρ = τ)(hs:∀s,dG (none::rest) (s::τ) ρ = true)(hd:∀s,aY (none::rest) (s::τ) ρ = ρ)
  (hf:∀x∈xs,c (.sh (t x)::τ)=.ok (p x,.sh (t x)::τ)) (hl:xs.length<=100000):aeZ (none::rest) n (gN 0) c (bY 0) ρ=.ok (.v (.lst ((xs.filter p).map t)) true,ρ):=by
 subst hu hτ
 obtain⟨s,e⟩:=HY xs .un hf
 refine bk hi ((if_pos (by rw[List.length_map]; exact hl)).trans ?_)
 show(cU (fV _ _ _ _ (Sl.un::cO rest ρ))).bind _=_
 rw[e]
 refine bk rfl ((if_pos (hs s)).trans ?_)
 rw[hd s]
theorem xIn{m:Nat}(h:aa ρ=.ok (ps,ρ1))(k:cls ps=.ok [.int m,T])(n:con ρ i=.ok as)(q : ρ1[i]?=some (.ow ts))(l:m<=ts.length)(l':ts.length<=100000)(e : ρ1.set i (.ow (ts.take m++T::ts.drop m)) = ρ2):zx i vh aa ρ=.ok (.v .non false,ρ2):=by
 have c:con ρ1 i=.ok ts:=by unfold con; rw[q]
 have u:bH i (ts.take m++T::ts.drop m) ρ1 = ρ2:=by unfold bH; rw[q]; exact e
 exact u▸bk n (bk h (bk k (bk c (bk (a:=(ts.take m++T::ts.drop m,Tr.non)) (if_pos ⟨Int.natCast_nonneg m,l,l'⟩) rfl))))
theorem xLR{m:Nat}(h:fa ρ=.ok (.v T b,ρ1))(k:T=.int (m:Int))(l:m<=1000):eLR (fU fa fL) ρ=.ok (.v (.lst ((List.range m).map λi:Nat=>Tr.int i)) true,ρ1):=by
 subst k
 exact bk (wk h rfl) ((if_pos ⟨Int.natCast_nonneg m,by omega⟩).trans (by rw[Int.toNat_natCast]))
theorem Sh{α : Type}{a b h : α -> Tr}{fr : α -> Bool}{τ : En}{fe:EF}:∀(xs:List α) (s s':Sl),(∀x∈xs,fe (.sh (a x) :: .sh (b x)::τ)=.ok (.v (h x) (fr x),.sh (a x) :: .sh (b x)::τ))->∃t t',fV (gT 2 (jV (gN 0) (jV (gN 1) uU))) gW fe (xs.map λx=>.tup [a x,b x]) (s::s'::τ)=.ok (xs.map h,t::t'::τ)
 | [],s,s',_=>⟨s,s',rfl⟩
 |x::xs,s,s',q=>by
  obtain⟨t,t',e⟩:=Sh xs (.sh (a x)) (.sh (b x)) λv hv=>q v (List.mem_cons_of_mem _ hv)
  exact⟨t,t',bk (a:=.sh (a x) :: .sh (b x)::τ) rfl (bk rfl ((if_pos rfl).trans (bk (q x (List.mem_cons_self ..)) (bk rfl (bk e rfl)))))⟩
theorem xM2{β : Type}{a b h : β -> Tr}{fr : β -> Bool}{xs:List β}{rest:List (Option Nat)}{fe:EF}{τ : En}(hi:fi ρ=.ok (us,ρ))(hu:us=xs.map λx=>.tup [a x,b x])(hτ : cO rest ρ = τ)(hs:∀s s',dG (none::none::rest) (s::s'::τ) ρ = true)(hd:∀s s',aY (none::none::rest) (s::s'::τ) ρ = ρ)
  (hf:∀x∈xs,fe (.sh (a x) :: .sh (b x)::τ)=.ok (.v (h x) (fr x),.sh (a x) :: .sh (b x)::τ)) (hl:xs.length<=100000):mj (none::none::rest) fi (gT 2 (jV (gN 0) (jV (gN 1) uU))) gW fe ρ=.ok (.v (.lst (xs.map h)) true,ρ):=by
 subst hu hτ
 obtain⟨s,s',e⟩:=Sh xs .un .un hf
 refine bk hi ((if_pos (by rw[List.length_map]; exact hl)).trans ?_)
 show(cU (fV _ _ _ _ (Sl.un::Sl.un::cO rest ρ))).bind _=_
 rw[e]
 refine bk rfl ((if_pos (hs s s')).trans ?_)
 rw[hd s s']
theorem xZi{aa:AF}{T U:Tr}{us vs:List Tr}{b b':Bool}{ρ ρ1:En}(h:aa ρ=.ok ([.v T b,.v U b'],ρ1))(e:T=.lst us)(e':U=.lst vs):QS aa ρ=.ok (rG us vs,ρ1):=by subst e e'; exact bk h rfl
theorem Zu{a b:Int}:lK (.int a) (.int b)=.ok (.int (a+b),false):=rfl
theorem ZJ(h:ts.length+us.length<=100000):lK (.lst ts) (.lst us)=.ok (.lst (ts++us),true):=if_pos h
theorem Zv{a b:Int}:yq (.int a) (.int b)=.ok (.int (a-b),false):=rfl
theorem Zw{a b:Int}:qR (.int a) (.int b)=.ok (.bl (decide (a<b)),false):=rfl
theorem Zx{a b:Int}:gGt (.int a) (.int b)=.ok (.bl (decide (b<a)),false):=rfl
theorem Zy{a b:Int}:Ek (.int a) (.int b)=.ok (.bl (decide (a<=b)),false):=rfl
theorem Zz{a b:Int}:El (.int a) (.int b)=.ok (.bl (decide (b<=a)),false):=rfl
theorem ZL{a b:Int}(h:cV a b=true):uq (.int a) (.int b)=.ok (.int (a*b),false):=if_pos h
theorem cMr{a b:Int}(h : -18446744073709551616<b/\b<18446744073709551616):cV a b=true:=by
 have h:tiny b=true:=by unfold tiny; rw[decide_eq_true h.1,decide_eq_true h.2]; rfl
 unfold cV
 rw[h,Bool.or_true]
theorem cMl{a b:Int}(h : -18446744073709551616<a/\a<18446744073709551616):cV a b=true:=by
 have h:tiny a=true:=by unfold tiny; rw[decide_eq_true h.1,decide_eq_true h.2]; rfl
 unfold cV
 rw[h,Bool.or_true,Bool.true_or]
theorem cDl{a b:Int}(h:0<b)(k:b<2 ^ 64):iI a b=true:=by
 unfold iI
 rw[decide_eq_true (show b≠0 by omega),Bool.true_and,decide_eq_true_eq]
 have:=(Nat.log2_lt (n:=b.natAbs) (k:=64) (by omega)).mpr (by omega)
 omega
theorem ZM{a b:Int}(h:iI a b=true):Ei (.int a) (.int b)=.ok (.int (a.fdiv b),false):=if_pos h
theorem Ko{a b:Int}(h:b≠0):yp (.int a) (.int b)=.ok (.int (a.fmod b),false):=if_pos (decide_eq_true h)
theorem ZC{a b:Int}:iG (.int a) (.int b)=.ok (.bl (decide (a=b)),false):=by
 have d:∀i,dep (.int i)=0:=λi=>by unfold dep; rfl
 refine(if_pos ⟨by rw[d]; omega,by rw[d]; omega⟩).trans ?_
 rfl
theorem Kh{a b:Int}:dw (.int a) (.int b)=.ok (.bl (!decide (a=b)),false):=by
 have d:∀i,dep (.int i)=0:=λi=>by unfold dep; rfl
 refine(if_pos ⟨by rw[d]; omega,by rw[d]; omega⟩).trans ?_
 rfl
theorem ZK{a:Int}(h:0<=a):ur (.int a)=.ok (.int a,false):=by
 show Rs.ok (Tr.int (if a<0 then -a else a),false)=_
 rw[if_neg (by omega)]
theorem jt{a b:Str}(h:(a == b)=false):iG (.str a) (.str b)=.ok (.bl false,false):=by
 have d:∀i,dep (.str i)=0:=λi=>by unfold dep; rfl
 refine(if_pos ⟨by rw[d]; omega,by rw[d]; omega⟩).trans ?_
 show Rs.ok (Tr.bl (a == b),false)=_
 rw[h]
theorem Bh{a:Str}:iG (.str a) (.str a)=.ok (.bl true,false):=by
 have d:∀i,dep (.str i)=0:=λi=>by unfold dep; rfl
 refine(if_pos ⟨by rw[d]; omega,by rw[d]; omega⟩).trans ?_
 show Rs.ok (Tr.bl (a == a),false)=_
 rw[beq_self_eq_true]
theorem xSN{a b:Str}(h:(a == b)=false):dw (.str a) (.str b)=.ok (.bl true,false):=by
 have d:∀i,dep (.str i)=0:=λi=>by unfold dep; rfl
 refine(if_pos ⟨by rw[d]; omega,by rw[d]; omega⟩).trans ?_
 show Rs.ok (Tr.bl (!(a == b)),false)=_
 rw[h]
 rfl
theorem ZD{a:Str}:dw (.str a) (.str a)=.ok (.bl false,false):=by
 have d:∀i,dep (.str i)=0:=λi=>by unfold dep; rfl
 refine(if_pos ⟨by rw[d]; omega,by rw[d]; omega⟩).trans ?_
 show Rs.ok (Tr.bl (!(a == a)),false)=_
 rw[beq_self_eq_true]
 rfl
theorem ZF:fX (.lst ts)=.ok (.int ts.length,false):=rfl
theorem Km{β : Type}{h : β -> Tr}{l:List β}:fX (.lst (l.map h))=.ok (.int l.length,false):=by rw[<-List.length_map (as:=l) h]; rfl
theorem ZG:fX (.tup ts)=.ok (.int ts.length,false):=rfl
theorem Zi(h:b=false):(!b)=true:=by rw[h]; rfl
theorem Zj(h:b=true):(!b)=false:=by rw[h]; rfl
section
variable {a0 a1 a2 a3 a4 a5 a6 a7 a8 a9 a10 a11 a12 a13 a14:Sl}{l:En}
theorem st0:(a0::l).set 0 S=S::l:=rfl
theorem st1:(a0::a1::l).set 1 S=a0::S::l:=rfl
theorem st2:(a0::a1::a2::l).set 2 S=a0::a1::S::l:=rfl
theorem st3:(a0::a1::a2::a3::l).set 3 S=a0::a1::a2::S::l:=rfl
theorem wu:(a0::a1::a2::a3::a4::l).set 4 S=a0::a1::a2::a3::S::l:=rfl
theorem mO:(a0::a1::a2::a3::a4::a5::l).set 5 S=a0::a1::a2::a3::a4::S::l:=rfl
theorem Zt:(a0::a1::a2::a3::a4::a5::a6::l).set 6 S=a0::a1::a2::a3::a4::a5::S::l:=rfl
theorem oE:(a0::a1::a2::a3::a4::a5::a6::a7::l).set 7 S=a0::a1::a2::a3::a4::a5::a6::S::l:=rfl
theorem tM{m:Nat}{l':En}(h:l.set m S=l'):(a0::a1::a2::a3::a4::a5::a6::a7::l).set (m+8) S=a0::a1::a2::a3::a4::a5::a6::a7::l':=h▸rfl
end
end
noncomputable def WD(r:Rs Tr)(Q:Tr->Prop):Prop:=∃T,r=.ok T/\Q T
noncomputable def cD(fl:Fl)(g:DF)(ρ : En):Rs Tr:=match fl with
 |.nx=>g ρ
 |.rt T false=>if aZ T=true then .ok T else .bad
 |_=>.bad
section
variable {ρ ρ1 ρ2:En}{fa fe:EF}{aa:AF}{fi:IF}{f:WF}{ga:WA}{s:SF}{g:DF}{T:Tr}{us ts as Ts:List Tr}{ps:List Rv}{b:Bool}{i m n:Nat}{Q:Fl->En->Prop}{P:Tr->Prop}{F:FP}{z:Tr × Bool}
theorem Sq{β : Type}{t : β -> Tr}{h : β -> List Tr}{xs:List β}(hf:∀x∈xs,fe [.sh (t x)]=.ok (.v (.lst (h x)) true,[.sh (t x)]))(hn:∀x∈xs,bR (h x)=true):∃s',j6 (gN 0) gW fe (xs.map t) [.un]=.ok (xs.map λx=>.lst (h x),[s']):=by
 have go:∀(ys:List β) (s:Sl),(∀x∈ys,x∈xs)->∃s',j6 (gN 0) gW fe (ys.map t) [s]=.ok (ys.map λx=>.lst (h x),[s']):=λys=>by
  induction ys with
  |nil=>exact λs _=>⟨s,rfl⟩
  |cons y ys ih =>
   intro s m
   obtain⟨s',e'⟩:=ih (.sh (t y)) λx hx=>m x (List.mem_cons_of_mem _ hx)
   exact⟨s',bk (a:=[.sh (t y)]) rfl (bk rfl ((if_pos rfl).trans (bk (hf y (m y (List.mem_cons_self ..))) (bk (show rK (.v (.lst (h y)) true)=.ok (.lst (h y))from if_pos (hn y (m y (List.mem_cons_self ..)))) (bk e' rfl)))))⟩
 exact go xs .un λ_ h=>h
theorem Bs(h:fa ρ=.ok (.v T b,ρ1))(n:fM (T,b)=true):R6 fa ρ=.ok (T,ρ1):=bk h (if_pos n)
theorem BP(h : ρ[i]?=some (.dp ts))(e : ρ.set i .un = ρ1):oF i ρ=.ok (.lst ts,ρ1):=by subst e; unfold oF; rw[h]
theorem BR(h : ρ[i]?=some (.ow ts))(n:bR ts=true)(e : ρ.set i .un = ρ1):oF i ρ=.ok (.lst ts,ρ1):=by subst e; unfold oF; rw[h]; exact if_pos n
theorem Bt(h:f ρ=.ok (T,ρ1))(k:ga ρ1=.ok (Ts,ρ2)):yCn f ga ρ=.ok (T::Ts,ρ2):=bk h (bk k rfl)
theorem Bu(h:ga ρ=.ok (Ts,ρ1))(l:Ts.length<=1000):yTu ga ρ=.ok (.tup Ts,ρ1):=bk h (if_pos l)
theorem Bv(h:ga ρ=.ok (Ts,ρ1))(l:Ts.length<=1000):yLs ga ρ=.ok (.lst Ts,ρ1):=bk h (if_pos l)
theorem xCD(h:aa ρ=.ok (ps,ρ1))(k:drs ρ1 ps=.ok as)(e:F as=.ok (T,b)):rT F aa ρ=.ok (T,ρ1):=bk h (bk k (bk e rfl))
theorem Bw(e:vw ρ = ρ2)(h:f ρ2=.ok (T,ρ1)):HN f ρ=.ok (T,ρ):=by subst e; unfold HN; rw[h]; rfl
theorem Bx{β : Type}{t : β -> Tr}{h : β -> List Tr}{xs:List β}(hi:fi ρ=.ok (us,ρ))(hu:us=xs.map t)(hf:∀x∈xs,fe [.sh (t x)]=.ok (.v (.lst (h x)) true,[.sh (t x)]))(hn:∀x∈xs,bR (h x)=true)(hl:xs.length<=100000):HW [none] fi (gN 0) fe ρ=.ok (.lst (xs.map λx=>.lst (h x)),ρ):=by
 subst hu
 obtain⟨s',e'⟩:=Sq hf hn
 exact bk hi ((if_pos (by rw[List.length_map]; exact hl)).trans (bk (show cU (j6 _ _ _ _ [.un])=_ by rw[e']; rfl) (if_pos rfl)))
theorem BJ(h:f ρ=.ok (T,ρ1))(e:mQ i T ρ1=.ok ρ2)(k:Q .nx ρ2):W (afz i f ρ) Q:=⟨_,_,bk h (bk e rfl),k⟩
theorem BW(l:T=.lst ts)(e : ρ.set i (.dp ts) = ρ1):mQ i T ρ=.ok ρ1:=by subst l e; rfl
theorem BX(l:o7 T=false)(n:aZ T=true)(e : ρ.set i (.sh T) = ρ1):mQ i T ρ=.ok ρ1:=by
 subst e
 unfold mQ
 cases T <;> first|(cases l; done)|(dsimp only; rw[if_pos n])
theorem BK(c:cJ ρ i=.ok us)(h:ga ρ=.ok ([T],ρ1))(k : ρ1[i]?=some (.dp ts))(l:ts.length<=100000)(e : ρ1.set i (.dp (ts++[T])) = ρ2)(q:Q .nx ρ2):W (afA i ga ρ) Q:=by
 subst e
 exact⟨_,_,bk c (bk h (bk (a:=ts) (by unfold cJ; rw[k]) (if_pos l))),q⟩
theorem BL(c : ρ[i]?=some (.dp ts))(l:ts[m]?=some (.lst us))(n:bR us=true)(e : ρ.set i (.dp (ts.set m (.lst []))) = ρ1)(k:Q .nx ρ1):W (afB i m ρ) Q:=by
 subst e
 refine⟨_,_,bk (a:=ts) (by unfold cJ; rw[c]) ?_,k⟩
 rw[l]
 exact if_pos n
theorem Bm(h:W (s ρ) λfl ρ1=>WD (cD fl g ρ1) P):WD (afD s g ρ) P:=by
 obtain⟨fl,ρ1,e,T,e',q⟩:=h
 exact⟨T,bk e e',q⟩
theorem Bo(k:WD (g ρ) P):WD (cD .nx g ρ) P:=k
theorem Bp(n:aZ T=true)(k:P T):WD (cD (.rt T false) g ρ) P:=⟨_,if_pos n,k⟩
theorem Br(h:f ρ=.ok (T,ρ1))(k:P T):WD (R8 f ρ) P:=⟨_,bk h rfl,k⟩
theorem dFn(e:gY n as = ρ)(h:WD (g ρ) λT=>Rs.ok (T,o7 T)=.ok z):pU n g as=.ok z:=by
 subst e
 obtain⟨T,h,k⟩:=h
 exact bk h k
theorem dFe{R:Tr × Bool->Prop}(e:gY n as = ρ)(h:WD (g ρ) λT=>R (T,o7 T)):∃z,pU n g as=.ok z/\R z:=by
 subst e
 obtain⟨T,h,k⟩:=h
 exact⟨_,bk h rfl,k⟩
end
open PySem.Spec PyProof.Rows
noncomputable def Ss(i:Nat)(fe:EF):SF:=λρ=>match ρ[i]? with
 |some (.sh (.int a))=>(fe ρ).bind λp=>(dr p.2 p.1).bind λT=>(qW T).bind λb=>.ok (.nx,p.2.set i (.sh (.int (a+b))))
 |_=>.bad
noncomputable def afH(i:Nat)(fk:EF)(c:Int):SF:=λρ=>(con ρ i).bind λ_=>(fk ρ).bind λp=>(dr p.2 p.1).bind λkT=>(qW kT).bind λk=>(con p.2 i).bind λts=>if 0<=k then match ts[k.toNat]? with
 |some (.int a)=>.ok (.nx,bH i (ts.set k.toNat (.int (a+c))) p.2)
 |_=>.bad else .bad
noncomputable def jJ:Tr->List Nat->Option Tr
 |T,[]=>some T
 |.lst ts,k::p=>match ts[k]? with
  |some t=>jJ t p
  |none=>none
 |.tup ts,k::p=>match ts[k]? with
  |some t=>jJ t p
  |none=>none
 |_,_::_=>none
noncomputable def stP:Tr->List Nat->Tr->Tr
 |_,[],U=>U
 |.lst ts,k::p,U=>match ts[k]? with
  |some t=>.lst (ts.set k (stP t p U))
  |none=>.lst ts
 |.tup ts,k::p,U=>match ts[k]? with
  |some t=>.tup (ts.set k (stP t p U))
  |none=>.tup ts
 |T,_::_,_=>T
noncomputable def Pv(K:PySem.W.Frag)(H:Hp):V->List Nat->V->Prop
 |v,[],w=>v=w
 |v,k::p,w=>∃a xs x,v=.ref a/\(aM K H a xs\/aW K H a xs)/\xs[k]?=some x/\Pv K H x p w
section
variable {K:PySem.W.Frag}{R:Addr->Prop}{ρ : En}{σ : St}{G H:Hp}{F:Fp}
noncomputable def stL(ts:List Tr)(p:List Nat)(us:List Tr):List Tr:=match stP (.lst ts) p (.lst us)with
 |.lst r=>r
 |_=>[]
end
noncomputable def Pr(K:PySem.W.Frag)(H:Hp)(v:V):List Nat->V->Prop
 | [],w=>v=w
 |k::r,w=>∃a xs,Pr K H v r (.ref a)/\(aM K H a xs\/aW K H a xs)/\xs[k]?=some w
theorem Pv.pr{K:PySem.W.Frag}{H:Hp}:∀{p:List Nat} {v u:V} {r:List Nat} {w:V},Pr (aq K) H v r u->Pv (aq K) H u p w->Pr (aq K) H v (p.reverse++r) w
 | [],v,u,r,w,h,q=>by cases q; exact h
 |k::p,v,u,r,w,h,⟨a,xs,x,e,sq,hx,q⟩=>by
  subst e
  have:=Pv.pr (r:=k::r) ⟨a,xs,h,sq,hx⟩ q
  rw[List.reverse_cons,List.append_assoc]
  exact this
theorem Pr.toK{K:PySem.W.Frag}{H:Hp}{v:V}:∀{r:List Nat} {w:V},Pr (aq K) H v r w->Pr K H v r w
 | [],_,h=>h
 |_::_,_,⟨a,xs,h,sq,hx⟩=>⟨a,xs,Pr.toK h,sq.imp aM.toK aW.toK,hx⟩
noncomputable def afI(i:Nat)(p:List Nat)(T:Tr):SF:=λρ=>(cJ ρ i).bind λts=>match jJ (.lst ts) p with
 |some (.lst us)=>if(bR us&&aZ T&&decide (us.length<=100000))=true then .ok (.nx,ρ.set i (.dp (stL ts p (us++[T]))))else .bad
 |_=>.bad
noncomputable def afJ(i:Nat)(p:List Nat):SF:=λρ=>(cJ ρ i).bind λts=>match jJ (.lst ts) p with
 |some (.lst us)=>if bR us=true then .ok (.nx,ρ.set i (.dp (stL ts p [])))else .bad
 |_=>.bad
theorem au.rv{K:PySem.W.Frag}{H:Hp}:∀{xs:List V} {ts:List Tr},au K H xs ts->au K H xs.reverse ts.reverse
 |_,_,.nil=>.nil
 |_,_,.cons h r=>by
  rw[List.reverse_cons,List.reverse_cons]
  exact(au.rv r).app (.cons h .nil)
noncomputable def Sv:Tr->Bool
 |.lst us=>bR us
 |_=>false
noncomputable def Sw:Tr->Tr
 |.lst us=>.lst us.reverse
 |T=>T
noncomputable def afK(i j:Nat):SF:=λρ=>(cJ ρ i).bind λts=>if(ts.all Sv&&decide (i≠j)&&decide (j < ρ.length))=true then .ok (.nx,(ρ.set j .un).set i (.dp (ts.map Sw)))else .bad
noncomputable def Ia(f:EF):EF:=λρ=>(cU (f (vw ρ))).bind λp=>match p.1 with
 |.v T false=>if aZ T=true then .ok (.v T false,ρ)else .bad
 |_=>.bad
noncomputable def Sy(a:VE aA):VE (Ia aA) where
 ck:=a.ck
 cs:=a.cs
 ok q o h:=(a.ok q o h).imp λσ H Q=>bF λR ρ G F e h=>by
  obtain⟨p,k,h⟩:=nY h
  refine⟨_,_,_,_,e.view,?_⟩
  rw[k]
  intro v G' H' F' e' s' v'
  obtain⟨r,ρ1⟩:=p
  dsimp only at h v'
  split at h
  case h_2=>exact h.elim
  split at h
  case isFalse=>exact h.elim
  have nf:∀b,¬Fn (λ_=>[]) b:=λb ⟨_,z⟩=>by cases z
  have w:Gw (aq _) (wL G H) H G' H':=⟨s'.gg,λb o q t=>s'.fr b o q (nf b) t,e'.sub,λ_=>e'.tb,λb q=>(s'.nw b q).imp id λz=>z.resolve_right (nf b)⟩
  obtain⟨e2,s2⟩:=e.grow (Gb e.sub w)
  exact h v _ H' F e2 s2 (.low (Rep.flat (zq w) v'.1 ‹_›))
end L2
end
section
namespace L2
open PySem
section
variable {ρ ρ1 ρ2:En}{fa:EF}{T:Tr}{us ts:List Tr}{x:Rv}{b c:Bool}{i j m n:Nat}{p:List Nat}{u v:Int}{Q:Fl->En->Prop}
theorem Kr(c : ρ[i]?=some (.sh (.int u)))(h:fa ρ=.ok (x,ρ1))(d:dr ρ1 x=.ok (.int v))(e : ρ1.set i (.sh (.int (u+v))) = ρ2)(k:Q .nx ρ2):W (Ss i fa ρ) Q:=by
 subst e
 refine⟨_,_,?_,k⟩
 unfold Ss
 rw[c]
 exact bk h (bk d (bk rfl rfl))
theorem Ks(h:fa ρ=.ok (x,ρ))(d:dr ρ x=.ok (.int (n:Nat)))(c : ρ[i]?=some (.ow ts))(l:ts[n]?=some (.int u))(e : ρ.set i (.ow (ts.set n (.int (u+v)))) = ρ2)(k:Q .nx ρ2):W (afH i fa v ρ) Q:=by
 subst e
 have c1:con ρ i=.ok ts:=by unfold con; rw[c]
 have c2:bH i (ts.set n (.int (u+v))) ρ = ρ.set i (.ow (ts.set n (.int (u+v)))):=by unfold bH; rw[c]
 refine⟨_,_,bk c1 (bk h (bk d (bk (a:=(n:Int)) rfl (bk c1 ((if_pos (Int.natCast_nonneg n)).trans ?_))))),k⟩
 rw[Int.toNat_natCast,l]
 exact congrArg (λr=>Rs.ok (Fl.nx,r)) c2
theorem Ku(c : ρ[i]?=some (.dp ts))(g:jJ (.lst ts) p=some (.lst us))(n:bR us=true)(n':aZ T=true)(l:us.length<=100000)(e : ρ.set i (.dp (stL ts p (us++[T]))) = ρ2)(k:Q .nx ρ2):W (afI i p T ρ) Q:=by
 subst e
 refine⟨_,_,bk (a:=ts) (by unfold cJ; rw[c]) ?_,k⟩
 rw[g]
 exact if_pos (by rw[n,n',decide_eq_true l]; rfl)
theorem Ky(c : ρ[i]?=some (.dp ts))(g:jJ (.lst ts) p=some (.lst us))(n:bR us=true)(e : ρ.set i (.dp (stL ts p [])) = ρ2)(k:Q .nx ρ2):W (afJ i p ρ) Q:=by
 subst e
 refine⟨_,_,bk (a:=ts) (by unfold cJ; rw[c]) ?_,k⟩
 rw[g]
 exact if_pos n
theorem Kz(c : ρ[i]?=some (.dp ts))(f:ts.all Sv=true)(ij:i≠j)(l:j < ρ.length)(e:(ρ.set j .un).set i (.dp (ts.map Sw)) = ρ2)(k:Q .nx ρ2):W (afK i j ρ) Q:=by
 subst e
 exact⟨_,_,bk (a:=ts) (by unfold cJ; rw[c]) (if_pos (by rw[f,decide_eq_true ij,decide_eq_true l]; rfl)),k⟩
theorem KC(e:vw ρ = ρ2)(h:fa ρ2=.ok (.v T false,ρ1))(n:aZ T=true):Ia fa ρ=.ok (.v T false,ρ):=by
 subst e
 unfold Ia
 rw[h]
 exact if_pos n
end
open PySem.Spec PyProof.Rows
noncomputable def lend:Sl->Option Sl
 |.ow ts=>some (.rf ts)
 |.rf ts=>some (.rf ts)
 |.ob _ c fs=>some (.ob true c fs)
 |_=>none
noncomputable def back:Sl->Sl->Option Sl
 |.ow _,.rf ts=>some (.ow ts)
 |.rf _,.rf ts=>some (.rf ts)
 |.ob l _ _,.ob true c fs=>some (.ob l c fs)
 |_,_=>none
theorem gA{fp:List Addr}{b:Addr}:Fn (jc fp) b↔b∈fp:=by
 constructor
 .rintro⟨i,h⟩
  unfold jc at h
  split at h
  .exact h
  .cases h
 .exact λh=>⟨0,by unfold jc; rw[if_pos rfl]; exact h⟩
section
variable {K:PySem.W.Frag}{R:Addr->Prop}{ρ ρ':En}{σ σ':St}{G H G0 H0 G1 H1 G' H':Hp}{F F':Fp}{v:Option (Option V)}{f f':List Addr}{s s' S S':Sl}{a:Addr}
theorem cW.lend(h:cW K R G H v f (some s))(l:L2.lend s=some S):∃a,v=some (some (.ref a))/\a∈f/\(∀b∈f,b≠a->¬R b)/\cW K (λb=>b=a) G H v f (some S):=by
 unfold L2.lend at l
 split at l <;> cases l
 .obtain⟨a,xs,h1,rfl,_,h4,h5⟩:=h
  exact⟨a,h1,List.mem_singleton.mpr rfl,λb hb n=>(n (List.mem_singleton.mp hb)).elim,a,xs,h1,rfl,rfl,h4,h5⟩
 .obtain⟨a,xs,h1,rfl,_,h4,h5⟩:=h
  exact⟨a,h1,List.mem_singleton.mpr rfl,λb hb n=>(n (List.mem_singleton.mp hb)).elim,a,xs,h1,rfl,rfl,h4,h5⟩
 .obtain⟨a,dx,C,xs,bs,h1,rfl,nd,n1,n2,r⟩:=h
  exact⟨a,h1,List.mem_cons_self ..,λb hb n=>n2 b ((List.mem_cons.mp hb).resolve_left n),a,dx,C,xs,bs,h1,rfl,nd,⟨λ_=>rfl,λ_=>rfl⟩,λb hb z=>(List.nodup_cons.mp nd).1 (z▸hb),r⟩
theorem cW.back(h0:cW K R G0 H0 (some (some (.ref a))) f (some s))(h:cW K (λb=>b=a) G H v f' (some S'))(q:L2.back s S'=some s')(nr:∀b,H0 b=none->¬R b)(nw:∀b∈f',H0 b=none\/b∈f):v=some (some (.ref a))/\a∈f'/\cW K R G H v f' (some s'):=by
 unfold L2.back at q
 split at q <;> cases q
 .obtain⟨a0,_,h1,_,n,_⟩:=h0
  cases h1
  obtain⟨b,xs,h1,rfl,rfl,h4,h5⟩:=h
  exact⟨h1,List.mem_singleton.mpr rfl,b,xs,h1,rfl,n,h4,h5⟩
 .obtain⟨a0,_,h1,_,n,_⟩:=h0
  cases h1
  obtain⟨b,xs,h1,rfl,rfl,h4,h5⟩:=h
  exact⟨h1,List.mem_singleton.mpr rfl,b,xs,h1,rfl,n,h4,h5⟩
 .obtain⟨a0,dx0,C0,xs0,bs0,h1,rfl,nd0,n1,n2,_⟩:=h0
  cases h1
  obtain⟨b,dx,C,xs,bs,h1,rfl,nd,m1,_,r⟩:=h
  cases m1.mpr rfl
  refine⟨h1,List.mem_cons_self ..,_,dx,C,xs,bs,h1,rfl,nd,n1,λc hc=>(nw c (List.mem_cons_of_mem _ hc)).elim (nr c) λz=>n2 c ((List.mem_cons.mp z).resolve_left λy=>(List.nodup_cons.mp nd).1 (y▸hc)),r⟩
theorem Fg.call{w:V}{T:Tr}{fp':List Addr}(e:Ok K R ρ σ G H F)(ks : ρ[i]?=some s)(hi : σ[i]?=some (some (.ref a)))(nr:∀b∈F i,b≠a->¬R b)(m:Fg K a G H (F i) G' H' fp' w T S')(q:L2.back s S'=some s'):Ok K R (ρ.set i s') σ G' H' (eG F i fp')/\aB K G H F G' H' (eG F i fp')/\∃bs,Vw K R H F G' H' (eG F i fp') [w] [T] bs:=by
 have il:=(List.getElem?_eq_some_iff.mp ks).1
 have z:=e.sl i
 rw[ks,hi]at z
 have nf:∀b∈fp',H b=none\/b∈F i:=λb hb=>(m.st.nf b (gA.mpr hb)).imp id gA.mp
 obtain⟨_,af,sl⟩:=z.back m.sl q (λb h=>e.rn h) nf
 have mt:∀{b},Fn F b->¬Tb K b:=λh t=>by obtain⟨_,q,m⟩:=e.fl h; exact e.tb.nm q m t
 have nt:∀{b},H b=none->¬Tb K b:=λh t=>by obtain⟨ps,q⟩:=e.tb.bM t; rw[h]at q; cases q
 have dj:∀b j,j≠i->b∈F i->b∉F j:=λb j n h1 h2=>n (e.di j i b h2 h1)
 refine⟨e.one i fp' (by rw[List.length_set,e.len]) (λj n=>⟨gq n,rfl⟩) m.st.gg m.sub m.tb (λb h=>?_) (λj n b hb o h=>m.st.fr b o h (λz=>dj b j n (gA.mp z) hb) (mt ⟨j,hb⟩)) (λb h z=>(e.rg b h).2 (m.st.dm b z)) (λb hb=>⟨m.hid b hb,λj n hj=>(nf b hb).elim (λz=>e.fs z ⟨j,hj⟩) λz=>dj b j n z hj⟩) (by rw[eY il,hi]; exact sl),⟨m.st.gg,λb o h n t=>m.st.fr b o h (λz=>n ⟨i,gA.mp z⟩) t,λb h=>(m.st.nw b h).imp id (Or.imp id λz=>⟨i,gA.mp z⟩),λb h=>(jU h).elim (λz=>(nf b z).imp id λz=>⟨i,z⟩) λ⟨j,_,z⟩=>.inr ⟨j,z⟩,m.st.dm⟩,?_⟩
 .rcases m.st.nw b h with z|z|z
  .exact .inl z
  .exact .inr ⟨λj _ y=>e.fs z ⟨j,y⟩,nt z,e.rn z⟩
  .have z:=gA.mp z
   exact .inr ⟨λj n=>dj b j n z,mt ⟨i,z⟩,nr b z λy=>h (y▸m.hid a af)⟩
 .obtain⟨bs,v⟩:=m.vl
  refine⟨bs,v.nd,λb hb=>?_,v.dr⟩
  obtain⟨h1,h2,h3,h4⟩:=v.al b hb
  have h1:=h1.imp id gA.mp
  refine⟨h1.imp id λz=>⟨i,z⟩,λz=>?_,h1.elim (λz=>e.rn z) λz=>nr b z h3,h4⟩
  rcases jU z with z|⟨j,n,z⟩
  .exact h2 (gA.mpr z)
  .exact h1.elim (λy=>e.fs y ⟨j,z⟩) λy=>dj b j n y z
end
noncomputable def kO(ρ : En)(i:Nat):Rs (Sl × Sl):=match ρ[i]? with
 |some s=>match lend s with
  |some S=>.ok (s,S)
  |none=>.bad
 |none=>.bad
theorem SJ(ρ : En)(i:Nat)(c:Str):kO ρ i ≠ .ex c:=by
 unfold kO
 (repeat' split) <;> (intro z; cases z)
theorem SM(h:kO ρ i=.ok z) : ρ[i]?=some z.1/\lend z.1=some z.2:=by
 unfold kO at h
 (repeat' split at h) <;> cases h
 exact⟨‹_›,‹_›⟩
noncomputable def n8(i:Nat)(f:FM)(fa:AF):WF:=λρ=>(kO ρ i).bind λ_=>(fa ρ).bind λp=>(cls p.1).bind λts=>(kO p.2 i).bind λs=>(f s.2 ts).bind λz=>match back s.1 z.2 with
 |some s'=>.ok (z.1,p.2.set i s')
 |none=>.bad
theorem SN(hn:∀ρ p,fa ρ=.ok p->p.1.length=n)(h:Tw (tx cl E X) (n8 i f fa) σ H Q):∃a,σ[i]?=some (some (.ref a))/\Ta (tx cl E X) fa σ H λvs H2=>lW X.K cl (n+1) f (.ref a::(vs++[])) H2 Q E:=by
 obtain⟨R,ρ,G,F,e,h⟩:=h
 obtain⟨s0,k0,h⟩:=h.okb (SJ _ _)
 obtain⟨k0,l0⟩:=SM k0
 have z0:=e.sl i
 rw[k0]at z0
 obtain⟨a,hi,_⟩:=z0.lend l0
 refine⟨a,hi,?_⟩
 cases ek:fa ρ with
 |bad=>rw[ek]at h; exact h.elim
 |ex c=>exact⟨R,ρ,G,F,e,by rw[ek]at h ⊢; exact h⟩
 |ok p =>
 refine⟨R,ρ,G,F,e,?_⟩
 simp only[ek,Rs.bind]at h
 rw[ek]
 intro vs G1 H1 F1 e1 s1 v1
 obtain⟨ts,k1,h⟩:=h.okb (nF _)
 obtain⟨G2,e2,s2,_,r⟩:=e1.vis e s1 v1 k1
 obtain⟨s,k2,h⟩:=h.okb (SJ _ _)
 obtain⟨k2,l2⟩:=SM k2
 have z:=e2.sl i
 rw[k2]at z
 obtain⟨a',hi',af,nr,zl⟩:=z.lend l2
 rw[hi]at hi'
 cases hi'
 rw[List.append_nil]
 refine⟨G2,a,F1 i,s.2,vs,ts,rfl,by rw[List.length_cons,v1.length,hn ρ p ek],r,e2.sub,e2.tb,e2.tg,af,λb hb=>e2.hid b ⟨i,hb⟩,hi▸zl,?_⟩
 cases ef:f s.2 ts with
 |bad=>rw[ef]at h; exact h.elim
 |ex c=>rw[ef]at h; exact λH' q=>h H' (s2.back ⟨λb o h n t=>q.fr b o h (λz=>n ⟨i,gA.mp z⟩) t,q.tb⟩)
 |ok z =>
  simp only[ef,Rs.bind]at h
  split at h
  case h_2=>exact h.elim
  rename_i s' hb
  intro v G' H' fp' mo
  obtain⟨e3,s3,bs,v3⟩:=mo.call e2 k2 hi nr hb
  exact h v G' H' _ bs e3 (s2.trans s3) (v3.back s2)
noncomputable abbrev DM:=En->Rs (Tr × En)
noncomputable def Ib(t:Tx)(g:DM):TS:=λD σ H=>∃R ρ G F,Ok t.K R ρ σ G H F/\bB t H F (g ρ) λp=>∀σ' G' H' F',Ok t.K R p.2 σ' G' H' F'->aB t.K G H F G' H' F'->(∀v bs,Vw t.K R H F G' H' F' [v] [p.1] bs->D.rt v H')/\(p.1=.non->D.nx σ' H')
noncomputable abbrev VM(g:DM):=Vn λcl E X e=>cQ X e (Ib (tx cl E X) g)
noncomputable abbrev vq{g:DM}(_:VM g):DM:=g
noncomputable def SQ:DM:=λρ=>.ok (.non,ρ)
noncomputable def m0:VM SQ where
 ck _ e:=e.isEmpty
 cs:=[]
 ok:=@λ_ _ _ X e _ _ h=>by
  cases e <;> try cases h
  exact Lp.imp λD σ H=>bF λR ρ G F e h=>(h σ G H F e .refl).2 rfl
noncomputable def mR(a:VX aA):VM aA where
 ck Γ e:=aR e λz l=>aU l (qX z λy _=>lO y λx=>a.ck Γ x)
 cs:=a.cs
 ok q o h:=by
  walk_at "O"
  exact(Cg (Ci (a.ok q o h))).imp λD σ H=>bF λR ρ G F e h=>⟨R,ρ,G,F,e,h.go (aB.refl (G:=G)) λp h v G1 H1 F1 bs e1 s1 v1=>(h σ G1 H1 F1 e1 s1).1 v bs v1⟩
theorem afL{t:Tx}{D:Ends}(e:Ok t.K R ρ σ G H F)(s:aB t.K G0 H0 F0 G H F)(h:bB t H0 F0 (g ρ) λp=>∀σ' G' H' F',Ok t.K R p.2 σ' G' H' F'->aB t.K G0 H0 F0 G' H' F'->(∀v bs,Vw t.K R H0 F0 G' H' F' [v] [p.1] bs->D.rt v H')/\(p.1=.non->D.nx σ' H')):Ib t g D σ H :=
 ⟨R,ρ,G,F,e,h.go s λp h σ' G' H' F' e' s'=>⟨λv bs w=>(h σ' G' H' F' e' (s.trans s')).1 v bs (w.back s),(h σ' G' H' F' e' (s.trans s')).2⟩⟩
noncomputable def SX(f:SF)(g:DM):DM:=λρ=>(f ρ).bind λp=>match p.1 with
 |.nx=>g p.2
 |_=>.bad
noncomputable def mC(a:VS aA)(r:VM dU):VM (SX aA dU) where
 ck Γ e:=aR e λx l=>a.ck Γ x&&r.ck Γ l
 cs:=a.cs++r.cs
 ok q O h:=by
  walk_at "o"
  simp only[an]at h
  refine(Lr (a.ok (ml q) O h.1) (r.ok (mr q) O h.2)).imp λD σ H=>bF λR ρ G F e h=>⟨R,ρ,G,F,e,h.run (aB.refl (G:=G)) λp h=>?_⟩
  obtain⟨fl,ρ1⟩:=p
  cases fl with
  |nx=>exact λσ1 G1 H1 F1 e1 s1=>afL e1 s1 h
  |bk=>exact h.elim
  |ct=>exact h.elim
  |rt T fr=>exact h.elim
noncomputable def hIf(c:BF)(f:WF)(g:DM):DM:=λρ=>(c ρ).bind λp=>if p.1=true then f p.2 else g p.2
noncomputable def kW(nl:Nat)(S:Sl)(ts:List Tr):En:=S::ts.map Sl.sh++List.replicate (nl-(ts.length+1)) Sl.un
noncomputable def jG(nl:Nat)(g:DM):FM:=λS ts=>(g (kW nl S ts)).bind λp=>match p.2 with
 |.rf us::_=>.ok (p.1,.rf us)
 |.ob true c fs::_=>.ok (p.1,.ob true c fs)
 |_=>.bad
theorem Ok.kW{K:PySem.W.Frag}{N:List Str}{fp:List Addr}{a:Addr}(z:cW K (λb=>b=a) G H (some (some (.ref a))) fp (some S))(ha:G a=none/\H a≠none)(hid:∀b∈fp,G b=none)(r:au K G vs ts)(hl:vs.length+1<=N.length)(s:Same G H)(tb:bf K H)(tg:∀b,Tb K b->G b=none):Ok K (λb=>b=a) (L2.kW N.length S ts) (start N (.ref a::vs)) G H (jc fp):=by
 have l:=r.length
 refine⟨by unfold L2.kW start; simp; lia,s,tb,tg,λb h=>hid b (gA.mp h),λb h=>h▸ha,λi j b h1 h2=>?_,λi=>?_⟩
 .unfold jc at h1 h2
  split at h1
  .split at h2
   .rw[‹i=0›,‹j=0›]
   .cases h2
  .cases h1
 .cases i with
  |zero=>exact z
  |succ i =>
   show cW K _ G H ((start N (.ref a::vs))[i+1]?) [] (L2.kW N.length S ts)[i+1]?
   unfold L2.kW start
   rw[List.map_cons,List.cons_append,List.getElem?_cons_succ,List.cons_append,List.getElem?_cons_succ]
   by_cases h:i<vs.length
   .rw[List.getElem?_append_left (by simpa using h),List.getElem?_append_left (by simp; lia),List.getElem?_map,List.getElem?_map,List.getElem?_eq_getElem h,List.getElem?_eq_getElem (show i<ts.length by lia)]
    obtain⟨x,q1,q2⟩:=r.nj (List.getElem?_eq_getElem (show i<ts.length by lia))
    rw[List.getElem?_eq_getElem h]at q1
    cases q1
    exact⟨rfl,_,rfl,q2⟩
   .rw[List.getElem?_append_right (l₁ := ts.map Sl.sh) (by simp; lia),List.getElem?_replicate]
    split <;> rfl
theorem cW.at{K:PySem.W.Frag}{a:Addr}{f:List Addr}{S:Sl}(h:cW K (λb=>b=a) G H v f (some S))(q:(∃us,S=.rf us)\/∃c fs,S=.ob true c fs):v=some (some (.ref a))/\a∈f/\∃o,H a=some o:=by
 rcases q with⟨us,rfl⟩|⟨c,fs,rfl⟩
 .obtain⟨b,xs,h1,rfl,rfl,h4,_⟩:=h
  exact⟨h1,List.mem_singleton.mpr rfl,_,h4⟩
 .obtain⟨b,dx,C,xs,bs,h1,rfl,_,m,_,_,h4,_⟩:=h
  cases m.mpr rfl
  exact⟨h1,List.mem_cons_self ..,_,h4⟩
theorem afM{K:PySem.W.Frag}{N ps:List Str}{g:DM}(hn:ps.length<=N.length)(h:lW K cl ps.length (jG N.length g) vs H Q E):Ib ⟨aq K,λc H'=>E (.ref (cl c)) none H'⟩ g {nx:=λ_ H'=>Q .non H',rt:=Q } (start N vs) H:=by
 obtain⟨G,a,fp,S,ws,ts,rfl,hl,r,sg,tb,tg,af,hid,z,h⟩:=h
 rw[List.length_cons]at hl
 have ha:G a=none/\H a≠none:=⟨hid a af,λy=>by obtain⟨_,q,_⟩:=z.mu a af; rw[y]at q; cases q⟩
 refine⟨_,_,G,_,Ok.kW z ha hid r (by lia) sg tb tg,h.run (aB.refl (G:=G)) λp h σ' G' H' F' e s=>?_⟩
 split at h
 case h_3=>exact h.elim
 all_goals
  rename_i k
  have z':=e.sl 0
  rw[k]at z'
  obtain⟨q1,q2,_⟩:=z'.at (by first|exact .inl ⟨_,rfl⟩|exact .inr ⟨_,_,rfl⟩)
  rw[q1]at z'
  have sub:∀b,Fn (jc (F' 0)) b->Fn F' b:=λb z=>⟨0,gA.mp z⟩
  have mo:∀v bs,Vw (aq K) (λb=>b=a) H (jc fp) G' H' F' [v] [p.1] bs->Q v H':=λv bs w=>h v G' H' (F' 0) ⟨⟨s.gg,s.fr,s.nw,λb z=>s.nf b (sub b z),s.dm⟩,e.sub,e.tb,λb hb=>e.hid b ⟨0,hb⟩,z',bs,w.nd,λb hb=>⟨(w.al b hb).1,λz=>(w.al b hb).2.1 (sub b z),(w.al b hb).2.2⟩,w.dr⟩
  exact⟨mo,λn=>mo .non [] ⟨.nil,(λ_ z=>by cases z),n ▸ .cl rfl .non .nil⟩⟩
theorem vA{K:PySem.W.Frag}{c:Str}{C C':Addr}(h:iY K c C)(h':iY K c C'):C=C':=by
 unfold iY at h h'
 rw[h]at h'
 cases h'
 rfl
noncomputable def dH(k:Str)(s:aK):List (Str × aK)->List (Str × aK)
 | []=>[(k,s)]
 |(g,x)::r=>if g=k then(g,s)::r else(g,x)::dH k s r
noncomputable def vD(K:PySem.W.Frag)(G H:Hp)(v:V)(cs:List Addr):aK->Prop
 |.sh T=>cs=[]/\Rep K G v T
 |.dp us=>∃b ys ds,v=.ref b/\cs=b::ds/\H b=some (.lst ys)/\DR K G H ys us ds
section
variable {K:PySem.W.Frag}{R:Addr->Prop}{ρ : En}{σ : St}{G H G' H':Hp}{F:Fp}{xs:List (Str × V)}{fs:List (Str × aK)}{bs cs:List Addr}{k:Str}{v:V}{s:aK}{c:Str}{l:Bool}
theorem bx.cons(o:vD K G H v cs s)(r:bx K G H xs fs bs):bx K G H ((k,v)::xs) ((k,s)::fs) (cs++bs):=by
 cases s with
 |sh T=>obtain⟨rfl,h⟩:=o; exact .sh h r
 |dp us=>obtain⟨b,ys,ds,rfl,rfl,h,d⟩:=o; exact .dp h d r
theorem bx.split(h:bx K G H xs ((k,s)::fs) bs):∃v ys cs ds,xs=(k,v)::ys/\bs=cs++ds/\vD K G H v cs s/\bx K G H ys fs ds:=by
 cases h with
 |sh h r=>exact⟨_,_,[],_,rfl,rfl,⟨rfl,h⟩,r⟩
 | @dp _ b ys us cs _ _ ds h d r=>exact⟨_,_,b::cs,ds,rfl,rfl,⟨b,ys,cs,rfl,rfl,h,d⟩,r⟩
theorem bx.put:∀{fs:List (Str × aK)} {xs:List (Str × V)} {bs:List Addr},bx K G H xs fs bs->vD K G H v cs s->bs.Nodup->cs.Nodup->(∀b∈cs,b∉bs)->∃bs',bx K G H (c7 k v xs) (dH k s fs) bs'/\bs'.Nodup/\∀b∈bs',b∈bs\/b∈cs
 | [],xs,bs,h,o,_,n,_=>by
  cases h
  exact⟨cs++[],.cons o .nil,by rw[List.append_nil]; exact n,λb hb=>.inr (by rwa[List.append_nil]at hb)⟩
 |(g,x)::fs,xs,bs,h,o,n1,n2,dj=>by
  obtain⟨w,ys,c,d,rfl,rfl,p,r⟩:=h.split
  obtain⟨m1,m2,m3⟩:=List.nodup_append.mp n1
  show ∃bs',bx K G H (if g=k then(g,v)::ys else(g,w)::c7 k v ys) (if g=k then(g,s)::fs else(g,x)::dH k s fs) bs'/\_
  by_cases e:g=k
  .rw[if_pos e,if_pos e]
   exact⟨cs++d,.cons o r,List.nodup_append.mpr ⟨n2,m2,λb hb b' hb' z=>dj b hb (List.mem_append_right _ (z▸hb'))⟩,λb hb=>(List.mem_append.mp hb).elim .inr λz=>.inl (List.mem_append_right _ z)⟩
  .rw[if_neg e,if_neg e]
   obtain⟨bs',q1,q2,q3⟩:=bx.put r o m2 n2 λb hb z=>dj b hb (List.mem_append_right _ z)
   refine⟨c++bs',.cons p q1,List.nodup_append.mpr ⟨m1,q2,λb hb b' hb' z=>?_⟩,λb hb=>(List.mem_append.mp hb).elim (λz=>.inl (List.mem_append_left _ z)) λz=>(q3 b z).imp (List.mem_append_right _) id⟩
   subst z
   exact(q3 b hb').elim (λz=>m3 b hb b z rfl) λz=>dj b z (List.mem_append_left _ hb)
theorem bx.get:∀{fs:List (Str × aK)} {xs:List (Str × V)} {bs:List Addr},bx K G H xs fs bs->fs.lookup k=some s->∃v cs,xs.lookup k=some v/\vD K G H v cs s/\∀b∈cs,b∈bs
 | [],_,_,_,q=>by cases q
 |(g,x)::fs,xs,bs,h,q=>by
  obtain⟨w,ys,c,d,rfl,rfl,p,r⟩:=h.split
  rw[List.lookup_cons]at q ⊢
  by_cases e:(k == g)=true
  .rw[e]at q ⊢
   cases q
   exact⟨w,c,rfl,p,λb=>List.mem_append_left _⟩
  .rw[Bool.eq_false_iff.mpr e]at q ⊢
   obtain⟨v,cs,q1,q2,q3⟩:=bx.get r q
   exact⟨v,cs,q1,q2,λb hb=>List.mem_append_right _ (q3 b hb)⟩
theorem bx.no:∀{fs:List (Str × aK)} {xs:List (Str × V)} {bs:List Addr},bx K G H xs fs bs->fs.lookup k=none->xs.lookup k=none
 | [],_,_,h,_=>by cases h; rfl
 |(g,x)::fs,xs,bs,h,q=>by
  obtain⟨w,ys,c,d,rfl,rfl,p,r⟩:=h.split
  rw[List.lookup_cons]at q ⊢
  by_cases e:(k == g)=true
  .rw[e]at q; cases q
  .rw[Bool.eq_false_iff.mpr e]at q ⊢
   exact bx.no r q
theorem bx.len:∀{fs:List (Str × aK)} {xs:List (Str × V)} {bs:List Addr},bx K G H xs fs bs->xs.length=fs.length
 | [],_,_,h=>by cases h; rfl
 |(g,x)::fs,xs,bs,h=>by
  obtain⟨w,ys,c,d,rfl,rfl,p,r⟩:=h.split
  rw[List.length_cons,List.length_cons,bx.len r]
theorem Ok.S5(e:Ok K R ρ σ G H F)(q : ρ[i]?=some (.ob l c fs))(o:vD K G H v cs s)(n:cs.Nodup)(al:∀b∈cs,¬Fn F b/\¬R b/\G b=none):∃a dx C xs,σ[i]?=some (some (.ref a))/\iY K c C/\H a=some (.ins C dx xs)/\xs.length=fs.length/\∃bs,Ok K R (ρ.set i (.ob l c (dH k s fs))) σ G (upd H a (.ins C dx (c7 k v xs))) (eG F i bs)/\∀(G0 H0:Hp) (F0:Fp),aB K G0 H0 F0 G H F->(∀b∈cs,H0 b=none\/Fn F0 b)->aB K G0 H0 F0 G (upd H a (.ins C dx (c7 k v xs))) (eG F i bs):=by
 have z:=e.sl i
 rw[q]at z
 obtain⟨a,dx,C,xs,bs,h1,h2,nd,m1,m2,kc,h4,h5,d⟩:=z
 obtain⟨n1,n2⟩:=List.nodup_cons.mp (h2▸nd)
 obtain⟨n3,n4⟩:=List.nodup_cons.mp n2
 have fF:∀b∈a::dx::bs,Fn F b:=λb hb=>⟨i,by rw[h2]; exact hb⟩
 obtain⟨bs',q1,q2,q3⟩:=d.put (k:=k) o n4 n λb hb z=>(al b hb).1 (fF b (List.mem_cons_of_mem _ (List.mem_cons_of_mem _ z)))
 have fa:=fF a (List.mem_cons_self ..)
 have ga:=e.hid a fa
 have na:∀b∈dx::bs',b≠a:=λb hb z=>by
  subst z
  rcases List.mem_cons.mp hb with z|z
  .exact n1 (z▸List.mem_cons_self ..)
  .exact(q3 _ z).elim (λz=>n1 (List.mem_cons_of_mem _ z)) λz=>(al _ z).1 fa
 have nx:∀b∈bs',b≠dx:=λb hb z=>by
  subst z
  exact(q3 _ hb).elim n3 λz=>(al _ z).1 (fF _ (List.mem_cons_of_mem _ (List.mem_cons_self ..)))
 have up:∀b o,b≠a->H b=some o->upd H a (.ins C dx (c7 k v xs)) b=some o:=λb o n h=>by rw[aH n]; exact h
 have dm:∀b,upd H a (.ins C dx (c7 k v xs)) b=none->H b=none:=λb h=>by
  by_cases y:b=a
  .subst y; rw[bN]at h; cases h
  .rw[aH y]at h; exact h
 refine⟨a,dx,C,xs,h1,kc,h4,d.len,a::dx::bs',e.one i _ (by rw[List.length_set,e.len]) (λj n=>⟨gq n,rfl⟩) (Same.refl _) (λb o h=>up b o (λz=>by rw[z,ga]at h; cases h) (e.sub b o h)) (e.tb.Eb h4 rfl) (λb h=>.inl h) (λj n b hb o h=>up b o (λz=>n (e.di j i b hb (by rw[h2,z]; exact List.mem_cons_self ..))) h) (λb h z=>(e.rg b h).2 (dm b z)) (λb hb=>?_) ?_,λG0 H0 F0 s0 hc=>⟨s0.gg,λb o h n t=>up b o (λz=>s0.out h n (z▸fa)) (s0.fr b o h n t),s0.nw,λb h=>?_,λb h=>s0.dm b (dm b h)⟩⟩
 .rcases List.mem_cons.mp hb with rfl|hb
  .exact⟨ga,λj n z=>n (e.di j i b z (by rw[h2]; exact List.mem_cons_self ..))⟩
  rcases List.mem_cons.mp hb with rfl|hb
  .exact⟨e.hid b (fF b (List.mem_cons_of_mem _ (List.mem_cons_self ..))),λj n z=>n (e.di j i b z (by rw[h2]; exact List.mem_cons_of_mem _ (List.mem_cons_self ..)))⟩
  rcases q3 b hb with z|z
  .exact⟨e.hid b (fF b (List.mem_cons_of_mem _ (List.mem_cons_of_mem _ z))),λj n y=>n (e.di j i b y (by rw[h2]; exact List.mem_cons_of_mem _ (List.mem_cons_of_mem _ z)))⟩
  .exact⟨(al b z).2.2,λj _ y=>(al b z).1 ⟨j,y⟩⟩
 .rw[eY (List.getElem?_eq_some_iff.mp q).1]
  exact⟨a,dx,C,_,bs',h1,rfl,List.nodup_cons.mpr ⟨λz=>na a z rfl,List.nodup_cons.mpr ⟨λz=>nx dx z rfl,q2⟩⟩,m1,λb hb=>(List.mem_cons.mp hb).elim (λz=>m2 b (z▸List.mem_cons_self ..)) λz=>(q3 b z).elim (λz=>m2 b (List.mem_cons_of_mem _ z)) λz=>(al b z).2.1,kc,bN,up dx _ (na dx (List.mem_cons_self ..)) h5,q1.mono (Same.refl _) λb hb o h=>up b o (na b (List.mem_cons_of_mem _ hb)) h⟩
 .rcases jU h with z|⟨j,_,z⟩
  .rcases List.mem_cons.mp z with rfl|z
   .exact s0.nf b fa
   rcases List.mem_cons.mp z with rfl|z
   .exact s0.nf b (fF b (List.mem_cons_of_mem _ (List.mem_cons_self ..)))
   rcases q3 b z with z|z
   .exact s0.nf b (fF b (List.mem_cons_of_mem _ (List.mem_cons_of_mem _ z)))
   .exact hc b z
  .exact s0.nf b ⟨j,z⟩
end
noncomputable def gC(fs:List (Str × aK))(k:Str):Rs Tr:=match fs.lookup k with
 |some (.sh T)=>.ok T
 |_=>.bad
theorem afN(h:gC fs k=.ok T):fs.lookup k=some (.sh T):=by
 unfold gC at h
 split at h <;> cases h
 assumption
theorem afO(fs:List (Str × aK))(k c:Str):gC fs k ≠ .ex c:=by
 unfold gC
 split <;> (intro z; cases z)
noncomputable def mU(i:Nat)(c k:Str):EF:=λρ=>match ρ[i]? with
 |some (.ob _ d fs)=>if d=c then(gC fs k).bind λT=>.ok (.v T false,ρ)else .bad
 |some (.vo d fs)=>if d=c then(gC fs k).bind λT=>.ok (.v T false,ρ)else .bad
 |_=>.bad
theorem afP{X:Cx}{cl:Str->Addr}{E:XK}(y:Ey.ok cl X (.cz c k))(h:Te (tx cl E X) (mU i c k) σ H Q):Mp X.K (tV i) k σ H Q:=by
 obtain⟨C',oh,c1,c2⟩:=y
 obtain⟨R,ρ,G,F,e,h⟩:=h
 have z:=e.sl i
 unfold mU at h
 split at h
 case h_3=>exact h.elim
 all_goals
  rename_i q
  rw[q]at z
  split at h
  case isFalse=>exact h.elim
  rename_i dc
  subst dc
  obtain⟨T,g,h⟩:=h.okb (afO _ _)
  have g:=afN g
 .obtain⟨a,dx,C,xs,bs,h1,_,_,_,_,kc,h4,_,d⟩:=z
  cases vA kc oh
  obtain⟨v,cs,q1,q2,_⟩:=d.get g
  exact⟨_,h1,a,C',dx,xs,v,rfl,h4,c1,c2,q1,h v G H F e .refl (.low q2.2)⟩
 .obtain⟨_,a,dx,C,xs,h1,kc,h4,d⟩:=z
  cases vA kc oh
  obtain⟨v,cs,q1,q2,_⟩:=d.get g
  exact⟨_,h1,a,C',dx,xs,v,rfl,e.sub _ _ h4,c1,c2,q1,h v G H F e .refl (.low q2.2)⟩
noncomputable def pW(i:Nat)(c k:Str):VE (mU i c k) where
 ck Γ e:=lN e λob a _=>atName ob λx _=>gh Γ i x&&a == k
 cs:=[.cz c k]
 ok q o h:=by
  walk_at "o"
  simp only[an]at h
  cases eq_of_beq h.2
  exact(abA (jd o h.1) rfl).imp λσ H Q=>afP (q _ (List.mem_cons_self ..))
noncomputable def jk(ρ : En)(i:Nat)(c:Str):Rs (Bool × List (Str × aK)):=match ρ[i]? with
 |some (.ob l d fs)=>if d=c then .ok (l,fs)else .bad
 |_=>.bad
theorem Ie(h:jk ρ i c=.ok z) : ρ[i]?=some (.ob z.1 c z.2):=by
 unfold jk at h
 (repeat' split at h) <;> cases h
 rename_i e
 cases e
 assumption
theorem Ig(ρ : En)(i:Nat)(c d:Str):jk ρ i c ≠ .ex d:=by
 unfold jk
 (repeat' split) <;> (intro z; cases z)
noncomputable def S6(i:Nat)(c k:Str)(f:EF):SF:=λρ=>(f ρ).bind λp=>(ju p.1).bind λT=>(jk p.2 i c).bind λz=>if z.2.length<999 then .ok (.nx,p.2.set i (.ob z.1 c (dH k (.sh T) z.2)))else .bad
noncomputable def vH(i:Nat)(c k:Str)(a:VE aA):VS (S6 i c k aA) where
 ck Γ e:=jB e λaL v _=>aR aL λbA bG=>lN bA λob b _=>atName ob λx _=>aU bG (gh Γ i x&&b == k&&lX v&&a.ck Γ v)
 cs:=.cz c k::a.cs
 ok q o h:=by
  walk_at "O"
  simp only[an]at h
  obtain⟨⟨⟨h1,h2⟩,h3⟩,h4⟩:=h
  cases eq_of_beq h2
  obtain⟨⟨C',oh,c1,c2⟩,q⟩:=List.forall_mem_cons.mp q
  refine(Mq (jd o h1) (a.ok q o h4) (pN h3)).imp λD σ H=>bF λR ρ G F e h=>dh e .refl h λp h v G1 H1 F1 e1 s1 v1=>?_
  obtain⟨T,kT,h⟩:=h.okb (FQ _)
  obtain⟨G2,e2,s2,_,rv⟩:=e1.rA e s1 v1 kT
  obtain⟨z,k0,h⟩:=h.okb (Ig _ _ _)
  have k0:=Ie k0
  split at h
  case isFalse=>exact h.elim
  obtain⟨a,dx,C,xs,hi,kc,h4,ln,bs,e3,s3⟩:=e2.S5 (k:=k) (s:=.sh T) (cs:=[]) k0 ⟨rfl,rv⟩ .nil (λ_ z=>by cases z)
  cases vA kc oh
  exact⟨_,hi,a,C',dx,xs,rfl,h4,c1,c2,by rw[ln]; omega,h σ G2 _ _ e3 (s3 G H F s2 λ_ z=>by cases z)⟩
noncomputable def S7(i:Nat)(c k:Str)(f:WF):SF:=λρ=>(f ρ).bind λp=>(jk p.2 i c).bind λz=>match p.1 with
 |.lst ts=>if z.2.length<999 then .ok (.nx,p.2.set i (.ob z.1 c (dH k (.dp ts) z.2)))else .bad
 |_=>.bad
noncomputable def sFW(i:Nat)(c k:Str)(a:VX aA):VS (S7 i c k aA) where
 ck Γ e:=jB e λaL v _=>aR aL λbA bG=>lN bA λob b _=>atName ob λx _=>aU bG (gh Γ i x&&b == k&&lX v&&a.ck Γ v)
 cs:=.cz c k::a.cs
 ok q o h:=by
  walk_at "O"
  simp only[an]at h
  obtain⟨⟨⟨h1,h2⟩,h3⟩,h4⟩:=h
  cases eq_of_beq h2
  obtain⟨⟨C',oh,c1,c2⟩,q⟩:=List.forall_mem_cons.mp q
  refine(Mq (jd o h1) (a.ok q o h4) (pN h3)).imp λD σ H=>bF λR ρ G F e h=>⟨R,ρ,G,F,e,h.run (aB.refl (G:=G)) λp h v G1 H1 F1 bs e1 s1 v1=>?_⟩
  obtain⟨z,k0,h⟩:=h.okb (Ig _ _ _)
  have k0:=Ie k0
  split at h
  case h_2=>exact h.elim
  rename_i ts kT
  split at h
  case isFalse=>exact h.elim
  have d:=v1.dr
  rw[kT]at d
  cases d with
  |cl n _ _=>unfold aZ at n; cases n
  | @rw b ys _ cs _ _ bs hb dq r0 =>
  cases r0
  have nd:=v1.nd
  have al:=v1.al
  rw[List.append_nil]at nd al
  obtain⟨a,dx,C,xs,hi,kc,h4,ln,bs,e3,s3⟩:=e1.S5 (k:=k) (s:=.dp ts) k0 ⟨b,ys,cs,rfl,rfl,hb,dq⟩ nd (λb hb=>⟨(al b hb).2.1,(al b hb).2.2.1,(al b hb).2.2.2⟩)
  cases vA kc oh
  exact⟨_,hi,a,C',dx,xs,rfl,h4,c1,c2,by rw[ln]; omega,h σ G1 _ _ e3 (s3 G H F s1 λb hb=>(al b hb).1)⟩
noncomputable def afQ(i:Nat)(c k:Str)(f:EF):SF:=λρ=>(jk ρ i c).bind λz=>(gC z.2 k).bind λT=>(f ρ).bind λp=>(dr p.2 p.1).bind λU=>(jk p.2 i c).bind λz'=>match T,U with
 |.int m,.int n=>if z'.2.length<999 then .ok (.nx,p.2.set i (.ob z'.1 c (dH k (.sh (.int (m+n))) z'.2)))else .bad
 |_,_=>.bad
noncomputable def vI(f:WF):EF:=λρ=>(f ρ).bind λp=>.ok (.v p.1 false,p.2)
section
variable {t:Tx}{K:PySem.W.Frag}{R:Addr->Prop}{ρ : En}{σ : St}{G H G0 H0 G' H':Hp}{F F0:Fp}{bs:List Addr}
theorem Ok.shows:∀{bs:List Addr} {G:Hp},Ok K R ρ σ G H F->(∀b∈bs,(∃ys,H b=some (.lst ys))/\¬Fn F b/\¬R b)->∃G2,Ok K R ρ σ G2 H F/\Same G G2/\(∀b∈bs,G2 b=H b)/\∀b,G2 b≠none->G b≠none\/b∈bs
 | [],G,e,_=>⟨G,e,Same.refl _,(λ_ z=>by cases z),λ_ h=>.inl h⟩
 |b::bs,G,e,h=>by
  obtain⟨⟨⟨ys,hy⟩,n,r⟩,h⟩:=List.forall_mem_cons.mp h
  obtain⟨e1,m1⟩:=e.show hy n r
  obtain⟨G2,e2,m2,q,nw⟩:=Ok.shows e1 h
  refine⟨G2,e2,m1.trans m2,List.forall_mem_cons.mpr ⟨(m2 _ _ bN).trans hy.symm,q⟩,λc hc=>?_⟩
  rcases nw c hc with z|z
  .by_cases w:c=b
   .exact .inr (w▸List.mem_cons_self ..)
   .rw[aH w]at z; exact .inl z
  .exact .inr (List.mem_cons_of_mem _ z)
end
noncomputable def jm(a:VX aA):VE (vI aA) where
 ck:=a.ck
 cs:=a.cs
 ok q o h:=(a.ok q o h).imp λσ H Q=>bF λR ρ G F e h=>⟨R,ρ,G,F,e,h.run (aB.refl (G:=G)) λp h v G1 H1 F1 bs e1 s1 v1=>by
  obtain⟨G2,e2,m,q,nw⟩:=e1.shows λb hb=>⟨v1.dr.lst b hb,(v1.al b hb).2.1,(v1.al b hb).2.2.1⟩
  have r:=v1.dr.reps m q
  cases r with
  |cons r _=>exact h v G2 H1 F1 e2 ⟨s1.gg.trans m,s1.fr,λb z=>(nw b z).elim (s1.nw b) λz=>.inr (v1.al b z).1,s1.nf,s1.dm⟩ (.low r)⟩
theorem S8{α : Type}{l:List α}(h:(!l.isEmpty)=true):∃e es,l=e::es:=by
 cases l with
 |nil=>cases h
 |cons e es=>exact⟨e,es,rfl⟩
theorem S9{o:Expr}{name:Str}{apos pos:Pos}{args:List Expr}{env:Env}(hb:attributeBase o name env (eval o env)=eval o env)(hf:methodCallForm (args.length+([]:List Keyword).length) (backTo pos (starEach args env)) (backToKw pos (keywordEach [] env))=true)(hl:(apos.endLine == pos.line)=true):eval (.Call (.Attribute o name apos) args [] pos) env=(do
   let ov <-eval o env
   standAt apos.atName
   let(f,first) <-holding [ov] (getMethod ov name (do return (<-importBound o env).getD true))
   callWith pos f first (backTo pos (starEach args env)) (backToKw pos (keywordEach [] env))):=by
 rw[arm_eval_Call,hb]
 unfold methodCall calleeOf methodCallPos
 rw[hf,hl]
 rfl
noncomputable def zV(i:Nat)(c m:Str)(f:FM)(fa:AF):WF:=λρ=>(jk ρ i c).bind λz=>if(z.2.lookup m).isNone=true then n8 i f fa ρ else .bad
theorem Tc{cl:Str->Addr}{E:XK}{X:Cx}{C:Addr}(kc:iY (aq X.K) c C)(hn:∀ρ p,fa ρ=.ok p->p.1.length=n)(h:Tw (tx cl E X) (zV i c m f fa) σ H Q):CZ C m (lW X.K cl (n+1) f) [] E (tV i) (Ta (tx cl E X) fa) σ H Q:=by
 obtain⟨R,ρ,G,F,e,h⟩:=h
 obtain⟨z,k0,h⟩:=h.okb (Ig _ _ _)
 have k0:=Ie k0
 split at h
 case isFalse=>exact h.elim
 rename_i nn
 obtain⟨a,hi,q⟩:=SN hn ⟨R,ρ,G,F,e,h⟩
 have zl:=e.sl i
 rw[k0]at zl
 obtain⟨a',dx,C',xs,bs,h1,_,_,_,_,oh,h4,_,d⟩:=zl
 rw[hi]at h1
 cases h1
 cases vA oh kc
 exact⟨_,hi,a,dx,xs,rfl,h4,d.no (by simpa using nn),q⟩
noncomputable def mtX(i:Nat)(c m:Str)(ps:List Str)(f:FM)(l:Nat)(as:VA gj):VX (zV i c m f gj) where
 ck Γ e:=f9 e λfn es kw q=>lN fn λob b p=>atName ob λx _=>aU kw (gh Γ i x&&b == m&&es.length+1 == ps.length&&decide (l <= Γ.k) && !es.isEmpty&&as.ck Γ es&&decide (es.length<30)&&p.endLine == q.line)
 cs:=.mt c m ps f l::as.cs
 ok q o h:=by
  walk_at "O"
  simp only[an]at h
  obtain⟨⟨⟨⟨⟨⟨⟨h1,h2⟩,h3⟩,h4⟩,h5⟩,h6⟩,h7⟩,h8⟩:=h
  cases eq_of_beq h2
  obtain⟨⟨C,g,fd,kc,cc,mm,fo,bd⟩,q⟩:=List.forall_mem_cons.mp q
  obtain⟨e,es,rfl⟩:=S8 h5
  obtain⟨pa,la,na⟩:=as.ok q o h6
  rw[<-eq_of_beq h3]at fo
  exact(abF (jd o h1) cc mm fo (o.r.mono (of_decide_eq_true h4)) bd .nil o.e pa (iy (na _ (List.mem_cons_self ..))) (jT (λy m=>na y (List.mem_cons_of_mem _ m)) _) (S9 rfl (Qo na (of_decide_eq_true h7)) h8)).imp λ_ _ _=>Tc kc la
noncomputable def afR(i:Nat)(c m:Str)(f:FM)(l:Nat):VX (zV i c m f fL) where
 ck Γ e:=f9 e λfn es kw q=>lN fn λob b p=>atName ob λx _=>aU es (aU kw (gh Γ i x&&b == m&&decide (l <= Γ.k)&&p.endLine == q.line))
 cs:=[.mt c m ["self"] f l]
 ok q o h:=by
  walk_at "O"
  simp only[an]at h
  obtain⟨⟨⟨h1,h2⟩,h4⟩,h8⟩:=h
  cases eq_of_beq h2
  obtain⟨C,g,fd,kc,cc,mm,fo,bd⟩:=q _ (List.mem_cons_self ..)
  exact(abG (jd o h1) cc mm fo (o.r.mono (of_decide_eq_true h4)) bd .nil o.e (S9 rfl rfl h8)).imp λ_ _ _ h=>by
   obtain⟨_,hv,a,dx,fs,e1,e2,e3,R,ρ,G,F,e,h⟩:=Tc (n:=0) kc (λρ p h=>(by cases h; rfl)) h
   exact⟨_,hv,a,dx,fs,e1,e2,e3,h [] G _ F e .refl .nil⟩
noncomputable def Td(g:Str)(ps:List Str)(f:FM)(l:Nat)(i:Nat)(as:VA gj):VX (n8 i f gj) where
 ck Γ e:=f9 e λfn l' kw _=>atName fn λy _=>aR l' λob es=>atName ob λx _=>aU kw (y == g&&je Γ y&&gh Γ i x&&es.length+1 == ps.length&&decide (l <= Γ.k)&&as.ck Γ es)
 cs:=.fm g ps f l::as.cs
 ok q o h:=by
  walk_at "O"
  simp only[an]at h
  obtain⟨⟨⟨⟨⟨h1,h2⟩,h3⟩,h4⟩,h5⟩,h6⟩:=h
  cases eq_of_beq h1
  obtain⟨D,q⟩:=List.forall_mem_cons.mp q
  obtain⟨pa,la,na⟩:=as.ok q o h6
  obtain⟨d,fd,d1,d2,d3,d4⟩:=iz.mono D (of_decide_eq_true h5)
  rw[<-eq_of_beq h4]at d1
  exact(Dd d1 o.r (cX o h2).1 d4 d3 d2 .nil o.e (qD (jd o h3) pa rfl) (cX o h2).2 rfl (jT na _)).imp λσ H Q h=>by
   obtain⟨a,hi,h⟩:=SN la h
   exact⟨_,hi,h⟩
noncomputable def rZ(i:Nat)(c:Str)(f:FM)(fa:AF):SF:=λρ=>(fa ρ).bind λp=>(cls p.1).bind λts=>(f (.ob true c []) ts).bind λz=>match z with
 |(.non,.ob true d fs)=>if d=c then .ok (.nx,p.2.set i (.ob false c fs))else .bad
 |_=>.bad
theorem afS{cl:Str->Addr}{E:XK}{X:Cx}{C:Addr}{D:Ends}(kc:iY (aq X.K) c C)(hn:∀ρ p,fa ρ=.ok p->p.1.length=n)(h:Ts (tx cl E X) (rZ i c f fa) D σ H):jN (Mv C (lW X.K cl (n+1) f) [] E (Ta (tx cl E X) fa)) (jM i) D σ H:=by
 obtain⟨R,ρ,G,F,e,h⟩:=h
 show Ta (tx cl E X) fa σ H λvs H1=>∀x dx,H1 x=none->H1 dx=none->dx≠x->lW X.K cl (n+1) f (.ref x::(vs++[])) (upd (upd H1 dx (.own x)) x (.ins C dx [])) (λv H2=>v=.non/\D.nx (σ.set i (some (.ref x))) H2) E
 cases ek:fa ρ with
 |bad=>rw[rZ,ek]at h; exact h.elim
 |ex c=>exact⟨R,ρ,G,F,e,by rw[rZ,ek]at h; rw[ek]; exact h⟩
 |ok p =>
 refine⟨R,ρ,G,F,e,?_⟩
 simp only[rZ,ek,Rs.bind]at h
 rw[ek]
 intro vs G1 H1 F1 e1 s1 v1 x dx hx hd ne
 obtain⟨ts,k1,h⟩:=h.okb (nF _)
 obtain⟨G2,e2,s2,_,r⟩:=e1.vis e s1 v1 k1
 rw[List.append_nil]
 have hd':upd H1 dx (.own x) x=none:=by rw[aH (Ne.symm ne)]; exact hx
 have up:Same H1 (upd (upd H1 dx (.own x)) x (.ins C dx [])):=(fC hd _).trans (fC hd' _)
 have gx:=e2.sub.free hx
 have gd:=e2.sub.free hd
 have nw:∀b,upd (upd H1 dx (.own x)) x (.ins C dx []) b=none->H1 b=none:=λb h=>by
  cases q:H1 b with
  |none=>rfl
  |some o=>rw[up b o q]at h; cases h
 have vJ:∀b∈[x,dx],H1 b=none/\G2 b=none:=List.forall_mem_cons.mpr ⟨⟨hx,gx⟩,List.forall_mem_cons.mpr ⟨⟨hd,gd⟩,λ_ z=>by cases z⟩⟩
 refine⟨G2,x,[x,dx],.ob true c [],vs,ts,rfl,by rw[List.length_cons,v1.length,hn ρ p ek],r,e2.sub.trans up,(e2.tb.new hd).new hd',e2.tg,List.mem_cons_self ..,λb hb=>(vJ b hb).2,⟨x,dx,C,[],[],rfl,rfl,by simp[Ne.symm ne],⟨λ_=>rfl,λ_=>rfl⟩,λb hb z=>?_,kc,bN,by rw[aH ne]; exact bN,.nil⟩,?_⟩
 .cases List.mem_singleton.mp hb
  exact ne z
 cases ef:f (.ob true c []) ts with
 |bad=>rw[ef]at h; exact h.elim
 |ex c=>rw[ef]at h; exact λH' q=>h H' (s2.back ⟨λb o h n t=>q.fr b o (up b o h) (λz=>by rw[(vJ b (gA.mp z)).1]at h; cases h) t,q.tb⟩)
 |ok z =>
  simp only[ef,Rs.bind]at h
  split at h
  case h_2=>exact h.elim
  split at h
  case isFalse=>exact h.elim
  rename_i d fs dc
  subst dc
  intro v G' H' fp' m
  have nt:∀{b},H1 b=none->¬Tb (tx cl E X).K b:=λh t=>by obtain⟨ps,q⟩:=e2.tb.bM t; rw[h]at q; cases q
  have nf:∀b∈fp',H1 b=none:=λb hb=>(m.st.nf b (gA.mpr hb)).elim (nw b) λz=>(vJ b (gA.mp z)).1
  have nG:∀b,G' b≠none->G2 b≠none\/H1 b=none:=λb h=>(m.st.nw b h).imp id λz=>z.elim (nw b) λz=>(vJ b (gA.mp z)).1
  have fr:∀b o,H1 b=some o->¬Tb (tx cl E X).K b->H' b=some o:=λb o h t=>m.st.fr b o (up b o h) (λz=>by rw[(vJ b (gA.mp z)).1]at h; cases h) t
  have dm:∀b,H' b=none->H1 b=none:=λb h=>nw b (m.st.dm b h)
  obtain⟨x1,zW,C1,xs1,zX,h1,rfl,nd,m1,_,kc1,r1⟩:=m.sl
  cases h1
  obtain⟨_,hv⟩:=m.vl
  have vr:v=.non:=by
   have d:=hv.dr
   cases d with
   |cl n r _=>cases r; rfl
  refine⟨vr,?_⟩
  have sl:cW (tx cl E X).K R G' H' (some (some (.ref x))) (x::zW::zX) (some (.ob false _ fs)):=⟨x,zW,C1,xs1,zX,rfl,rfl,nd,⟨λz=>(e2.rn hx z).elim,λz=>by cases z⟩,λb hb=>e2.rn (nf b (List.mem_cons_of_mem _ hb)),kc1,r1⟩
  have s3:∀F',(∀b,Fn F' b->b∈x::zW::zX\/Fn F1 b)->aB (tx cl E X).K G2 H1 F1 G' H' F':=λF' hF=>⟨m.st.gg,λb o h _ t=>fr b o h t,λb h=>(nG b h).imp id .inl,λb h=>(hF b h).imp (nf b) id,dm⟩
  by_cases li:i<p.2.length
  .refine h _ G' H' (eG F1 i (x::zW::zX)) (e2.one i _ (by rw[List.length_set,List.length_set,e2.len]) (λj n=>⟨gq n,gq n⟩) m.st.gg m.sub m.tb (λb h=>(nG b h).imp id λz=>⟨λj _ y=>e2.fs z ⟨j,y⟩,nt z,e2.rn z⟩) (λj n b hb o h=>fr b o h λt=>?_) (λb h z=>(e2.rg b h).2 (dm b z)) (λb hb=>⟨m.hid b hb,λj _ y=>e2.fs (nf b hb) ⟨j,y⟩⟩) (by rw[eY li,eY (e2.len▸li)]; exact sl)) (s2.trans (s3 _ λb z=>(jU z).imp id λ⟨j,_,z⟩=>⟨j,z⟩))
   obtain⟨_,q,mu⟩:=e2.fl ⟨j,hb⟩
   exact e2.tb.nm q mu t
  .obtain⟨e3,s4⟩:=e2.grow ⟨m.st.gg,fr,m.sub,λ_=>m.tb,nG⟩
   rw[nJ li]at h
   show D.nx (σ.set i (some (.ref x))) H'
   rw[nJ (e2.len▸li)]
   exact h σ G' H' F1 e3 (s2.trans s4)
noncomputable def sNw(i:Nat)(c:Str)(ps:List Str)(f:FM)(l:Nat)(as:VA gj):VS (rZ i c f gj) where
 ck Γ e:=jB e λaL v _=>aR aL λbA bG=>atName bA λx _=>aU bG (f9 v λfn es kw _=>atName fn λy _=>aU kw (uT Γ i x&&y == c&&je Γ y&&es.length+1 == ps.length&&decide (l+1 <= Γ.k) && !es.isEmpty&&as.ck Γ es))
 cs:=.mk c ps f l::as.cs
 ok q o h:=by
  walk_at "O"
  simp only[an]at h
  obtain⟨⟨⟨⟨⟨⟨h1,h2⟩,h3⟩,h4⟩,h5⟩,h6⟩,h7⟩:=h
  cases eq_of_beq h2
  obtain⟨w1,w2,w3⟩:=zB o h1
  obtain⟨⟨C,g,fd,kc,mg,M,fo,bd⟩,q⟩:=List.forall_mem_cons.mp q
  obtain⟨e,es,rfl⟩:=S8 h6
  obtain⟨pa,la,na⟩:=as.ok q o h7
  rw[<-eq_of_beq h4]at fo
  exact(Cm o.d w1 w2 (abI M fo (o.r.mono (of_decide_eq_true h5)) (cX o h3).1 mg bd .nil o.e pa (cX o h3).2 (iy (na _ (List.mem_cons_self ..))) (jT (λy m=>na y (List.mem_cons_of_mem _ m)) _)) rfl w3).imp λ_ _ _=>afS kc la
section
variable {K:PySem.W.Frag}{R:Addr->Prop}{ρ : En}{σ : St}{G H:Hp}{F:Fp}{k c:Str}{m:Nat}{U:Tr}{ts:List Tr}{fs:List (Str × aK)}{l:Bool}
theorem bx.at:∀{fs:List (Str × aK)} {xs:List (Str × V)} {bs:List Addr},bx K G H xs fs bs->bs.Nodup->fs.lookup k=some (.dp ts)->ts[m]?=some U->∃b ys v cs,xs.lookup k=some (.ref b)/\H b=some (.lst ys)/\ys.length=ts.length/\ys[m]?=some v/\DR K G H [v] [U] cs/\cs.Nodup/\(∀c∈cs,c∈bs)/\∀G' H' U',Same G G'->(∀b∈bs,b∉cs->∀o,H b=some o->H' b=some o)->DR K G' H' [v] [U'] cs->bx K G' H' xs (dH k (.dp (ts.set m U')) fs) bs
 | [],_,_,_,_,q,_=>by cases q
 |(g,x)::fs,xs,bs,h,nd,q,hm=>by
  obtain⟨w,ys,c,d,rfl,rfl,p,r⟩:=h.split
  obtain⟨n1,n2,n3⟩:=List.nodup_append.mp nd
  rw[List.lookup_cons]at q ⊢
  show ∃b ys1 v cs,_/\_/\_/\_/\_/\_/\_/\∀G' H' U',_->_->_->bx K G' H' ((g,w)::ys) (if g=k then(g,.dp (ts.set m U'))::fs else(g,x)::dH k (.dp (ts.set m U')) fs) (c++d)
  by_cases e:g=k
  .subst e
   simp only[beq_self_eq_true,Option.some.injEq]at q ⊢
   subst q
   obtain⟨b,zs,ds,rfl,rfl,hb,dq⟩:=p
   obtain⟨m1,m2⟩:=List.nodup_cons.mp n1
   obtain⟨v,cs,g1,g2,g3,g4,g5⟩:=dq.at m2 hm
   refine⟨b,zs,v,cs,rfl,hb,dq.length,g1,g2,g3,λc hc=>List.mem_append_left _ (List.mem_cons_of_mem _ (g4 c hc)),λG' H' U' s fr z=>?_⟩
   rw[if_pos trivial]
   have nc:∀c∈d,c∉cs:=λc hc z=>n3 c (List.mem_cons_of_mem _ (g4 c z)) c hc rfl
   exact .dp (fr b (List.mem_append_left _ (List.mem_cons_self ..)) (λz=>m1 (g4 b z)) _ hb) (g5 G' H' U' s (λc hc n=>fr c (List.mem_append_left _ (List.mem_cons_of_mem _ hc)) n) z) (r.mono s λc hc=>fr c (List.mem_append_right _ hc) (nc c hc))
  .rw[beq_false_of_ne (Ne.symm e)]at q ⊢
   obtain⟨b,zs,v,cs,h1,h2,h3,h4,h5,h6,h7,h8⟩:=bx.at r n2 q hm
   refine⟨b,zs,v,cs,h1,h2,h3,h4,h5,h6,λc hc=>List.mem_append_right _ (h7 c hc),λG' H' U' s fr z=>?_⟩
   rw[if_neg e]
   have nc:∀y∈c,y∉cs:=λy hc z=>n3 y hc y (h7 y z) rfl
   refine .cons ?_ (h8 G' H' U' s (λy hy=>fr y (List.mem_append_right _ hy)) z)
   cases x with
   |sh T=>exact⟨p.1,p.2.mono s⟩
   |dp us =>
    obtain⟨b',zs',ds',rfl,rfl,hb',dq'⟩:=p
    exact⟨b',zs',ds',rfl,rfl,fr b' (List.mem_append_left _ (List.mem_cons_self ..)) (nc b' (List.mem_cons_self ..)) _ hb',dq'.mono s λy hy=>fr y (List.mem_append_left _ (List.mem_cons_of_mem _ hy)) (nc y (List.mem_cons_of_mem _ hy))⟩
end
noncomputable def Tf(fs:List (Str × aK))(k:Str):Rs (List Tr):=match fs.lookup k with
 |some (.dp ts)=>.ok ts
 |_=>.bad
noncomputable def afT(i:Nat)(c k:Str)(fk fj:QF)(fe:EF):SF:=λρ=>(fe ρ).bind λp=>(ju p.1).bind λT=>(jk p.2 i c).bind λo=>(Tf o.2 k).bind λts=>(cU (fk p.2)).bind λq=>(jh ts q).bind λz=>match z.2 with
 |.lst us=>(cU (fj p.2)).bind λj=>(jh us j).bind λy=>if(aZ T&&aZ y.2)=true then .ok (.nx,p.2.set i (.ob o.1 c (dH k (.dp (ts.set z.1 (.lst (us.set y.1 T)))) o.2)))else .bad
 |_=>.bad
noncomputable abbrev zY(st:Stmt)(B R:List Str)(T:VM g):Bool:=rQ (eZ st) (psz st) st&&pQ (psz st) st&&T.ck (fG (dB T.cs) (eZ st) st B R []) (d8 st)
theorem Ih{x q:Str}{st:Stmt}{B R:List Str}{f:Addr}{fd:FuncData}{T:VM g}(kn:Kn c B R)(h:∀y∈tb,y.fQ c)(F:iV c.K x q st f fd)(h1:zY st B R T=true)(e:T.cs=nZ tb T.cs):dg c.P c.w c.K c.mg c.base (eO c.P c.w) (dB T.cs+1) f fd (psz st) (lW c.K c.cl (psz st).length (jG (eZ st).length g))/\Binds c.K fd (psz st) []:=by
 obtain⟨h1,h2⟩:=an.mp h1
 obtain⟨h1,h3⟩:=an.mp h1
 obtain⟨S,hn⟩:=zP h1
 exact⟨F.N6 S (λvs H Q E ⟨_,_,_,_,_,_,_,h,_⟩=>h) λcdv A outer s H vs Q E hr q=>⟨_,T.ok (zR h e) (⟨rfl,rfl,S.nd,rfl,hr,xV,kn.B,λx m=>⟨kn.R x m,xU⟩,kn.x,rfl,(λz=>by cases z),(λ_ z=>nomatch z)⟩:Ox c.cl (fG (dB T.cs) (eZ st) st B R []) E (fY (eO c.P c.w) c.P c.w c.K c.mg c.base (eZ st) _ (bD st) f cdv A outer s H E)) h2,afM hn q⟩,F.binds (RZ (S.pre▸S.nd.sublist (List.take_sublist ..)) h3)⟩
theorem Tg{st:Stmt}{B R:List Str}(T:VM g)(kn:Kn c B R)(h:∀y∈tb,y.fQ c)(a:At c.K c.mg x st)(h1:zY st B R T=true:=by kernel_rfl)(e:T.cs=nZ tb T.cs:=by kernel_rfl):∀y ∈ .fm x (psz st) (jG (eZ st).length g) (dB T.cs+1)::tb,y.fQ c:=by
 obtain⟨f,fd,F,m⟩:=a
 obtain⟨k1,k2⟩:=Ih kn h F h1 e
 exact List.forall_mem_cons.mpr ⟨⟨f,fd,k1,k2,F.kp,m⟩,h⟩
noncomputable def ClsAt(K:PySem.W.Frag)(mg:Str->Option Value)(n:Str)(C:Addr):Prop:=iY (aq K) n C/\Cls K C/\mg n=some (.ref C)
noncomputable def zZ(K:PySem.W.Frag)(C:Addr)(m q:Str)(st:Stmt):Prop:=∃f fd,iV K m q st f fd/\Meth K C m f
noncomputable def Ii(K:PySem.W.Frag)(C:Addr)(q:Str)(st:Stmt):Prop:=∃f fd,iV K "__init__" q st f fd/\Mk K C f
theorem afU{K:PySem.W.Frag}{mg:Str->Option Value}{h:Heap}{n:Str}{C:Addr}{o:Obj}(X:K.In h)(G:h.Ns mainGlobals mg)(a:PySem.W.nsIn K mainGlobals n=some (some (.ref C)))(l:K.lookup mainGlobals=some o)(n1:(o.cls == .type "list")=false) (pg:PySem.W.plainGet K C Str.empty=true) (hd:PySem.W.hasDictIn K C=true) (po:PySem.W.plainOver K C=true) (sa:PySem.W.findIn K (.ref C) "__setattr__" = some (some (.builtin "object.__setattr__"))):ClsAt K mg n C:=⟨(Pq l n1).trans a,⟨pg,hd,po,sa⟩,PySem.W.mg_of X G a⟩
theorem Tj{K:PySem.W.Frag}{C f:Addr}{m q:Str}{st:Stmt}{od an:Option Addr}{sl:Array (Option Value)}{oc kV dc pm cd ct:Value}(a:PySem.W.findIn K (.ref C) m=some (some (.ref f)))(i:PySem.W.isFn K (.ref f)=true)(l:K.lookup f=some ⟨oc,od,.func (PySem.W.fnOf m q (iw st) (d8 st) (bD st) .none kV dc pm an cd ct),sl⟩)(c:PySem.W.codeIn K cd q=true)(k:PySem.W.keepIn K (.ref f)=true):zZ K C m q st:=⟨f,_,xK (st:=st) l c k,a,i,k⟩
theorem afV{K:PySem.W.Frag}{C f:Addr}{q:Str}{st:Stmt}{od an:Option Addr}{sl:Array (Option Value)}{oc kV dc pm cd ct:Value}(a:PySem.W.findIn K (.ref C) "__init__" = some (some (.ref f))) (i:PySem.W.isFn K (.ref f)=true) (l:K.lookup f=some ⟨oc,od,.func (PySem.W.fnOf "__init__" q (iw st) (d8 st) (bD st) .none kV dc pm an cd ct),sl⟩) (c:PySem.W.codeIn K cd q=true) (k:PySem.W.keepIn K (.ref f)=true) (m:PySem.W.makesIn K C=true) (kc:PySem.W.keepIn K (.ref C)=true):Ii K C q st:=⟨f,_,xK (st:=st) l c k,m,a,i,kc⟩
theorem Tn{st:Stmt}{B R:List Str}{C:Addr}(T:VM g)(kn:Kn c B R)(h:∀y∈tb,y.fQ c)(z:ClsAt c.K c.mg n C)(a:zZ c.K C m q st)(h1:zY st B R T=true:=by kernel_rfl)(e:T.cs=nZ tb T.cs:=by kernel_rfl):∀y ∈ .mt n m (psz st) (jG (eZ st).length g) (dB T.cs+1)::tb,y.fQ c:=by
 obtain⟨f,fd,F,M⟩:=a
 obtain⟨k1,k2⟩:=Ih kn h F h1 e
 exact List.forall_mem_cons.mpr ⟨⟨C,f,fd,z.1,z.2.1,M,k1,k2⟩,h⟩
theorem afW{st:Stmt}{B R:List Str}{C:Addr}(T:VM g)(kn:Kn c B R)(h:∀y∈tb,y.fQ c)(z:ClsAt c.K c.mg n C)(a:Ii c.K C q st)(h1:zY st B R T=true:=by kernel_rfl)(e:T.cs=nZ tb T.cs:=by kernel_rfl):∀y ∈ .mk n (psz st) (jG (eZ st).length g) (dB T.cs+1)::tb,y.fQ c:=by
 obtain⟨f,fd,F,M⟩:=a
 obtain⟨k1,k2⟩:=Ih kn h F h1 e
 exact List.forall_mem_cons.mpr ⟨⟨C,f,fd,z.1,z.2.2,M,k1,k2⟩,h⟩
noncomputable def afX(i:Nat)(f:WF):SF:=λρ=>(f ρ).bind λp=>.ok (.nx,p.2.set i (.dt p.1))
noncomputable def Tp(ρ : En)(i:Nat):Rs Tr:=match ρ[i]? with
 |some (.dt T)=>.ok T
 |_=>.bad
noncomputable def afY(i:Nat)(p:List Nat)(T:Tr):SF:=λρ=>(Tp ρ i).bind λW=>match jJ W p with
 |some (.lst us)=>if(bR us&&aZ T&&decide (us.length<=100000))=true then .ok (.nx,ρ.set i (.dt (stP W p (.lst (us++[T])))))else .bad
 |_=>.bad
end L2
end
section
namespace L2
open PySem
noncomputable def WM(r:Rs (Tr × En))(Q:Tr->En->Prop):Prop:=∃T ρ,r=.ok (T,ρ)/\Q T ρ
noncomputable def cM(fl:Fl)(g:DM)(ρ : En):Rs (Tr × En):=match fl with
 |.nx=>g ρ
 |_=>.bad
noncomputable def Ca(T:Tr)(ρ : En):Rs (Tr × Sl):=match ρ with
 |.rf us::_=>.ok (T,.rf us)
 |.ob true c fs::_=>.ok (T,.ob true c fs)
 |_=>.bad
section
variable {ρ ρ1 ρ2:En}{fa:EF}{aa:AF}{f:WF}{g:DM}{s:SF}{c:BF}{F:FM}{T U Y:Tr}{ts us vs as:List Tr}{fs fs':List (Str × aK)}{ps:List Rv}{x:Rv}{b l:Bool}{i j k' n:Nat}{u v:Int}{k d m:Str}{Q:Fl->En->Prop}{P:Tr->En->Prop}{S S' s1 s2:Sl}{p:List Nat}{z z0:Sl × Sl}{y:Bool × List (Str × aK)}{fk fj:QF}{o:Tr × Sl}
theorem xFo(h : ρ[i]?=some (.ob l d fs))(e:gC fs k=.ok T):mU i d k ρ=.ok (.v T false,ρ):=by
 unfold mU
 rw[h]
 exact(if_pos rfl).trans (bk e rfl)
theorem xFv(h : ρ[i]?=some (.vo d fs))(e:gC fs k=.ok T):mU i d k ρ=.ok (.v T false,ρ):=by
 unfold mU
 rw[h]
 exact(if_pos rfl).trans (bk e rfl)
theorem su(h : ρ[i]?=some (.ob l d fs)):jk ρ i d=.ok (l,fs):=by
 unfold jk
 rw[h]
 exact if_pos rfl
theorem wFs(h:fa ρ=.ok (x,ρ1))(e:ju x=.ok T)(q : ρ1[i]?=some (.ob l d fs))(n:fs.length<999)(e':dH k (.sh T) fs=fs')(r : ρ1.set i (.ob l d fs') = ρ2)(t:Q .nx ρ2):W (S6 i d k fa ρ) Q:=by
 subst e' r
 exact⟨_,_,bk h (bk e (bk (su q) (if_pos n))),t⟩
theorem wFw(h:f ρ=.ok (.lst ts,ρ1))(q : ρ1[i]?=some (.ob l d fs))(n:fs.length<999)(e':dH k (.dp ts) fs=fs')(r : ρ1.set i (.ob l d fs') = ρ2)(t:Q .nx ρ2):W (S7 i d k f ρ) Q:=by
 subst e' r
 exact⟨_,_,bk h (bk (su q) (if_pos n)),t⟩
theorem wFa(q : ρ[i]?=some (.ob l d fs))(g:gC fs k=.ok (.int u))(h:fa ρ=.ok (x,ρ))(e:dr ρ x=.ok (.int v))(n:fs.length<999)(e':dH k (.sh (.int (u+v))) fs=fs')(r : ρ.set i (.ob l d fs') = ρ2)(t:Q .nx ρ2):W (afQ i d k fa ρ) Q:=by
 subst e' r
 exact⟨_,_,bk (su q) (bk g (bk h (bk e (bk (su q) (if_pos n))))),t⟩
theorem wSO{Z:Tr}(h:fa ρ=.ok (x,ρ1))(e:ju x=.ok T)(q : ρ1[i]?=some (.ob l d fs))(g:Tf fs k=.ok ts)(c1:fk ρ1=.ok U)(c2:jh ts U=.ok (n,.lst us))(c3:fj ρ1=.ok Y)(c4:jh us Y=.ok (k',Z))(nl:aZ T=true)(nm:aZ Z=true)(e':dH k (.dp (ts.set n (.lst (us.set k' T)))) fs=fs')(r : ρ1.set i (.ob l d fs') = ρ2)(t:Q .nx ρ2):L2.W (afT i d k fk fj fa ρ) Q:=by
 subst e' r
 refine⟨_,_,bk h (bk e (bk (su q) (bk g (bk (a:=U) (by rw[c1]; rfl) (bk c2 (bk (a:=Y) (by rw[c3]; rfl) (bk c4 (if_pos (by rw[nl,nm]; rfl))))))))),t⟩
theorem xCM(h0:kO ρ i=.ok z0)(h:aa ρ=.ok (ps,ρ1))(e:cls ps=.ok ts)(h1:kO ρ1 i=.ok (s1,S))(r:F S ts=.ok (T,S'))(q:back s1 S'=some s2)(w : ρ1.set i s2 = ρ2):n8 i F aa ρ=.ok (T,ρ2):=by
 subst w
 refine bk h0 (bk h (bk e (bk h1 (bk r ?_))))
 dsimp only
 rw[q]
theorem xMh(q : ρ[i]?=some (.ob l d fs))(n:(fs.lookup m).isNone=true)(h:n8 i F aa ρ=.ok (T,ρ1)):zV i d m F aa ρ=.ok (T,ρ1):=bk (su q) ((if_pos n).trans h)
theorem xEs(h:f ρ=.ok (T,ρ1)):vI f ρ=.ok (.v T false,ρ1):=bk h rfl
theorem wNw(h:aa ρ=.ok (ps,ρ1))(e:cls ps=.ok ts)(r:F (.ob true d []) ts=.ok (.non,.ob true d fs))(w : ρ1.set i (.ob false d fs) = ρ2)(t:Q .nx ρ2):L2.W (rZ i d F aa ρ) Q:=by
 subst w
 exact⟨_,_,bk h (bk e (bk r (if_pos rfl))),t⟩
theorem wOt(h:f ρ=.ok (T,ρ1))(w : ρ1.set i (.dt T) = ρ2)(t:Q .nx ρ2):L2.W (afX i f ρ) Q:=by
 subst w
 exact⟨_,_,bk h rfl,t⟩
theorem aad(q : ρ[i]?=some (.dt Y))(g:jJ Y p=some (.lst us))(n:bR us=true)(n':aZ T=true)(l:us.length<=100000)(w : ρ.set i (.dt (stP Y p (.lst (us++[T])))) = ρ2)(t:Q .nx ρ2):L2.W (afY i p T ρ) Q:=by
 subst w
 refine⟨_,_,bk (a:=Y) (by unfold Tp; rw[q]) ?_,t⟩
 rw[g]
 exact if_pos (by rw[n,n',decide_eq_true l]; rfl)
theorem wRf{b':Bool}{fk:EF}(h:fa ρ=.ok (.v T b,ρ))(c : ρ[i]?=some (.rf (U::us)))(q:fk ρ=.ok (.v (.int 0) b',ρ))(e : ρ.set i (.rf (T::us)) = ρ2)(t:Q .nx ρ2):L2.W (HJ i fk fa ρ) Q:=by
 have cd:con ρ i=.ok (U::us):=by unfold con; rw[c]
 have u:bH i (T::us) ρ = ρ2:=by unfold bH; rw[c]; exact e
 refine⟨.nx,ρ2,bk h (bk (a:=[T]) rfl (bk cd (bk q (bk (a:=.int 0) rfl (bk (a:=(0:Int)) rfl (bk cd ?_)))))),t⟩
 dsimp only
 rw[show fB (U::us).length 0=some 0 by unfold fB; rw[if_pos (by lia),if_pos (by simp)]; rfl]
 exact u▸rfl
theorem mSq(h:L2.W (s ρ) λfl ρ1=>WM (cM fl g ρ1) P):WM (SX s g ρ) P:=by
 obtain⟨fl,ρ1,e,T,ρ2,e',q⟩:=h
 exact⟨T,ρ2,bk e e',q⟩
theorem mSn(k:WM (g ρ) P):WM (cM .nx g ρ) P:=k
theorem mNo(k:P .non ρ):WM (SQ ρ) P:=⟨_,_,rfl,k⟩
theorem mIf(h:c ρ=.ok (b,ρ1))(k:WM (cB b f g ρ1) P):WM (hIf c f g ρ) P:=k.elim λT k=>k.elim λρ2 k=>⟨T,ρ2,bk h k.1,k.2⟩
theorem mT(h:b=true)(k:WM (f ρ) P):WM (cB b f g ρ) P:=by unfold cB; rw[if_pos h]; exact k
theorem mF(h:b=false)(k:WM (g ρ) P):WM (cB b f g ρ) P:=by unfold cB; rw[if_neg (by rw[h]; exact Bool.false_ne_true)]; exact k
theorem mRt(h:f ρ=.ok (T,ρ1))(k:P T ρ1):WM (f ρ) P:=⟨_,_,h,k⟩
theorem mFn(e:kW n S as = ρ)(h:WM (g ρ) λT ρ1=>Ca T ρ1=.ok o):jG n g S as=.ok o:=by
 subst e
 obtain⟨T,ρ1,h,k⟩:=h
 refine bk h ?_
 unfold Ca at k
 dsimp only
 split at k <;> cases k <;> rfl
end
end L2
end
section
namespace BH
open PySem L2
noncomputable abbrev Tv:=(bC (sN (sW (RQ 1) (tK (aP ji (aj 1) (vC (.int 0)))) (b1 (Qz 0 1 (ak (aj 1) (ak (j7 (aj 0) (aj 1)) ao)))))) (b1 (aG (R3 (ak (aj 0) ao)))))
noncomputable abbrev afZ:SF:=by exists Tv
noncomputable def Tz:FP:=aN 2 afZ
noncomputable abbrev Ij{f:AF}(a:VA f):=vF "common_divisor" ["one", "other"] Tz 1 a
noncomputable abbrev TF:=(bC (sI (tK (aP cY (aj 1) (vC (.int 0)))) (b1 (rE "NoBottom" (vC (.str "a fraction has no bottom of 0")))) b0) (bC (sA 2 (aE (Ij (ak (aj 0) (ak (aj 1) ao))))) (bC (sI (tK (aP mG (aj 1) (vC (.int 0)))) (b1 (sA 2 (aE (PB (aj 2))))) b0) (b1 (aG (jD (ak (mD (aj 0) (aj 2)) (ak (mD (aj 1) (aj 2)) ao))))))))
noncomputable abbrev af0:SF:=by exists TF
noncomputable def TJ:FP:=aN 3 af0
noncomputable abbrev z6{f:AF}(a:VA f):=vF "fraction_of" ["top", "bottom"] TJ 2 a
noncomputable abbrev TQ:=(b1 (aG (z6 (ak (fW (bU (aC (aj 0) (vC (.int 0))) (aC (aj 1) (vC (.int 1)))) (bU (aC (aj 1) (vC (.int 0))) (aC (aj 0) (vC (.int 1))))) (ak (bU (aC (aj 0) (vC (.int 1))) (aC (aj 1) (vC (.int 1)))) ao)))))
noncomputable abbrev af2:SF:=by exists TQ
noncomputable def TV:FP:=aN 2 af2
noncomputable abbrev af3{f:AF}(a:VA f):=vF "frac_sum" ["one", "other"] TV 3 a
noncomputable abbrev TY:=(b1 (aG (z6 (ak (pR (bU (aC (aj 0) (vC (.int 0))) (aC (aj 1) (vC (.int 1)))) (bU (aC (aj 1) (vC (.int 0))) (aC (aj 0) (vC (.int 1))))) (ak (bU (aC (aj 0) (vC (.int 1))) (aC (aj 1) (vC (.int 1)))) ao)))))
noncomputable abbrev af4:SF:=by exists TY
noncomputable def T3:FP:=aN 2 af4
noncomputable abbrev T4{f:AF}(a:VA f):=vF "frac_less" ["one", "other"] T3 3 a
noncomputable abbrev T5:=(b1 (aG (z6 (ak (bU (aC (aj 0) (vC (.int 0))) (aC (aj 1) (vC (.int 0)))) (ak (bU (aC (aj 0) (vC (.int 1))) (aC (aj 1) (vC (.int 1)))) ao)))))
noncomputable abbrev af5:SF:=by exists T5
noncomputable def T6:FP:=aN 2 af5
noncomputable abbrev T7{f:AF}(a:VA f):=vF "frac_times" ["one", "other"] T6 3 a
noncomputable abbrev T8:=(b1 (aG (z6 (ak (bU (aC (aj 0) (vC (.int 0))) (aC (aj 1) (vC (.int 1)))) (ak (bU (aC (aj 0) (vC (.int 1))) (aC (aj 1) (vC (.int 0)))) ao)))))
noncomputable abbrev af6:SF:=by exists T8
noncomputable def T9:FP:=aN 2 af6
noncomputable abbrev af7{f:AF}(a:VA f):=vF "frac_by" ["one", "other"] T9 3 a
noncomputable abbrev Ua:=(b1 (aG (vK (aP mG (bU (aC (aj 0) (vC (.int 0))) (aC (aj 1) (vC (.int 1)))) (bU (aC (aj 1) (vC (.int 0))) (aC (aj 0) (vC (.int 1))))))))
noncomputable abbrev af8:SF:=by exists Ua
noncomputable def Ub:FP:=aN 2 af8
noncomputable abbrev Uc{f:AF}(a:VA f):=vF "frac_below" ["one", "other"] Ub 1 a
noncomputable abbrev Ud:=(b1 (aG (vV .And (uA (afu (aj 0)) (u1 .And (aev (afv (aj 0))))))))
noncomputable abbrev af9:SF:=by exists Ud
noncomputable def Ue:FP:=aN 1 af9
noncomputable abbrev vL{f:AF}(a:VA f):=vF "is_whole" ["thing"] Ue 1 a
noncomputable abbrev Ug:=(bC (sI (tW .Or (wO (eV (eE (R5 (aj 0)))) (w1 .Or (tK (aP ji (dX (ak (aj 0) ao)) (vC (.int 2))))))) (b1 (aG (vC (.bl false)))) b0) (bC (Qx (aj 0) (jX 2 (eH (gV 1) (eH (gV 2) jW)))) (bC (sI (tW .Or (wO (eV (eE (vL (ak (aj 1) ao)))) (w1 .Or (eV (eE (vL (ak (aj 2) ao))))))) (b1 (aG (vC (.bl false)))) b0) (b1 (aG (vV .And (uA (vK (aP HD (aj 2) (vC (.int 1)))) (u1 .And (vK (aP cY (Ij (ak (aj 1) (ak (aj 2) ao))) (vC (.int 1))))))))))))
noncomputable abbrev aga:SF:=by exists Ug
noncomputable def Uh:FP:=aN 3 aga
noncomputable abbrev Ui{f:AF}(a:VA f):=vF "is_fraction" ["thing"] Uh 2 a
noncomputable abbrev Uj:=(b1 (aG (vV .And (uA (Ui (ak (aj 0) ao)) (u1 .And (vK (rz jF jF (vC (.int 0)) (aC (aj 0) (vC (.int 0))) (aC (aj 0) (vC (.int 1))))))))))
noncomputable abbrev agb:SF:=by exists Uj
noncomputable def Uk:FP:=aN 1 agb
noncomputable abbrev agc{f:AF}(a:VA f):=vF "is_worth" ["thing"] Uk 3 a
noncomputable abbrev Ul:=(bC (sI (tW .Or (wO (eV (eE (HF (aj 0)))) (w1 .Or (eV (tK (rz jF jF (vC (.int 1)) (dX (ak (aj 0) ao)) (aj 1))))))) (b1 (aG (vC (.bl false)))) b0) (b1 (aG (zT (ak (gO (cC [none] ["part"] (dW (aj 0)) (gV 0) (agc (ak (aj 0) ao)))) ao)))))
noncomputable abbrev agd:SF:=by exists Ul
noncomputable def Um:FP:=aN 2 agd
noncomputable abbrev agf{f:AF}(a:VA f):=vF "are_worths" ["thing", "most"] Um 4 a
noncomputable abbrev Uo:=(bC (sI (tW .Or (wO (eV (eE (HF (aj 0)))) (w1 .Or (eV (tK (rz jF jF (vC (.int 1)) (dX (ak (aj 0) ao)) (vG "MOST_LISTS" (.int 4)))))))) (b1 (aG (vC (.bl false)))) b0) (bC (sI (eV (eE (zT (ak (gO (cC [none] ["row"] (dW (aj 0)) (gV 0) (agf (ak (aj 0) (ak (vG "MOST_THINGS" (.int 12)) ao))))) ao)))) (b1 (aG (vC (.bl false)))) b0) (b1 (aG (zT (ak (gO (cC [none,some 0] ["row", "thing"] (dW (aj 0)) (gV 0) (vK (aP cY (dX (ak (aj 0) ao)) (dX (ak (aC (aj 1) (vC (.int 0))) ao)))))) ao))))))
noncomputable abbrev agg:SF:=by exists Uo
noncomputable def Uq:FP:=aN 1 agg
noncomputable abbrev agh{f:AF}(a:VA f):=vF "is_book" ["thing"] Uq 5 a
noncomputable abbrev Ur:=(bC (sA 1 (aE (vC (.int 1)))) (bC (sN (sF (dW (aj 0)) (jX 2 (eH (gV 2) (eH (gV 3) jW))) (b1 (sA 1 (aE (mD (bU (aj 1) (aj 3)) (Ij (ak (aj 1) (ak (aj 3) ao))))))))) (b1 (aG (aj 1)))))
noncomputable abbrev agi:SF:=by exists Ur
noncomputable def Ut:FP:=aN 4 agi
noncomputable abbrev agj{f:AF}(a:VA f):=vF "common_bottom" ["fractions"] Ut 2 a
noncomputable abbrev Uu:=(bC (sA 1 (aE (agj (ak (aj 0) ao)))) (b1 (aG (gO (cC [none,none,some 1] ["top", "own", "bottom"] (dW (aj 0)) (jX 2 (eH (gV 0) (eH (gV 1) jW))) (bU (aj 0) (mD (aj 2) (aj 1))))))))
noncomputable abbrev agk:SF:=by exists Uu
noncomputable def Uv:FP:=aN 2 agk
noncomputable abbrev agl{f:AF}(a:VA f):=vF "tops_on_one_bottom" ["fractions"] Uv 3 a
noncomputable abbrev Uw:=(bC (sA 1 (aE (agl (ak (aj 0) ao)))) (b1 (aG (vSK kyI "falling_places" "place" ["tops"] [some 1] (ak (dX (ak (aj 1) ao)) ao) (ae7 (lIx (Rx 1) (Rx 0)))))))
noncomputable abbrev agm:SF:=by exists Uw
noncomputable def vN:FP:=aN 2 agm
noncomputable abbrev sy{f:AF}(a:VA f):=vF "falling_places" ["fractions"] vN 4 a
noncomputable abbrev Ux:=(b1 (aG (vV .And (uA (vL (ak (aj 0) ao)) (u1 .And (vK (rz jF mG (vC (.int 0)) (aj 0) (aj 1))))))))
noncomputable abbrev agn:SF:=by exists Ux
noncomputable def Uy:FP:=aN 2 agn
noncomputable abbrev Uz{f:AF}(a:VA f):=vF "is_place" ["thing", "many"] Uy 2 a
noncomputable abbrev UG:=(b1 (sI (eV (eE (agh (ak (aj 0) ao)))) (b1 (rE "NoBook" (vC (.str "this is no book")))) b0))
noncomputable abbrev ago:SF:=by exists UG
noncomputable def UJ:FP:=aN 1 ago
noncomputable abbrev agp{f:AF}(a:VA f):=vF "need_book" ["book"] UJ 6 a
noncomputable abbrev UL:=(b1 (sI (eV (eE (Uz (ak (aj 1) (ak (dX (ak (aj 0) ao)) ao))))) (b1 (rE "NoList" (vC (.str "the book has no list of this number")))) b0))
noncomputable abbrev agq:SF:=by exists UL
noncomputable def UW:FP:=aN 2 agq
noncomputable abbrev U0{f:AF}(a:VA f):=vF "need_list" ["book", "place"] UW 3 a
noncomputable abbrev U3:=(bC (sI (tW .Or (wO (eV (eE (HF (aj 0)))) (w1 .Or (tK (aP ji (dX (ak (aj 0) ao)) (aj 1)))))) (b1 (aG (vC (.bl false)))) b0) (b1 (aG (zT (ak (gO (cC [none] ["part"] (dW (aj 0)) (gV 0) (vV .And (uA (Ui (ak (aj 0) ao)) (u1 .And (vK (aP HD (aC (aj 0) (vC (.int 0))) (vC (.int 0))))))))) ao)))))
noncomputable abbrev agr:SF:=by exists U3
noncomputable def U4:FP:=aN 2 agr
noncomputable abbrev ags{f:AF}(a:VA f):=vF "are_weights" ["thing", "many"] U4 3 a
noncomputable abbrev U5:=(bC (sI (eV (eE (R5 (aj 0)))) (b1 (aG (vC (.bl false)))) b0) (bC (sI (tK (aP ji (dX (ak (aj 0) ao)) (vC (.int 2)))) (b1 (aG (vK (aP rR (aj 0) (vG "BARE_RULES" (.tup [(.tup [(.str "least")]),(.tup [(.str "greatest")]),(.tup [(.str "product")])])))))) b0) (bC (Qx (aj 0) (jX 2 (eH (gV 2) (eH (gV 3) jW)))) (bC (sI (tK (aP cY (aj 2) (vC (.str "shares")))) (b1 (aG (ags (ak (aj 3) (ak (aj 1) ao))))) b0) (b1 (aG (vV .And (uA (vK (aP cY (aj 2) (vC (.str "middle")))) (uA (vL (ak (aj 3) ao)) (u1 .And (vK (rz jF jF (vC (.int 1)) (aj 3) (aj 1)))))))))))))
noncomputable abbrev agt:SF:=by exists U5
noncomputable def U6:FP:=aN 4 agt
noncomputable abbrev agu{f:AF}(a:VA f):=vF "is_rule" ["thing", "many"] U6 4 a
noncomputable abbrev U7:=(bC (sA 2 (aE (nH [.int 0,.int 1]))) (bC (sN (sF (iZ (ak (aj 0) (ak (aj 1) ao))) (jX 2 (eH (gV 3) (eH (gV 4) jW))) (b1 (sA 2 (aE (af3 (ak (aj 2) (ak (T7 (ak (aj 3) (ak (aj 4) ao))) ao)))))))) (b1 (aG (aj 2)))))
noncomputable abbrev agv:SF:=by exists U7
noncomputable def U8:FP:=aN 5 agv
noncomputable abbrev agw{f:AF}(a:VA f):=vF "shares_worth" ["weights", "worths"] U8 4 a
noncomputable abbrev U9:=(bC (sA 1 (aE (nH [.int 1,.int 1]))) (bC (sN (sF (dW (aj 0)) (gV 2) (b1 (sA 1 (aE (T7 (ak (aj 1) (ak (aj 2) ao)))))))) (b1 (aG (aj 1)))))
noncomputable abbrev agx:SF:=by exists U9
noncomputable def Va:FP:=aN 3 agx
noncomputable abbrev agy{f:AF}(a:VA f):=vF "product_worth" ["worths"] Va 4 a
noncomputable abbrev Vb:=(bC (sI (tK (aP cY (aC (aj 0) (vC (.int 0))) (vC (.str "greatest")))) (b1 (aG (vC (.int 1)))) b0) (bC (sI (tK (aP cY (aC (aj 0) (vC (.int 0))) (vC (.str "least")))) (b1 (aG (aj 1))) b0) (b1 (aG (aC (aj 0) (vC (.int 1)))))))
noncomputable abbrev agz:SF:=by exists Vb
noncomputable def Vc:FP:=aN 2 agz
noncomputable abbrev agA{f:AF}(a:VA f):=vF "place_of" ["rule", "many"] Vc 1 a
noncomputable abbrev Vd:=(bC (sI (tK (aP cY (aC (aj 0) (vC (.int 0))) (vC (.str "shares")))) (b1 (aG (agw (ak (aC (aj 0) (vC (.int 1))) (ak (aj 1) ao))))) b0) (bC (sI (tK (aP cY (aC (aj 0) (vC (.int 0))) (vC (.str "product")))) (b1 (aG (agy (ak (aj 1) ao)))) b0) (b1 (aG (aC (aj 1) (aC (sy (ak (aj 1) ao)) (pR (agA (ak (aj 0) (ak (dX (ak (aj 1) ao)) ao))) (vC (.int 1)))))))))
noncomputable abbrev agB:SF:=by exists Vd
noncomputable def sE:FP:=aN 2 agB
noncomputable abbrev Ve{f:AF}(a:VA f):=vF "worth_by" ["rule", "worths"] sE 5 a
noncomputable abbrev Vf:=(bC (jf (agp (ak (aj 0) ao))) (b1 (sI (eV (eE (agu (ak (aj 1) (ak (dX (ak (aj 0) ao)) ao))))) (b1 (rE "NoRule" (vC (.str "this is no rule for the book's lists")))) b0)))
noncomputable abbrev agC:SF:=by exists Vf
noncomputable def Vg:FP:=aN 2 agC
noncomputable abbrev agD{f:AF}(a:VA f):=vF "need_book_and_rule" ["book", "rule"] Vg 7 a
noncomputable abbrev Vh:=(b1 (aG (gO (cC [none,some 1] ["row", "thing"] (dW (aj 0)) (gV 0) (aC (aj 0) (aj 1))))))
noncomputable abbrev agE:SF:=by exists Vh
noncomputable def Vi:FP:=aN 2 agE
noncomputable abbrev Vj{f:AF}(a:VA f):=vF "worths_of" ["book", "thing"] Vi 1 a
noncomputable abbrev Vk:=(b1 (aG (gO (cC [none,some 1,some 0] ["thing", "rule", "book"] (j4 (ak (dX (ak (aC (aj 0) (vC (.int 0))) ao)) ao)) (gV 0) (Ve (ak (aj 1) (ak (Vj (ak (aj 2) (ak (aj 0) ao))) ao)))))))
noncomputable abbrev agF:SF:=by exists Vk
noncomputable def Ik:FP:=aN 2 agF
noncomputable abbrev Vl{f:AF}(a:VA f):=vF "worths_by" ["book", "rule"] Ik 6 a
noncomputable abbrev Vm:=(b1 (aG (vV .And (uA (vL (ak (aj 0) ao)) (u1 .And (vK (rz jF jF (vC (.int 0)) (aj 0) (aj 1))))))))
noncomputable abbrev agG:SF:=by exists Vm
noncomputable def Vo:FP:=aN 2 agG
noncomputable abbrev agH{f:AF}(a:VA f):=vF "is_count" ["thing", "many"] Vo 2 a
noncomputable abbrev Vp:=(b1 (sI (eV (eE (agH (ak (aj 1) (ak (dX (ak (aC (aj 0) (vC (.int 0))) ao)) ao))))) (b1 (rE "NoCount" (vC (.str "this is no count of the book's things")))) b0))
noncomputable abbrev agI:SF:=by exists Vp
noncomputable def Vq:FP:=aN 2 agI
noncomputable abbrev agJ{f:AF}(a:VA f):=vF "need_count" ["book", "count"] Vq 3 a
noncomputable abbrev Vr:=(bC (jf (agD (ak (aj 0) (ak (aj 1) ao)))) (b1 (jf (agJ (ak (aj 0) (ak (aj 2) ao))))))
noncomputable abbrev agK:SF:=by exists Vr
noncomputable def Vs:FP:=aN 3 agK
noncomputable abbrev Il{f:AF}(a:VA f):=vF "need_book_rule_and_count" ["book", "rule", "count"] Vs 8 a
noncomputable abbrev Vt:=(bC (jf (Il (ak (aj 0) (ak (aj 1) (ak (aj 2) ao))))) (bC (sA 3 (aE (Vl (ak (aj 0) (ak (aj 1) ao))))) (b1 (aG (gO (cC [none,some 3] ["thing", "worths"] (dW (vSl (sy (ak (aj 3) ao)) oN (oS (aj 2)))) (gV 0) (jD (ak (aj 0) (ak (aC (aj 1) (aj 0)) ao)))))))))
noncomputable abbrev agL:SF:=by exists Vt
noncomputable def Vu:FP:=aN 4 agL
noncomputable abbrev Vv{f:AF}(a:VA f):=vF "best_few" ["book", "rule", "count"] Vu 9 a
noncomputable abbrev Vx:=(b1 (aG (R4 (ak (gO (cC [none,none] ["thing", "worth"] (dW (Vv (ak (aj 0) (ak (aj 1) (ak (aj 2) ao))))) (jX 2 (eH (gV 0) (eH (gV 1) jW))) (aj 0))) ao))))
noncomputable abbrev agM:SF:=by exists Vx
noncomputable def vO:FP:=aN 3 agM
noncomputable abbrev Vy{f:AF}(a:VA f):=vF "best_things" ["book", "rule", "count"] vO 10 a
noncomputable abbrev Vz:=(b1 (sI (eV (eE (Uz (ak (aj 1) (ak (dX (ak (aC (aj 0) (vC (.int 0))) ao)) ao))))) (b1 (rE "NoThing" (vC (.str "the book has no thing of this number")))) b0))
noncomputable abbrev agN:SF:=by exists Vz
noncomputable def VF:FP:=aN 2 agN
noncomputable abbrev VH{f:AF}(a:VA f):=vF "need_thing" ["book", "thing"] VF 3 a
noncomputable abbrev VJ:=(bC (sO 5 (aE (Vj (ak (aj 0) (ak (aj 3) ao))))) (bC (sS 5 (aj 2) (aj 4)) (b1 (aG (Ve (ak (aj 1) (ak (aj 5) ao)))))))
noncomputable abbrev agO:SF:=by exists VJ
noncomputable def vP:FP:=aN 6 agO
noncomputable abbrev VP{f:AF}(a:VA f):=vF "worth_with" ["book", "rule", "place", "thing", "worth"] vP 6 a
noncomputable abbrev VR:=(bC (sI (tW .Or (wO (tK (aP cY (aC (aj 0) (vC (.int 0))) (vC (.str "shares")))) (w1 .Or (tK (aP cY (aC (aj 0) (vC (.int 0))) (vC (.str "product"))))))) (b1 (aG (af7 (ak (T4 (ak (aj 3) (ak (aj 1) ao))) (ak (T4 (ak (aj 2) (ak (aj 1) ao))) ao))))) b0) (b1 (aG (aj 3))))
noncomputable abbrev agP:SF:=by exists VR
noncomputable def z7:FP:=aN 4 agP
noncomputable abbrev V0{f:AF}(a:VA f):=vF "worth_for" ["rule", "least", "most", "goal"] z7 4 a
noncomputable abbrev V1:=(bC (sA 5 (aE (Vl (ak (aj 0) (ak (aj 1) ao))))) (bC (sA 6 (Q8 [none,some 2,some 4,some 5] ["other", "things", "thing", "worths"] (j4 (ak (dX (ak (aj 5) ao)) ao)) (gV 0) (tK (aP ji (vK (aP rR (aj 0) (aj 1))) (vK (aP rR (aj 2) (aj 1))))) (aC (aj 3) (aj 0)))) (bC (sI (eV (eE (aj 6))) (b1 (aG (jD (ak (vG "NOTHING" (.tup [(.int 0),(.int 1)])) (ak (vG "FULL" (.tup [(.int 1),(.int 1)])) ao))))) b0) (bC (sA 7 (aE (sy (ak (aj 6) ao)))) (bC (sA 8 (aE (VP (ak (aj 0) (ak (aj 1) (ak (aj 3) (ak (aj 4) (ak (vG "NOTHING" (.tup [(.int 0),(.int 1)])) ao)))))))) (bC (sA 9 (aE (VP (ak (aj 0) (ak (aj 1) (ak (aj 3) (ak (aj 4) (ak (vG "FULL" (.tup [(.int 1),(.int 1)])) ao)))))))) (bC (sI (tK (aP rR (aj 4) (aj 2))) (bC (sA 10 (aE (aC (aj 6) (aC (aj 7) (vC (.int 0)))))) (b1 (aG (jD (ak (Fz (eE (Uc (ak (aj 8) (ak (aj 10) ao)))) (V0 (ak (aj 1) (ak (aj 8) (ak (aj 9) (ak (aj 10) ao))))) (vG "NOTHING" (.tup [(.int 0),(.int 1)]))) (ak (vG "FULL" (.tup [(.int 1),(.int 1)])) ao)))))) b0) (bC (sA 10 (aE (aC (aj 6) (aC (aj 7) (PB (vC (.int 1))))))) (b1 (aG (jD (ak (vG "NOTHING" (.tup [(.int 0),(.int 1)])) (ak (Fz (eE (Uc (ak (aj 10) (ak (aj 9) ao)))) (V0 (ak (aj 1) (ak (aj 8) (ak (aj 9) (ak (aj 10) ao))))) (vG "FULL" (.tup [(.int 1),(.int 1)]))) ao)))))))))))))
noncomputable abbrev agQ:SF:=by exists V1
noncomputable def vQ:FP:=aN 11 agQ
noncomputable abbrev V2{f:AF}(a:VA f):=vF "room_by" ["book", "rule", "things", "place", "thing"] vQ 7 a
noncomputable abbrev V3:=(bC (jf (Il (ak (aj 0) (ak (aj 1) (ak (aj 2) ao))))) (bC (jf (U0 (ak (aj 0) (ak (aj 3) ao)))) (bC (jf (VH (ak (aj 0) (ak (aj 4) ao)))) (b1 (aG (V2 (ak (aj 0) (ak (aj 1) (ak (Vy (ak (aj 0) (ak (aj 1) (ak (aj 2) ao)))) (ak (aj 3) (ak (aj 4) ao)))))))))))
noncomputable abbrev agR:SF:=by exists V3
noncomputable def Im:FP:=aN 5 agR
noncomputable abbrev Io{f:AF}(a:VA f):=vF "few_room" ["book", "rule", "count", "place", "thing"] Im 11 a
noncomputable abbrev V4:=(b1 (aG (Fz (tK (aP cY (aC (aj 0) (vC (.int 0))) (vC (.str "shares")))) (jD (ak (vC (.str "shares")) (ak (zU (ak (aC (aj 0) (vC (.int 1))) ao)) ao))) (aj 0))))
noncomputable abbrev agS:SF:=by exists V4
noncomputable def V5:FP:=aN 1 agS
noncomputable abbrev agT{f:AF}(a:VA f):=vF "copied_rule" ["rule"] V5 1 a
noncomputable abbrev V6:=(dR (wCo [none] ["row"] (dW (aj 0)) (gV 0) (zU (ak (aj 0) ao))))
noncomputable abbrev agU:DF:=afC V6
noncomputable def Ip:FP:=pU 1 agU
noncomputable abbrev agV{f:AF}(a:VA f):=vFd "copied_rows" ["rows"] Ip 1 a
noncomputable def fT(x:Int × Int):Tr:=.tup [.int x.1,.int x.2]
noncomputable def aJ(l:List (Int × Int)):Tr:=.lst (l.map fT)
noncomputable def aQ(ls:List (List (Int × Int))):Tr:=.lst (ls.map aJ)
noncomputable def Wo(x:Int × Int):Prop:=0<=x.1/\x.1<=x.2/\1<=x.2/\x.2<=1000000000000/\Int.gcd x.1 x.2=1
noncomputable instance (x:Int × Int):Decidable (Wo x):=by unfold Wo; infer_instance
noncomputable def Shp(c:Nat)(ls:List (List (Int × Int))):Prop:=∀l∈ls,l.length=c/\∀x∈l,Wo x
noncomputable def Bk(c:Nat)(ls:List (List (Int × Int))):Prop:=1<=ls.length/\ls.length<=4/\1<=c/\c<=12/\Shp c ls
theorem V7{k:Int}{M:Nat}(h:k.natAbs<2 ^ M)(hM:M<=8900):k.natAbs.log2<9000:=by
 by_cases z:k.natAbs=0
 .rw[z]; decide
 .have:=(Nat.log2_lt (n:=k.natAbs) (k:=M) z).mpr h
  lia
theorem V8(h:k.natAbs<2 ^ M)(hM:M<=8900):fit k=true:=by
 have:=V7 h hM
 unfold fit
 rw[decide_eq_true_eq]
 lia
theorem jo(h1:i.natAbs<2 ^ M)(hM:M<=8900)(h2:j.natAbs<2 ^ N)(hN:N<=8900):cV i j=true:=by
 unfold cV
 rw[V8 h1 hM,V8 h2 hN]
 rfl
theorem z8(h0:j≠0)(h:j.natAbs<2 ^ M)(hM:M<=8900):iI i j=true:=by
 unfold iI
 rw[Bool.and_eq_true,decide_eq_true_eq,decide_eq_true_eq]
 exact⟨h0,V7 h hM⟩
theorem gP(M:Nat):((2 ^ M:Nat):Int)=2 ^ M:=by push_cast; rfl
theorem sG{xs:List Tr}{i:Nat}(h:xs[i]?=some T):aX (.lst xs) (.int i)=.ok (T,false):=by
 obtain⟨hi,e⟩:=List.getElem?_eq_some_iff.mp h
 show(match dZ xs i with
  |some t=>Rs.ok (t,false)
  |none=>.bad)=_
 have:dZ xs (i:Int)=some T:=by
  unfold dZ fB
  simp[hi,e]
 rw[this]
theorem pX{xs:List Tr}{i:Nat}(h:xs[i]?=some T):aX (.lst xs) (.int i)=.ok (T,false):=sG h
theorem mV{l:List (Int × Int)}{i:Nat}(h:i<l.length):aX (aJ l) (.int i)=.ok (fT (l.getD i (0,1)),false):=sG (by simp[h])
theorem jK(rows:List (List (Int × Int))):fX (aQ rows)=.ok (.int (rows.length:Nat),false):=by
 show Rs.ok (Tr.int ((rows.map aJ).length:Int),false)=_
 rw[List.length_map]
theorem gZ(l:List (Int × Int)):fX (aJ l)=.ok (.int (l.length:Nat),false):=by
 show Rs.ok (Tr.int ((l.map fT).length:Int),false)=_
 rw[List.length_map]
theorem V9{α : Type}{p : α -> Bool}:∀xs:List α,uw (xs.map λx=>.bl (p x))=some (xs.map p)
 | []=>rfl
 |x::xs=>by simp[uw,V9 xs]
theorem all_true{α : Type}(xs:List α):qU (.lst (xs.map λ_=>Tr.bl true))=.ok (.bl true,false):=by
 have e:=V9 (p:=λ_=>true) xs
 unfold qU
 simp -dsimp[e]
theorem z9(a b:Int):Tz [.int a,.int b]=.ok (.int (Int.gcd a b:Nat),false):=by
 walk_at "d"
 refine Sd [] (λs:Int × Int=>[(0,.sh (.int s.1)),(1,.sh (.int s.2))]) (λs=>Int.gcd s.1 s.2=Int.gcd a b) (λs=>s.2.natAbs) (a,b) rfl rfl (by show b.natAbs<b.natAbs+1; lia) ?_
 rintro v ⟨x,y⟩ h
 dsimp only[pt,List.map,List.set]at *
 by_cases z:y=0
 .subst z
  have e:ur (.int x)=.ok (.int (Int.gcd a b:Nat),false):=by
   rw[<-h]
   exact congrArg (λi=>Rs.ok (Tr.int i,false)) (ac1 x)
  apply vp
  walk_at "r"
 .have e:dw (.int y) (.int 0)=.ok (.bl true,false):=by rw[Kh,decide_eq_false z]; rfl
  apply vp
  walk_at "r"
  exact⟨(y,x.fmod y),by rw[<-h]; exact ac0 ..,acZ x y z,λ_=>.un,rfl⟩
theorem vR{i:Int}:Ue [.int i]=.ok (.bl true,false):=rfl
theorem Wa{x:Int × Int}(h1:1<=x.2)(h2:Int.gcd x.1 x.2=1):Uh [fT x]=.ok (.bl true,false):=by
 have e:=z9 x.1 x.2
 rw[h2]at e
 have w1:=vR (i:=x.1)
 have w2:=vR (i:=x.2)
 walk_at "d"
theorem Wb(k n:Int):Uy [.int k,.int n]=.ok (.bl (decide (0<=k)&&decide (k<n)),false):=by
 have w:=vR (i:=k)
 by_cases h:0<=k
 .rw[decide_eq_true h]
  walk_at "d"
 .rw[decide_eq_false h]
  walk_at "d"
theorem Wc{rows:List (List (Int × Int))}{k:Nat}(h:k<rows.length):UW [aQ rows,.int k]=.ok (.non,false):=by
 have l:=jK rows
 have e:=Wb k rows.length
 rw[decide_eq_true (by lia),decide_eq_true (by lia)]at e
 walk_at "d"
noncomputable def Frs(N:Nat)(l:List (Int × Int)):Prop:=∀x∈l,1<=x.2/\x.2<2 ^ N/\x.1.natAbs<2 ^ N
theorem agW{B q:Int}(hB:1<=B)(hq:1<=q):let B':=(B*q).fdiv ((Int.gcd B q:Nat):Int); 1<=B'/\B∣B'/\q∣B'/\B'<=B*q/\∀D,B∣D->q∣D->B'∣D:=by
 have g0:0<Int.gcd B q:=Int.gcd_pos_of_ne_zero_left _ (by lia)
 have p:=Int.mul_pos (a:=B) (b:=q) (by lia) (by lia)
 have m:=Int.gcd_mul_lcm B q
 rw[<-Int.natAbs_mul]at m
 have e:B*q=((Int.gcd B q:Nat):Int)*(Int.lcm B q:Nat):=by rw[<-Int.natCast_mul,m]; lia
 have f:(B*q).fdiv ((Int.gcd B q:Nat):Int)=(Int.lcm B q:Nat):=by
  rw[Int.fdiv_eq_ediv_of_nonneg _ (by lia),e]
  exact Int.mul_ediv_cancel_left _ (by lia)
 dsimp only
 rw[f]
 have:=Int.lcm_pos (m:=B) (n:=q) (by lia) (by lia)
 refine⟨by lia,Int.dvd_lcm_left ..,Int.dvd_lcm_right ..,?_,λD=>Int.coe_lcm_dvd⟩
 rw[<-f,Int.fdiv_eq_ediv_of_nonneg _ (by lia)]
 exact Int.ediv_le_self _ (by lia)
theorem agX{N:Nat}(l:List (Int × Int))(h:Frs N l)(hl:1+N*l.length<=8900)(hN:N<=8900):∃z,Ut [.lst (l.map fT)]=.ok z/\∃B:Int,(1<=B/\B<2 ^ (1+N*l.length)/\(∀x∈l,x.2∣B)/\∀D,(∀x∈l,x.2∣D)->B∣D)/\z=(.int B,false):=by
 walk_at "e"
 refine mH [2,3] (λB:Int=>[(1,.sh (.int B))]) (λk B=>1<=B/\B<2 ^ (1+N*k)/\(∀x∈l.take k,x.2∣B)/\∀D,(∀x∈l.take k,x.2∣D)->B∣D) 1 ⟨Int.le_refl _,by rw[Nat.mul_zero]; decide,λx hx=>(by cases hx),λD _=>Int.one_dvd _⟩ rfl (λk x v B hx hB=>?_) λv B hB=>?_
 .obtain⟨h1,h2,h3,h4⟩:=hB
  have hk:=(List.getElem?_eq_some_iff.mp hx).1
  obtain⟨a1,a2,_⟩:=h x (List.mem_of_getElem? hx)
  obtain⟨b1,b2,b3,b4,b5⟩:=agW h1 a1
  have tk:l.take (k+1)=l.take k++[x]:=by rw[List.take_add_one,hx]; rfl
  have hle:1+N*k<=8900:=by
   have:=Nat.mul_le_mul_left N (Nat.le_of_lt hk)
   lia
  have n1:=gP (1+N*k)
  have n2:=gP N
  have g:=z9 B x.2
  have c1:cV B x.2=true:=jo (M:=1+N*k) (N:=N) (by lia) hle (by lia) hN
  have c2:∀i,iI i ((Int.gcd B x.2:Nat):Int)=true:=λi=>by
   have:=Int.gcd_pos_of_ne_zero_left (a:=B) x.2 (by lia)
   have:=Int.gcd_le_right (a:=B) (b:=x.2) (by lia)
   exact z8 (M:=N) (by lia) (by lia) hN
  walk_at "p"
  refine⟨(B*x.2).fdiv ((Int.gcd B x.2:Nat):Int),⟨b1,?_,λy hy=>?_,λD d=>?_⟩,exV rfl⟩
  .have:=Int.mul_lt_mul_of_pos_right h2 (show 0<(2:Int) ^ N by lia)
   have:=Int.mul_le_mul_of_nonneg_left (show x.2<=2 ^ N by lia) (show 0<=B by lia)
   rw[Nat.mul_succ,<-Nat.add_assoc,Int.pow_add]
   lia
  .rw[tk]at hy
   rcases List.mem_append.mp hy with hy|hy
   .exact Int.dvd_trans (h3 y hy) b2
   .rw[List.mem_singleton.mp hy]
    exact b3
  .rw[tk]at d
   exact b5 D (h4 D λy hy=>d y (List.mem_append_left _ hy)) (d x (List.mem_append_right _ (List.mem_singleton.mpr rfl)))
 .rw[List.take_length]at hB
  walk_at "r"
  exact⟨_,rfl,B,hB,rfl⟩
theorem agY{N:Nat}(l:List (Int × Int))(h:Frs N l)(hl:1+N*l.length<=8900)(hN:N<=8900)(hl2:l.length<=1000):∃B:Int,Uv [.lst (l.map fT)]=.ok (.lst (l.map λx=>.int (x.1*B.fdiv x.2)),true)/\1<=B/\∀x∈l,x.2∣B:=by
 obtain⟨_,e,B,⟨h1,h2,h3,_⟩,rfl⟩:=agX l h hl hN
 have q:∀x∈l,iI B x.2=true/\cV x.1 (B.fdiv x.2)=true:=λx hx=>by
  obtain⟨a1,a2,a3⟩:=h x hx
  have d0:=Int.ediv_nonneg (a:=B) (b:=x.2) (by lia) (by lia)
  have d1:=Int.ediv_le_self (a:=B) x.2 (by lia)
  have nB:=gP (1+N*l.length)
  have nN:=gP N
  rw[<-Int.fdiv_eq_ediv_of_nonneg B (b:=x.2) (by lia)]at d0 d1
  exact⟨z8 (M:=N) (by lia) (by lia) hN,jo (M:=N) (N:=1+N*l.length) a3 hN (by lia) hl⟩
 refine⟨B,?_,h1,h3⟩
 walk_at "d"
 exact(q x hx).1
 walk_at "r"
 exact(q x hx).2
 walk_at "r"
noncomputable def pY(l:List (Int × Int))(i j:Nat):Prop:=(l.getD j (0,1)).1*(l.getD i (0,1)).2<(l.getD i (0,1)).1*(l.getD j (0,1)).2\/((l.getD j (0,1)).1*(l.getD i (0,1)).2=(l.getD i (0,1)).1*(l.getD j (0,1)).2/\i<j)
noncomputable def Fall(l:List (Int × Int))(ys:List Nat):Prop:=ys.Perm (List.range l.length)/\ys.Pairwise (pY l)
theorem keysOk{kt:Tr->Option (Int × Int)}{fb:RF}{ts:List (Option Tr)}{κ : Nat->Int × Int}:∀(is:List Nat),(∀i∈is,∃t,fb (some (.int (i:Int))::ts)=.ok t/\kt t=some (κ i))->rP kt fb ts is=.ok (is.map κ)
 | [],_=>rfl
 |i::is,h=>by
  obtain⟨t,e,k⟩:=h i (List.mem_cons_self ..)
  have r:=keysOk is λj hj=>h j (List.mem_cons_of_mem _ hj)
  unfold rP
  rw[e,r]
  dsimp only[Rs.bind]
  rw[k]
  rfl
theorem xSK{kt:Tr->Option (Int × Int)}{src:List (Option Nat)}{fa:AF}{fb:RF}{n:Nat}{b:Bool}(κ : Nat->Int × Int)(h:fa ρ=.ok ([.v (.int (n:Int)) b],ρ1))(hn:n<64)(hk:∀i,i<n->∃t,fb (some (.int (i:Int))::zO src ρ1)=.ok t/\kt t=some (κ i)):∃ys:List Nat,Hv kt src fa fb ρ=.ok (.v (.lst (ys.map λi:Nat=>Tr.int i)) true,ρ1)/\ys.Perm (List.range n)/\ys.Pairwise (iR κ):=by
 have e:=keysOk (List.range n) λi hi=>hk i (List.mem_range.mp hi)
 have hs:=Rn n λi=>((List.range n).map κ).getD i (0,0)
 refine⟨_,bk h ((if_pos ⟨Int.natCast_nonneg n,by lia⟩).trans (by rw[Int.toNat_natCast,e]; rfl)),hs.1,hs.2.imp_of_mem λ{i j} hi hj hb=>?_⟩
 have hi:=List.mem_range.mp (hs.1.mem_iff.mp hi)
 have hj:=List.mem_range.mp (hs.1.mem_iff.mp hj)
 have g:∀i,i<n->((List.range n).map κ).getD i (0,0) = κ i:=λi hi=>by simp[hi]
 unfold iR at hb ⊢
 dsimp only at hb
 rw[g i hi,g j hj]at hb
 exact hb
theorem top_lt{B p q r s:Int}(hB:1<=B)(hq:1<=q)(hs:1<=s)(dq:q∣B)(ds:s∣B):(p*B.fdiv q<r*B.fdiv s↔p*s<r*q)/\(p*B.fdiv q=r*B.fdiv s↔p*s=r*q):=by
 obtain⟨a,ha⟩:=dq
 obtain⟨b,hb⟩:=ds
 have e1:B.fdiv q=a:=by rw[ha]; exact Int.mul_fdiv_cancel_left _ (by lia)
 have e2:B.fdiv s=b:=by rw[hb]; exact Int.mul_fdiv_cancel_left _ (by lia)
 rw[e1,e2]
 have x1:(p*a)*(q*s)=(p*s)*B:=by rw[ha]; ac_rfl
 have x2:(r*b)*(q*s)=(r*q)*B:=by rw[hb]; ac_rfl
 have qs:0<q*s:=Int.mul_pos (by lia) (by lia)
 refine⟨?_,?_⟩
 .rw[<-Int.mul_lt_mul_right qs,x1,x2,Int.mul_lt_mul_right (show 0<B by lia)]
 .rw[<-Int.mul_eq_mul_right_iff (c:=q*s) (by lia),x1,x2,Int.mul_eq_mul_right_iff (show B≠0 by lia)]
theorem Ir{N:Nat}(l:List (Int × Int))(h:Frs N l)(hl:1+N*l.length<=8900)(hN:N<=8900)(h64:l.length<64):∃ys,vN [aJ l]=.ok (.lst (ys.map λi:Nat=>Tr.int i),true)/\Fall l ys:=by
 obtain⟨B,e,h1,h3⟩:=agY l h hl hN (by lia)
 have g:∀i,i<l.length->l.getD i (0,1)∈l:=λi hi=>by simp[hi]
 obtain⟨ys,e2,p,q⟩:=xSK (ρ:=[.sh (.lst (l.map fT)),.sh (.lst (l.map λx=>.int (x.1*B.fdiv x.2)))]) (kt:=Hw) (src:=[some 1]) (fa:=fU (pH (g1 fX) (fU (bY 1) fL)) fL) (fb:=Rz qw (Ry aX (zN 1) (zN 0))) (λi=>(-((l.getD i (0,1)).1*B.fdiv (l.getD i (0,1)).2),0)) (wk (xC1 rfl rfl Km) rfl) h64 λi hi=>by
  have ix:aX (.lst (l.map λx=>.int (x.1*B.fdiv x.2))) (.int (i:Int))=.ok (.int ((l.getD i (0,1)).1*B.fdiv (l.getD i (0,1)).2),false):=sG (by simp[hi])
  exact⟨.int (-((l.getD i (0,1)).1*B.fdiv (l.getD i (0,1)).2)),bk (bk rfl (bk rfl (bk ix rfl))) rfl,rfl⟩
 refine⟨ys,?_,p,q.imp_of_mem λ{i j} hi hj hb=>?_⟩
 .unfold aJ
  walk_at "d"
 .have m1:=g i (List.mem_range.mp (p.mem_iff.mp hi))
  have m2:=g j (List.mem_range.mp (p.mem_iff.mp hj))
  have t:=top_lt (p:=(l.getD j (0,1)).1) (r:=(l.getD i (0,1)).1) h1 (h _ m2).1 (h _ m1).1 (h3 _ m2) (h3 _ m1)
  unfold iR at hb
  dsimp only at hb
  unfold pY
  rw[<-t.1,<-t.2]
  simp only[Int.neg_lt_neg_iff,Int.neg_inj]at hb
  rcases hb with(h|⟨_,h⟩)|⟨⟨h1,_⟩,h3⟩
  .exact .inl h
  .exact absurd h (Int.lt_irrefl 0)
  .exact .inr ⟨h1.symm,h3⟩
theorem Wo.frs(h:∀x∈l,Wo x):Frs 40 l:=λx hx=>by
 obtain⟨h1,h2,h3,h4,h5⟩:=h x hx
 exact⟨h3,by lia,by lia⟩
theorem agZ{α : Type}(xs:List α)(k:Nat):L2.cut xs none (some (k:Int))=xs.take k:=by
 unfold L2.cut HT.aO
 by_cases h:(k:Int)<0
 .lia
 .simp only[h,if_false,Int.toNat_natCast,Nat.sub_zero,List.drop_zero]
  by_cases z:k<=xs.length
  .rw[Nat.min_eq_left z]
  .rw[Nat.min_eq_right (by lia),List.take_of_length_le (by lia),List.take_of_length_le (by lia)]
noncomputable def nT(ys:List Nat):Tr:=.lst (ys.map λi:Nat=>Tr.int i)
theorem Wd(i:Int):dep (.int i)=0:=rfl
theorem Wf(ts:List Tr):dep (.tup ts)=deps ts+1:=by simp only[dep]
theorem Wg(ts:List Tr):dep (.lst ts)=deps ts+1:=by simp only[dep]
theorem Iu:deps []=0:=rfl
theorem sH(t:Tr)(ts:List Tr):deps (t::ts)=max (dep t) (deps ts):=by simp only[deps]
theorem vU(x:Int × Int):dep (fT x)=1:=by unfold fT; rw[Wf,sH,sH,Wd,Wd,Iu]; rfl
theorem Iv(h:dep T<=40):dw T T=.ok (.bl false,false):=by
 unfold dw
 rw[if_pos ⟨h,h⟩,Dw]
 rfl
theorem Wh:∀ys:List Nat,rN (ys.map λi:Nat=>Tr.int i)=some (ys.map λi:Nat=>(i:Int))
 | []=>rfl
 |n::r=>by simp[rN,Wh r]
noncomputable def bw(x y:Int × Int):Bool:=decide (x.1*y.2<y.1*x.2)
noncomputable def at2(l:List (Int × Int))(i:Nat):Int × Int:=l.getD i (0,1)
theorem j8(n k:Int)(h:0<k):0<=n.fmod k/\n.fmod k<k:=⟨Int.fmod_nonneg_of_pos n h,Int.fmod_lt_of_pos n h⟩
noncomputable def red(a b:Int):Int × Int:=(a / ((Int.gcd a b:Nat):Int),b / ((Int.gcd a b:Nat):Int))
noncomputable def Fq(M:Nat)(x:Int × Int):Prop:=0<=x.1/\x.1<2 ^ M/\1<=x.2/\x.2<2 ^ M/\Int.gcd x.1 x.2=1
theorem sJ(ha:0<=a)(ha2:a<2 ^ M)(hb:1<=b)(hb2:b<2 ^ M):Fq M (red a b):=by
 obtain⟨g1,g2,g3,g4,g5,g6,g7⟩:=qN (a:=a) (b:=b) (by lia)
 have d1:=Int.ediv_le_self (a:=a) ((Int.gcd a b:Nat):Int) ha
 have d2:=Int.ediv_le_self (a:=b) ((Int.gcd a b:Nat):Int) (by lia)
 exact⟨g5 ha,by unfold red; dsimp only; lia,g3,by unfold red; dsimp only; lia,g4⟩
theorem j9(hb:1<=b):a*(red a b).2=(red a b).1*b/\1<=(red a b).2/\Int.gcd (red a b).1 (red a b).2=1:=by
 obtain⟨g1,g2,g3,g4,g5,g6,g7⟩:=qN (a:=a) (b:=b) (by lia)
 refine⟨?_,g3,g4⟩
 show a*(b / ((Int.gcd a b:Nat):Int))=(a / ((Int.gcd a b:Nat):Int))*b
 generalize ((Int.gcd a b:Nat):Int)=g at *
 generalize b / g=q,a / g=p at *
 rw[g6,g7]
 ac_rfl
noncomputable def le2(x y:Int × Int):Prop:=x.1*y.2<=y.1*x.2
theorem dY:bw x y=false↔le2 y x:=by
 unfold bw le2
 rw[decide_eq_false_iff_not,Int.not_lt]
theorem kh(x:Int × Int):le2 x x:=Int.le_refl _
theorem gQ(hx:1<=x.2)(hy:1<=y.2)(hz:1<=z.2)(h1:le2 x y)(h2:le2 y z):le2 x z:=by
 unfold le2 at *
 have a1:=Int.mul_le_mul_of_nonneg_right h1 (show 0<=z.2 by lia)
 have a2:=Int.mul_le_mul_of_nonneg_right h2 (show 0<=x.2 by lia)
 have e1:x.1*y.2*z.2=(x.1*z.2)*y.2:=by ac_rfl
 have e2:y.1*x.2*z.2=y.1*z.2*x.2:=by ac_rfl
 have e3:z.1*y.2*x.2=(z.1*x.2)*y.2:=by ac_rfl
 rw[e1,e2]at a1
 rw[e3]at a2
 exact Int.le_of_mul_le_mul_right (Int.le_trans a1 a2) (by lia)
theorem Wi(hx:1<=x.2)(hy:1<=y.2)(gx:Int.gcd x.1 x.2=1)(gy:Int.gcd y.1 y.2=1)(h1:le2 x y)(h2:le2 y x):x=y:=by
 unfold le2 at *
 have:=ac2 hx hy gx gy (Int.le_antisymm h1 h2)
 exact Prod.ext this.1 this.2
theorem Iw(hb:1<=b)(hd:1<=d)(h:a*d<=c*b):le2 (red a b) (red c d):=by
 obtain⟨e1,p1,_⟩:=j9 (a:=a) hb
 obtain⟨e2,p2,_⟩:=j9 (a:=c) hd
 generalize red c d=y,red a b=x at *
 unfold le2
 have a1:=Int.mul_le_mul_of_nonneg_right h (Int.mul_nonneg (show 0<=x.2 by lia) (show 0<=y.2 by lia))
 have e3:a*d*(x.2*y.2)=(a*x.2)*(d*y.2):=by ac_rfl
 have e4:c*b*(x.2*y.2)=(c*y.2)*(b*x.2):=by ac_rfl
 rw[e3,e4,e1,e2]at a1
 have e5:x.1*b*(d*y.2)=(x.1*y.2)*(b*d):=by ac_rfl
 have e6:y.1*d*(b*x.2)=(y.1*x.2)*(b*d):=by ac_rfl
 rw[e5,e6]at a1
 exact Int.le_of_mul_le_mul_right a1 (Int.mul_pos (by lia) (by lia))
noncomputable def sumF(x y:Int × Int):Int × Int:=red (x.1*y.2+y.1*x.2) (x.2*y.2)
noncomputable def bK(x y:Int × Int):Int × Int:=red (x.1*y.1) (x.2*y.2)
theorem gR{a b:Int}{M N:Nat}(ha:0<=a)(ha2:a<2 ^ M)(hb:0<=b)(hb2:b<2 ^ N):a*b<2 ^ (M+N):=by
 have p1:(0:Int)<2 ^ N:=Int.pow_pos (by lia)
 have q1:a*b<=a*2 ^ N:=Int.mul_le_mul_of_nonneg_left (by lia) ha
 have q2:a*2 ^ N<2 ^ M*2 ^ N:=Int.mul_lt_mul_of_pos_right ha2 p1
 rw[Int.pow_add]
 lia
theorem sU{x y:Int × Int}{M N:Nat}(hx:Fq M x)(hy:Fq N y):Fq (M+N) (bK x y) :=
 sJ (Int.mul_nonneg hx.1 hy.1) (gR hx.1 hx.2.1 hy.1 hy.2.1) (by have:=Int.mul_pos (a:=x.2) (b:=y.2) (by have:=hx.2.2.1; lia) (by have:=hy.2.2.1; lia); lia) (gR (by have:=hx.2.2.1; lia) hx.2.2.2.1 (by have:=hy.2.2.1; lia) hy.2.2.2.1)
theorem Aa{x y:Int × Int}{M N:Nat}(hx:Fq M x)(hy:Fq N y):Fq (M+N+1) (sumF x y):=by
 obtain⟨x1,x2,x3,x4,_⟩:=hx
 obtain⟨y1,y2,y3,y4,_⟩:=hy
 have m1:=gR x1 x2 (by lia) y4
 have m2:=gR y1 y2 (by lia) x4
 have m3:=gR (by lia) x4 (by lia) y4
 rw[Nat.add_comm N M]at m2
 have p:=Int.mul_pos (a:=x.2) (b:=y.2) (by lia) (by lia)
 have n1:=Int.mul_nonneg x1 (show 0<=y.2 by lia)
 have n2:=Int.mul_nonneg y1 (show 0<=x.2 by lia)
 have e:(2:Int) ^ (M+N+1)=2 ^ (M+N)*2:=Int.pow_succ ..
 exact sJ (by lia) (by rw[e]; lia) (by lia) (by rw[e]; lia)
theorem ag0(hw:0<=w.1)(hw2:1<=w.2)(hx:1<=x.2)(hy:1<=y.2)(h:le2 x y):le2 (bK w x) (bK w y):=by
 have p1:=Int.mul_pos (a:=w.2) (b:=x.2) (by lia) (by lia)
 have p2:=Int.mul_pos (a:=w.2) (b:=y.2) (by lia) (by lia)
 refine Iw (by lia) (by lia) ?_
 unfold le2 at h
 have a1:=Int.mul_le_mul_of_nonneg_left h (Int.mul_nonneg hw (show 0<=w.2 by lia))
 have e1:w.1*x.1*(w.2*y.2)=w.1*w.2*(x.1*y.2):=by ac_rfl
 have e2:w.1*y.1*(w.2*x.2)=w.1*w.2*(y.1*x.2):=by ac_rfl
 rw[e1,e2]
 exact a1
theorem Wj(hw:0<=w.1)(hw2:1<=w.2)(hv:0<=v.1)(hv2:1<=v.2)(hx0:0<=x.1)(hy0:0<=y.1)(hx:1<=x.2)(hy:1<=y.2)(h:le2 w v)(h':le2 x y):le2 (bK w x) (bK v y):=by
 have p1:=Int.mul_pos (a:=w.2) (b:=x.2) (by lia) (by lia)
 have p2:=Int.mul_pos (a:=v.2) (b:=y.2) (by lia) (by lia)
 refine Iw (by lia) (by lia) ?_
 unfold le2 at h h'
 have e1:w.1*x.1*(v.2*y.2)=(w.1*v.2)*(x.1*y.2):=by ac_rfl
 have e2:v.1*y.1*(w.2*x.2)=(v.1*w.2)*(y.1*x.2):=by ac_rfl
 rw[e1,e2]
 exact Int.mul_le_mul h h' (Int.mul_nonneg hx0 (by lia)) (Int.mul_nonneg hv (by lia))
theorem Wk(hw2:1<=w.2)(hv2:1<=v.2)(hx:1<=x.2)(hy:1<=y.2)(h:le2 w v)(h':le2 x y):le2 (sumF w x) (sumF v y):=by
 have p1:=Int.mul_pos (a:=w.2) (b:=x.2) (by lia) (by lia)
 have p2:=Int.mul_pos (a:=v.2) (b:=y.2) (by lia) (by lia)
 refine Iw (by lia) (by lia) ?_
 unfold le2 at h h'
 have a1:=Int.mul_le_mul_of_nonneg_right h (Int.mul_nonneg (show 0<=x.2 by lia) (show 0<=y.2 by lia))
 have a2:=Int.mul_le_mul_of_nonneg_right h' (Int.mul_nonneg (show 0<=w.2 by lia) (show 0<=v.2 by lia))
 have e1:(w.1*x.2+x.1*w.2)*(v.2*y.2)=w.1*v.2*(x.2*y.2)+x.1*y.2*(w.2*v.2):=by rw[Int.add_mul]; ac_rfl
 have e2:(v.1*y.2+y.1*v.2)*(w.2*x.2)=v.1*w.2*(x.2*y.2)+y.1*x.2*(w.2*v.2):=by rw[Int.add_mul]; ac_rfl
 rw[e1,e2]
 lia
theorem mulC{x y:Int × Int}{M N:Nat}(hx:Fq M x)(hy:Fq N y)(hM:M+N<=8900):cV x.1 y.1=true/\cV x.1 y.2=true/\cV y.1 x.2=true/\cV x.2 y.2=true:=by
 obtain⟨x1,x2,x3,x4,_⟩:=hx
 obtain⟨y1,y2,y3,y4,_⟩:=hy
 have nM:=gP M
 have nN:=gP N
 exact⟨jo (M:=M) (N:=N) (by lia) (by lia) (by lia) (by lia),jo (M:=M) (N:=N) (by lia) (by lia) (by lia) (by lia),jo (M:=N) (N:=M) (by lia) (by lia) (by lia) (by lia),jo (M:=M) (N:=N) (by lia) (by lia) (by lia) (by lia)⟩
theorem Ab(hb:1<=b)(hb2:b<2 ^ M)(hM:M<=8900):TJ [.int a,.int b]=.ok (fT (red a b),false):=by
 have g:=z9 a b
 have np:=gP M
 obtain⟨g1,g2,_⟩:=qN (a:=a) (b:=b) (by lia)
 have c1:∀n,iI n ((Int.gcd a b:Nat):Int)=true:=λn=>z8 (M:=M) (by lia) (by lia) hM
 walk_at "d"
 unfold fT red
 rw[Int.fdiv_eq_ediv_of_nonneg _ (by lia),Int.fdiv_eq_ediv_of_nonneg _ (by lia)]
 rfl
theorem Wl{x y:Int × Int}{M N:Nat}(hx:Fq M x)(hy:Fq N y)(hM:M+N<=8900):T6 [fT x,fT y]=.ok (fT (bK x y),false):=by
 obtain⟨c1,_,_,c2⟩:=mulC hx hy hM
 have p:=Int.mul_pos (a:=x.2) (b:=y.2) (by have:=hx.2.2.1; lia) (by have:=hy.2.2.1; lia)
 have e:=Ab (a:=x.1*y.1) (b:=x.2*y.2) (M:=M+N) (by lia) (gR (by have:=hx.2.2.1; lia) hx.2.2.2.1 (by have:=hy.2.2.1; lia) hy.2.2.2.1) hM
 walk_at "d"
theorem ag1{x y:Int × Int}{M N:Nat}(hx:Fq M x)(hy:Fq N y)(hM:M+N<=8900):TV [fT x,fT y]=.ok (fT (sumF x y),false):=by
 obtain⟨_,c1,c2,c3⟩:=mulC hx hy hM
 have p:=Int.mul_pos (a:=x.2) (b:=y.2) (by have:=hx.2.2.1; lia) (by have:=hy.2.2.1; lia)
 have e:=Ab (a:=x.1*y.2+y.1*x.2) (b:=x.2*y.2) (M:=M+N) (by lia) (gR (by have:=hx.2.2.1; lia) hx.2.2.2.1 (by have:=hy.2.2.1; lia) hy.2.2.2.1) hM
 walk_at "d"
noncomputable def dD(ps:List ((Int × Int) × (Int × Int)))(t:Int × Int):Int × Int:=ps.foldl (λt p=>sumF t (bK p.1 p.2)) t
noncomputable def dF(xs:List (Int × Int))(t:Int × Int):Int × Int:=xs.foldl bK t
theorem Ac{N:Nat}:∀(ps:List ((Int × Int) × (Int × Int))) (t:Int × Int) (M:Nat),Fq M t->(∀p∈ps,Fq 45 p.1/\Fq N p.2)->Fq (M+(46+N)*ps.length) (dD ps t)
 | [],t,M,h,_=>h
 |p::ps,t,M,h,hp=>by
  have h1:=sU (hp p (by simp)).1 (hp p (by simp)).2
  have h2:=Aa h h1
  have:=Ac ps _ _ h2 λq hq=>hp q (by simp[hq])
  rw[show M+(46+N)*(p::ps).length=M+(45+N)+1+(46+N)*ps.length by rw[List.length_cons,Nat.mul_succ]; lia]
  exact this
theorem Ad{N:Nat}:∀(ps:List (Int × Int)) (t:Int × Int) (M:Nat),Fq M t->(∀p∈ps,Fq N p)->Fq (M+N*ps.length) (dF ps t)
 | [],t,M,h,_=>h
 |p::ps,t,M,h,hp=>by
  have h2:=sU h (hp p (by simp))
  have:=Ad ps _ _ h2 λq hq=>hp q (by simp[hq])
  rw[show M+N*(p::ps).length=M+N+N*ps.length by rw[List.length_cons,Nat.mul_succ]; lia]
  exact this
theorem Wo.fq(h:Wo x):Fq 45 x:=by
 obtain⟨h1,h2,h3,h4,h5⟩:=h
 exact⟨h1,by lia,h3,by lia,h5⟩
theorem Wm(ws xs:List (Int × Int)):rG (ws.map fT) (xs.map fT)=(ws.zip xs).map λp=>Tr.tup [fT p.1,fT p.2]:=by
 unfold rG
 rw[List.zip_map,List.map_map]
 rfl
theorem sV:Fq 1 (0,1):=by unfold Fq; decide
theorem sX:Fq 1 (1,1):=by unfold Fq; decide
theorem Iz{N:Nat}{ws xs:List (Int × Int)}(hw:∀w∈ws,Fq 45 w)(hx:∀x∈xs,Fq N x):∀p∈ws.zip xs,Fq 45 p.1/\Fq N p.2:=λp hp=>⟨hw _ (List.of_mem_zip hp).1,hx _ (List.of_mem_zip hp).2⟩
theorem ag2{N:Nat}{ws xs:List (Int × Int)}(hw:∀w∈ws,Fq 45 w)(hx:∀x∈xs,Fq N x)(hl:xs.length<=12)(hN:(46+N)*xs.length<=8800):U8 [aJ ws,aJ xs]=.ok (fT (dD (ws.zip xs) (0,1)),false):=by
 have hz:(ws.zip xs).length<=12:=by rw[List.length_zip]; lia
 have hq:=Iz hw hx
 walk_at "d"
 rw[Wm]
 refine mH [3,4] (λs:Int × Int=>[(2,.sh (fT s))]) (λk s=>s=dD ((ws.zip xs).take k) (0,1)) (0,1) rfl rfl (λk p v s hp hs=>?_) λv s hs=>?_
 .subst hs
  have hk:=(List.getElem?_eq_some_iff.mp hp).1
  obtain⟨p1,p2⟩:=hq p (List.mem_of_getElem? hp)
  have f:=Ac ((ws.zip xs).take k) (0,1) 1 sV λq m=>hq q (List.mem_of_mem_take m)
  rw[List.length_take]at f
  have l2:=List.length_zip (l₁ := ws) (l₂ := xs)
  have m2:(46+N)*k+(46+N)<=(46+N)*xs.length:=by rw[<-Nat.mul_succ]; exact Nat.mul_le_mul_left _ (by lia)
  rw[Nat.min_eq_left (by lia)]at f
  have e1:=Wl p1 p2 (by lia)
  have e2:=ag1 f (sU p1 p2) (by lia)
  walk_at "p"
  exact⟨_,by rw[List.take_add_one,hp]; unfold dD; rw[List.foldl_append]; rfl,exV rfl⟩
 .rw[List.take_length]at hs
  subst hs
  walk_at "p"
theorem ag3{N:Nat}(hx:∀x∈xs,Fq N x)(hl:xs.length<=12)(hN:(46+N)*xs.length<=8800):Va [aJ xs]=.ok (fT (dF xs (1,1)),false):=by
 unfold aJ
 walk_at "d"
 refine mH [2] (λs:Int × Int=>[(1,.sh (fT s))]) (λk s=>s=dF (xs.take k) (1,1)) (1,1) rfl rfl (λk p v s hp hs=>?_) λv s hs=>?_
 .subst hs
  have hk:=(List.getElem?_eq_some_iff.mp hp).1
  have f:=Ad (xs.take k) (1,1) 1 sX λq m=>hx q (List.mem_of_mem_take m)
  rw[List.length_take]at f
  have m2:N*k+N<=N*xs.length:=by rw[<-Nat.mul_succ]; exact Nat.mul_le_mul_left _ (by lia)
  rw[Nat.min_eq_left (by lia)]at f
  rw[Nat.add_mul]at hN
  have e:=Wl f (hx p (List.mem_of_getElem? hp)) (by lia)
  walk_at "p"
  exact⟨_,by rw[List.take_add_one,hp]; unfold dF; rw[List.foldl_append]; rfl,exV rfl⟩
 .rw[List.take_length]at hs
  subst hs
  walk_at "p"
noncomputable def cu(xs zs:List (Int × Int)):Prop:=zs.Perm xs/\zs.Pairwise λa b=>le2 b a
noncomputable def LT(xs:List (Int × Int)):Prop:=∀x∈xs,1<=x.2/\Int.gcd x.1 x.2=1
theorem Wn:∀{l m:List (Int × Int)},LT l->l.Perm m->l.Pairwise (λa b=>le2 b a)->m.Pairwise (λa b=>le2 b a)->l=m
 | [],m,_,p,_,_=>by rw[List.nil_perm.mp p]
 |a::l,[],_,p,_,_=>by simpa using p.length_eq
 |a::l,b::m,hl,p,h1,h2=>by
  have h1':=List.pairwise_cons.mp h1
  have h2':=List.pairwise_cons.mp h2
  have e:a=b:=by
   rcases List.mem_cons.mp (p.mem_iff.mp (List.mem_cons_self ..))with z|z
   .exact z
   .rcases List.mem_cons.mp (p.mem_iff.mpr (List.mem_cons_self (a:=b)))with y|y
    .exact y.symm
    .have a1:=h1'.1 b y
     have a2:=h2'.1 a z
     have la:=hl a (by simp)
     have lb:=hl b (by simp[y])
     exact Wi la.1 lb.1 la.2 lb.2 a2 a1
  subst e
  rw[Wn (λx hx=>hl x (by simp[hx])) p.cons_inv h1'.2 h2'.2]
theorem cu.uniq(h:LT xs)(a:cu xs l)(b:cu xs m):l=m:=Wn (λx hx=>h x (a.1.mem_iff.mp hx)) (a.1.trans b.1.symm) a.2 b.2
theorem ag4(xs:List (Int × Int)):(List.range xs.length).map (λi=>xs.getD i (0,1))=xs:=by
 apply List.ext_getElem
 .simp
 .intro i h1 h2
  simp[List.getD_eq_getElem?_getD,h2]
theorem Fall.dsc(h:Fall xs ys):cu xs (ys.map λi=>xs.getD i (0,1)):=by
 refine⟨?_,?_⟩
 .have:=h.1.map λi=>xs.getD i (0,1)
  rw[ag4]at this
  exact this
 .rw[List.pairwise_map]
  refine h.2.imp λ{i j} hb=>?_
  unfold pY at hb
  unfold le2
  lia
theorem Wq:∀(xs:List (Int × Int)) (i:Nat) (v:Int × Int),(∀x,xs[i]?=some x->p x=true->p v=true)->xs.countP p<=(xs.set i v).countP p
 | [],i,v,_=>by simp
 |x::xs,0,v,h=>by
  have:=h x (by simp)
  simp only[List.set_cons_zero,List.countP_cons]
  cases e:p x with
  |false=>simp
  |true=>rw[this e]; simp
 |x::xs,i+1,v,h=>by
  have:=Wq xs i v λy hy=>h y (by simpa using hy)
  simp only[List.set_cons_succ,List.countP_cons]
  lia
theorem cu.mono{xs zs zs':List (Int × Int)}{i:Nat}{v:Int × Int}(hx:LT xs)(hv:1<=v.2)(hi:∀x,xs[i]?=some x->le2 x v)(a:cu xs zs)(b:cu (xs.set i v) zs'){k:Nat}{z z':Int × Int}(hz:zs[k]?=some z)(hz':zs'[k]?=some z'):le2 z z':=by
 refine Classical.byContradiction λhn=>?_
 have hx':∀x∈xs.set i v,1<=x.2:=λx m=>by
  rcases List.mem_or_eq_of_mem_set m with m|rfl
  .exact(hx x m).1
  .exact hv
 have pz:1<=z.2:=(hx z (a.1.mem_iff.mp (List.mem_of_getElem? hz))).1
 have pz':1<=z'.2:=hx' z' (b.1.mem_iff.mp (List.mem_of_getElem? hz'))
 have hlt:bw z' z=true:=by
  cases e:bw z' z with
  |true=>rfl
  |false=>exact absurd (dY.mp e) hn
 obtain⟨hk,ek⟩:=List.getElem?_eq_some_iff.mp hz
 obtain⟨hk',ek'⟩:=List.getElem?_eq_some_iff.mp hz'
 have pw:=List.pairwise_iff_getElem.mp a.2
 have pw':=List.pairwise_iff_getElem.mp b.2
 have up:∀x:Int × Int,1<=x.2->le2 z x->bw z' x=true:=λx px h=>by
  cases e:bw z' x with
  |true=>rfl
  |false=>exact absurd (gQ pz px pz' h (dY.mp e)) hn
 have c1:k+1<=zs.countP (bw z'):=by
  rw[<-List.take_append_drop (k+1) zs,List.countP_append]
  have:(zs.take (k+1)).countP (bw z')=(zs.take (k+1)).length:=by
   rw[List.countP_eq_length]
   intro x m
   obtain⟨j,hj,rfl⟩:=List.getElem_of_mem m
   rw[List.getElem_take]
   have hj':j<k+1:=by rw[List.length_take]at hj; lia
   have jl:j<zs.length:=by lia
   refine up _ (hx _ (a.1.mem_iff.mp (List.getElem_mem jl))).1 ?_
   by_cases q:j=k
   .subst q; rw[ek]; exact kh _
   .have:=pw j k jl hk (by lia)
    rw[ek]at this
    exact this
  rw[this,List.length_take]
  lia
 have c2:zs'.countP (bw z')<=k:=by
  rw[<-List.take_append_drop k zs',List.countP_append]
  have:(zs'.drop k).countP (bw z')=0:=by
   rw[List.countP_eq_zero]
   intro x m hp
   obtain⟨j,hj,rfl⟩:=List.getElem_of_mem m
   rw[List.getElem_drop]at hp
   have jl:k+j<zs'.length:=by rw[List.length_drop]at hj; lia
   have:le2 zs'[k+j] z':=by
    by_cases q:j=0
    .subst q
     have:zs'[k+0]=z':=ek'
     rw[this]; exact kh _
    .have:=pw' k (k+j) hk' jl (by lia)
     rw[ek']at this
     exact this
   rw[dY.mpr this]at hp
   cases hp
  rw[this]
  have:=List.countP_le_length (p:=bw z') (l:=zs'.take k)
  rw[List.length_take]at this
  lia
 rw[a.1.countP_eq]at c1
 rw[b.1.countP_eq]at c2
 have:=Wq (p:=bw z') xs i v λx hxi hp=>by
  cases e:bw z' v with
  |true=>rfl
  |false =>
   have px:=(hx x (List.mem_of_getElem? hxi)).1
   have:=gQ px hv pz' (hi x hxi) (dY.mp e)
   rw[dY.mpr this]at hp
   cases hp
 lia
theorem IK:∀(ws xs:List (Int × Int)) (i:Nat) (v t t':Int × Int),(∀w∈ws,Fq 45 w)->(∀x∈xs,1<=x.2)->1<=v.2->(∀x,xs[i]?=some x->le2 x v)->1<=t.2->1<=t'.2->le2 t t'->le2 (dD (ws.zip xs) t) (dD (ws.zip (xs.set i v)) t')
 | [],xs,i,v,t,t',_,_,_,_,_,_,h=>by simpa[dD]using h
 |w::ws,[],i,v,t,t',_,_,_,_,_,_,h=>by simpa[dD]using h
 |w::ws,x::xs,i,v,t,t',hw,hx,hv,hi,ht,ht',h=>by
  have fw:=hw w (by simp)
  have px:=hx x (by simp)
  have rp:∀y:Int × Int,1<=y.2->1<=(bK w y).2:=λy py=>(j9 (a:=w.1*y.1) (by have:=Int.mul_pos (a:=w.2) (b:=y.2) (by have:=fw.2.2.1; lia) (by lia); lia)).2.1
  have sp:∀s y:Int × Int,1<=s.2->1<=y.2->1<=(sumF s y).2:=λs y ps py=>(j9 (a:=s.1*y.2+y.1*s.2) (by have:=Int.mul_pos (a:=s.2) (b:=y.2) (by lia) (by lia); lia)).2.1
  cases i with
  |zero =>
   have lx:=hi x (by simp)
   show le2 (dD (ws.zip xs) (sumF t (bK w x))) (dD (ws.zip xs) (sumF t' (bK w v)))
   have:=IK ws xs xs.length v (sumF t (bK w x)) (sumF t' (bK w v)) (λy hy=>hw y (by simp[hy])) (λy hy=>hx y (by simp[hy])) hv (λy hy=>by simp at hy) (sp _ _ ht (rp x px)) (sp _ _ ht' (rp v hv)) (Wk ht ht' (rp x px) (rp v hv) h (ag0 fw.1 fw.2.2.1 px hv lx))
   rw[List.set_eq_of_length_le (by lia)]at this
   exact this
  |succ i =>
   show le2 (dD (ws.zip xs) (sumF t (bK w x))) (dD (ws.zip (xs.set i v)) (sumF t' (bK w x)))
   exact IK ws xs i v _ _ (λy hy=>hw y (by simp[hy])) (λy hy=>hx y (by simp[hy])) hv (λy hy=>hi y (by simpa using hy)) (sp _ _ ht (rp x px)) (sp _ _ ht' (rp x px)) (Wk ht ht' (rp x px) (rp x px) h (kh _))
theorem IV:∀(xs:List (Int × Int)) (i:Nat) (v t t':Int × Int),(∀x∈xs,1<=x.2/\0<=x.1)->1<=v.2->0<=v.1->(∀x,xs[i]?=some x->le2 x v)->1<=t.2->0<=t.1->1<=t'.2->0<=t'.1->le2 t t'->le2 (dF xs t) (dF (xs.set i v) t')
 | [],i,v,t,t',_,_,_,_,_,_,_,_,h=>by simpa[dF]using h
 |x::xs,i,v,t,t',hx,hv,hv0,hi,ht,ht0,ht',Ae,h=>by
  obtain⟨px,sY⟩:=hx x (by simp)
  have rp:∀s y:Int × Int,1<=s.2->0<=s.1->1<=y.2->0<=y.1->1<=(bK s y).2/\0<=(bK s y).1:=λs y ps ps0 py py0=>by
   have m:=Int.mul_pos (a:=s.2) (b:=y.2) (by lia) (by lia)
   refine⟨(j9 (a:=s.1*y.1) (by lia)).2.1,?_⟩
   exact Int.ediv_nonneg (Int.mul_nonneg ps0 py0) (by lia)
  cases i with
  |zero =>
   have lx:=hi x (by simp)
   show le2 (dF xs (bK t x)) (dF xs (bK t' v))
   have a:=rp t x ht ht0 px sY
   have b:=rp t' v ht' Ae hv hv0
   have:=IV xs xs.length v (bK t x) (bK t' v) (λy hy=>hx y (by simp[hy])) hv hv0 (λy hy=>by simp at hy) a.1 a.2 b.1 b.2 (Wj ht0 ht Ae ht' sY hv0 px hv h lx)
   rw[List.set_eq_of_length_le (by lia)]at this
   exact this
  |succ i =>
   have a:=rp t x ht ht0 px sY
   have b:=rp t' x ht' Ae px sY
   show le2 (dF xs (bK t x)) (dF (xs.set i v) (bK t' x))
   exact IV xs i v _ _ (λy hy=>hx y (by simp[hy])) hv hv0 (λy hy=>hi y (by simpa using hy)) a.1 a.2 b.1 b.2 (Wj ht0 ht Ae ht' sY sY px px h (kh _))
inductive Ru where
 |sh (ws:List (Int × Int))|mid (k:Nat)|least|greatest|product
noncomputable def aF:Ru->Tr
 |.sh ws=>.tup [.str "shares",aJ ws]
 |.mid k=>.tup [.str "middle",.int k]
 |.least=>.tup [.str "least"]
 |.greatest=>.tup [.str "greatest"]
 |.product=>.tup [.str "product"]
noncomputable def bL(n:Nat):Ru->Prop
 |.sh ws=>ws.length=n/\∀w∈ws,Fq 45 w
 |.mid k=>1<=k/\k<=n
 |_=>True
theorem ag5{M:Nat}{ws:List (Int × Int)}(hw:∀w∈ws,Fq M w)(hl:ws.length<=12):U4 [aJ ws,.int ws.length]=.ok (.bl true,false):=by
 have ty:qK (aJ ws) .list=true:=rfl
 walk_at "d"
 exact Wa (hw x hx).2.2.1 (hw x hx).2.2.2.2
 walk_at "r"
 rw[List.map_congr_left (g:=λ_=>Tr.bl true) λx hx=>by rw[decide_eq_true (hw x hx).1]]
 exact all_true ws
 walk_at "r"
theorem IW(h:T=.tup [.str "least"]∨T=.tup [.str "greatest"]∨T=.tup [.str "product"]):fJ id T (.tup [(.tup [(.str "least")]),(.tup [(.str "greatest")]),(.tup [(.str "product")])])=.ok (.bl true,false):=by
 rcases h with rfl|rfl|rfl <;> kernel_rfl
theorem ag6(h:bL n r)(hn:n<=12):U6 [aF r,.int n]=.ok (.bl true,false):=by
 have e1:=IW (.inl rfl)
 have e2:=IW (.inr (.inl rfl))
 have e3:=IW (.inr (.inr rfl))
 cases r <;> dsimp only[aF,bL]at *
 case sh ws =>
  obtain⟨h1,h2⟩:=h
  subst h1
  have e:=ag5 h2 hn
  walk_at "d"
 case mid k =>
  have w:=vR (i:=k)
  walk_at "d"
  exact congrArg (λb=>Rs.ok (Tr.bl b,false)) (decide_eq_true (by lia))
 all_goals walk_at "d"
noncomputable def bJ(n:Nat):Ru->Nat
 |.mid k=>k
 |.least=>n
 |.greatest=>1
 |_=>0
noncomputable def Wv(r:Ru)(xs:List (Int × Int))(v:Int × Int):Prop:=match r with
 |.sh ws=>v=dD (ws.zip xs) (0,1)
 |.product=>v=dF xs (1,1)
 |r=>∃zs,cu xs zs/\zs[bJ xs.length r-1]?=some v
noncomputable def placed:Ru->Bool
 |.mid _=>true
 |.least=>true
 |.greatest=>true
 |_=>false
theorem ag7{n:Nat}(h:placed r=true):Vc [aF r,.int n]=.ok (.int (bJ n r:Nat),false):=by
 cases r <;> first|cases h; done|(dsimp only[aF,bJ]; walk_at "d"; done)
theorem Ja(h:placed r=true)(ho:bL n r)(hn:1<=n):1<=bJ n r/\bJ n r<=n:=by
 cases r with
 |sh ws=>cases h
 |product=>cases h
 |least=>exact⟨hn,Nat.le_refl _⟩
 |greatest=>exact⟨Nat.le_refl _,hn⟩
 |mid k=>exact ho
theorem Fq.frs{N:Nat}(h:∀x∈l,Fq N x):Frs N l:=λx hx=>by
 obtain⟨h1,h2,h3,h4,_⟩:=h x hx
 have:=gP N
 exact⟨h3,h4,by lia⟩
theorem Ws{N:Nat}{xs:List (Int × Int)}(hq:∀x∈xs,Fq N x)(h1:1<=xs.length)(h2:xs.length<=12)(hN:(46+N)*xs.length<=8800)(ho:bL xs.length r):∃v,sE [aF r,aJ xs]=.ok (fT v,false)/\Wv r xs v:=by
 have pl:placed r=true->∃v,sE [aF r,aJ xs]=.ok (fT v,false)/\∃zs,cu xs zs/\zs[bJ xs.length r-1]?=some v:=λhp=>by
  obtain⟨ys,ef,hf⟩:=Ir (N:=N) xs (Fq.frs hq) (by rw[Nat.add_mul]at hN; lia) (by have:=Nat.mul_le_mul_left (46+N) h1; lia) (by lia)
  have pr:=Ja hp ho h1
  have ep:=ag7 (n:=xs.length) hp
  have ly:ys.length=xs.length:=by have:=hf.1.length_eq; simpa using this
  obtain⟨i,hi⟩:∃i,ys[bJ xs.length r-1]?=some i:=⟨_,List.getElem?_eq_getElem (by lia)⟩
  have il:i<xs.length:=by simpa using hf.1.mem_iff.mp (List.mem_of_getElem? hi)
  refine⟨xs.getD i (0,1),?_,_,hf.dsc,by rw[List.getElem?_map,hi]; rfl⟩
  have g:aX (.lst (ys.map λi:Nat=>Tr.int i)) (.int ((bJ xs.length r:Nat)-1:Int))=.ok (.int (i:Int),false):=by
   rw[show((bJ xs.length r:Nat)-1:Int)=((bJ xs.length r-1:Nat):Int) by lia]
   exact sG (by rw[List.getElem?_map,hi]; rfl)
  cases r <;> first|cases hp; done|(dsimp only[aF]at *; walk_at "d"; done)
 cases r with
 |sh ws =>
  have e:=ag2 ho.2 hq h2 hN
  refine⟨_,?_,rfl⟩
  dsimp only[aF]
  walk_at "d"
 |product =>
  have e:=ag3 hq h2 hN
  refine⟨_,?_,rfl⟩
  dsimp only[aF]
  walk_at "d"
 |least=>exact pl rfl
 |greatest=>exact pl rfl
 |mid k=>exact pl rfl
theorem ag8(hx:∀x∈xs,Wo x)(h1:1<=xs.length)(h2:xs.length<=12)(ho:bL xs.length r):∃v,sE [aF r,aJ xs]=.ok (fT v,false)/\Wv r xs v:=Ws (λx m=>(hx x m).fq) h1 h2 (by lia) ho
theorem ag9(hx:∀x∈xs,Wo x):LT xs:=λx m=>⟨(hx x m).2.2.1,(hx x m).2.2.2.2⟩
theorem Wv.uniq(hx:LT xs)(a:Wv r xs v)(b:Wv r xs v'):v=v':=by
 cases r with
 |sh ws=>exact a.trans b.symm
 |product=>exact a.trans b.symm
 |least =>
  obtain⟨z,d,e⟩:=a
  obtain⟨z',d',e'⟩:=b
  rw[d.uniq hx d',e']at e
  exact(Option.some.inj e).symm
 |greatest =>
  obtain⟨z,d,e⟩:=a
  obtain⟨z',d',e'⟩:=b
  rw[d.uniq hx d',e']at e
  exact(Option.some.inj e).symm
 |mid k =>
  obtain⟨z,d,e⟩:=a
  obtain⟨z',d',e'⟩:=b
  rw[d.uniq hx d',e']at e
  exact(Option.some.inj e).symm
theorem Fq.up(h:Fq M x)(hl:M<=N):Fq N x:=by
 obtain⟨h1,h2,h3,h4,h5⟩:=h
 have:(2:Int) ^ M<=2 ^ N:=by
  have:=Nat.pow_le_pow_right (n:=2) (by lia) hl
  have a:=gP M
  have b:=gP N
  lia
 exact⟨h1,by lia,h3,by lia,h5⟩
theorem Wv.Wt(hq:∀x∈xs,Fq 45 x)(hl:xs.length<=4)(ho:bL xs.length r)(a:Wv r xs v):Fq 400 v:=by
 have pl:(∃zs,cu xs zs/\zs[bJ xs.length r-1]?=some v)->Fq 400 v:=λ⟨z,d,e⟩=>(hq v (d.1.mem_iff.mp (List.mem_of_getElem? e))).up (by lia)
 cases r with
 |sh ws =>
  have a:v=dD (ws.zip xs) (0,1):=a
  rw[a]
  exact(Ac _ _ 1 sV (Iz ho.2 hq)).up (by rw[List.length_zip]; lia)
 |product =>
  have a:v=dF xs (1,1):=a
  rw[a]
  exact(Ad _ _ 1 sX hq).up (by lia)
 |least=>exact pl a
 |greatest=>exact pl a
 |mid k=>exact pl a
theorem Wv.fq(hx:∀x∈xs,Wo x)(hl:xs.length<=4)(ho:bL xs.length r)(a:Wv r xs v):Fq 400 v:=Wv.Wt (λx m=>(hx x m).fq) hl ho a
noncomputable def Fx(x:Int × Int):Prop:=0<=x.1/\1<=x.2/\Int.gcd x.1 x.2=1
theorem Fq.fx(h:Fq M x):Fx x:=⟨h.1,h.2.2.1,h.2.2.2.2⟩
theorem Wo.fx(h:Wo x):Fx x:=⟨h.1,h.2.2.1,h.2.2.2.2⟩
theorem Wu(ha:0<=a)(hb:1<=b):Fx (red a b):=by
 obtain⟨_,_,g3,g4,g5,_⟩:=qN (a:=a) (b:=b) (by lia)
 exact⟨g5 ha,g3,g4⟩
theorem bW{a b:Int}(ha:1<=a)(hb:1<=b):1<=a*b:=Int.mul_pos (by lia) (by lia)
theorem Ww(hx:Fx x)(hy:Fx y):Fx (bK x y):=Wu (Int.mul_nonneg hx.1 hy.1) (bW hx.2.1 hy.2.1)
theorem aha(hx:Fx x)(hy:Fx y):Fx (sumF x y):=Wu (Int.add_nonneg (Int.mul_nonneg hx.1 (by have:=hy.2.1; lia)) (Int.mul_nonneg hy.1 (by have:=hx.2.1; lia))) (bW hx.2.1 hy.2.1)
theorem Wx(hx:∀x∈xs,Fx x):LT xs:=λx m=>⟨(hx x m).2.1,(hx x m).2.2⟩
theorem Wv.mono(hx:∀x∈xs,Fx x)(hu:Fx u)(hi:∀x,xs[i]?=some x->le2 x u)(ho:bL xs.length r)(a:Wv r xs v)(b:Wv r (xs.set i u) v'):le2 v v':=by
 have pl:(∃zs,cu xs zs/\zs[bJ xs.length r-1]?=some v)->(∃zs,cu (xs.set i u) zs/\zs[bJ (xs.set i u).length r-1]?=some v')->le2 v v':=λ⟨z,d,e⟩ ⟨z',d',e'⟩=>by
  rw[List.length_set]at e'
  exact d.mono (Wx hx) hu.2.1 hi d' e e'
 cases r with
 |sh ws =>
  have a:v=dD (ws.zip xs) (0,1):=a
  have b:v'=dD (ws.zip (xs.set i u)) (0,1):=b
  rw[a,b]
  exact IK ws xs i u _ _ ho.2 (λx m=>(hx x m).2.1) hu.2.1 hi (by decide) (by decide) (kh _)
 |product =>
  have a:v=dF xs (1,1):=a
  have b:v'=dF (xs.set i u) (1,1):=b
  rw[a,b]
  exact IV xs i u _ _ (λx m=>⟨(hx x m).2.1,(hx x m).1⟩) hu.2.1 hu.1 hi (by decide) (by decide) (by decide) (by decide) (kh _)
 |least=>exact pl a b
 |greatest=>exact pl a b
 |mid k=>exact pl a b
noncomputable def isG:Ru->Bool
 |.greatest=>true
 |_=>false
noncomputable def isL:Ru->Bool
 |.least=>true
 |_=>false
theorem ahb(hp:placed r=true):∃w:Str,aX (aF r) (.int 0)=.ok (.str w,false)∧iG (.str w) (.str "shares")=.ok (.bl false,false)∧iG (.str w) (.str "product")=.ok (.bl false,false)∧iG (.str w) (.str "greatest")=.ok (.bl (isG r),false)∧iG (.str w) (.str "least")=.ok (.bl (isL r),false):=by
 cases r with
 |sh ws=>cases hp
 |product=>cases hp
 |least=>exact⟨"least",rfl,jt (by decide +kernel),jt (by decide +kernel),jt (by decide +kernel),Bh⟩
 |greatest=>exact⟨"greatest",rfl,jt (by decide +kernel),jt (by decide +kernel),Bh,jt (by decide +kernel)⟩
 |mid k=>exact⟨"middle",rfl,jt (by decide +kernel),jt (by decide +kernel),jt (by decide +kernel),jt (by decide +kernel)⟩
noncomputable abbrev iT(i:Nat):Tr:=.int (i:Nat)
noncomputable def pT(p:Nat × Nat):Tr:=.tup [iT p.1,iT p.2]
noncomputable def Lx(p q:Nat × Nat):Prop:=p.1<q.1\/(p.1=q.1/\p.2<q.2)
noncomputable def Lk(n m:Nat)(ds:List Nat)(as:List (Nat × Nat)):Prop:=ds.length=n/\(∀d∈ds,d<=m)/\as.Pairwise Lx/\as.length<=48/\∀p∈as,p.1<n/\p.2<m
theorem count_eq(h:d<=m):Vo [iT d,.int (m:Nat)]=.ok (.bl true,false):=by
 have e:=vR (i:=d)
 walk_at "d"
 exact congrArg (λb=>Rs.ok (Tr.bl b,false)) (decide_eq_true (by lia))
theorem Wy(a b:Nat):eqT (iT a) (iT b)=decide (a=b):=by
 unfold iT eqT
 by_cases h:a=b
 .subst h; simp
 .have:¬(a:Int)=b:=by lia
  simp[h,this]
theorem Ag:∀zs:List Nat,deps (zs.map iT)=0
 | []=>rfl
 |z::zs=>by
  rw[List.map_cons]
  unfold deps
  rw[Ag zs]
  rfl
theorem Wz{α : Type} [DecidableEq α](t : α):∀zs:List α,(zs.any λz=>decide (z=t))=decide (t∈zs)
 | []=>rfl
 |z::zs=>by
  rw[List.any_cons,Wz t zs]
  by_cases h:z=t
  .subst h; simp
  .have:t≠z:=λe=>h e.symm
   simp[h,this]
theorem jL(f:Bool->Bool)(t:Nat)(zs:List Nat):fJ f (iT t) (.lst (zs.map iT))=.ok (.bl (f (decide (t∈zs))),false):=by
 show(if deps (zs.map iT)<=40/\dep (iT t)<=40 then Rs.ok (Tr.bl (f (lE (iT t) (zs.map iT))),false)else .bad)=_
 rw[if_pos ⟨by rw[Ag]; lia,by show 0<=40; lia⟩]
 unfold lE
 rw[List.any_map,<-Wz]
 simp only[Function.comp_def,Wy]
noncomputable def sZ(b:Bool)(x:Int × Int):Tr:=if b=true then fT x else .non
noncomputable def gr(l:List (Int × Int))(s:Nat->Bool):List Tr:=(List.range l.length).map λt=>sZ (s t) (l.getD t (0,1))
noncomputable def gs(rows:List (List (Int × Int)))(s:Nat->Nat->Bool):List Tr:=(List.range rows.length).map λk=>.lst (gr (rows.getD k []) (s k))
end BH
end
section
namespace L2
open PySem
section
variable {ρ ρ1 ρ2:En}{fa fe:EF}{aa:AF}{fi:IF}{T:Tr}{us ts vs:List Tr}{b:Bool}{i j k:Nat}{fk fj:QF}{Q:Fl->En->Prop}
theorem WK(h:ts[k]?=some T):jh ts (.int (k:Nat))=.ok (k,T):=by
 have lt:=(List.getElem?_eq_some_iff.mp h).1
 have e:fB ts.length (k:Int)=some k:=by
  unfold fB
  rw[if_pos (by lia),if_pos (by lia)]
  rfl
 unfold jh
 simp only[e,h]
theorem WL{m n:Nat}(h:fe ρ=.ok (.v T b,ρ))(c : ρ[i]?=some (.dp ts))(q:fk ρ=.ok (.int (m:Nat)))(l:ts[m]?=some (.lst us))(q':fj ρ=.ok (.int (n:Nat)))(l':n<us.length)(fl:aZ T=true)(fu:∀t∈us,aZ t=true)(e : ρ.set i (.dp (ts.set m (.lst (us.set n T)))) = ρ2)(k:Q .nx ρ2):W (RL i fk fj fe ρ) Q:=by
 subst e
 have cd:cJ ρ i=.ok ts:=by unfold cJ; rw[c]
 have n1:cU (fk ρ)=.ok (.int m):=by rw[q]; rfl
 have n2:cU (fj ρ)=.ok (.int n):=by rw[q']; rfl
 have n3:(aZ T&&aZ us[n])=true:=by rw[fl,fu _ (List.getElem_mem _)]; rfl
 refine⟨_,_,bk h (bk (a:=T) rfl (bk cd (bk n1 (bk (WK l) ?_)))),k⟩
 exact bk n2 (bk (WK (List.getElem?_eq_getElem l')) (if_pos n3))
theorem WQ{β : Type}{t : β -> Tr}{h : β -> List Tr}{xs:List β}(hi:fi ρ=.ok (us,ρ))(hu:us=xs.map t)(hf:∀x∈xs,fe [.sh (t x)]=.ok (.v (.lst (h x)) true,[.sh (t x)]))(hn:∀x∈xs,bR (h x)=true)(hl:xs.length<=100000)(e : ρ.set i (.dp (xs.map λx=>.lst (h x))) = ρ1)(k:Q .nx ρ1):W (Hj i [none] fi (gN 0) gW fe ρ) Q:=by
 subst hu e
 obtain⟨s',e'⟩:=Sq hf hn
 exact⟨_,_,bk hi ((if_pos (by rw[List.length_map]; exact hl)).trans (bk (show cU (j6 _ _ _ _ [.un])=_ by rw[e']; rfl) (if_pos rfl))),k⟩
end
end L2
namespace BH
open PySem L2
structure Od(od:List (Int × Int)->List Nat)(m:Nat)(rows:List (List (Int × Int))):Prop where
 n1:1<=rows.length
 n4:rows.length<=4
 m1:1<=m
 m12:m<=12
 len:∀l∈rows,l.length=m
 fall:∀l∈rows,vN [aJ l]=.ok (.lst ((od l).map iT),true)
 lt:∀l∈rows,∀t∈od l,t<m
 ln:∀l∈rows,(od l).length=m
section
variable {od:List (Int × Int)->List Nat}{m:Nat}{rows:List (List (Int × Int))}{ds:List Nat}{as:List (Nat × Nat)}
noncomputable def sn(od:List (Int × Int)->List Nat)(l:List (Int × Int))(d:Nat)(as:List (Nat × Nat))(k t:Nat):Bool:=decide (t∈(od l).take d) || decide ((k,t)∈as)
noncomputable def sA(od:List (Int × Int)->List Nat)(rows:List (List (Int × Int)))(ds:List Nat)(as:List (Nat × Nat))(k:Nat):Nat->Bool:=sn od (rows.getD k []) (ds.getD k 0) as k
theorem getM{α : Type}{l:List α}{k:Nat}{d : α}(h:k<l.length):l.getD k d∈l:=by rw[List.getD_eq_getElem?_getD,List.getElem?_eq_getElem h]; exact List.getElem_mem _
theorem kY{α : Type}{f : α -> Tr}{l:List α}{k:Nat}(d : α)(h:k<l.length):aX (.lst (l.map f)) (.int k)=.ok (f (l.getD k d),false):=sG (by simp[h])
theorem Lk.ok(hO:Od od m rows)(hL:Lk rows.length m ds as):∀p∈as,p.1<rows.length/\p.2<(rows.getD p.1 []).length:=λp mp=>by
 have h:=hL.2.2.2.2 p mp
 exact⟨h.1,by rw[hO.len _ (getM h.1)]; exact h.2⟩
theorem jw{rows:List (List (Int × Int))}{k:Nat}(h:k<rows.length):aX (aQ rows) (.int k)=.ok (aJ (rows.getD k []),false):=sG (by simp[h])
end
theorem Ah{α : Type}{f : α -> Int × Int}{l:List α}:aJ (l.map f)=.lst (l.map λx=>fT (f x)):=by unfold aJ; rw[List.map_map]; rfl
theorem KD{aa:AF}{T U V:Tr}{us vs ws:List Tr}{b b' b2:Bool}{ρ ρ1:En}(h:aa ρ=.ok ([.v T b,.v U b',.v V b2],ρ1))(e:T=.lst us)(e1:U=.lst vs)(e2:V=.lst ws)(l:us.length<=vs.length)(l':us.length<=ws.length):aeR aa ρ=.ok (GD us vs ws,ρ1):=by subst e e1 e2; exact bk h (if_pos ⟨l,l'⟩)
noncomputable abbrev jq(rows:List (List (Int × Int)))(k t:Nat):Int × Int:=(rows.getD k []).getD t (0,1)
noncomputable def lo(rows:List (List (Int × Int)))(s:Nat->Nat->Bool)(t:Nat):List (Int × Int):=(List.range rows.length).map λk=>if s k t=true then jq rows k t else(0,1)
noncomputable def hi(rows:List (List (Int × Int)))(s:Nat->Nat->Bool)(Ai:List (Int × Int))(t:Nat):List (Int × Int):=(List.range rows.length).map λk=>if s k t=true then jq rows k t else Ai.getD k (0,1)
noncomputable def vW(a b:Nat->Int × Int)(m:Nat):List Tr:=(List.range m).map λt=>.tup [fT (a t),fT (b t)]
section
variable {rows:List (List (Int × Int))}{s:Nat->Nat->Bool}{Ai:List (Int × Int)}{m:Nat}
theorem KH{k:Nat}(hk:k<rows.length):aX (.lst (gs rows s)) (.int k)=.ok (.lst (gr (rows.getD k []) (s k)),false):=pX (by unfold gs; simp[hk])
theorem aae(hk:0<rows.length):aX (.lst (gs rows s)) (.int 0)=.ok (.lst (gr (rows.getD 0 []) (s 0)),false):=KH hk
theorem aaf{l:List (Int × Int)}{s:Nat->Bool}{t:Nat}(ht:t<l.length):aX (.lst (gr l s)) (.int t)=.ok (sZ (s t) (l.getD t (0,1)),false):=pX (by unfold gr; simp[ht])
theorem aag{l:List (Int × Int)}{s:Nat->Bool}:fX (.lst (gr l s))=.ok (.int l.length,false):=by
 show Rs.ok (Tr.int ((gr l s).length:Int),false)=_
 unfold gr
 simp
theorem aah{b:Bool}{x:Int × Int}{c d:Int}{τ : En}:uL (dO (dN (Bj id) (bY 0) (eC .non))) (eC (.tup [.int c,.int d])) (bY 0) (.sh (sZ b x)::τ)=.ok (.v (fT (if b=true then x else(c,d))) false,.sh (sZ b x)::τ):=by cases b <;> rfl
theorem aai{b:Bool}{x y:Int × Int}{τ : En}:uL (dO (dN (Bj id) (bY 0) (eC .non))) (bY 1) (bY 0) (.sh (sZ b x) :: .sh (fT y)::τ)=.ok (.v (fT (if b=true then x else y)) false,.sh (sZ b x) :: .sh (fT y)::τ):=by cases b <;> rfl
end
theorem ahc(h:Fall l ys)(h':Fall l zs):ys=zs:=by
 refine List.Perm.eq_of_pairwise (λa b _ _ p q=>?_) h.2 h'.2 (h.1.trans h'.1.symm)
 unfold pY at p q
 lia
open Classical in
noncomputable def kj(l:List (Int × Int)):List Nat:=if h:∃zs:List Nat,Fall l zs then h.choose else []
theorem ahd(h:Fall l zs):kj l=zs:=by
 have h':∃zs:List Nat,Fall l zs:=⟨zs,h⟩
 unfold kj
 rw[dif_pos h']
 exact ahc h'.choose_spec h
theorem WR(h:Frs N l)(hl:1+N*l.length<=8900)(hN:N<=8900)(h64:l.length<64):Fall l (kj l)/\vN [aJ l]=.ok (.lst ((kj l).map iT),true):=by
 obtain⟨ys,e,f⟩:=Ir l h hl hN h64
 rw[ahd f]
 exact⟨f,e⟩
theorem Od.of(h1:1<=rows.length)(h4:rows.length<=4)(m1:1<=m)(m2:m<=12)(hl:∀l∈rows,l.length=m)(h:∀l∈rows,Frs N l)(hN:1+N*12<=8900):Od kj m rows:=by
 have k:∀l∈rows,Fall l (kj l)/\vN [aJ l]=.ok (.lst ((kj l).map iT),true):=λl ml=>WR (h l ml) (by
  have:=hl l ml
  have:N*l.length<=N*12:=Nat.mul_le_mul_left _ (by lia)
  lia) (by lia) (by have:=hl l ml; lia)
 refine⟨h1,h4,m1,m2,hl,λl ml=>(k l ml).2,λl ml t mt=>?_,λl ml=>?_⟩
 .have:=(k l ml).1.1.mem_iff.mp mt
  rw[List.mem_range,hl l ml]at this
  exact this
 .have:=(k l ml).1.1.length_eq
  rw[List.length_range,hl l ml]at this
  exact this
theorem Bk.od(hB:Bk m rows):Od kj m rows:=by
 obtain⟨b1,b2,b3,b4,b5⟩:=hB
 exact Od.of (N:=40) b1 b2 b3 b4 (λl ml=>(b5 l ml).1) (λl ml=>Wo.frs (b5 l ml).2) (by lia)
theorem pref{α : Type}{p : α -> Bool}:∀zs:List α,zs.Pairwise (λa b=>p b=true->p a=true)->zs.take (zs.filter p).length=zs.filter p/\zs.drop (zs.filter p).length=zs.filter λa=>!p a
 | [],_=>⟨rfl,rfl⟩
 |a::l,h=>by
  obtain⟨h1,h2⟩:=List.pairwise_cons.mp h
  obtain⟨i1,i2⟩:=pref l h2
  cases e:p a with
  |true=>simp[e,i1,i2]
  |false =>
   have hf:∀b∈l,p b=false:=λb hb=>by
    cases z:p b with
    |false=>rfl
    |true=>rw[h1 b hb z]at e; cases e
   have z:l.filter p=[]:=List.filter_eq_nil_iff.mpr λb hb=>by rw[hf b hb]; simp
   have z':l.filter (λa=>!p a)=l:=List.filter_eq_self.mpr λb hb=>by rw[hf b hb]; rfl
   simp[e,z,z']
theorem jE{α : Type}{R : α -> α -> Prop}{p : α -> Bool}{zs:List α}{n : α}(hs:zs.Pairwise R)(hp:∀a∈zs,∀b∈zs,R a b->p b=true->p a=true)(h1:∀a∈zs,p a=true->R a n)(h2:∀b∈zs,p b=false->R n b):(zs.take (zs.filter p).length++n::zs.drop (zs.filter p).length).Perm (n::zs)/\(zs.take (zs.filter p).length++n::zs.drop (zs.filter p).length).Pairwise R:=by
 obtain⟨e1,e2⟩:=pref (p:=p) zs (hs.imp_of_mem λ{a b} ma mb r=>hp a ma b mb r)
 have hs':(zs.take (zs.filter p).length++zs.drop (zs.filter p).length).Pairwise R:=by rw[List.take_append_drop]; exact hs
 rw[e1,e2]at hs'
 rw[e1,e2]
 refine⟨List.perm_middle.trans ((List.filter_append_perm p zs).cons n),List.pairwise_append.mpr ⟨hs.filter p,List.pairwise_cons.mpr ⟨λb hb=>?_,hs.filter _⟩,λa ha b hb=>?_⟩⟩
 .obtain⟨m,q⟩:=List.mem_filter.mp hb
  exact h2 b m (by simpa using q)
 .obtain⟨m,q⟩:=List.mem_filter.mp ha
  rcases List.mem_cons.mp hb with rfl|hb
  .exact h1 a m q
  .exact(List.pairwise_append.mp hs').2.2 a ha b hb
theorem WT:∀xs:List (Int × Int),(∀x∈xs,1<=x.2)->∃zs,cu xs zs
 | [],_=>⟨[],.nil,.nil⟩
 |x::xs,h=>by
  obtain⟨zs,p,s⟩:=WT xs λy m=>h y (List.mem_cons_of_mem _ m)
  have hz:∀z∈zs,1<=z.2:=λz m=>h z (List.mem_cons_of_mem _ (p.mem_iff.mp m))
  have hx:=h x (List.mem_cons_self ..)
  obtain⟨q1,q2⟩:=jE (R:=λa b=>le2 b a) (p:=λz=>!bw z x) (n:=x) s (λa ma b mb r q=>by
   have q:bw b x=false:=by simpa using q
   rw[dY.mpr (gQ hx (hz b mb) (hz a ma) (dY.mp q) r)]
   rfl) (λa ma q=>dY.mp (by simpa using q)) λb mb q=>by
   have q:bw b x=true:=by simpa using q
   unfold bw at q
   unfold le2
   have:=of_decide_eq_true q
   lia
  exact⟨_,q1.trans (p.cons x),q2⟩
open Classical in
noncomputable def wv(r:Ru)(xs:List (Int × Int)):Int × Int:=if h:∃v,Wv r xs v then h.choose else(0,1)
theorem Aj(hx:LT xs)(h:Wv r xs v):wv r xs=v:=by
 have h':∃v,Wv r xs v:=⟨v,h⟩
 unfold wv
 rw[dif_pos h']
 exact Wv.uniq hx h'.choose_spec h
theorem ahe(hx:∀x∈xs,Wo x)(h:Wv r xs v):wv r xs=v:=Aj (ag9 hx) h
theorem WW:∀(ps:List ((Int × Int) × (Int × Int))) (t:Int × Int),Fx t->(∀p∈ps,Fx p.1/\Fx p.2)->Fx (dD ps t)
 | [],_,h,_=>h
 |p::ps,_,h,hp=>WW ps _ (aha h (Ww (hp p (List.mem_cons_self ..)).1 (hp p (List.mem_cons_self ..)).2)) λq m=>hp q (List.mem_cons_of_mem _ m)
theorem WX:∀(xs:List (Int × Int)) (t:Int × Int),Fx t->(∀p∈xs,Fx p)->Fx (dF xs t)
 | [],_,h,_=>h
 |x::xs,_,h,hp=>WX xs _ (Ww h (hp x (List.mem_cons_self ..))) λq m=>hp q (List.mem_cons_of_mem _ m)
theorem Ak(hx:∀x∈xs,Fx x)(h1:1<=xs.length)(ho:bL xs.length r):Wv r xs (wv r xs)/\Fx (wv r xs):=by
 suffices h:∃v,Wv r xs v/\Fx v by
  obtain⟨v,h,f⟩:=h
  rw[Aj (Wx hx) h]
  exact⟨h,f⟩
 have pl:placed r=true->∃v,(∃zs,cu xs zs/\zs[bJ xs.length r-1]?=some v)/\Fx v:=λhp=>by
  obtain⟨zs,d⟩:=WT xs λx m=>(hx x m).2.1
  have pr:=Ja hp ho h1
  have:=d.1.length_eq
  have g:zs[bJ xs.length r-1]?=some zs[bJ xs.length r-1]:=List.getElem?_eq_getElem (by lia)
  exact⟨_,⟨zs,d,g⟩,hx _ (d.1.mem_iff.mp (List.mem_of_getElem? g))⟩
 cases r with
 |sh ws=>exact⟨_,rfl,WW _ _ (by unfold Fx; decide) λp m=>⟨(ho.2 _ (List.of_mem_zip m).1).fx,hx _ (List.of_mem_zip m).2⟩⟩
 |product=>exact⟨_,rfl,WX _ _ (by unfold Fx; decide) hx⟩
 |least=>exact pl rfl
 |greatest=>exact pl rfl
 |mid k=>exact pl rfl
theorem Jb(hx:∀x∈xs,Wo x)(h1:1<=xs.length)(h2:xs.length<=12)(ho:bL xs.length r):sE [aF r,aJ xs]=.ok (fT (wv r xs),false)/\Wv r xs (wv r xs):=by
 obtain⟨v,e,h⟩:=ag8 hx h1 h2 ho
 rw[ahe hx h]
 exact⟨e,h⟩
theorem Jc:Wo (0,1):=by decide
theorem vX:Wo (1,1):=by decide
noncomputable def col(rows:List (List (Int × Int)))(t:Nat):List (Int × Int):=(List.range rows.length).map λk=>jq rows k t
section
variable {m:Nat}{rows:List (List (Int × Int))}{ds:List Nat}{as:List (Nat × Nat)}{s:Nat->Nat->Bool}{Ai:List (Int × Int)}{t:Nat}
theorem Bk.row(hB:Bk m rows)(hk:k<rows.length):(rows.getD k [])∈rows/\(rows.getD k []).length=m/\∀x∈rows.getD k [],Wo x:=by
 have e:rows[k]?=some (rows.getD k []):=by simp[hk]
 have ml:=List.mem_of_getElem? e
 exact⟨ml,hB.2.2.2.2 _ ml⟩
theorem Bk.WY(hB:Bk m rows)(hk:k<rows.length)(ht:t<m):Wo (jq rows k t):=by
 obtain⟨_,h1,h2⟩:=hB.row hk
 unfold jq
 generalize rows.getD k []=l at *
 have lt:t<l.length:=by lia
 have e:l[t]?=some (l.getD t (0,1)):=by simp[lt]
 exact h2 _ (List.mem_of_getElem? e)
theorem pZ(hB:Bk m rows)(ht:t<m):∀x∈col rows t,Wo x:=λx mx=>by
 obtain⟨k,mk,rfl⟩:=List.mem_map.mp mx
 exact hB.WY (List.mem_range.mp mk) ht
theorem iU:(col rows t).length=rows.length:=by unfold col; simp
variable {r:Ru}
theorem ahf(hB:Bk m rows)(ho:bL rows.length r)(ht:t<m):sE [aF r,aJ (col rows t)]=.ok (fT (wv r (col rows t)),false)/\Wv r (col rows t) (wv r (col rows t)):=Jb (pZ hB ht) (by rw[iU]; exact hB.1) (by rw[iU]; have:=hB.2.1; lia) (by rw[iU]; exact ho)
end
noncomputable def Sc(c:Int)(x x':Int × Int):Prop:=x'.1*x.2=c*x.1*x'.2
theorem Sc.le(hc:1<=c)(h1:1<=x.2)(h2:1<=x'.2)(h3:1<=y.2)(h4:1<=y'.2)(a:Sc c x x')(b:Sc c y y'):le2 x' y'↔le2 x y:=by
 unfold Sc at a b
 unfold le2
 have p1:0<x.2*y.2:=Int.mul_pos (by lia) (by lia)
 have p2:0<c*(x'.2*y'.2):=Int.mul_pos (by lia) (Int.mul_pos (by lia) (by lia))
 have e1:x'.1*y'.2*(x.2*y.2)=x.1*y.2*(c*(x'.2*y'.2)):=by grind
 have e2:y'.1*x'.2*(x.2*y.2)=y.1*x.2*(c*(x'.2*y'.2)):=by grind
 constructor
 .intro h
  have:=Int.mul_le_mul_of_nonneg_right h (Int.le_of_lt p1)
  rw[e1,e2]at this
  exact Int.le_of_mul_le_mul_right this p2
 .intro h
  have:=Int.mul_le_mul_of_nonneg_right h (Int.le_of_lt p2)
  rw[<-e1,<-e2]at this
  exact Int.le_of_mul_le_mul_right this p1
noncomputable def sc(B:Int)(x:Int × Int):Int × Int:=bK x (B,1)
theorem LT.of(h:∀x∈xs,Fq 45 x):LT xs:=λx m=>⟨(h x m).2.2.1,(h x m).2.2.2.2⟩
noncomputable def Jd(a b:Nat->Int × Int)(i j:Nat):Prop:=(a j).1*(a i).2<(a i).1*(a j).2\/((a j).1*(a i).2=(a i).1*(a j).2/\((b j).1*(b i).2<(b i).1*(b j).2\/((b j).1*(b i).2=(b i).1*(b j).2/\i<j)))
theorem W0(hx:Fq 400 x)(hy:Fq 400 y):Ub [fT x,fT y]=.ok (.bl (bw x y),false):=by
 obtain⟨a1,a2,a3,a4,_⟩:=hx
 obtain⟨b1,b2,b3,b4,_⟩:=hy
 have:=gP 400
 have c1:cV x.1 y.2=true:=jo (M:=400) (N:=400) (by lia) (by lia) (by lia) (by lia)
 have c2:cV y.1 x.2=true:=jo (M:=400) (N:=400) (by lia) (by lia) (by lia) (by lia)
 walk_at "d"
theorem ahg(h:Fall l ys)(n:l≠[]):∃p q,ys[0]?=some p/\ys[ys.length-1]?=some q/\p<l.length/\q<l.length/\∀i,i<l.length->bw (at2 l p) (at2 l i)=false/\bw (at2 l i) (at2 l q)=false:=by
 obtain⟨h1,h2⟩:=h
 have ln:ys.length=l.length:=by rw[h1.length_eq,List.length_range]
 have l0:0<l.length:=List.length_pos_iff.mpr n
 have mm:∀i,i∈ys↔i<l.length:=λi=>by rw[h1.mem_iff,List.mem_range]
 have hp:0<ys.length:=by lia
 have hq:ys.length-1<ys.length:=by lia
 refine⟨ys[0],ys[ys.length-1],List.getElem?_eq_getElem hp,List.getElem?_eq_getElem hq,(mm _).mp (List.getElem_mem hp),(mm _).mp (List.getElem_mem hq),λi hi=>?_⟩
 obtain⟨k,hk,rfl⟩:=List.mem_iff_getElem.mp ((mm i).mpr hi)
 have pw:=List.pairwise_iff_getElem.mp h2
 unfold bw at2
 constructor
 .rcases Nat.eq_zero_or_pos k with rfl|k0
  .exact decide_eq_false (by lia)
  .have:=pw 0 k hp hk k0
   unfold pY at this
   exact decide_eq_false (by lia)
 .rcases Nat.lt_or_ge k (ys.length-1)with c|c
  .have:=pw k (ys.length-1) hk hq c
   unfold pY at this
   exact decide_eq_false (by lia)
  .have:k=ys.length-1:=by lia
   subst this
   exact decide_eq_false (by lia)
theorem ahh(h:xs[xs.length-1]?=some T):aX (.lst xs) (.int (-1))=.ok (T,false):=by
 obtain⟨hi,e⟩:=List.getElem?_eq_some_iff.mp h
 have z:fB xs.length (-1)=some (xs.length-1):=by
  unfold fB
  rw[if_neg (by lia),if_pos (by lia)]
  congr 1
  lia
 show(match dZ xs (-1)with
  |some t=>Rs.ok (t,false)
  |none=>.bad)=_
 unfold dZ
 rw[z]
 dsimp only[Option.bind]
 rw[h]
section
variable {m:Nat}{a b:Nat->Int × Int}
theorem aak(h:t<m):aX (.lst (vW a b m)) (iT t)=.ok (.tup [fT (a t),fT (b t)],false):=pX (by unfold vW; simp[h])
noncomputable def jr(a b:Nat->Int × Int)(m:Nat)(ys:List Nat):Prop:=∀t∈ys,∀o,o<m->o∉ys->bw (a t) (b o)=false
theorem aaj:fX (.lst (vW a b m))=.ok (.int (m:Nat),false):=by
 show Rs.ok (Tr.int ((vW a b m).length:Int),false)=_
 unfold vW
 simp
end
noncomputable def kE(m:Nat)(zs:List Nat):List Nat:=(List.range m).filter λt=>decide (t∈zs)
theorem ahi{m t:Nat}{zs:List Nat}(h:∀t∈zs,t<m):t∈kE m zs↔t∈zs:=by
 unfold kE
 rw[List.mem_filter,List.mem_range,decide_eq_true_iff]
 exact⟨And.right,λq=>⟨h t q,q⟩⟩
theorem ahj{m c:Nat}{ys:List Nat}(h:ys.Perm (List.range m)):(kE m (ys.take c)).Perm (ys.take c):=by
 have nd:ys.Nodup:=h.nodup_iff.mpr List.nodup_range
 have e:ys.filter (λt=>decide (t∈ys.take c))=ys.take c:=by
  have nd':=nd
  rw[<-List.take_append_drop c ys]at nd'
  obtain⟨_,_,dj⟩:=List.nodup_append.mp nd'
  calc ys.filter (λt=>decide (t∈ys.take c))=(ys.take c++ys.drop c).filter (λt=>decide (t∈ys.take c)):=by rw[List.take_append_drop]
   _=ys.take c:=by
    rw[List.filter_append,List.filter_eq_self.mpr λt ht=>decide_eq_true ht,List.filter_eq_nil_iff.mpr λt ht=>by
     rw[decide_eq_true_iff]
     exact λq=>dj t q t ht rfl,List.append_nil]
 unfold kE
 have:=(h.filter λt=>decide (t∈ys.take c)).symm
 rwa[e]at this
theorem ahk{m c:Nat}{ys:List Nat}(h:ys.Perm (List.range m))(hm:m<=12):rO (.lst ((ys.take c).map iT))=.ok (.lst ((kE m (ys.take c)).map iT),true):=by
 have p:=ahj (c:=c) h
 have ln:ys.length=m:=by rw[h.length_eq,List.length_range]
 have l2:=List.length_take_le c ys
 have iq:rN ((ys.take c).map iT)=some ((ys.take c).map λi:Nat=>(i:Int)):=Wh _
 have s:((kE m (ys.take c)).map λi:Nat=>(i:Int)).Pairwise (· <= ·):=by
  rw[List.pairwise_map]
  unfold kE
  exact((List.pairwise_lt_range (n:=m)).filter _).imp λ{a b} h=>by lia
 unfold rO
 simp only[iq]
 rw[if_pos (by rw[List.length_map,List.length_take]; lia),<-Rh (p.map _) s,List.map_map]
 rfl
section
variable {m:Nat}{a b a' b':Nat->Int × Int}{C:Int}
noncomputable def Je(C:Int)(m:Nat)(a a':Nat->Int × Int):Prop:=∀t,t<m->Sc C (a t) (a' t)/\1<=(a t).2/\1<=(a' t).2
theorem Je.le(hC:1<=C)(h:Je C m a a')(h':Je C m b b')(hi:i<m)(hj:j<m):((a' i).1*(b' j).2<=(b' j).1*(a' i).2↔(a i).1*(b j).2<=(b j).1*(a i).2)/\((b' j).1*(a' i).2<=(a' i).1*(b' j).2↔(b j).1*(a i).2<=(a i).1*(b j).2) :=
 ⟨Sc.le hC (h i hi).2.1 (h i hi).2.2 (h' j hj).2.1 (h' j hj).2.2 (h i hi).1 (h' j hj).1,Sc.le hC (h' j hj).2.1 (h' j hj).2.2 (h i hi).2.1 (h i hi).2.2 (h' j hj).1 (h i hi).1⟩
end
section
variable {m c:Nat}{a b:Nat->Int × Int}
theorem Jd.ge(h:Jd a b i j):bw (a i) (a j)=false/\(bw (a j) (a i)=false->bw (b i) (b j)=false):=by
 unfold Jd at h
 unfold bw
 rw[decide_eq_false_iff_not,decide_eq_false_iff_not,decide_eq_false_iff_not]
 lia
end
end BH
end
section
namespace L2
open PySem PySem.Spec PyProof.Rows
theorem ahl{X:Cx}(hc:X.calm=true):eN X (.builtin "max") (λxs H Q=>∃p a b,xs=[.ref p]/\aW X.K H p [.int a,.int b]/\Q (.int (if b > a then b else a)) H):=by
 intro pins s σ H xs us Q I r h
 obtain⟨p,a,b,rfl,hq,q⟩:=h
 obtain⟨u,rfl,rx⟩:=vals1 r
 cases rx
 obtain⟨its,r',pl,hz⟩:=I.tuple hq
 obtain⟨t1,t2,rfl⟩:∃t1 t2,its=[.int a t1,.int b t2]:=by
  cases r' with
  |cons h1 r' =>
   cases r' with
   |cons h2 r' =>
    cases r'
    obtain⟨t1,rfl⟩:=h1
    obtain⟨t2,rfl⟩:=h2
    exact⟨t1,t2,rfl⟩
 have ie:intItems #[(a,t1),(b,t2)] = #[.int a t1,.int b t2]:=by simp[intItems]
 have hl:s.heap.IsTuple p (intItems #[(a,t1),(b,t2)]):=by rw[ie]; exact pl
 have hlt:p<s.heap.objs.size:=by obtain⟨_,e,_⟩:=hl; exact Heap.lt_size e
 refine call_max_walk (iter_tuple pl ?_)
 refine⟨_,_,_,_,_,_,_,rfl,Walks.tuple (A:=X.A.in1) (I.ok.hd hc) _ p (Nat.ne_of_lt hlt) (intItems #[(a,t1),(b,t2)]),⟨⟨_,Heap.get?_push_size _ rfl,rfl,rfl⟩,IsTup.push hl _⟩,λc hm=>?_,by simp[intItems],CmpOf.ints_gt (numAt #[(a,t1),(b,t2)]) (λ_ _=>intItems_at),λv h' tk hP hk=>?_⟩
 .show c<(s.heap.push _).objs.size
  rw[Heap.size_push]
  rcases List.mem_cons.mp hm with rfl|hm
  .exact Nat.lt_succ_self _
  .rcases List.mem_cons.mp hm with rfl|hm
   .exact Nat.lt_succ_of_lt hlt
   .cases hm
 .obtain⟨t,rfl⟩:=intItems_at hP
  refine⟨.int (if b > a then b else a),H,I.kept (λc o e=>hk c o (λm=>?_) (Heap.get?_push_of_some _ e)),?_,q⟩
  .rcases List.mem_cons.mp m with rfl|m
   .exact Nat.lt_irrefl _ (Heap.lt_size e)
   .cases m
  .have e:numAt #[(a,t1),(b,t2)] (argBest (λi j=>decide (numAt #[(a,t1),(b,t2)] i > numAt #[(a,t1),(b,t2)] j)) ((intItems #[(a,t1),(b,t2)]).size-1))=if b > a then b else a:=by
    rw[ie]
    show numAt #[(a,t1),(b,t2)] (if decide (numAt #[(a,t1),(b,t2)] 1 > numAt #[(a,t1),(b,t2)] 0)=true then 1 else 0)=_
    have n0:numAt #[(a,t1),(b,t2)] 0=a:=rfl
    have n1:numAt #[(a,t1),(b,t2)] 1=b:=rfl
    rw[n0,n1]
    by_cases c:b > a
    .rw[if_pos c,if_pos (decide_eq_true c),n1]
    .rw[if_neg c,if_neg (by simpa using c),n0]
   rw[e]
   exact⟨_,rfl⟩
noncomputable def tu:G1
 |.tup [.int i,.int j]=>.ok (.int (if j > i then j else i),false)
 |_=>.bad
theorem ahm{K:PySem.W.Frag}:jP (aq K) (λx H Q=>∃p a b,[x]=[V.ref p]/\aW K H p [.int a,.int b]/\Q (.int (if b > a then b else a)) H) tu:=⟨λa c=>by unfold tu; split <;> (intro z; cases z),λG H x a Q s rx h=>by
 unfold tu at h
 split at h
 case h_2=>exact h.elim
 obtain⟨p,xs,rfl,q,r⟩:=rx.tup s
 cases r with
 |cons r1 r =>
  cases r with
  |cons r2 r =>
   cases r
   cases r1
   cases r2
   exact⟨p,_,_,rfl,q.toK,h _ G H (.refl s) (.int _)⟩⟩
noncomputable abbrev ahn{f:AF}(a:VA f):=vB "max" (.builtin "max") (λK xs H Q=>∃p a b,xs=[.ref p]/\aW K H p [.int a,.int b]/\Q (.int (if b > a then b else a)) H) (g1 tu) (bb (by decide +kernel) (by decide +kernel)) (λo=>ahl o.l) (λ_=>qT ahm) a
end L2
end
section
namespace K96
open PySem L2 BH
noncomputable def top(i:Nat):Stmt:=PySem.Challenge.pw_bestheads_k96_whole_rooms_of_a_book.main.body.getD i (.Pass ⟨0,0,0,0⟩)
noncomputable def Jf(i j:Nat):Stmt:=match top i with
 |.ClassDef _ _ _ body _ _ _ _ _ _ _=>body.getD j (.Pass ⟨0,0,0,0⟩)
 |_=>.Pass ⟨0,0,0,0⟩
noncomputable abbrev W2:=(bC (sA 2 (aE (vC (.int 0)))) (bC (sI (tK (aP mG (aj 1) (dX (ak (aj 0) ao)))) (b1 (sA 2 (aE (aC (aj 0) (aj 1))))) b0) (bC (sI (tK (aP HD (aj 2) (n6 (vC (.int 10)) (vC (.int 18))))) (b1 (aG (j7 (pR (aj 2) (n6 (vC (.int 10)) (vC (.int 18)))) (n6 (vC (.int 10)) (vC (.int 60)))))) b0) (bC (sA 3 (aE (j7 (fW (fW (bU (aj 2) (vC (.int 48271))) (bU (aj 1) (vC (.int 69621)))) (vC (.int 11))) (vC (.int 2147483629))))) (bC (sA 4 (aE (vC (.int 0)))) (bC (sN (sF (j4 (ak (vC (.int 8)) ao)) (gV 5) (bC (sA 3 (aE (j7 (fW (fW (bU (aj 3) (aj 3)) (bU (vC (.int 69621)) (aj 5))) (vC (.int 7))) (vC (.int 2147483587))))) (b1 (sA 4 (aE (fW (bU (aj 4) (vC (.int 2147483563))) (j7 (bU (aj 3) (aj 3)) (vC (.int 2147483563)))))))))) (b1 (aG (aj 4)))))))))
noncomputable abbrev aho:SF:=by exists W2
noncomputable def Al:FP:=aN 6 aho
noncomputable abbrev Jg{f:AF}(a:VA f):=vF "_law_cell" ["_law_script", "_law_k"] Al 1 a
noncomputable abbrev W3:=(mC (sA 2 (aE (j7 (aC (aj 0) (vC (.int 0))) (aj 1)))) (mC (sS 0 (vC (.int 0)) (mD (aC (aj 0) (vC (.int 0))) (aj 1))) (mR (wE (aj 2)))))
noncomputable abbrev ahp:DM:=vq W3
noncomputable def Am:FM:=jG 3 ahp
noncomputable abbrev mJ(i:Nat){f:AF}(a:VA f):=Td "_law_take" ["_law_pile", "_law_size"] Am 1 i a
noncomputable abbrev W4:=(bC (sN (sW (RQ 1) (tK (aP ji (aj 1) (vC (.int 0)))) (b1 (Qz 0 1 (ak (aj 1) (ak (j7 (aj 0) (aj 1)) ao)))))) (b1 (aG (R3 (ak (aj 0) ao)))))
noncomputable abbrev ahq:SF:=by exists W4
noncomputable def W5:FP:=aN 2 ahq
noncomputable abbrev ahr{f:AF}(a:VA f):=vF "_law_shared" ["_law_one", "_law_other"] W5 1 a
noncomputable abbrev W6:=(bC (sA 2 (aE (ahr (ak (aj 0) (ak (aj 1) ao))))) (bC (sI (tK (aP mG (aj 1) (vC (.int 0)))) (b1 (sA 2 (aE (pR (vC (.int 0)) (aj 2))))) b0) (b1 (aG (jD (ak (mD (aj 0) (aj 2)) (ak (mD (aj 1) (aj 2)) ao)))))))
noncomputable abbrev ahs:SF:=by exists W6
noncomputable def Ao:FP:=aN 3 ahs
noncomputable abbrev Aq{f:AF}(a:VA f):=vF "_law_frac" ["_law_top", "_law_bottom"] Ao 2 a
noncomputable abbrev W7:=(mC (sA 1 (aE (aC (Qd [.int 1,.int 2,.int 3,.int 4,.int 6,.int 10,.int 12]) (jm (mJ 0 (ak (vC (.int 7)) ao)))))) (mC (sA 2 (aE (jm (mJ 0 (ak (fW (aj 1) (vC (.int 1))) ao))))) (mC (sI (tK (aP cY (jm (mJ 0 (ak (vC (.int 8)) ao))) (vC (.int 7)))) (bC (sA 2 (aE (pR (fW (bU (aj 2) (n6 (vC (.int 10)) (vC (.int 10)))) (jm (mJ 0 (ak (vC (.int 5)) ao)))) (vC (.int 2))))) (b1 (sA 1 (aE (bU (aj 1) (n6 (vC (.int 10)) (vC (.int 10)))))))) b0) (mR (wE (Aq (ak (aft (ak (vC (.int 0)) (ak (afs (ak (aj 1) (ak (aj 2) ao))) ao))) (ak (aj 1) ao))))))))
noncomputable abbrev aht:DM:=vq W7
noncomputable def Jh:FM:=jG 3 aht
noncomputable abbrev ahu(i:Nat){f:AF}(a:VA f):=Td "_law_worth" ["_law_pile"] Jh 3 i a
noncomputable abbrev W8:=(bC (sO 4 (aE (uP ao))) (bC (sN (sF (j4 (ak (aj 2) ao)) (gV 5) (bC (sO 6 (aE (uP (ak (Jg (ak (aj 0) (ak (fW (aj 1) (aj 5)) ao))) ao)))) (b1 (jf (afw 4 (ak (gO (cC [none,some 6] ["_law_thing", "_law_pile"] (j4 (ak (aj 3) ao)) (gV 0) (jm (ahu 1 ao)))) ao))))))) (b1 (aG (aj 4)))))
noncomputable abbrev ahv:SF:=by exists W8
noncomputable def Ji:FP:=aN 7 ahv
noncomputable abbrev ahw{f:AF}(a:VA f):=vF "_law_book" ["_law_script", "_law_start", "_law_lists", "_law_many"] Ji 4 a
noncomputable abbrev W9:=(bC (sO 2 (aE (uP (ak (aj 0) ao)))) (bC (sA 3 (aE (jm (mJ 2 (ak (vC (.int 6)) ao))))) (bC (sI (tK (aP mG (aj 3) (vC (.int 2)))) (bC (sA 4 (cC [none,some 2] ["_law_place", "_law_pile"] (j4 (ak (aj 1) ao)) (gV 0) (jD (ak (jm (mJ 1 (ak (vC (.int 7)) ao))) (ak (fW (vC (.int 1)) (jm (mJ 1 (ak (vC (.int 4)) ao)))) ao))))) (bC (sI (tK (aP cY (jm (mJ 2 (ak (vC (.int 8)) ao))) (vC (.int 7)))) (b1 (sA 4 (cC [none,none] ["_law_top", "_law_bottom"] (dW (aj 4)) (jX 2 (eH (gV 0) (eH (gV 1) jW))) (jD (ak (fW (bU (aj 0) (n6 (vC (.int 10)) (vC (.int 11)))) (vC (.int 1))) (ak (bU (aj 1) (n6 (vC (.int 10)) (vC (.int 11)))) ao)))))) b0) (b1 (aG (jD (ak (vC (.str "shares")) (ak (gO (cC [none,none] ["_law_top", "_law_bottom"] (dW (aj 4)) (jX 2 (eH (gV 0) (eH (gV 1) jW))) (Aq (ak (aj 0) (ak (aj 1) ao))))) ao))))))) b0) (bC (sI (tK (aP cY (aj 3) (vC (.int 2)))) (b1 (aG (jD (ak (vC (.str "middle")) (ak (fW (vC (.int 1)) (jm (mJ 2 (ak (aj 1) ao)))) ao))))) b0) (b1 (aG (aC (Qd [.tup [.str "least"],.tup [.str "greatest"],.tup [.str "product"]]) (pR (aj 3) (vC (.int 3))))))))))
noncomputable abbrev ahx:SF:=by exists W9
noncomputable def Xa:FP:=aN 5 ahx
noncomputable abbrev ahy{f:AF}(a:VA f):=vF "_law_rule" ["_law_cell_here", "_law_lists"] Xa 3 a
noncomputable abbrev Xb:=(b1 (aG (R4 (ak (gO (cC [none,none] ["_law_thing", "_law_worth_here"] (dW (Vv (ak (aj 0) (ak (aj 1) (ak (aj 2) ao))))) (jX 2 (eH (gV 0) (eH (gV 1) jW))) (aj 0))) ao))))
noncomputable abbrev ahz:SF:=by exists Xb
noncomputable def Jj:FP:=aN 3 ahz
noncomputable abbrev Xc{f:AF}(a:VA f):=vF "_law_things" ["_law_book_here", "_law_rule_here", "_law_count"] Jj 10 a
noncomputable abbrev Xd:=(b1 (aG (Aq (ak (bU (aC (aj 0) (vC (.int 0))) (aC (aj 1) (vC (.int 0)))) (ak (bU (aC (aj 0) (vC (.int 1))) (aC (aj 1) (vC (.int 1)))) ao)))))
noncomputable abbrev ahA:SF:=by exists Xd
noncomputable def Jk:FP:=aN 2 ahA
noncomputable abbrev Jl{f:AF}(a:VA f):=vF "_law_by" ["_law_one", "_law_other"] Jk 3 a
noncomputable abbrev Xe:=(b1 (aG (Aq (ak (fW (bU (aC (aj 0) (vC (.int 0))) (aC (aj 1) (vC (.int 1)))) (bU (aC (aj 1) (vC (.int 0))) (aC (aj 0) (vC (.int 1))))) (ak (bU (aC (aj 0) (vC (.int 1))) (aC (aj 1) (vC (.int 1)))) ao)))))
noncomputable abbrev ahB:SF:=by exists Xe
noncomputable def Jm:FP:=aN 2 ahB
noncomputable abbrev Xf{f:AF}(a:VA f):=vF "_law_plus" ["_law_one", "_law_other"] Jm 3 a
noncomputable abbrev Xg:=(b1 (aG (vK (aP mG (bU (aC (aj 0) (vC (.int 0))) (aC (aj 1) (vC (.int 1)))) (bU (aC (aj 1) (vC (.int 0))) (aC (aj 0) (vC (.int 1))))))))
noncomputable abbrev ahC:SF:=by exists Xg
noncomputable def Jo:FP:=aN 2 ahC
noncomputable abbrev Xh{f:AF}(a:VA f):=vF "_law_below" ["_law_one", "_law_other"] Jo 1 a
noncomputable abbrev Xi:=(bC (sO 1 (aE (uP ao))) (bC (sN (sF (dW (aj 0)) (gV 2) (bC (sA 3 (aE (vC (.int 0)))) (bC (sW (fuL 1) (tW .And (wA (tK (aP mG (aj 3) (dX (ak (aj 1) ao)))) (w1 .And (eV (eE (Xh (ak (aC (aj 1) (aj 3)) (ak (aj 2) ao)))))))) (b1 (sA 3 (aE (fW (aj 3) (vC (.int 1))))))) (b1 (jf (afx 1 (ak (aj 3) (ak (aj 2) ao))))))))) (b1 (aG (aj 1)))))
noncomputable abbrev ahD:SF:=by exists Xi
noncomputable def Jp:FP:=aN 4 ahD
noncomputable abbrev ahE{f:AF}(a:VA f):=vF "_law_falling" ["_law_worths"] Jp 2 a
noncomputable abbrev Xj:=(bC (sI (tK (aP cY (aC (aj 0) (vC (.int 0))) (vC (.str "shares")))) (bC (sA 2 (aE (nH [.int 0,.int 1]))) (bC (sN (sF (iZ (ak (aC (aj 0) (vC (.int 1))) (ak (aj 1) ao))) (jX 2 (eH (gV 3) (eH (gV 4) jW))) (b1 (sA 2 (aE (Xf (ak (aj 2) (ak (Jl (ak (aj 3) (ak (aj 4) ao))) ao)))))))) (b1 (aG (aj 2))))) b0) (bC (sI (tK (aP cY (aC (aj 0) (vC (.int 0))) (vC (.str "product")))) (bC (sA 2 (aE (nH [.int 1,.int 1]))) (bC (sN (sF (dW (aj 1)) (gV 4) (b1 (sA 2 (aE (Jl (ak (aj 2) (ak (aj 4) ao)))))))) (b1 (aG (aj 2))))) b0) (bC (sA 5 (aE (dX (ak (aj 1) ao)))) (bC (sI (tK (aP cY (aC (aj 0) (vC (.int 0))) (vC (.str "greatest")))) (b1 (sA 5 (aE (vC (.int 1))))) b0) (bC (sI (tK (aP cY (aC (aj 0) (vC (.int 0))) (vC (.str "middle")))) (b1 (sA 5 (aE (aC (aj 0) (vC (.int 1)))))) b0) (b1 (aG (aC (ahE (ak (aj 1) ao)) (pR (aj 5) (vC (.int 1)))))))))))
noncomputable abbrev ahF:SF:=by exists Xj
noncomputable def tB:FP:=aN 6 ahF
noncomputable abbrev ahG{f:AF}(a:VA f):=vF "_law_made" ["_law_rule_here", "_law_worths"] tB 4 a
noncomputable abbrev Xk:=(b1 (aG (gO (cC [none,some 1,some 0] ["_law_thing", "_law_rule_here", "_law_book_here"] (j4 (ak (dX (ak (aC (aj 0) (vC (.int 0))) ao)) ao)) (gV 0) (ahG (ak (aj 1) (ak (gO (cC [none,some 0] ["_law_worths", "_law_thing"] (dW (aj 2)) (gV 0) (aC (aj 0) (aj 1)))) ao)))))))
noncomputable abbrev ahH:SF:=by exists Xk
noncomputable def Xl:FP:=aN 2 ahH
noncomputable abbrev ahI{f:AF}(a:VA f):=vF "_law_of_things" ["_law_book_here", "_law_rule_here"] Xl 5 a
noncomputable abbrev Xm:=(bC (sA 3 (aE (ahI (ak (aj 0) (ak (aj 1) ao))))) (bC (sN (sF (dW (aj 2)) (gV 4) (b1 (sF (j4 (ak (dX (ak (aj 3) ao)) ao)) (gV 5) (b1 (sI (tW .And (wA (tK (aP R0 (aj 5) (aj 2))) (w1 .And (eE (Xh (ak (aC (aj 3) (aj 4)) (ak (aC (aj 3) (aj 5)) ao))))))) (b1 (aG (vC (.bl false)))) b0)))))) (b1 (aG (vC (.bl true))))))
noncomputable abbrev ahJ:SF:=by exists Xm
noncomputable def Ar:FP:=aN 6 ahJ
noncomputable abbrev ahK{f:AF}(a:VA f):=vF "_law_are_best" ["_law_book_here", "_law_rule_here", "_law_things_here"] Ar 6 a
noncomputable abbrev Xn:=(bC (sA 6 (aE (Io (ak (aj 0) (ak (aj 1) (ak (aj 2) (ak (aj 3) (ak (aj 4) ao)))))))) (bC (sI (tW .Or (wO (tK (aP cY (aj 2) (vC (.int 0)))) (w1 .Or (tK (aP cY (aj 2) (dX (ak (aC (aj 0) (vC (.int 0))) ao))))))) (b1 (aG (vK (aP cY (aj 6) (nH [.tup [.int 0,.int 1],.tup [.int 1,.int 1]]))))) b0) (bC (sI (tW .Or (wO (tW .And (wA (tK (aP rR (aj 4) (aj 5))) (w1 .And (tK (aP ji (aC (aj 6) (vC (.int 1))) (nH [.int 1,.int 1])))))) (w1 .Or (tW .And (wA (tK (aP R0 (aj 4) (aj 5))) (w1 .And (tK (aP ji (aC (aj 6) (vC (.int 0))) (nH [.int 0,.int 1]))))))))) (b1 (aG (vC (.bl false)))) b0) (bC (sA 7 (aE (uP (ak (aC (aj 6) (vC (.int 0))) (ak (aC (aj 6) (vC (.int 1))) (ak (Jl (ak (Xf (ak (aC (aj 6) (vC (.int 0))) (ak (aC (aj 6) (vC (.int 1))) ao))) (ak (nH [.int 1,.int 2]) ao))) ao)))))) (bC (sN (sF (dW (gO (Q8 [none,some 6] ["_law_one", "_law_found"] (dW (aj 7)) (gV 0) (tW .Or (wO (tK (aP mG (ahn (ak (aj 0) ao)) (n6 (vC (.int 10)) (vC (.int 12))))) (w1 .Or (tK (aP rR (aj 0) (aj 1)))))) (aj 0)))) (gV 8) (bC (sCd 9 [none] ["_law_worths"] (dW (aj 0)) (gV 0) (zU (ak (aj 0) ao))) (bC (sSd 9 3 4 (aj 8)) (bC (sD 9 (sA 10 (aE (Xc (ak (aj 9) (ak (aj 1) (ak (aj 2) ao))))))) (bC (sD 9 (sI (tW .And (wA (tK (aP cY (aj 10) (aj 5))) (w1 .And (tK (aP ji (Io (ak (aj 9) (ak (aj 1) (ak (aj 2) (ak (aj 3) (ak (aj 4) ao)))))) (aj 6)))))) (b1 (aG (vC (.bl false)))) b0)) (b1 (sD 9 (sI (tW .And (wA (tK (aP ji (aj 10) (aj 5))) (w1 .And (eV (eE (ahK (ak (aj 9) (ak (aj 1) (ak (aj 5) ao))))))))) (b1 (aG (vC (.bl false)))) b0))))))))) (b1 (aG (vC (.bl true)))))))))
noncomputable abbrev ahL:SF:=by exists Xn
noncomputable def Xo:FP:=aN 11 ahL
noncomputable abbrev ahM{f:AF}(a:VA f):=vF "_law_good" ["_law_book_here", "_law_rule_here", "_law_count", "_law_place", "_law_thing", "_law_things_here"] Xo 12 a
noncomputable abbrev Xp:=(mC (jf (Il (ak (aj 1) (ak (aj 2) (ak (aj 3) ao))))) (mC (sFW 0 "Keeper" "rows" (agV (ak (aj 1) ao))) (mC (vH 0 "Keeper" "rule" (agT (ak (aj 2) ao))) (mC (vH 0 "Keeper" "wanted" (aj 3)) (mC (vH 0 "Keeper" "kept" (Vy (ak (aj 1) (ak (aj 2) (ak (aj 3) ao))))) (mC (vH 0 "Keeper" "kept_before" (pW 0 "Keeper" "kept")) (mC (vH 0 "Keeper" "changes" (vC (.int 0))) m0)))))))
noncomputable abbrev ahN:DM:=vq Xp
noncomputable def Xq:FM:=jG 4 ahN
noncomputable abbrev ahO(i:Nat){f:AF}(a:VA f):=sNw i "Keeper" ["self", "book", "rule", "count"] Xq 11 a
noncomputable abbrev Xr:=(mR (R7 (wE (zU (ak (pW 0 "Keeper" "kept") ao)))))
noncomputable abbrev ahP:DM:=vq Xr
noncomputable def Xu:FM:=jG 1 ahP
noncomputable abbrev ahQ(i:Nat):=afR i "Keeper" "things" Xu 1
noncomputable abbrev Xv:=(mC (jf (Sy (U0 (ak (pW 0 "Keeper" "rows") (ak (aj 1) ao))))) (mC (jf (Sy (VH (ak (pW 0 "Keeper" "rows") (ak (aj 2) ao))))) (mR (R7 (wE (V2 (ak (pW 0 "Keeper" "rows") (ak (pW 0 "Keeper" "rule") (ak (pW 0 "Keeper" "kept") (ak (aj 1) (ak (aj 2) ao)))))))))))
noncomputable abbrev ahR:DM:=vq Xv
noncomputable def Xw:FM:=jG 3 ahR
noncomputable abbrev ahS(i:Nat){f:AF}(a:VA f):=mtX i "Keeper" "room" ["self", "place", "thing"] Xw 8 a
noncomputable abbrev Xx:=(bC (sA 1 (aE (Jg (ak (aj 0) (ak (vC (.int 0)) ao))))) (bC (sA 2 (aE (fW (vC (.int 1)) (j7 (aj 1) (vC (.int 4)))))) (bC (sA 3 (aE (fW (vC (.int 1)) (j7 (mD (aj 1) (vC (.int 4))) (vC (.int 12)))))) (bC (sA 4 (aE (ahw (ak (aj 0) (ak (vC (.int 1)) (ak (aj 2) (ak (aj 3) ao))))))) (bC (sA 5 (aE (ahy (ak (Jg (ak (aj 0) (ak (vC (.int 5)) ao))) (ak (aj 2) ao))))) (bC (sA 6 (aE (j7 (mD (aj 1) (vC (.int 48))) (fW (aj 3) (vC (.int 1)))))) (bC (sA 7 (aE (Xc (ak (aj 4) (ak (aj 5) (ak (aj 6) ao)))))) (bC (ahO 8 (ak (aj 4) (ak (aj 5) (ak (aj 6) ao)))) (bC (sI (tK (aP ji (jm (ahQ 8)) (aj 7))) (b1 (aG (vC (.bl false)))) b0) (bC (sN (sF (j4 (ak (aj 2) ao)) (gV 9) (b1 (sF (j4 (ak (aj 3) ao)) (gV 10) (bC (sI (tK (aP ji (jm (ahS 8 (ak (aj 9) (ak (aj 10) ao)))) (Io (ak (aj 4) (ak (aj 5) (ak (aj 6) (ak (aj 9) (ak (aj 10) ao)))))))) (b1 (aG (vC (.bl false)))) b0) (b1 (sI (eV (eE (ahM (ak (aj 4) (ak (aj 5) (ak (aj 6) (ak (aj 9) (ak (aj 10) (ak (aj 7) ao))))))))) (b1 (aG (vC (.bl false)))) b0))))))) (b1 (aG (vC (.bl true))))))))))))))
noncomputable abbrev ahT:SF:=by exists Xx
noncomputable def tD:FP:=aN 11 ahT
theorem p18:kJ (.int 10) (.int 18)=.ok (.int 1000000000000000000,false):=by kernel_rfl
theorem p60:kJ (.int 10) (.int 60)=.ok (.int 1000000000000000000000000000000000000000000000000000000000000,false):=by kernel_rfl
theorem wH{rows:List (List (Int × Int))}(h:0<rows.length):aX (aQ rows) (.int 0)=.ok (aJ (rows.getD 0 []),false):=jw h
theorem mW{α : Type}{f : α -> Tr}{l:List α}{d:Nat}:oA none (some (d:Int)) (.lst (l.map f))=.ok (.lst ((l.take d).map f),true):=by
 show Rs.ok (Tr.lst (cut (l.map f) none (some (d:Int))),true)=_
 rw[agZ,<-List.map_take]
theorem cell_eq(ns:List Int)(k:Nat):∃x:Int,Al [.lst (ns.map .int),.int k]=.ok (.int x,false):=by
 suffices h:∃z,Al [.lst (ns.map .int),.int k]=.ok z/\∃x:Int,z=(.int x,false) by
  obtain⟨_,e,x,rfl⟩:=h
  exact⟨x,e⟩
 have a1:=p18
 have a2:=p60
 have c2:∀c:Int,cV (c.fmod 2147483587) (c.fmod 2147483587)=true:=λc=>by
  have:=j8 c 2147483587 (by lia)
  exact jo (M:=40) (N:=40) (by lia) (by lia) (by lia) (by lia)
 have fin:∀c:Int,0<=c.fmod 2147483629/\c.fmod 2147483629<2147483648:=λc=>by
  have:=j8 c 2147483629 (by lia)
  lia
 have Xy:∀c:Int,0<=c.fmod 2147483587/\c.fmod 2147483587<2147483648:=λc=>by
  have:=j8 c 2147483587 (by lia)
  lia
 by_cases z:k<ns.length
 .have g:=kY (f:=Tr.int) 0 z
  by_cases y:1000000000000000000<=ns.getD k 0
  .walk_at "e"
   exact⟨_,rfl,_,rfl⟩
  .walk_at "e"
   refine rY [5] (λs:Int × Int=>[(3,.sh (.int s.1)),(4,.sh (.int s.2))]) (λ_ s=>0<=s.1/\s.1<2147483648) ((ns.getD k 0*48271+(k:Int)*69621+11).fmod 2147483629,0) (fin _) rfl (λt v s _ i=>?_) (λv s i=>?_)
   .obtain⟨a,b⟩:=s
    have c0:cV a a=true:=jo (M:=40) (N:=40) (by have:=i.1; lia) (by lia) (by have:=i.1; lia) (by lia)
    walk_at "p"
    refine⟨(_,_),?_,exV rfl⟩
    exact Xy _
   .walk_at "p"
    exact⟨_,rfl,_,rfl⟩
 .walk_at "e"
  refine rY [5] (λs:Int × Int=>[(3,.sh (.int s.1)),(4,.sh (.int s.2))]) (λ_ s=>0<=s.1/\s.1<2147483648) ((0*48271+(k:Int)*69621+11).fmod 2147483629,0) (fin _) rfl (λt v s _ i=>?_) (λv s i=>?_)
  .obtain⟨a,b⟩:=s
   have c0:cV a a=true:=jo (M:=40) (N:=40) (by have:=i.1; lia) (by lia) (by have:=i.1; lia) (by lia)
   walk_at "p"
   refine⟨(_,_),?_,exV rfl⟩
   exact Xy _
  .walk_at "p"
   exact⟨_,rfl,_,rfl⟩
theorem ahU(ns:List Int){i:Int}(h:0<=i):∃x:Int,Al [.lst (ns.map .int),.int i]=.ok (.int x,false):=by
 obtain⟨k,rfl⟩:=Int.eq_ofNat_of_zero_le h
 exact cell_eq ns k
theorem snoc{α : Type}{p : α -> Prop}{l:List α}{x : α}(h:∀y∈l,p y)(k:p x):∀y∈l++[x],p y:=λy hy=>(List.mem_append.mp hy).elim (h y) λz=>List.mem_singleton.mp z▸k
theorem ahV{α β : Type}{f : α -> β}{l:List α}{x : α}:l.map f++[f x]=(l++[x]).map f:=by simp
theorem ahW(a b:Int):W5 [.int a,.int b]=.ok (.int (Int.gcd a b:Nat),false):=z9 a b
theorem tE{a b:Int}{M:Nat}(hb:1<=b)(hb2:b<2 ^ M)(hM:M<=8900):Ao [.int a,.int b]=.ok (fT (red a b),false):=by
 have g:=ahW a b
 have np:=gP M
 obtain⟨g1,g2,_⟩:=qN (a:=a) (b:=b) (by lia)
 have c1:∀n,iI n ((Int.gcd a b:Nat):Int)=true:=λn=>z8 (M:=M) (by lia) (by lia) hM
 walk_at "d"
 unfold fT red
 rw[Int.fdiv_eq_ediv_of_nonneg _ (by lia),Int.fdiv_eq_ediv_of_nonneg _ (by lia)]
 rfl
noncomputable abbrev pi(x:Int):Sl:=.rf [.int x]
theorem mK{x s:Int}(h1:1<=s)(h2:s<2 ^ 64):Am (pi x) [.int s]=.ok (.int (x.fmod s),pi (x.fdiv s)):=by
 walk_at "f"
theorem Xz{z b:Int}(h0:0<=z)(h1:z<=b)(h2:1<=b)(h3:b<=1000000000000):Wo (red z b):=by
 obtain⟨g1,g2,g3,g4,g5,g6,g7⟩:=qN (a:=z) (b:=b) (by lia)
 have d2:=Int.ediv_le_self (a:=b) ((Int.gcd z b:Nat):Int) (by lia)
 have d3:=Int.ediv_le_ediv g1 h1
 exact⟨g5 h0,d3,g3,by show b / ((Int.gcd z b:Nat):Int)<=_; lia,g4⟩
theorem XC{α : Type}{t : α -> Tr}{P : α -> Prop}{fe:EF}(hf:∀u x,∃a y,fe [.sh u,.ow [.int x]]=.ok (.v (t a) false,[.sh u,.ow [.int y]])/\P a):∀(us:List Tr) (s:Sl) (x:Int),∃(as:List α) (y:Int) (s':Sl),as.length=us.length/\(∀a∈as,P a)/\fV (gN 0) gW fe us [s,.ow [.int x]]=.ok (as.map t,[s',.ow [.int y]])
 | [],s,x=>⟨[],x,s,rfl,(λ_ h=>by cases h),rfl⟩
 |u::us,s,x=>by
  obtain⟨a,y,e,p⟩:=hf u x
  obtain⟨as,z,s',l,q,e'⟩:=XC hf us (.sh u) y
  exact⟨a::as,z,s',by rw[List.length_cons,List.length_cons,l],List.forall_mem_cons.mpr ⟨p,q⟩,bk (a:=[.sh u,.ow [.int x]]) rfl (bk rfl ((if_pos rfl).trans (bk e (bk rfl (bk e' rfl)))))⟩
theorem XD{α : Type}{t : α -> Tr}{P : α -> Prop}{fe:EF}(n:Nat)(hn:n<=100000)(x:Int)(hf:∀u x,∃a y,fe [.sh u,.ow [.int x]]=.ok (.v (t a) false,[.sh u,.ow [.int y]])/\P a):∃(as:List α) (y:Int),as.length=n/\(∀a∈as,P a)/\∀(ρ ρ':En) (fi:IF) (i:Nat),fi ρ=.ok ((List.range n).map λi:Nat=>.int i,ρ) -> ρ[i]?=some (.ow [.int x]) -> ρ.set i (.ow [.int y]) = ρ'->mj [none,some i] fi (gN 0) gW fe ρ=.ok (.v (.lst (as.map t)) true,ρ'):=by
 obtain⟨as,y,s',l,p,e⟩:=XC hf ((List.range n).map λi:Nat=>.int i) .un x
 refine⟨as,y,by rw[l,List.length_map,List.length_range],p,λρ ρ' fi i hi k q=>?_⟩
 subst q
 refine bk hi ((if_pos (by rw[List.length_map,List.length_range]; exact hn)).trans ?_)
 have u:cO [none,some i] ρ=[.un,.ow [.int x]]:=by unfold cO; simp only[List.map,k]; rfl
 rw[u]
 show(cU (fV _ _ _ _ _)).bind _=_
 rw[e]
 refine bk rfl ((if_pos (by unfold dG dG; rw[k]; rfl)).trans ?_)
 have d:aY [none,some i] [s',.ow [.int y]] ρ = ρ.set i (.ow [.int y]):=by
  unfold aY aY
  unfold bH
  rw[k]
  unfold aY
  rfl
 rw[d]
theorem p10:kJ (.int 10) (.int 10)=.ok (.int 10000000000,false):=by kernel_rfl
theorem p11:kJ (.int 10) (.int 11)=.ok (.int 100000000000,false):=by kernel_rfl
theorem ahX(x:Int):∃b:Int,aX (.lst [.int 1,.int 2,.int 3,.int 4,.int 6,.int 10,.int 12]) (.int (x.fmod 7))=.ok (.int b,false)/\1<=b/\b<=12:=by
 have r:=j8 x 7 (by lia)
 obtain⟨k,hk⟩:=Int.eq_ofNat_of_zero_le r.1
 rw[hk]
 have:k<7:=by lia
 rcases k with _|_|_|_|_|_|_|k <;> first|exact⟨_,rfl,by decide,by decide⟩|lia
theorem clamp{b z:Int}(hb:1<=b):0<=(if(if z<b then z else b) > 0 then(if z<b then z else b)else 0)/\(if(if z<b then z else b) > 0 then(if z<b then z else b)else 0)<=b:=by
 split <;> split <;> lia
theorem XF{F:FM}{S:Sl}{as:List Tr}{P:Int × Int->Prop}{w:Int × Int}{y:Int}(h:F S as=.ok (fT w,pi y))(k:P w):∃w y,F S as=.ok (fT w,pi y)/\P w:=⟨_,_,h,k⟩
theorem ahY(x:Int):∃w y,Jh (pi x) []=.ok (fT w,pi y)/\Wo w:=by
 have a1:=p10
 obtain⟨b,eb,b1,b2⟩:=ahX x
 have t1:=mK (x:=x) (s:=7) (by lia) (by lia)
 have t2:=mK (x:=x.fdiv 7) (s:=b+1) (by lia) (by lia)
 have t3:=mK (x:=(x.fdiv 7).fdiv (b+1)) (s:=8) (by lia) (by lia)
 have t4:=mK (x:=((x.fdiv 7).fdiv (b+1)).fdiv 8) (s:=5) (by lia) (by lia)
 by_cases h:((x.fdiv 7).fdiv (b+1)).fmod 8=7
 .apply XF
  .walk_at "f"
   exact tE (M:=60) (by lia) (by lia) (by lia)
   walk_at "r"
  .exact Xz (clamp (by lia)).1 (clamp (by lia)).2 (by lia) (by lia)
 .apply XF
  .walk_at "f"
   exact tE (M:=60) (by lia) (by lia) (by lia)
   walk_at "r"
  .exact Xz (clamp (by lia)).1 (clamp (by lia)).2 (by lia) (by lia)
theorem XH(rows:List (List (Int × Int)))(t:Nat):(.lst (rows.map λl=>fT (l.getD t (0,1))))=aJ (BH.col rows t):=by
 unfold aJ BH.col
 rw[List.map_map]
 refine congrArg Tr.lst (List.ext_getElem? λi=>?_)
 by_cases z:i<rows.length
 .simp[z,jq]
 .simp[z]
noncomputable def Bq(m:Nat)(rows:List (List (Int × Int))):Prop:=1<=rows.length/\rows.length<=4/\1<=m/\m<=12/\∀l∈rows,l.length=m/\∀x∈l,Fq 1620 x/\x.1<=x.2
noncomputable abbrev vv(r:Ru)(rows:List (List (Int × Int)))(t:Nat):Int × Int:=wv r (BH.col rows t)
structure Kp(m:Nat)(r:Ru)(rs:List (List (Int × Int)))(k:List Nat):Prop where
 x1:∀t∈k,t<m
 x2:k.length<=12
 x3:jr (vv r rs) (vv r rs) m k
section
variable {m c:Nat}{rows:List (List (Int × Int))}{r:Ru}
theorem bq(hB:Bk m rows):Bq m rows:=⟨hB.1,hB.2.1,hB.2.2.1,hB.2.2.2.1,λl hl=>⟨(hB.2.2.2.2 l hl).1,λx hx=>⟨((hB.2.2.2.2 l hl).2 x hx).fq.up (by lia),((hB.2.2.2.2 l hl).2 x hx).2.1⟩⟩⟩
theorem Bq.row(hB:Bq m rows)(hk:k<rows.length):rows.getD k []∈rows/\(rows.getD k []).length=m:=by
 have ml:rows.getD k []∈rows:=List.mem_of_getElem? (i:=k) (by simp[hk])
 exact⟨ml,(hB.2.2.2.2 _ ml).1⟩
theorem p7(hB:Bq m rows)(ht:t<m):∀x∈BH.col rows t,Fq 1620 x:=λx mx=>by
 unfold BH.col at mx
 obtain⟨k,mk,rfl⟩:=List.mem_map.mp mx
 obtain⟨ml,l⟩:=hB.row (List.mem_range.mp mk)
 exact((hB.2.2.2.2 _ ml).2 _ (getM (by rw[l]; exact ht))).1
theorem XJ(hB:Bq m rows)(ho:bL rows.length r)(ht:t<m):Wv r (BH.col rows t) (vv r rows t)/\Fq 6700 (vv r rows t):=by
 have q:=p7 hB ht
 have lc:(BH.col rows t).length=rows.length:=iU ..
 have h4:=hB.2.1
 have w:=(Ak (r:=r) (λx mx=>(q x mx).fx) (by rw[lc]; exact hB.1) (by rw[lc]; exact ho)).1
 refine⟨w,?_⟩
 have pl:(∃zs,cu (BH.col rows t) zs/\zs[bJ (BH.col rows t).length r-1]?=some (vv r rows t))->Fq 6700 (vv r rows t):=λ⟨z,d,e⟩=>(q _ (d.1.mem_iff.mp (List.mem_of_getElem? e))).up (by lia)
 cases r with
 |sh ws =>
  have a:vv (.sh ws) rows t=dD (ws.zip (BH.col rows t)) (0,1):=w
  rw[a]
  exact(Ac _ _ 1 sV (Iz ho.2 q)).up (by rw[List.length_zip]; lia)
 |product =>
  have a:vv .product rows t=dF (BH.col rows t) (1,1):=w
  rw[a]
  exact(Ad _ _ 1 sX q).up (by lia)
 |least=>exact pl w
 |greatest=>exact pl w
 |mid k=>exact pl w
theorem Av(hB:Bk m rows)(ho:bL rows.length r)(ht:t<m):Fq 400 (vv r rows t):=Wv.fq (pZ hB ht) (by rw[iU]; exact hB.2.1) (by rw[iU]; exact ho) (ahf (r:=r) hB ho ht).2
theorem XM(hB:Bq m rows)(ht:t<m):Vi [aQ rows,.int t]=.ok (aJ (BH.col rows t),true):=by
 have cm:=XH rows t
 have:=hB.2.1
 rw[<-cm]
 unfold aQ
 walk_at "d"
 have:=(hB.2.2.2.2 x hx).1
 lia
 walk_at "r"
theorem XQ(hB:Bq m rows)(ho:bL rows.length r):Ik [aQ rows,aF r]=.ok (.lst ((List.range m).map λt=>fT (wv r (BH.col rows t))),true):=by
 have g0:aX (aQ rows) (.int 0)=.ok (aJ (rows.getD 0 []),false):=jw hB.1
 have e0:=gZ (rows.getD 0 [])
 rw[(hB.row hB.1).2]at e0
 have h4:=hB.2.1
 have:=hB.2.2.2.1
 walk_at "d"
 exact XM hB hx
 walk_at "r"
 have lc:(BH.col rows x).length=rows.length:=iU ..
 obtain⟨v,e,w⟩:=Ws (r:=r) (p7 hB hx) (by rw[lc]; exact hB.1) (by rw[lc]; lia) (by rw[lc]; lia) (by rw[lc]; exact ho)
 exact e.trans (by rw[<-Aj (λx mx=>⟨(p7 hB hx x mx).2.2.1,(p7 hB hx x mx).2.2.2.2⟩) w])
 walk_at "r"
theorem ahZ{x:Int × Int}(h0:Fq 1620 x)(h2:x.1<=x.2):Uk [fT x]=.ok (.bl true,false):=by
 obtain⟨h1,h3,h5⟩:=h0.fx
 have e:=Wa h3 h5
 walk_at "d"
 exact congrArg (λb=>Rs.ok (Tr.bl b,false)) (decide_eq_true h2)
theorem ah0{l:List (Int × Int)}(h:∀x∈l,Fq 1620 x/\x.1<=x.2)(h1:1<=l.length)(h2:l.length<=12):Um [aJ l,.int 12]=.ok (.bl true,false):=by
 have e:=gZ l
 have t:qK (aJ l) .list=true:=rfl
 have al:=all_true l
 walk_at "d"
 exact ahZ (h x hx).1 (h x hx).2
 walk_at "r"
theorem ah1(hB:Bq m rows):UJ [aQ rows]=.ok (.non,false):=by
 obtain⟨b1,b2,b3,b4,b5⟩:=id hB
 have e:=jK rows
 have e0:aX (aQ rows) (.int 0)=.ok (aJ (rows.getD 0 []),false):=jw b1
 have vY:=gZ (rows.getD 0 [])
 rw[(hB.row b1).2]at vY
 have al:=all_true rows
 have b:Uq [aQ rows]=.ok (.bl true,false):=by
  walk_at "d"
  exact ah0 (b5 x hx).2 (by rw[(b5 x hx).1]; exact b3) (by rw[(b5 x hx).1]; lia)
  walk_at "r"
  rw[List.map_congr_left (g:=λ_=>Tr.bl true) λx hx=>by(try rw[List.length_map]); rw[(b5 x hx).1,decide_eq_true rfl]]
  exact al
  walk_at "r"
 walk_at "d"
theorem Jq(hB:Bq m rows)(ho:bL rows.length r)(hc:c<=m):Vs [aQ rows,aF r,iT c]=.ok (.non,false):=by
 have e:=jK rows
 have e0:aX (aQ rows) (.int 0)=.ok (aJ (rows.getD 0 []),false):=jw hB.1
 have vY:=gZ (rows.getD 0 [])
 rw[(hB.row hB.1).2]at vY
 have e1:=ag6 ho (by have:=hB.2.1; lia)
 have e2:=count_eq hc
 have e3:=ah1 hB
 have e4:Vq [aQ rows,iT c]=.ok (.non,false):=by
  walk_at "d"
  done
 have e5:Vg [aQ rows,aF r]=.ok (.non,false):=by
  walk_at "d"
  done
 walk_at "d"
 done
theorem ah2(hB:Bq m rows)(ho:bL rows.length r)(hV:∀t,t<m->Fq 400 (vv r rows t))(hc:c<=m):∃zs:List Nat,zs.Perm (List.range m)/\jr (vv r rows) (vv r rows) m (zs.take c)/\Vu [aQ rows,aF r,iT c]=.ok (.lst ((zs.take c).map λt=>.tup [iT t,fT (wv r (BH.col rows t))]),true):=by
 have b4:=hB.2.2.2.1
 have e1:=Jq hB ho hc
 have e2:=XQ hB ho
 have fw:∀t,t<m->Fq 400 (wv r (BH.col rows t)):=hV
 have ll:((List.range m).map λt=>wv r (BH.col rows t)).length=m:=by simp
 obtain⟨zs,e3,f⟩:=Ir (N:=400) ((List.range m).map λt=>wv r (BH.col rows t)) (λx mx=>by
  obtain⟨t,mt,rfl⟩:=List.mem_map.mp mx
  obtain⟨q1,q2,q3,q4,_⟩:=fw t (List.mem_range.mp mt)
  have:=gP 400
  exact⟨q3,q4,by lia⟩) (by rw[ll]; lia) (by lia) (by rw[ll]; lia)
 rw[Ah]at e3
 have p:=f.1
 rw[ll]at p
 have tl:(zs.take c).length<=12:=by rw[List.length_take,p.length_eq,List.length_range]; lia
 refine⟨zs,p,λt mt o om no=>?_,?_⟩
 .have mo:o∈zs:=p.mem_iff.mpr (List.mem_range.mpr om)
  have tm:=List.mem_range.mp (p.mem_iff.mp (List.mem_of_mem_take mt))
  have f2:=f.2
  rw[<-List.take_append_drop c zs]at mo f2
  have b:=(List.pairwise_append.mp f2).2.2 t mt o ((List.mem_append.mp mo).resolve_left no)
  have g:∀j,j<m->((List.range m).map λt=>wv r (BH.col rows t)).getD j (0,1)=vv r rows j:=λj hj=>by simp[hj]
  unfold pY at b
  rw[g t tm,g o om]at b
  exact decide_eq_false (by lia)
 rw[show((zs.take c).map λt=>Tr.tup [iT t,fT (wv r (BH.col rows t))])=(zs.take c).map λt=>Tr.tup [iT t,fT (wv r (BH.col rows ((List.range m).getD t 0)))]from List.map_congr_left λt mt=>by
  have xm:=List.mem_range.mp (p.mem_iff.mp (List.mem_of_mem_take mt))
  rw[List.getD_eq_getElem?_getD,List.getElem?_range xm]
  rfl]
 walk_at "d"
 have xm:=List.mem_range.mp (p.mem_iff.mp (List.mem_of_mem_take hx))
 rw[List.length_range]
 exact xm
 walk_at "r"
theorem ah3{m:Nat}{zs:List Nat}:∀t∈kE m zs,t<m:=λt h=>List.mem_range.mp (List.mem_filter.mp h).1
theorem ah4{m:Nat}{zs:List Nat}:(kE m zs).length<=m:=Nat.le_trans (List.length_filter_le ..) (by rw[List.length_range]; exact Nat.le_refl _)
theorem XR(hB:Bq m rows)(ho:bL rows.length r)(hV:∀t,t<m->Fq 400 (vv r rows t))(hc:c<=m):∃ys:List Nat,Kp m r rows ys/\(c=0->ys=[])/\(c=m->∀t,t<m->t∈ys)/\vO [aQ rows,aF r,iT c]=.ok (.lst (ys.map iT),true)/\Jj [aQ rows,aF r,iT c]=.ok (.lst (ys.map iT),true):=by
 obtain⟨zs,p,h,e⟩:=ah2 hB ho hV hc
 have b4:=hB.2.2.2.1
 have mm:=λt=>ahi (m:=m) (t:=t) (zs:=zs.take c) λt h=>List.mem_range.mp (p.mem_iff.mp (List.mem_of_mem_take h))
 have s:=ahk (c:=c) p b4
 have tl:(zs.take c).length<=12:=by rw[List.length_take,p.length_eq,List.length_range]; lia
 refine⟨kE m (zs.take c),⟨ah3,Nat.le_trans ah4 b4,λt mt o om no=>h t ((mm t).mp mt) o om λq=>no ((mm o).mpr q)⟩,λh=>?_,λh t ht=>(mm t).mpr ?_,?_,?_⟩
 .subst h
  exact List.eq_nil_iff_forall_not_mem.mpr λt m=>by cases(mm t).mp m
 .rw[List.take_of_length_le (by rw[p.length_eq,List.length_range,h]; exact Nat.le_refl _)]
  exact p.mem_iff.mpr (List.mem_range.mpr ht)
 .walk_at "d"
  done
 .walk_at "d"
  done
theorem XS(hB:Bq m rows)(ht:t<m):VF [aQ rows,.int (t:Nat)]=.ok (.non,false):=by
 have g0:aX (aQ rows) (.int 0)=.ok (aJ (rows.getD 0 []),false):=jw hB.1
 have e0:=gZ (rows.getD 0 [])
 rw[(hB.row hB.1).2]at e0
 have e1:=Wb (t:Int) (m:Int)
 rw[decide_eq_true (show(0:Int)<=t by lia),decide_eq_true (show(t:Int)<m by lia)]at e1
 walk_at "d"
end
theorem Jr(l:List (Int × Int)):bR (l.map fT)=true:=Ec λt ht=>by
 obtain⟨x,_,rfl⟩:=List.mem_map.mp ht
 rfl
theorem ah5{rows:List (List (Int × Int))}(h:rows.length<=4):Ip [aQ rows]=.ok (aQ rows,true):=by
 walk_at "m"
 .exact Jr _
 .lia
 .rfl
theorem ah6{r:Ru}:V5 [aF r]=.ok (aF r,false):=by
 cases r <;> walk_at "d"
 done
theorem Js{x y:Int × Int}{M N:Nat}(hx:Fq M x)(hy:Fq N y)(hM:M+N<=8900):Jo [fT x,fT y]=.ok (.bl (bw x y),false):=by
 obtain⟨_,c1,c2,_⟩:=mulC hx hy hM
 walk_at "d"
theorem Jt{x y:Int × Int}{M N:Nat}(hx:Fq M x)(hy:Fq N y)(hM:M+N<=8900):Jk [fT x,fT y]=.ok (fT (bK x y),false):=by
 obtain⟨c1,_,_,c4⟩:=mulC hx hy hM
 have p:=Int.mul_pos (a:=x.2) (b:=y.2) (by have:=hx.2.2.1; lia) (by have:=hy.2.2.1; lia)
 have e:=tE (a:=x.1*y.1) (b:=x.2*y.2) (M:=M+N) (by lia) (gR (by have:=hx.2.2.1; lia) hx.2.2.2.1 (by have:=hy.2.2.1; lia) hy.2.2.2.1) hM
 walk_at "d"
theorem X3{x y:Int × Int}{M N:Nat}(hx:Fq M x)(hy:Fq N y)(hM:M+N<=8900):Jm [fT x,fT y]=.ok (fT (sumF x y),false):=by
 obtain⟨_,c2,c3,c4⟩:=mulC hx hy hM
 have x3:=hx.2.2.1
 have y3:=hy.2.2.1
 have p:=Int.mul_pos (a:=x.2) (b:=y.2) (by lia) (by lia)
 have e:=tE (a:=x.1*y.2+y.1*x.2) (b:=x.2*y.2) (M:=M+N) (by lia) (gR (by lia) hx.2.2.2.1 (by lia) hy.2.2.2.1) hM
 walk_at "d"
noncomputable def mv(rows:List (List (Int × Int)))(p t:Nat)(w:Int × Int):List (List (Int × Int)):=rows.set p ((rows.getD p []).set t w)
theorem ah7{zs:List (Int × Int)}{w:Int × Int}{q:Nat}{N:Nat}(hz:∀z∈zs,Fq N z)(hw:Fq N w)(h:zs.Pairwise λa b=>le2 b a)(hq:q<=zs.length)(h1:∀j (h:j<zs.length),j<q->le2 w zs[j])(h2:∀h:q<zs.length,le2 zs[q] w):(zs.take q++w::zs.drop q).Pairwise λa b=>le2 b a:=by
 have pw:=List.pairwise_iff_getElem.mp h
 rw[List.pairwise_append]
 refine⟨h.sublist (List.take_sublist _ _),List.pairwise_cons.mpr ⟨λb hb=>?_,h.sublist (List.drop_sublist _ _)⟩,λa ha b hb=>?_⟩
 .obtain⟨j,hj,rfl⟩:=List.getElem_of_mem hb
  rw[List.getElem_drop]
  have jl:q+j<zs.length:=by rw[List.length_drop]at hj; omega
  have a1:=h2 (by omega)
  by_cases z:j=0
  .subst z; exact a1
  .have a2:=pw q (q+j) (by omega) jl (by omega)
   exact gQ (hz _ (List.getElem_mem jl)).2.2.1 (hz _ (List.getElem_mem (by omega))).2.2.1 hw.2.2.1 a2 a1
 .obtain⟨j,hj,rfl⟩:=List.getElem_of_mem ha
  rw[List.length_take]at hj
  rw[List.getElem_take]
  have a1:=h1 j (by omega) (by omega)
  rcases List.mem_cons.mp hb with rfl|hb
  .exact a1
  .obtain⟨i,hi,rfl⟩:=List.getElem_of_mem hb
   rw[List.length_drop]at hi
   rw[List.getElem_drop]
   exact pw j (q+i) (by omega) (by omega) (by omega)
theorem ah8{N:Nat}{xs:List (Int × Int)}(hx:∀x∈xs,Fq N x)(hN:N+N<=8900)(hl:xs.length<=12):∃zs,Jp [aJ xs]=.ok (aJ zs,true)/\cu xs zs:=by
 suffices h:∃z,Jp [aJ xs]=.ok z/\∃zs,cu xs zs/\z=(aJ zs,true) by
  obtain⟨_,e,zs,h,rfl⟩:=h
  exact⟨zs,e,h⟩
 walk_at "e"
 refine mH [2,3] (λs:List (Int × Int)=>[(1,.ow (s.map fT))]) (λk s=>s.Perm (xs.take k)/\s.Pairwise λa b=>le2 b a) [] ⟨.nil,.nil⟩ rfl (λk w v zs gx i=>?_) (λv zs i=>?_)
 .have kl:=(List.getElem?_eq_some_iff.mp gx).1
  have lz:zs.length=k:=by rw[i.1.length_eq,List.length_take]; lia
  have hz:∀z∈zs,Fq N z:=λz m=>hx z (List.mem_of_mem_take (i.1.mem_iff.mp m))
  have hw:=hx w (List.mem_of_getElem? gx)
  walk_at "p"
  refine Sd [] (λp:Nat=>[(3,.sh (.int p))]) (λp=>p<=zs.length/\∀j (h:j<zs.length),j<p->le2 w zs[j]) (λp=>zs.length-p) 0 ⟨Nat.zero_le _,λj _ h=>(by lia)⟩ rfl (by show zs.length-0<(zs.map fT).length+1; simp) (λv' p ip=>?_)
  dsimp only[pt,List.map,List.set]at *
  have fin:(∀h:p<zs.length,le2 zs[p] w)->(zs.take p++w::zs.drop p).Perm (xs.take (k+1))/\(zs.take p++w::zs.drop p).Pairwise λa b=>le2 b a:=λh2=>⟨by
   rw[List.take_add_one,gx]
   refine List.perm_middle.trans ?_
   rw[List.take_append_drop]
   exact(i.1.cons w).trans (List.perm_append_comm (l₁:=[w])),ah7 hz hw i.2 ip.1 ip.2 h2⟩
  by_cases z:p<zs.length
  .have gd:zs.getD p (0,1)=zs[p]:=by simp[z]
   have e:=Js (x:=zs.getD p (0,1)) (y:=w) (by rw[gd]; exact hz _ (List.getElem_mem z)) hw hN
   cases c:bw (zs.getD p (0,1)) w with
   |true =>
    rw[c]at e
    apply vp
    walk_at "r"
    refine⟨_,fin λh=>?_,exV (by rw[List.map_append,List.map_cons,List.map_take,List.map_drop]; rfl)⟩
    rw[gd]at c
    unfold bw at c
    unfold le2
    simp only[decide_eq_true_eq]at c
    lia
   |false =>
    rw[c]at e
    apply vp
    walk_at "r"
    refine⟨p+1,⟨by lia,λj h hj=>?_⟩,by lia,λ_=>.un,rfl⟩
    by_cases q:j=p
    .subst q
     rw[gd]at c
     exact dY.mp c
    .exact ip.2 j h (by lia)
  .apply vp
   walk_at "r"
   refine⟨_,fin λh=>absurd h z,exV (by rw[List.map_append,List.map_cons,List.map_take,List.map_drop]; rfl)⟩
 .rw[List.take_length]at i
  walk_at "p"
  exact⟨_,rfl,zs,i,rfl⟩
theorem ah9{N:Nat}{r:Ru}{xs:List (Int × Int)}(hN:N<=2000)(hx:∀x∈xs,Fq N x)(h1:1<=xs.length)(h4:xs.length<=4)(ho:bL xs.length r):∃v,tB [aF r,aJ xs]=.ok (fT v,false)/\Wv r xs v:=by
 have pl:placed r=true->∃v,tB [aF r,aJ xs]=.ok (fT v,false)/\∃zs,cu xs zs/\zs[bJ xs.length r-1]?=some v:=λhp=>by
  obtain⟨zs,e6,hd⟩:=ah8 hx (by lia) (by lia)
  have lz:=hd.1.length_eq
  obtain⟨p1,p2⟩:=Ja hp ho h1
  have g:aX (aJ zs) (.int ((bJ xs.length r-1:Nat):Int))=.ok (fT (zs.getD (bJ xs.length r-1) (0,1)),false):=mV (by lia)
  have q:zs[bJ xs.length r-1]?=some (zs.getD (bJ xs.length r-1) (0,1)):=by rw[List.getElem?_eq_getElem (by lia)]; simp; rw[List.getElem?_eq_getElem (by lia)]; rfl
  refine⟨_,?_,zs,hd,q⟩
  have d1:yq (.int ((bJ xs.length r:Nat):Int)) (.int 1)=.ok (.int ((bJ xs.length r-1:Nat):Int),false):=by show Rs.ok (Tr.int ((bJ xs.length r:Int)-1),false)=_; rw[Int.ofNat_sub p1]; rfl
  have gz:∀z:Int,z+1=(bJ xs.length r:Nat)->aX (aJ zs) (.int z)=.ok (fT (zs.getD (bJ xs.length r-1) (0,1)),false):=λz h=>by rw[show z=((bJ xs.length r-1:Nat):Int) by lia]; exact g
  cases r with
  |sh ws=>cases hp
  |product=>cases hp
  |least =>
   have i0:aX (aF .least) (.int 0)=.ok (.str "least",false):=rfl
   have e0:bJ xs.length .least=xs.length:=rfl
   walk_at "d"
   exact gz _ (by lia)
   walk_at "r"
  |greatest =>
   have i0:aX (aF .greatest) (.int 0)=.ok (.str "greatest",false):=rfl
   have e0:bJ xs.length .greatest=1:=rfl
   walk_at "d"
   exact gz _ (by lia)
   walk_at "r"
  |mid k =>
   have i0:aX (aF (.mid k)) (.int 0)=.ok (.str "middle",false):=rfl
   have i1:aX (aF (.mid k)) (.int 1)=.ok (.int k,false):=rfl
   have e0:bJ xs.length (.mid k)=k:=rfl
   walk_at "d"
   exact gz _ (by lia)
   walk_at "r"
 cases r with
 |sh ws =>
  have ol:=ho.1
  suffices h:tB [aF (.sh ws),aJ xs]=.ok (fT (dD (ws.zip xs) (0,1)),false)from⟨_,h,rfl⟩
  have i1:aX (aF (.sh ws)) (.int 1)=.ok (aJ ws,false):=rfl
  have zl:(ws.zip xs).length<=4:=by rw[List.length_zip]; lia
  walk_at "d"
  rw[Wm]
  refine mH [3,4] (λt:Int × Int=>[(2,.sh (fT t))]) (λk t=>t=dD ((ws.zip xs).take k) (0,1)/\Fq (1+(46+N)*k) t) (0,1) ⟨rfl,sV⟩ rfl (λk p v t gx i=>?_) (λv t i=>?_)
  .have kl:=(List.getElem?_eq_some_iff.mp gx).1
   have pm:=List.mem_of_getElem? gx
   have fx:=hx _ (List.of_mem_zip pm).2
   have fw:=ho.2 _ (List.of_mem_zip pm).1
   have f:=sU fw fx
   have b1:(46+N)*k<=(46+N)*3:=Nat.mul_le_mul_left _ (by lia)
   have e1:=Jt fw fx (by lia)
   have e2:=X3 i.2 f (by lia)
   walk_at "p"
   refine⟨_,⟨?_,(Aa i.2 f).up (by rw[Nat.mul_add]; lia)⟩,exV rfl⟩
   rw[i.1,List.take_add_one,gx]
   unfold dD
   rw[List.foldl_append]
   rfl
  .rw[i.1,List.take_length]
   walk_at "p"
 |product =>
  suffices h:tB [aF .product,aJ xs]=.ok (fT (dF xs (1,1)),false)from⟨_,h,rfl⟩
  walk_at "d"
  refine mH [4] (λt:Int × Int=>[(2,.sh (fT t))]) (λk t=>t=dF (xs.take k) (1,1)/\Fq (1+N*k) t) (1,1) ⟨rfl,sX⟩ rfl (λk x v t gx i=>?_) (λv t i=>?_)
  .have kl:=(List.getElem?_eq_some_iff.mp gx).1
   have fx:=hx x (List.mem_of_getElem? gx)
   have b1:N*k<=N*3:=Nat.mul_le_mul_left _ (by lia)
   have e1:=Jt i.2 fx (by lia)
   walk_at "p"
   refine⟨_,⟨?_,(sU i.2 fx).up (by rw[Nat.mul_add]; lia)⟩,exV rfl⟩
   rw[i.1,List.take_add_one,gx]
   unfold dF
   rw[List.foldl_append]
   rfl
  .rw[i.1,List.take_length]
   walk_at "p"
 |least=>exact pl rfl
 |greatest=>exact pl rfl
 |mid k=>exact pl rfl
noncomputable def bb(s:Bool)(x y:Int × Int):Prop:=if s=true then le2 x y else ¬le2 y x
noncomputable def Q(x:Int × Int)(n d:Int):Prop:=x.1*d=n*x.2
theorem p8{u v:Int × Int}{n d m e:Int}(h:Q u n d)(h':Q v m e)(u2:1<=u.2)(v2:1<=v.2)(d1:1<=d)(e1:1<=e):le2 u v↔n*e<=m*d:=by
 unfold Q at h h'
 unfold le2
 have p1:0<d*e:=Int.mul_pos (by lia) (by lia)
 have p2:0<u.2*v.2:=Int.mul_pos (by lia) (by lia)
 have a1:u.1*v.2*(d*e)=n*e*(u.2*v.2):=by grind
 have a2:v.1*u.2*(d*e)=m*d*(u.2*v.2):=by grind
 constructor
 .intro k
  have:=Int.mul_le_mul_of_nonneg_right k (Int.le_of_lt p1)
  rw[a1,a2]at this
  exact Int.le_of_mul_le_mul_right this p2
 .intro k
  have:=Int.mul_le_mul_of_nonneg_right k (Int.le_of_lt p2)
  rw[<-a1,<-a2]at this
  exact Int.le_of_mul_le_mul_right this p1
theorem tG{u:Int × Int}{n d m e:Int}(h:Q u n d)(d1:1<=d)(k:n*e=m*d):Q u m e:=by
 unfold Q at *
 refine Int.eq_of_mul_eq_mul_right (a:=d) (by lia) ?_
 have:u.1*e*d=u.1*d*e:=by grind
 rw[this,h]
 grind
theorem qd{a b:Int}(hb:1<=b):Q (red a b) a b:=((j9 (a:=a) hb).1).symm
noncomputable def Af(f:Int × Int->Int × Int)(a b D:Int):Prop:=1<=D/\∀x:Int × Int,1<=x.2->1<=(f x).2/\Q (f x) (a*x.2+b*x.1) (D*x.2)
variable {f h:Int × Int->Int × Int}{a b D a' b' D':Int}
theorem Ju{y:Int × Int}(hy:1<=y.2):Af (λ_=>y) y.1 0 y.2:=⟨hy,λx _=>⟨hy,by unfold Q; grind⟩⟩
theorem X4:Af (λx=>x) 0 1 1:=⟨by lia,λx hx=>⟨hx,by unfold Q; grind⟩⟩
theorem X5(hf:Af f a b D)(hh:Af h a' b' D'):Af (λx=>sumF (f x) (h x)) (a*D'+a'*D) (b*D'+b'*D) (D*D'):=by
 refine⟨bW hf.1 hh.1,λx hx=>?_⟩
 obtain⟨f2,qf⟩:=hf.2 x hx
 obtain⟨h2,qh⟩:=hh.2 x hx
 refine⟨(j9 (bW f2 h2)).2.1,tG (qd (bW f2 h2)) (bW f2 h2) ?_⟩
 unfold Q at *
 grind
theorem Aw{w:Int × Int}(hw:1<=w.2)(hf:Af f a b D):Af (λx=>bK w (f x)) (w.1*a) (w.1*b) (w.2*D):=by
 refine⟨bW hw hf.1,λx hx=>?_⟩
 obtain⟨f2,qf⟩:=hf.2 x hx
 refine⟨(j9 (bW hw f2)).2.1,tG (qd (bW hw f2)) (bW hw f2) ?_⟩
 unfold Q at *
 grind
theorem aia(x y:Int × Int):bK x y=bK y x:=by unfold bK; rw[Int.mul_comm x.1,Int.mul_comm x.2]
theorem Jv:∀(xs ws:List (Int × Int)) (p:Nat) (f:Int × Int->Int × Int) (a b D:Int),(∀w∈ws,1<=w.2)->(∀x∈xs,1<=x.2)->Af f a b D->∃a b D,Af (λx=>dD (ws.zip (xs.set p x)) (f x)) a b D
 | [],ws,p,f,a,b,D,_,_,h=>⟨a,b,D,by simp only[List.set_nil,List.zip_nil_right]; exact h⟩
 |y::xs,[],p,f,a,b,D,_,_,h=>⟨a,b,D,h⟩
 |y::xs,w::ws,0,f,a,b,D,hw,hx,h=>by
  obtain⟨a1,b1,D1,q⟩:=Jv xs ws xs.length _ _ _ _ (λz m=>hw z (List.mem_cons_of_mem _ m)) (λz m=>hx z (List.mem_cons_of_mem _ m)) (X5 h (Aw (hw w (List.mem_cons_self ..)) X4))
  refine⟨a1,b1,D1,?_⟩
  have e:∀x,xs.set xs.length x=xs:=λx=>List.set_eq_of_length_le (Nat.le_refl _)
  simp only[e]at q
  exact q
 |y::xs,w::ws,p+1,f,a,b,D,hw,hx,h=>Jv xs ws p _ _ _ _ (λz m=>hw z (List.mem_cons_of_mem _ m)) (λz m=>hx z (List.mem_cons_of_mem _ m)) (X5 h (Aw (hw w (List.mem_cons_self ..)) (Ju (hx y (List.mem_cons_self ..)))))
theorem X6:∀(xs:List (Int × Int)) (f:Int × Int->Int × Int) (a b D:Int),(∀x∈xs,1<=x.2)->Af f a b D->∃a b D,Af (λx=>dF xs (f x)) a b D
 | [],f,a,b,D,_,h=>⟨a,b,D,h⟩
 | y :: xs,f,a,b,D,hx,h=>X6 xs (λx=>bK (f x) y) _ _ _ (λz m=>hx z (List.mem_cons_of_mem _ m)) (by
   simp only[aia _ y]
   exact Aw (hx y (List.mem_cons_self ..)) h)
theorem X7:∀(xs:List (Int × Int)) (p:Nat) (t:Int × Int),(∀x∈xs,1<=x.2)->1<=t.2->∃a b D,Af (λx=>dF (xs.set p x) t) a b D
 | [],p,t,_,h=>⟨_,_,_,Ju h⟩
 |y::xs,0,t,hx,h=>X6 xs _ _ _ _ (λz m=>hx z (List.mem_cons_of_mem _ m)) (Aw h X4)
 |y::xs,p+1,t,hx,h=>X7 xs p (bK t y) (λz m=>hx z (List.mem_cons_of_mem _ m)) (j9 (bW h (hx y (List.mem_cons_self ..)))).2.1
noncomputable def iH(x y:Int × Int):Int × Int:=red (x.1*y.2-y.1*x.2) (x.2*y.2)
noncomputable def qj(x y:Int × Int):Int × Int:=red (x.1*y.2) (x.2*y.1)
theorem tH{x y:Int × Int}{M N:Nat}(hx:Fq M x)(hy:Fq N y)(h:le2 y x):Fq (M+N) (iH x y):=by
 have b1:=gR hx.1 hx.2.1 (by have:=hy.2.2.1; lia) hy.2.2.2.1
 have b2:=Int.mul_nonneg hy.1 (show 0<=x.2 by have:=hx.2.2.1; lia)
 unfold le2 at h
 exact sJ (by lia) (by lia) (bW hx.2.2.1 hy.2.2.1) (gR (by have:=hx.2.2.1; lia) hx.2.2.2.1 (by have:=hy.2.2.1; lia) hy.2.2.2.1)
theorem aib{x y:Int × Int}{M N:Nat}(hx:Fq M x)(hy:Fq N y)(h:1<=y.1):Fq (M+N) (qj x y) :=
 sJ (Int.mul_nonneg hx.1 (by have:=hy.2.2.1; lia)) (gR hx.1 hx.2.1 (by have:=hy.2.2.1; lia) hy.2.2.2.1) (bW hx.2.2.1 h) (gR (by have:=hx.2.2.1; lia) hx.2.2.2.1 (by lia) hy.2.1)
theorem aic{s:Bool}{g:Int × Int}{N:Nat}(hf:Af f a b D)(f0:Fq N (f (0,1)))(f1:Fq N (f (1,1)))(hg:Fq N g)(h0:¬bb s g (f (0,1)))(h1:bb s g (f (1,1))):le2 (f (0,1)) g/\le2 (f (0,1)) (f (1,1))/\1<=(iH (f (1,1)) (f (0,1))).1/\(∀(s:Bool) (x:Int × Int),1<=x.2->(bb s g (f x)↔bb s (qj (iH g (f (0,1))) (iH (f (1,1)) (f (0,1)))) x)):=by
 have q0:=(hf.2 (0,1) (by decide)).2
 have q1:=(hf.2 (1,1) (by decide)).2
 have D1:=hf.1
 have g2:=hg.2.2.1
 have vZ:=f0.2.2.1
 have Jw:=f1.2.2.1
 have qg:Q g g.1 g.2:=rfl
 have l1:∀x:Int × Int,1<=x.2->(le2 g (f x)↔g.1*(D*x.2)<=(a*x.2+b*x.1)*g.2):=λx hx=>p8 qg (hf.2 x hx).2 g2 (hf.2 x hx).1 g2 (bW D1 hx)
 have l2:∀x:Int × Int,1<=x.2->(le2 (f x) g↔(a*x.2+b*x.1)*g.2<=g.1*(D*x.2)):=λx hx=>p8 (hf.2 x hx).2 qg (hf.2 x hx).1 g2 (bW D1 hx) g2
 have a0:=l1 (0,1) (by decide)
 have b0:=l2 (0,1) (by decide)
 have a1:=l1 (1,1) (by decide)
 have b1:=l2 (1,1) (by decide)
 have nd:0<=g.1*D-a*g.2/\1<=b*g.2:=by
  unfold bb at h0 h1
  cases s <;> simp only[Bool.false_eq_true,if_true,if_false,Classical.not_not]at h0 h1
  .have:=b0.mp h0
   have:=λz=>h1 (b1.mpr z)
   dsimp only at *
   grind
  .have:=λz=>h0 (a0.mpr z)
   have:=a1.mp h1
   dsimp only at *
   grind
 obtain⟨n0,d1⟩:=nd
 have bp:1<=b:=by
  refine Classical.byContradiction λz=>?_
  have:=Int.mul_le_mul_of_nonneg_right (show b<=0 by lia) (show 0<=g.2 by lia)
  lia
 have t0:le2 (f (0,1)) g:=b0.mpr (by dsimp only; grind)
 have t1:le2 (f (0,1)) (f (1,1)):=(p8 q0 q1 vZ Jw (by lia) (by lia)).mpr (by
  have:=Int.mul_le_mul_of_nonneg_right (show a*1+b*0<=a*1+b*1 by lia) (show 0<=D*1 by lia)
  exact this)
 have qe:Q (iH g (f (0,1))) (g.1*D-a*g.2) (g.2*D):=tG (qd (bW g2 vZ)) (bW g2 vZ) (by unfold Q at q0; dsimp only at q0; grind)
 have qk:Q (iH (f (1,1)) (f (0,1))) b D:=tG (qd (bW Jw vZ)) (bW Jw vZ) (by unfold Q at q0 q1; dsimp only at q0 q1; grind)
 have e2:=(tH hg f0 t0).2.2.1
 have k2:=(tH f1 f0 t1).2.2.1
 generalize iH g (f (0,1))=e at qe e2 ⊢
 generalize iH (f (1,1)) (f (0,1))=k at qk k2 ⊢
 have k1:1<=k.1:=by
  refine Classical.byContradiction λz=>?_
  have:=Int.mul_le_mul_of_nonneg_right (show k.1<=0 by lia) (show 0<=D by lia)
  unfold Q at qk
  have:=bW bp k2
  lia
 have qu:Q (qj e k) (g.1*D-a*g.2) (b*g.2):=tG (qd (bW e2 k1)) (bW e2 k1) (by unfold Q at qe qk; grind)
 have u2:1<=(qj e k).2:=(j9 (bW e2 k1)).2.1
 refine⟨t0,t1,k1,λs x hx=>?_⟩
 have m1:=p8 qu (show Q x x.1 x.2 from rfl) u2 hx d1 hx
 have m2:=p8 (show Q x x.1 x.2 from rfl) qu hx u2 hx d1
 unfold bb
 cases s <;> simp only[Bool.false_eq_true,if_true,if_false]
 .rw[l2 x hx,m2]
  constructor <;> intro z w <;> apply z <;> grind
 .rw[l1 x hx,m1]
  constructor <;> intro z <;> grind
end K96
end
section
namespace K96
open PySem L2 BH
theorem X8{x y:Int × Int}{M N:Nat}(hx:Fq M x)(hy:Fq N y)(hM:M+N<=8900):T3 [fT x,fT y]=.ok (fT (iH x y),false):=by
 obtain⟨_,c1,c2,c3⟩:=mulC hx hy hM
 have p:=bW hx.2.2.1 hy.2.2.1
 have e:=Ab (a:=x.1*y.2-y.1*x.2) (b:=x.2*y.2) (M:=M+N) p (gR (by have:=hx.2.2.1; lia) hx.2.2.2.1 (by have:=hy.2.2.1; lia) hy.2.2.2.1) hM
 walk_at "d"
theorem aie{x y:Int × Int}{M N:Nat}(hx:Fq M x)(hy:Fq N y)(h:1<=y.1)(hM:M+N<=8900):T9 [fT x,fT y]=.ok (fT (qj x y),false):=by
 obtain⟨_,c1,_,_⟩:=mulC hx hy hM
 have nM:=gP M
 have nN:=gP N
 have c2:cV x.2 y.1=true:=jo (M:=M) (N:=N) (by have:=hx.2.2.1; have:=hx.2.2.2.1; lia) (by lia) (by have:=hy.2.1; lia) (by lia)
 have e:=Ab (a:=x.1*y.2) (b:=x.2*y.1) (M:=M+N) (bW hx.2.2.1 h) (gR (by have:=hx.2.2.1; lia) hx.2.2.2.1 (by lia) hy.2.1) hM
 walk_at "d"
theorem aif{r:Ru}{x y g:Int × Int}(hr:placed r=false)(hx:Fq 400 x)(hy:Fq 400 y)(hg:Fq 400 g)(h0:le2 x g)(h1:le2 x y)(h2:1<=(iH y x).1):z7 [aF r,fT x,fT y,fT g]=.ok (fT (qj (iH g x) (iH y x)),false):=by
 have e1:=X8 hg hx (by lia)
 have e2:=X8 hy hx (by lia)
 have e3:=aie (tH hg hx h0) (tH hy hx h1) h2 (by lia)
 cases r with
 |sh ws =>
  have i0:aX (aF (.sh ws)) (.int 0)=.ok (.str "shares",false):=rfl
  walk_at "d"
  done
 |product =>
  have i0:aX (aF .product) (.int 0)=.ok (.str "product",false):=rfl
  walk_at "d"
  done
 |least=>cases hr
 |greatest=>cases hr
 |mid k=>cases hr
theorem aii{r:Ru}{X Y:Tr}{g:Int × Int}(hr:placed r=true):z7 [aF r,X,Y,fT g]=.ok (fT g,false):=by
 obtain⟨w,e1,e2,e3,_⟩:=ahb hr
 walk_at "d"
 done
theorem aij{xs zs:List (Int × Int)}(d:cu xs zs){p:Int × Int->Bool}(hp:∀a∈xs,∀b∈xs,le2 b a->p b=true->p a=true){k:Nat}{v:Int × Int}(hv:zs[k]?=some v):p v=true↔k<xs.countP p:=by
 have mm:∀a,a∈zs->a∈xs:=λa m=>d.1.mem_iff.mp m
 obtain⟨e1,e2⟩:=pref (p:=p) zs (d.2.imp_of_mem λ{a b} ma mb r=>hp a (mm a ma) b (mm b mb) r)
 have c:xs.countP p=(zs.filter p).length:=by rw[<-d.1.countP_eq,List.countP_eq_length_filter]
 obtain⟨kl,kv⟩:=List.getElem?_eq_some_iff.mp hv
 rw[c]
 constructor
 .intro h
  refine Classical.byContradiction λz=>?_
  have m:v∈zs.drop (zs.filter p).length:=List.mem_of_getElem? (i:=k-(zs.filter p).length) (by rw[List.getElem?_drop,<-hv]; congr 1; lia)
  rw[e2]at m
  have:=(List.mem_filter.mp m).2
  rw[h]at this
  cases this
 .intro h
  have m:v∈zs.take (zs.filter p).length:=List.mem_of_getElem? (i:=k) (by rw[List.getElem?_take,if_pos h,hv])
  rw[e1]at m
  exact(List.mem_filter.mp m).2
theorem Yb(p:Int × Int->Bool):∀(xs:List (Int × Int)) (i:Nat),i<xs.length->∃C,∀x,(xs.set i x).countP p=C+(if p x=true then 1 else 0)
 |y::xs,0,_=>⟨xs.countP p,λx=>by rw[List.set_cons_zero,List.countP_cons]⟩
 |y::xs,i+1,h=>by
  obtain⟨C,e⟩:=Yb p xs i (by simpa using h)
  exact⟨C+(if p y=true then 1 else 0),λx=>by rw[List.set_cons_succ,List.countP_cons,e]; lia⟩
open Classical in
theorem aik{s:Bool}{g a b:Int × Int}(hg:1<=g.2)(ha:1<=a.2)(hb:1<=b.2)(h:le2 b a)(k:bb s g b):bb s g a:=by
 unfold bb at *
 cases s <;> simp only[Bool.false_eq_true,if_true,if_false]at *
 .exact λz=>k (gQ hb ha hg h z)
 .exact gQ hg hb ha k h
open Classical in
theorem ail{s:Bool}{g:Int × Int}{r:Ru}{xs:List (Int × Int)}{p:Nat}(hr:placed r=true)(hx:∀x∈xs,Fx x)(hp:p<xs.length)(hg:1<=g.2){f:Int × Int->Int × Int}(hf:∀x,Fx x->Wv r (xs.set p x) (f x))(h0:¬bb s g (f (0,1)))(h1:bb s g (f (1,1))){x:Int × Int}(hx1:Fx x):bb s g (f x)↔bb s g x:=by
 obtain⟨C,hC⟩:=Yb (λz=>decide (bb s g z)) xs p hp
 have key:∀x,Fx x->(bb s g (f x)↔bJ xs.length r-1<C+if bb s g x then 1 else 0):=λx hx'=>by
  have h:=hf x hx'
  have w:∃zs,cu (xs.set p x) zs/\zs[bJ (xs.set p x).length r-1]?=some (f x):=by
   cases r <;> first|exact h|cases hr
  obtain⟨zs,d,e⟩:=w
  have m2:∀a∈xs.set p x,1<=a.2:=λa m=>by
   rcases List.mem_or_eq_of_mem_set m with m|rfl
   .exact(hx a m).2.1
   .exact hx'.2.1
  have:=aij d (p:=λz=>decide (bb s g z)) (λa ma b mb l k=>decide_eq_true (aik hg (m2 a ma) (m2 b mb) l (of_decide_eq_true k))) e
  rw[hC,List.length_set]at this
  simpa using this
 have k0:=key (0,1) (by unfold Fx; decide)
 have k1:=key (1,1) (by unfold Fx; decide)
 rw[key x hx1]
 have a0:=λz=>h0 (k0.mpr z)
 have a1:=k1.mp h1
 by_cases z:bb s g x <;> simp only[z,if_true,if_false,iff_true,iff_false] <;> split at a1 <;> split at a0 <;> lia
theorem inv{s:Bool}{g:Int × Int}{r:Ru}{xs:List (Int × Int)}{p:Nat}(hx:∀x∈xs,Fq 45 x)(h1:1<=xs.length)(h4:xs.length<=4)(hp:p<xs.length)(ho:bL xs.length r)(hg:Fq 400 g)(b0:¬bb s g (wv r (xs.set p (0,1))))(b1:bb s g (wv r (xs.set p (1,1)))):∃u,z7 [aF r,fT (wv r (xs.set p (0,1))),fT (wv r (xs.set p (1,1))),fT g]=.ok (fT u,false)/\Fq 1600 u/\(∀x,Fx x->(bb s g (wv r (xs.set p x))↔bb s u x))/\Fq 400 (wv r (xs.set p u)):=by
 have fx:∀x,Fx x->∀y∈xs.set p x,Fx y:=λx h y m=>by
  rcases List.mem_or_eq_of_mem_set m with m|rfl
  .exact(hx y m).fx
  .exact h
 have ll:∀x,(xs.set p x).length=xs.length:=λx=>List.length_set ..
 have W:∀x,Fx x->Wv r (xs.set p x) (wv r (xs.set p x))/\Fx (wv r (xs.set p x)):=λx h=>Ak (fx x h) (by rw[ll]; exact h1) (by rw[ll]; exact ho)
 have F:∀x,Fq 45 x->Fq 400 (wv r (xs.set p x)):=λx h=>Wv.Wt (λy m=>by
  rcases List.mem_or_eq_of_mem_set m with m|rfl
  .exact hx y m
  .exact h) (by rw[ll]; exact h4) (by rw[ll]; exact ho) (W x h.fx).1
 have Yc:Fq 45 (0,1):=sV.up (by lia)
 have Yd:Fq 45 (1,1):=sX.up (by lia)
 cases hr:placed r with
 |true =>
  refine⟨g,aii hr,hg.up (by lia),λx h=>ail hr (λx m=>(hx x m).fx) hp hg.2.2.1 (λx h=>(W x h).1) b0 b1 h,?_⟩
  have h:=(W g hg.fx).1
  have w:∃zs,cu (xs.set p g) zs/\zs[bJ (xs.set p g).length r-1]?=some (wv r (xs.set p g)):=by
   cases r <;> first|exact h|cases hr
  obtain⟨zs,d,e⟩:=w
  rcases List.mem_or_eq_of_mem_set (d.1.mem_iff.mp (List.mem_of_getElem? e))with m|e
  .exact(hx _ m).up (by lia)
  .rw[e]; exact hg
 |false =>
  have af:∃f a b D,Af f a b D/\∀x,Fx x->wv r (xs.set p x)=f x:=by
   cases r with
   |sh ws =>
    obtain⟨a,b,D,q⟩:=Jv xs ws p (λ_=>(0,1)) _ _ _ (λw m=>(ho.2 w m).2.2.1) (λx m=>(hx x m).2.2.1) (Ju (by decide))
    exact⟨_,a,b,D,q,λx h=>(W x h).1⟩
   |product =>
    obtain⟨a,b,D,q⟩:=X7 xs p (1,1) (λx m=>(hx x m).2.2.1) (by decide)
    exact⟨_,a,b,D,q,λx h=>(W x h).1⟩
   |least=>cases hr
   |greatest=>cases hr
   |mid k=>cases hr
  obtain⟨f,a,b,D,q,e⟩:=af
  have f0:=F _ Yc
  have f1:=F _ Yd
  rw[e _ Yc.fx]at b0 f0 ⊢
  rw[e _ Yd.fx]at b1 f1 ⊢
  obtain⟨t0,t1,t2,t3⟩:=aic q f0 f1 hg b0 b1
  have fu:=aib (tH hg f0 t0) (tH f1 f0 t1) t2
  have un:f (qj (iH g (f (0,1))) (iH (f (1,1)) (f (0,1))))=g:=by
   have w:=(W _ fu.fx).2
   rw[e _ fu.fx]at w
   have a1:=(t3 true _ fu.2.2.1).mpr (kh _)
   have a2:=λz=>(t3 false _ fu.2.2.1).mp z (kh _)
   exact Wi w.2.1 hg.2.2.1 w.2.2 hg.2.2.2.2 (Classical.not_not.mp a2) a1
  refine⟨_,aif hr f0 f1 hg t0 t1 t2,fu,λx h=>by rw[e x h]; exact t3 s x h.2.1,?_⟩
  rw[e _ fu.fx,un]
  exact hg
theorem wSI{ρ ρ2:En}{fe fk:EF}{T:Tr}{b:Bool}{i n:Nat}{ts:List Tr}{x:Rv}{Q:Fl->En->Prop}(h:fe ρ=.ok (.v T b,ρ))(c : ρ[i]?=some (.ow ts))(q:fk ρ=.ok (x,ρ))(d:dr ρ x=.ok (.int (n:Nat)))(l:n<ts.length)(e : ρ.set i (.ow (ts.set n T)) = ρ2)(k:Q .nx ρ2):W (HJ i fk fe ρ) Q:=by
 have cd:con ρ i=.ok ts:=by unfold con; rw[c]
 have u:bH i (ts.set n T) ρ = ρ2:=by unfold bH; rw[c]; exact e
 have ix:fB ts.length (n:Int)=some n:=by
  unfold fB
  rw[if_pos (by lia),if_pos (by lia)]
  rfl
 refine⟨.nx,ρ2,bk h (bk (a:=[T]) rfl (bk cd (bk q (bk d (bk (a:=(n:Int)) rfl (bk cd ?_)))))),k⟩
 dsimp only
 rw[ix]
 exact u▸rfl
theorem Ye{α : Type}{r h : α -> Tr}{fr : α -> Bool}{p : α -> Bool}{τ : En}{c:BF}{fe:EF}:∀(xs:List α) (s:Sl),(∀x∈xs,c (.sh (r x)::τ)=.ok (p x,.sh (r x)::τ))->(∀x∈xs,fe (.sh (r x)::τ)=.ok (.v (h x) (fr x),.sh (r x)::τ))->∃s',fV (gN 0) c fe (xs.map r) (s::τ)=.ok ((xs.filter p).map h,s'::τ)
 | [],s,_,_=>⟨s,rfl⟩
 |x::xs,s,q,q2=>by
  obtain⟨s',e'⟩:=Ye xs (.sh (r x)) (λv hv=>q v (List.mem_cons_of_mem _ hv)) λv hv=>q2 v (List.mem_cons_of_mem _ hv)
  refine⟨s',bk (a:=.sh (r x)::τ) rfl (bk (q x (List.mem_cons_self ..)) ?_)⟩
  rw[List.filter_cons]
  cases p x
  .exact(if_neg Bool.false_ne_true).trans e'
  .exact(if_pos rfl).trans (bk (q2 x (List.mem_cons_self ..)) (bk rfl (bk e' rfl)))
theorem xFm{β : Type}{t h : β -> Tr}{fr : β -> Bool}{p : β -> Bool}{xs:List β}{rest:List (Option Nat)}{τ : En}{fi:IF}{c:BF}{fe:EF}(hi:fi ρ=.ok (us,ρ))(hu:us=xs.map t)(hτ : cO rest ρ = τ)(hs:∀s,dG (none::rest) (s::τ) ρ = true)(hd:∀s,aY (none::rest) (s::τ) ρ = ρ)
  (hf:∀x∈xs,c (.sh (t x)::τ)=.ok (p x,.sh (t x)::τ)) (hf2:∀x∈xs,fe (.sh (t x)::τ)=.ok (.v (h x) (fr x),.sh (t x)::τ)) (hl:xs.length<=100000):mj (none::rest) fi (gN 0) c fe ρ=.ok (.v (.lst ((xs.filter p).map h)) true,ρ):=by
 subst hu hτ
 obtain⟨s,e⟩:=Ye xs .un hf hf2
 refine bk hi ((if_pos (by rw[List.length_map]; exact hl)).trans ?_)
 show(cU (fV _ _ _ _ (Sl.un::cO rest ρ))).bind _=_
 rw[e]
 refine bk rfl ((if_pos (hs s)).trans ?_)
 rw[hd s]
section
variable {m:Nat}{rows:List (List (Int × Int))}{r:Ru}{p i:Nat}
theorem ain(hB:Bq m rows)(ho:bL rows.length r)(hi:i<m)(hp:p<rows.length)(hW:∀y∈(BH.col rows i).set p w,Wo y):vP [aQ rows,aF r,iT p,iT i,fT w]=.ok (fT (wv r ((BH.col rows i).set p w)),false):=by
 have e1:=XM hB hi
 have lc:(BH.col rows i).length=rows.length:=iU ..
 have h1:=hB.1
 have h2:=hB.2.1
 have e2:=(Jb (r:=r) (xs:=(BH.col rows i).set p w) hW (by rw[List.length_set,lc]; exact h1) (by rw[List.length_set,lc]; lia) (by rw[List.length_set,lc]; exact ho)).1
 have es:aJ ((BH.col rows i).set p w)=.lst (((BH.col rows i).map fT).set p (fT w)):=by
  unfold aJ
  rw[List.map_set]
 rw[es]at e2
 unfold aJ at e1
 apply L2.Bl
 .dsimp only[L2.gY,List.map,List.length,List.replicate,List.append,HAppend.hAppend,Append.append,Nat.reduceSub,Nat.reduceAdd] <;> exact rfl
 iterate 15 walk_at "1"
 refine wSI (ts:=(BH.col rows i).map fT) rfl rfl rfl rfl (by rw[List.length_map,lc]; exact hp) rfl ?_
 walk_at "r"
 done
theorem aio{xs:List (Int × Int)}(hx:∀x∈xs,Fx x)(h1:1<=xs.length)(ho:bL xs.length r)(hp:p<xs.length){x y:Int × Int}(fx:Fx x)(fy:Fx y)(h:le2 x y):le2 (wv r (xs.set p x)) (wv r (xs.set p y)):=by
 have m:∀z,Fx z->∀y∈xs.set p z,Fx y:=λz h y m=>by
  rcases List.mem_or_eq_of_mem_set m with m|rfl
  .exact hx y m
  .exact h
 have q:=λz hz=>(Ak (r:=r) (m z hz) (by rw[List.length_set]; exact h1) (by rw[List.length_set]; exact ho)).1
 have qy:Wv r ((xs.set p x).set p y) (wv r (xs.set p y)):=by rw[List.set_set]; exact q y fy
 have w:=Wv.mono (i:=p) (m x fx) fy (λz hz=>by
  rw[List.getElem?_set_self (by exact hp)]at hz
  cases hz
  exact h) (by rw[List.length_set]; exact ho) (q x fx) (v':=wv r (xs.set p y)) qy
 exact w
noncomputable def vw(r:Ru)(rows:List (List (Int × Int)))(p i:Nat)(x:Int × Int)(t:Nat):Int × Int:=if t=i then wv r ((BH.col rows i).set p x)else vv r rows t
noncomputable abbrev cH(m:Nat)(k:List Nat)(i:Nat):List Nat:=(List.range m).filter λo=>decide (o∈k) != decide (i∈k)
theorem mL{k:List Nat}{o:Nat}:o∈cH m k i↔o<m/\(o∈k↔i∉k):=by
 rw[List.mem_filter,List.mem_range]
 by_cases a:o∈k <;> by_cases b:i∈k <;> simp[a,b]
theorem Jx{k:List Nat}{x:Int × Int}(hi:i<m)(hk:∀t∈k,t<m)(hs:jr (vv r rows) (vv r rows) m k):jr (vw r rows p i x) (vw r rows p i x) m k↔∀o∈cH m k i,if i∈k then bw (wv r ((BH.col rows i).set p x)) (vv r rows o)=false else bw (vv r rows o) (wv r ((BH.col rows i).set p x))=false:=by
 have ei:vw r rows p i x i=wv r ((BH.col rows i).set p x):=if_pos rfl
 have en:∀t,t≠i->vw r rows p i x t=vv r rows t:=λt h=>if_neg h
 constructor
 .intro h o mo
  obtain⟨om,oo⟩:=mL.mp mo
  by_cases z:i∈k
  .have no:o∉k:=λq=>oo.mp q z
   have:=h i z o om no
   rw[ei,en o λe=>no (e▸z)]at this
   rw[if_pos z]
   exact this
  .have yo:=oo.mpr z
   have:=h o yo i hi z
   rw[ei,en o λe=>z (e▸yo)]at this
   rw[if_neg z]
   exact this
 .intro h t mt o om no
  by_cases ti:t=i
  .subst ti
   have:=h o (mL.mpr ⟨om,by simp[no,mt]⟩)
   rw[if_pos mt]at this
   rw[ei,en o λe=>no (e▸mt)]
   exact this
  .by_cases oi:o=i
   .subst oi
    have:=h t (mL.mpr ⟨hk t mt,by simp[no,mt]⟩)
    rw[if_neg no]at this
    rw[ei,en t ti]
    exact this
   .rw[en t ti,en o oi]
    exact hs t mt o om no
structure Rm(m:Nat)(r:Ru)(rows:List (List (Int × Int)))(p i:Nat)(k:List Nat)(lo hi:Int × Int):Prop where
 l:Fq 1600 lo
 h:Fq 1600 hi
 l1:lo.1<=lo.2
 h1:hi.1<=hi.2
 lv:Fq 400 (wv r ((BH.col rows i).set p lo))
 hv:Fq 400 (wv r ((BH.col rows i).set p hi))
 z:cH m k i=[]->lo=(0,1)/\hi=(1,1)
 u:i∈k->hi=(1,1)
 v:i∉k->lo=(0,1)
 s:∀x,Fx x->x.1<=x.2->(jr (vw r rows p i x) (vw r rows p i x) m k↔le2 lo x/\le2 x hi)
theorem nb(a b:Bool):dw (.bl (id a)) (.bl (id b))=.ok (.bl (a != b),false):=by
 cases a <;> cases b <;> kernel_rfl
noncomputable abbrev Yg:EF:=mj [none,some 2,some 4,some 5] (Gv (fU (pH (g1 fX) (fU (bY 5) fL)) fL)) (gN 0) (dO (dN dw (dN (fJ id) (bY 0) (bY 1)) (dN (fJ id) (bY 2) (bY 1)))) (dN aX (bY 3) (bY 0))
theorem aip{V:Nat->Int × Int}{k:List Nat}(hm:m<=12)(hi:i<m)(s0 s1 s3 s6 s7 s8 s9 GK:Sl):Yg [s0,s1,.sh (.lst (k.map iT)),s3,.sh (iT i),.sh (.lst ((List.range m).map λt=>fT (V t))),s6,s7,s8,s9,GK]=.ok (.v (.lst ((cH m k i).map λo=>fT (V o))) true,[s0,s1,.sh (.lst (k.map iT)),s3,.sh (iT i),.sh (.lst ((List.range m).map λt=>fT (V t))),s6,s7,s8,s9,GK]):=by
 have ll:fX (.lst ((List.range m).map λt=>fT (V t)))=.ok (.int (m:Nat),false):=by
  show Rs.ok (Tr.int (((List.range m).map λt=>fT (V t)).length:Int),false)=_
  simp
 refine xFm (t:=iT) (h:=λo=>fT (V o)) (fr:=λ_=>false) (xs:=List.range m) (p:=λo=>decide (o∈k) != decide (i∈k)) (us:=(List.range m).map iT) ?_ rfl rfl (λ_=>rfl) (λ_=>rfl) (λx hx=>?_) (λx hx=>?_) (by rw[List.length_range]; lia)
 .walk_at "r"
  done
 .have e:=nb (decide (x∈k)) (decide (i∈k))
  walk_at "r"
  done
 .have e:aX (.lst ((List.range m).map λt=>fT (V t))) (iT x)=.ok (fT (V x),false):=pX (by simp[List.mem_range.mp hx])
  walk_at "r"
  done
variable {w:Int × Int}
theorem inN(t:Nat)(zs:List Nat):fJ not (iT t) (.lst (zs.map iT))=.ok (.bl (!(decide (t∈zs))),false):=jL not t zs
theorem jH:(mv rows p i w).length=rows.length:=List.length_set ..
theorem Bq.mv(hB:Bq m rows)(hp:p<rows.length)(hw:Fq 1620 w/\w.1<=w.2):Bq m (mv rows p i w):=by
 obtain⟨b1,b2,b3,b4,b5⟩:=id hB
 have rr:=hB.row hp
 refine⟨by rw[jH]; exact b1,by rw[jH]; exact b2,b3,b4,λl hl=>?_⟩
 rcases List.mem_or_eq_of_mem_set hl with h|rfl
 .exact b5 l h
 .refine⟨by rw[List.length_set]; exact rr.2,λx hx=>?_⟩
  rcases List.mem_or_eq_of_mem_set hx with h|rfl
  .exact(b5 _ rr.1).2 x h
  .exact hw
theorem Yh(hB:Bq m rows)(hp:p<rows.length)(hi:i<m)(t:Nat):BH.col (mv rows p i w) t=if t=i then(BH.col rows i).set p w else BH.col rows t:=by
 have rr:=(hB.row hp).2
 refine List.ext_getElem? λk=>?_
 by_cases c:k<rows.length
 .have e1:(BH.col (mv rows p i w) t)[k]?=some (jq (mv rows p i w) k t):=by unfold BH.col; simp[jH,c]
  have e2:∀t,(BH.col rows t)[k]?=some (jq rows k t):=λt=>by unfold BH.col; simp[c]
  rw[e1]
  unfold jq mv
  by_cases kp:k=p
  .subst kp
   by_cases ti:t=i
   .subst ti
    have rl:t<rows[k].length:=by simp[c]at rr; lia
    simp[c,rl,iU]
   .rw[if_neg ti,e2]
    simp[c,List.getElem?_set,Ne.symm ti]
  .by_cases ti:t=i
   .subst ti
    rw[if_pos rfl,List.getElem?_set_ne (Ne.symm kp),e2]
    simp[List.getElem?_set,Ne.symm kp]
   .rw[if_neg ti,e2]
    simp[List.getElem?_set,Ne.symm kp]
 .have e1:(BH.col (mv rows p i w) t)[k]?=none:=List.getElem?_eq_none (by rw[iU,jH]; lia)
  rw[e1]
  split <;> exact(List.getElem?_eq_none (by simp only[List.length_set,iU]; lia)).symm
theorem Ax(hB:Bq m rows)(hp:p<rows.length)(hi:i<m):vv r (mv rows p i w)=vw r rows p i w:=by
 funext t
 unfold vw vv
 rw[Yh hB hp hi]
 split <;> rfl
end
section
variable {m p i:Nat}{rows:List (List (Int × Int))}{r:Ru}{w:Int × Int}
theorem aiq(hB:Bq m rows)(ho:bL rows.length r):Xl [aQ rows,aF r]=.ok (.lst ((List.range m).map λt=>fT (vv r rows t)),true):=by
 have g0:aX (aQ rows) (.int 0)=.ok (aJ (rows.getD 0 []),false):=jw hB.1
 have e0:=gZ (rows.getD 0 [])
 rw[(hB.row hB.1).2]at e0
 have h4:=hB.2.1
 have:=hB.2.2.2.1
 have mk:∀t,t<m->tB [aF r,.lst (rows.map λl=>fT (l.getD t (0,1)))]=.ok (fT (vv r rows t),false):=λt ht=>by
  rw[XH]
  have lc:(BH.col rows t).length=rows.length:=iU ..
  obtain⟨v,e,w⟩:=ah9 (by lia) (p7 hB ht) (by rw[lc]; exact hB.1) (by rw[lc]; exact h4) (by rw[lc]; exact ho)
  rw[e,<-Aj (λx mx=>⟨(p7 hB ht x mx).2.2.1,(p7 hB ht x mx).2.2.2.2⟩) w]
 unfold aQ at *
 walk_at "d"
 have:=(hB.2.2.2.2 x hx).1
 lia
 walk_at "r"
 exact mk x hx
 walk_at "r"
noncomputable abbrev Yi(r:Ru)(rows:List (List (Int × Int)))(m:Nat):Tr:=.lst ((List.range m).map λt=>fT (vv r rows t))
theorem air{k:List Nat}(hB:Bq m rows)(ho:bL rows.length r)(hV:∀t,t<m->t≠i->Fq 400 (vv r rows t))(hk:∀t∈k,t<m)(hl:k.length<=12):∃b,Ar [aQ rows,aF r,.lst (k.map iT)]=.ok (.bl b,false)/\(b=true↔jr (vv r rows) (vv r rows) m k):=by
 suffices h:∃z,Ar [aQ rows,aF r,.lst (k.map iT)]=.ok z/\∃b,(b=true↔jr (vv r rows) (vv r rows) m k)/\z=(.bl b,false) by
  obtain⟨_,e,b,h,rfl⟩:=h
  exact⟨b,e,h⟩
 have b4:=hB.2.2.2.1
 have e1:=aiq hB ho
 have ll:fX (Yi r rows m)=.ok (.int (m:Nat),false):=by
  show Rs.ok (Tr.int (((List.range m).map λt=>fT (vv r rows t)).length:Int),false)=_
  simp
 have gi:∀t,t<m->aX (Yi r rows m) (iT t)=.ok (fT (vv r rows t),false):=λt ht=>pX (by simp[ht])
 walk_at "e"
 refine mH [4,5] (λ_:Unit=>[]) (λq _=>∀t∈k.take q,∀o,o<m->o∉k->bw (vv r rows t) (vv r rows o)=false) () (λt h=>by cases h) rfl (λq t v s hq iq=>?_) (λv s iq=>?_)
 .have tm:=hk t (List.mem_of_getElem? hq)
  have tk:=List.mem_of_getElem? hq
  walk_at "p"
  refine rY [5] (λ_:Unit=>[]) (λq _=>∀o,o<q->o∉k->bw (vv r rows t) (vv r rows o)=false) () (λo h=>by lia) rfl (λo v s om io=>?_) (λv s io=>?_)
  .have g1:=gi t tm
   have g2:=gi o om
   have ne:=inN o k
   by_cases c:o∈k
   .rw[decide_eq_true c]at ne
    walk_at "p"
    exact⟨(),λo' h n=>by
     by_cases z:o'=o
     .subst z; exact(n c).elim
     .exact io o' (by lia) n,exV rfl⟩
   .rw[decide_eq_false c]at ne
    have be:Jo [fT (vv r rows t),fT (vv r rows o)]=.ok (.bl (bw (vv r rows t) (vv r rows o)),false):=by
     by_cases ti:t=i
     .exact Js (XJ hB ho tm).2 (hV o om λe=>c (e.trans ti.symm▸tk)) (by lia)
     .exact Js (hV t tm ti) (XJ hB ho om).2 (by lia)
    cases lt:bw (vv r rows t) (vv r rows o)with
    |true =>
     rw[lt]at be
     walk_at "p"
     exact⟨_,rfl,false,⟨λz=>(by cases z),λh=>by rw[h t tk o om c]at lt; cases lt⟩,rfl⟩
    |false =>
     rw[lt]at be
     walk_at "p"
     exact⟨(),λo' h n=>by
      by_cases z:o'=o
      .subst z; exact lt
      .exact io o' (by lia) n,exV rfl⟩
  .refine⟨(),λt' mt o om no=>?_,exV rfl⟩
   rw[List.take_add_one,hq]at mt
   rcases List.mem_append.mp mt with mt|mt
   .exact iq t' mt o om no
   .cases List.mem_singleton.mp mt
    exact io o om no
 .rw[List.take_length]at iq
  walk_at "p"
  exact⟨_,rfl,true,⟨λ_=>iq,λ_=>rfl⟩,rfl⟩
end
section
variable {m:Nat}{rows:List (List (Int × Int))}{r:Ru}{p i:Nat}
theorem ais{k:List Nat}(hB:Bk m rows)(ho:bL rows.length r)(hp:p<rows.length)(hi:i<m)(hk:Kp m r rows k):∃lo hi,Rm m r rows p i k lo hi/\∀x,Fq 1620 x->x.1<=x.2->vQ [aQ (mv rows p i x),aF r,.lst (k.map iT),iT p,iT i]=.ok (.tup [fT lo,fT hi],false):=by
 obtain⟨hk,hl,hs⟩:=hk
 have lc:(BH.col rows i).length=rows.length:=iU ..
 have b4:=hB.2.2.2.1
 have E:∀x,Fq 1620 x->x.1<=x.2->∃W,Ik [aQ (mv rows p i x),aF r]=.ok (W,true)/\Yg [.sh (aQ (mv rows p i x)),.sh (aF r),.sh (.lst (k.map iT)),.sh (iT p),.sh (iT i),.sh W,.un,.un,.un,.un,.un]=.ok (.v (.lst ((cH m k i).map λo=>fT (vv r rows o))) true,[.sh (aQ (mv rows p i x)),.sh (aF r),.sh (.lst (k.map iT)),.sh (iT p),.sh (iT i),.sh W,.un,.un,.un,.un,.un])/\vP [aQ (mv rows p i x),aF r,iT p,iT i,.tup [.int 0,.int 1]]=.ok (fT (wv r ((BH.col rows i).set p (0,1))),false)/\vP [aQ (mv rows p i x),aF r,iT p,iT i,.tup [.int 1,.int 1]]=.ok (fT (wv r ((BH.col rows i).set p (1,1))),false):=λx fx lx=>by
  have hB':=Bq.mv (i:=i) (bq hB) hp ⟨fx,lx⟩
  have ho':bL (mv rows p i x).length r:=by rw[jH]; exact ho
  have hp':p<(mv rows p i x).length:=by rw[jH]; exact hp
  have ww:∀w,Wo w->vP [aQ (mv rows p i x),aF r,iT p,iT i,fT w]=.ok (fT (wv r ((BH.col rows i).set p w)),false):=λw hw=>by
   have ce:(BH.col (mv rows p i x) i).set p w=(BH.col rows i).set p w:=by rw[Yh (bq hB) hp hi,if_pos rfl,List.set_set]
   have:=ain (w:=w) hB' ho' hi hp' (λy m=>by
    rw[ce]at m
    rcases List.mem_or_eq_of_mem_set m with m|rfl
    .exact pZ hB hi y m
    .exact hw)
   rwa[ce]at this
  refine⟨_,XQ hB' ho',?_,ww (0,1) Jc,ww (1,1) vX⟩
  have ec:=aip (V:=vv r (mv rows p i x)) (k:=k) b4 hi (.sh (aQ (mv rows p i x))) (.sh (aF r)) (.sh (iT p)) .un .un .un .un .un
  rw[List.map_congr_left (l:=cH m k i) (g:=λo=>fT (vv r rows o)) λo mo=>by
   rw[Ax (bq hB) hp hi]
   unfold vw
   rw[if_neg λe=>?_]
   have:=(mL.mp mo).2
   rw[e]at this
   by_cases z:i∈k
   .exact this.mp z z
   .exact z (this.mpr z)]at ec
  exact ec
 have rm:∀o∈cH m k i,o<m:=λo h=>(mL.mp h).1
 have fx:∀x∈BH.col rows i,Fx x:=λx mx=>(pZ hB hi x mx).fx
 have l1:1<=(BH.col rows i).length:=by rw[lc]; exact hB.1
 have lp:p<(BH.col rows i).length:=by rw[lc]; exact hp
 have ho':bL (BH.col rows i).length r:=by rw[lc]; exact ho
 have fp:∀x,Fx x->1<=(wv r ((BH.col rows i).set p x)).2:=λx hx=>(Ak (r:=r) (λy m=>by
  rcases List.mem_or_eq_of_mem_set m with m|rfl
  .exact fx y m
  .exact hx) (by rw[List.length_set]; exact l1) (by rw[List.length_set]; exact ho')).2.2.1
 have mono:=λx y (hx:Fx x) (hy:Fx y) (h:le2 x y)=>aio (r:=r) fx l1 ho' lp hx hy h
 have fw:∀t,t<m->Fq 400 (vv r rows t):=λt ht=>Av hB ho ht
 have fs:∀x,Wo x->Fq 400 (wv r ((BH.col rows i).set p x)):=λx hx=>by
  have q:∀y∈(BH.col rows i).set p x,Wo y:=λy m=>by
   rcases List.mem_or_eq_of_mem_set m with m|rfl
   .exact pZ hB hi y m
   .exact hx
  exact Wv.fq q (by rw[List.length_set,lc]; exact hB.2.1) (by rw[List.length_set]; exact ho') (Jb (r:=r) q (by rw[List.length_set]; exact l1) (by rw[List.length_set,lc]; have:=hB.2.1; lia) (by rw[List.length_set]; exact ho')).2
 have here:wv r ((BH.col rows i).set p (BH.col rows i)[p])=vv r rows i:=by rw[List.set_getElem_self]
 have wh:Wo (BH.col rows i)[p]:=pZ hB hi _ (List.getElem_mem lp)
 have m0:∀x,Fx x->le2 (wv r ((BH.col rows i).set p (0,1))) (wv r ((BH.col rows i).set p x)):=λx hx=>mono _ _ Jc.fx hx (by unfold le2; have:=hx.1; lia)
 have m1:∀x,Fx x->x.1<=x.2->le2 (wv r ((BH.col rows i).set p x)) (wv r ((BH.col rows i).set p (1,1))):=λx hx h=>mono _ _ hx vX.fx (by unfold le2; lia)
 have h0:=m0 _ wh.fx
 have h1:=m1 _ wh.fx wh.2.1
 rw[here]at h0 h1
 have f0:=fs _ Jc
 have f1:=fs _ vX
 have Ay:Fq 1600 (0,1):=sV.up (by lia)
 have Az:Fq 1600 (1,1):=sX.up (by lia)
 have z0:∀x,Fx x->le2 (0,1) x:=λx hx=>by unfold le2; have:=hx.1; lia
 have z1:∀x:Int × Int,x.1<=x.2->le2 x (1,1):=λx h=>by unfold le2; lia
 by_cases c:cH m k i=[]
 .refine⟨(0,1),(1,1),⟨Ay,Az,by decide,by decide,f0,f1,λ_=>⟨rfl,rfl⟩,λ_=>rfl,λ_=>rfl,λx hx h=>⟨λ_=>⟨z0 x hx,z1 x h⟩,λ_=>(Jx hi hk hs).mpr λo mo=>by rw[c]at mo; cases mo⟩⟩,λx fx lx=>?_⟩
  have n1:((cH m k i).map λo=>fT (vv r rows o)).isEmpty=true:=by rw[c]; rfl
  obtain⟨W,e1,ec,w0,w1⟩:=E x fx lx
  walk_at "d"
  done
 have n1:((cH m k i).map λo=>fT (vv r rows o)).isEmpty=false:=by cases h:cH m k i with|nil=>exact(c h).elim|cons _ _=>rfl
 have rl:(cH m k i).length<=12:=Nat.le_trans (List.length_filter_le ..) (by rw[List.length_range]; exact b4)
 have fr:Frs 400 ((cH m k i).map (vv r rows)):=Fq.frs λx mx=>by
  obtain⟨t,mt,rfl⟩:=List.mem_map.mp mx
  exact fw t (rm t mt)
 obtain⟨fa,ga⟩:=WR fr (by rw[List.length_map]; lia) (by lia) (by rw[List.length_map]; lia)
 obtain⟨a,b,ha,hb,a1,b1,en⟩:=ahg fa (by simpa using c)
 rw[List.length_map]at a1 b1 en
 rw[Ah]at ga
 have at_:∀j (h:j<(cH m k i).length),at2 ((cH m k i).map (vv r rows)) j=vv r rows (cH m k i)[j]:=λj h=>by unfold at2; simp[h]
 have i1:aX (.lst ((kj ((cH m k i).map (vv r rows))).map iT)) (.int 0)=.ok (iT a,false):=pX (i:=0) (by rw[List.getElem?_map,ha]; rfl)
 have i2:aX (.lst ((kj ((cH m k i).map (vv r rows))).map iT)) (.int (-1))=.ok (iT b,false):=ahh (by rw[List.length_map,List.getElem?_map,hb]; rfl)
 have i3:∀j (h:j<(cH m k i).length),aX (.lst ((cH m k i).map λo=>fT (vv r rows o))) (iT j)=.ok (fT (vv r rows (cH m k i)[j]),false):=λj h=>pX (by simp[h])
 have i4:=i3 a a1
 have i5:=i3 b b1
 have ea:∀o∈cH m k i,bw (vv r rows (cH m k i)[a]) (vv r rows o)=false/\bw (vv r rows o) (vv r rows (cH m k i)[b])=false:=λo mo=>by
  obtain⟨j,hj,rfl⟩:=List.getElem_of_mem mo
  have:=en j hj
  rwa[at_ j hj,at_ a a1,at_ b b1]at this
 have ma:=List.getElem_mem a1
 have mb:=List.getElem_mem b1
 generalize (cH m k i)[b]=ob,(cH m k i)[a]=oa at *
 have nA:=fw oa (rm _ ma)
 have v5:=fw ob (rm _ mb)
 have Yj:∀x∈BH.col rows i,Fq 45 x:=λx mx=>(pZ hB hi x mx).fq
 have vi:=fw i hi
 by_cases z:i∈k
 .have me:fJ id (iT i) (.lst (k.map iT))=.ok (.bl true,false):=by rw[jL]; simp[z]
  have sw:∀x,Fx x->(jr (vw r rows p i x) (vw r rows p i x) m k↔le2 (vv r rows oa) (wv r ((BH.col rows i).set p x))):=λx hx=>by
   have fq:=fp x hx
   rw[Jx hi hk hs]
   simp only[z,if_true]
   exact⟨λh=>dY.mp (h oa ma),λh o mo=>dY.mpr (gQ (fw o (rm o mo)).2.2.1 nA.2.2.1 fq (dY.mp (ea o mo).1) h)⟩
  have gi:le2 (vv r rows oa) (vv r rows i):=dY.mp (hs i z oa (rm _ ma) λh=>(mL.mp ma).2.mp h z)
  have v7:=W0 f0 nA
  cases lt:bw (wv r ((BH.col rows i).set p (0,1))) (vv r rows oa)with
  |false =>
   rw[lt]at v7
   refine⟨(0,1),(1,1),⟨Ay,Az,by decide,by decide,f0,f1,λ_=>⟨rfl,rfl⟩,λ_=>rfl,λ_=>rfl,λx hx h=>⟨λ_=>⟨z0 x hx,z1 x h⟩,λ_=>(sw x hx).mpr (gQ nA.2.2.1 f0.2.2.1 (fp x hx) (dY.mp lt) (m0 x hx))⟩⟩,λx fx lx=>?_⟩
   obtain⟨W,e1,ec,w0,w1⟩:=E x fx lx
   walk_at "d"
   done
  |true =>
   rw[lt]at v7
   obtain⟨u,e,fu,iu,fv⟩:=inv (s:=true) Yj l1 (by rw[lc]; exact hB.2.1) lp ho' nA (λq=>by rw[dY.mpr q]at lt; cases lt) (gQ nA.2.2.1 vi.2.2.1 f1.2.2.1 gi h1)
   have u1:le2 u (1,1):=(iu (1,1) vX.fx).mp (gQ nA.2.2.1 vi.2.2.1 f1.2.2.1 gi h1)
   refine⟨u,(1,1),⟨fu,Az,by unfold le2 at u1; lia,by decide,fv,f1,λh=>(c h).elim,λ_=>rfl,λh=>(h z).elim,λx hx h=>(sw x hx).trans ((iu x hx).trans ⟨λw=>⟨w,z1 x h⟩,λw=>w.1⟩)⟩,λx fx lx=>?_⟩
   obtain⟨W,e1,ec,w0,w1⟩:=E x fx lx
   walk_at "d"
   done
 .have me:fJ id (iT i) (.lst (k.map iT))=.ok (.bl false,false):=by rw[jL]; simp[z]
  have sw:∀x,Fx x->(jr (vw r rows p i x) (vw r rows p i x) m k↔le2 (wv r ((BH.col rows i).set p x)) (vv r rows ob)):=λx hx=>by
   have fq:=fp x hx
   rw[Jx hi hk hs]
   simp only[z,if_false]
   exact⟨λh=>dY.mp (h ob mb),λh o mo=>dY.mpr (gQ fq v5.2.2.1 (fw o (rm o mo)).2.2.1 h (dY.mp (ea o mo).2))⟩
  have gi:le2 (vv r rows i) (vv r rows ob):=dY.mp (hs ob ((mL.mp mb).2.mpr z) i hi z)
  have v7:=W0 v5 f1
  cases lt:bw (vv r rows ob) (wv r ((BH.col rows i).set p (1,1)))with
  |false =>
   rw[lt]at v7
   refine⟨(0,1),(1,1),⟨Ay,Az,by decide,by decide,f0,f1,λ_=>⟨rfl,rfl⟩,λ_=>rfl,λ_=>rfl,λx hx h=>⟨λ_=>⟨z0 x hx,z1 x h⟩,λ_=>(sw x hx).mpr (gQ (fp x hx) f1.2.2.1 v5.2.2.1 (m1 x hx h) (dY.mp lt))⟩⟩,λx fx lx=>?_⟩
   obtain⟨W,e1,ec,w0,w1⟩:=E x fx lx
   walk_at "d"
   done
  |true =>
   rw[lt]at v7
   have bt:bb false (vv r rows ob) (wv r ((BH.col rows i).set p (1,1))):=λq=>by rw[dY.mpr q]at lt; cases lt
   obtain⟨u,e,fu,iu,fv⟩:=inv (s:=false) Yj l1 (by rw[lc]; exact hB.2.1) lp ho' v5 (λq=>q (gQ f0.2.2.1 vi.2.2.1 v5.2.2.1 h0 gi)) bt
   have u1:=(iu (1,1) vX.fx).mp bt
   refine⟨(0,1),u,⟨Ay,fu,by decide,by unfold bb le2 at u1; simp at u1; lia,f0,fv,λh=>(c h).elim,λh=>(z h).elim,λ_=>rfl,λx hx h=>(sw x hx).trans ⟨λw=>⟨z0 x hx,Classical.not_not.mp λq=>(iu x hx).mpr q w⟩,λw=>Classical.not_not.mp λq=>(iu x hx).mp q w.2⟩⟩,λx fx lx=>?_⟩
   obtain⟨W,e1,ec,w0,w1⟩:=E x fx lx
   walk_at "d"
   done
end
noncomputable def kp(rs:List (List (Int × Int)))(r:Ru)(c:Nat)(k b:List Nat)(n:Int):List (Str × aK):=[("rows",.dp (rs.map aJ)),("rule",.sh (aF r)),("wanted",.sh (iT c)),("kept",.sh (.lst (k.map iT))),("kept_before",.sh (.lst (b.map iT))),("changes",.sh (.int n))]
section
variable {rs rs':List (List (Int × Int))}{r:Ru}{c:Nat}{k b k' b':List Nat}{n n':Int}
theorem KJ:gC (kp rs r c k b n) "kept" = .ok (.lst (k.map iT)):=rfl
theorem KN:gC (vm (kp rs r c k b n)) "rows" = .ok (aQ rs):=rfl
theorem KQ:gC (vm (kp rs r c k b n)) "rule" = .ok (aF r):=rfl
theorem KR:gC (vm (kp rs r c k b n)) "kept" = .ok (.lst (k.map iT)):=rfl
theorem kn{x:Str}(h:x = "things" ∨ x = "room"):((kp rs r c k b n).lookup x).isNone=true:=by rcases h with rfl|rfl <;> rfl
theorem kl:(kp rs r c k b n).length<999:=by show 6<999; decide
end
theorem noI(l:List Nat):bR (l.map iT)=true:=Ec λt ht=>by
 obtain⟨x,_,rfl⟩:=List.mem_map.mp ht
 rfl
theorem Cd(l:List Nat):fM (.lst (l.map iT),true)=true:=by unfold fM; simp only[noI]; rfl
theorem KY{ρ : En}{i:Nat}{f:SF}{ts:List Tr}{Q:Fl->En->Prop}(h : ρ[i]?=some (.ow ts))(k:W (f ρ) Q):W (vg i f ρ) Q:=by unfold vg pP; rw[h]; exact k
noncomputable abbrev ke(rs:List (List (Int × Int)))(r:Ru)(c:Nat)(k b:List Nat)(n:Int):Sl:=.ob true "Keeper" (kp rs r c k b n)
section
variable {m c p i:Nat}{rs:List (List (Int × Int))}{r:Ru}{k b:List Nat}{n:Int}{w:Int × Int}
theorem ait:Xu (ke rs r c k b n) []=.ok (.lst (k.map iT),ke rs r c k b n):=by
 walk_at "f"
 done
theorem aiu{lo up:Int × Int}(hB:Bk m rs)(hp:p<rs.length)(hi:i<m)(e:vQ [aQ rs,aF r,.lst (k.map iT),iT p,iT i]=.ok (.tup [fT lo,fT up],false)):Xw (ke rs r c k b n) [iT p,iT i]=.ok (.tup [fT lo,fT up],ke rs r c k b n):=by
 have e3:=Wc hp
 have e4:=XS (bq hB) hi
 walk_at "f"
 done
theorem Jy{lo up:Int × Int}(hB:Bq m rs)(ho:bL rs.length r)(hc:c<=m)(hp:p<rs.length)(hi:i<m)(e1:vO [aQ rs,aF r,iT c]=.ok (.lst (k.map iT),true))(e:vQ [aQ rs,aF r,.lst (k.map iT),iT p,iT i]=.ok (.tup [fT lo,fT up],false)):Im [aQ rs,aF r,iT c,iT p,iT i]=.ok (.tup [fT lo,fT up],false):=by
 have e2:=Jq hB ho hc
 have e3:=Wc hp
 have e4:=XS hB hi
 walk_at "d"
 done
theorem aiv{ys:List Nat}(hB:Bk m rs)(ho:bL rs.length r)(hc:c<=m)(e1:vO [aQ rs,aF r,iT c]=.ok (.lst (ys.map iT),true)):Xq (.ob true "Keeper" []) [aQ rs,aF r,iT c]=.ok (.non,ke rs r c ys ys 0):=by
 have e2:=Jq (bq hB) ho hc
 have e3:Ip [aQ rs]=.ok (.lst (rs.map aJ),true):=ah5 hB.2.1
 have e4:=ah6 (r:=r)
 have p0:dH "rows" (.dp (rs.map aJ)) []=([("rows",aK.dp (rs.map aJ))]:List (Str × aK)):=rfl
 have p1:dH "rule" (.sh (aF r)) [("rows",aK.dp (rs.map aJ))]=([("rows",aK.dp (rs.map aJ)),("rule",aK.sh (aF r))]:List (Str × aK)):=rfl
 have p2:dH "wanted" (.sh (iT c)) [("rows",aK.dp (rs.map aJ)),("rule",aK.sh (aF r))]=([("rows",aK.dp (rs.map aJ)),("rule",aK.sh (aF r)),("wanted",aK.sh (iT c))]:List (Str × aK)):=rfl
 have p3:dH "kept" (.sh (.lst (ys.map iT))) [("rows",aK.dp (rs.map aJ)),("rule",aK.sh (aF r)),("wanted",aK.sh (iT c))]=([("rows",aK.dp (rs.map aJ)),("rule",aK.sh (aF r)),("wanted",aK.sh (iT c)),("kept",aK.sh (.lst (ys.map iT)))]:List (Str × aK)):=rfl
 have p4:dH "kept_before" (.sh (.lst (ys.map iT))) [("rows",aK.dp (rs.map aJ)),("rule",aK.sh (aF r)),("wanted",aK.sh (iT c)),("kept",aK.sh (.lst (ys.map iT)))]=([("rows",aK.dp (rs.map aJ)),("rule",aK.sh (aF r)),("wanted",aK.sh (iT c)),("kept",aK.sh (.lst (ys.map iT))),("kept_before",aK.sh (.lst (ys.map iT)))]:List (Str × aK)):=rfl
 have p5:dH "changes" (.sh (.int 0)) [("rows",aK.dp (rs.map aJ)),("rule",aK.sh (aF r)),("wanted",aK.sh (iT c)),("kept",aK.sh (.lst (ys.map iT))),("kept_before",aK.sh (.lst (ys.map iT)))]=kp rs r c ys ys 0:=rfl
 walk_at "f"
 done
theorem Bk.put(hB:Bk m rs)(hp:p<rs.length)(hw:Wo w):Bk m (mv rs p i w):=by
 obtain⟨b1,b2,b3,b4,b5⟩:=hB
 have rr:=Bk.row ⟨b1,b2,b3,b4,b5⟩ hp
 refine⟨by rw[jH]; exact b1,by rw[jH]; exact b2,b3,b4,λl hl=>?_⟩
 rcases List.mem_or_eq_of_mem_set hl with h|rfl
 .exact b5 l h
 .refine⟨by rw[List.length_set]; exact rr.2.1,λx hx=>?_⟩
  rcases List.mem_or_eq_of_mem_set hx with h|rfl
  .exact rr.2.2 x h
  .exact hw
end
theorem Yk:∀ys ks:List Nat,gH (ys.map iT) (ks.map iT)=true->ys=ks
 | [],[],_=>rfl
 | [],_::_,h=>by cases h
 |_::_,[],h=>by cases h
 |y::ys,k::ks,h=>by
  have h:(eqT (iT y) (iT k)&&gH (ys.map iT) (ks.map iT))=true:=h
  rw[Wy,Bool.and_eq_true,decide_eq_true_eq]at h
  rw[h.1,Yk ys ks h.2]
theorem aiw(ys ks:List Nat):∃z,iG (.lst (ys.map iT)) (.lst (ks.map iT))=.ok (.bl z,false)/\dw (.lst (ys.map iT)) (.lst (ks.map iT))=.ok (.bl (!z),false)/\(z=true->ys=ks):=by
 have d:∀l:List Nat,dep (.lst (l.map iT))<=40:=λl=>by rw[Wg,Ag]; lia
 exact⟨_,if_pos ⟨d ys,d ks⟩,if_pos ⟨d ys,d ks⟩,Yk ys ks⟩
theorem p12:kJ (.int 10) (.int 12)=.ok (.int 1000000000000,false):=by kernel_rfl
theorem aix(x y:Int × Int):eqT (fT x) (fT y)=decide (x=y):=by
 unfold fT
 rw[show eqT (.tup [.int x.1,.int x.2]) (.tup [.int y.1,.int y.2])=(eqT (.int x.1) (.int y.1)&&(eqT (.int x.2) (.int y.2)&&true))from rfl]
 have e:∀a b:Int,eqT (.int a) (.int b)=decide (a=b):=λa b=>by
  unfold eqT
  by_cases h:a=b <;> simp[h]
 rw[e,e]
 obtain⟨a,b⟩:=x
 obtain⟨c,d⟩:=y
 by_cases h:a=c <;> by_cases h':b=d <;> simp[h,h']
theorem aiy(x lo hi:Int × Int):fJ id (fT x) (.tup [fT lo,fT hi])=.ok (.bl (decide (lo=x) || decide (hi=x)),false):=by
 show(if deps [fT lo,fT hi]<=40/\dep (fT x)<=40 then Rs.ok (Tr.bl (id (lE (fT x) [fT lo,fT hi])),false)else .bad)=_
 rw[if_pos ⟨by rw[sH,sH,Iu,vU,vU]; decide,by rw[vU]; decide⟩]
 unfold lE
 simp only[List.any_cons,List.any_nil,aix,Bool.or_false]
 rfl
theorem Yl(x y:Int × Int):dep (.tup [fT x,fT y])<=40:=by rw[Wf,sH,sH,Iu,vU,vU]; decide
noncomputable abbrev md(lo up:Int × Int):Int × Int:=bK (sumF lo up) (1,2)
theorem aiz{lo up:Int × Int}(hl:Fq 1600 lo)(hu:Fq 1600 up)(h:le2 lo up):Fq 3203 (md lo up)/\le2 lo (md lo up)/\le2 (md lo up) up:=by
 have s:=Aa hl hu
 have q2:Fq 2 (1,2):=by unfold Fq; decide
 have f:=sU s q2
 have l2:=hl.2.2.1
 have u2:=hu.2.2.1
 have d1:=bW l2 u2
 have qs:Q (sumF lo up) (lo.1*up.2+up.1*lo.2) (lo.2*up.2):=qd d1
 have s2:=s.2.2.1
 have qm:Q (md lo up) (lo.1*up.2+up.1*lo.2) (lo.2*up.2*2):=tG (qd (bW s2 (by decide:(1:Int)<=2))) (bW s2 (by decide:(1:Int)<=2)) (by unfold Q at qs; dsimp only; grind)
 unfold le2 at h
 have p1:=Int.mul_le_mul_of_nonneg_right h (show 0<=lo.2 by lia)
 have p2:=Int.mul_le_mul_of_nonneg_right h (show 0<=up.2 by lia)
 exact⟨f,(p8 (show Q lo lo.1 lo.2 from rfl) qm l2 f.2.2.1 l2 (bW d1 (by decide))).mpr (by grind),(p8 qm (show Q up up.1 up.2 from rfl) f.2.2.1 u2 (bW d1 (by decide)) u2).mpr (by grind)⟩
section
variable {m c p i:Nat}{rs:List (List (Int × Int))}{r:Ru}{k b:List Nat}{n:Int}{w:Int × Int}
theorem Ym(hB:Bk m rs)(hp:p<rs.length)(hi:i<m):mv rs p i (jq rs p i)=rs:=by
 have rr:=(hB.row hp).2.1
 unfold mv jq
 rw[show rs.getD p []=rs[p] by simp[hp]]at rr ⊢
 rw[show rs[p].getD i (0,1)=rs[p][i]'(by rw[rr]; exact hi) by simp[rr,hi],List.set_getElem_self,List.set_getElem_self]
noncomputable abbrev Yn:BF:=uK (dO (dN qR (pH (g1 tu) (fU (bY 0) fL)) (dN kJ (eC (.int 10)) (eC (.int 12))))) (dO (dN (fJ id) (bY 0) (bY 1)))
theorem aiA{x lo up:Int × Int}(h:x.1<=x.2):Yn [.sh (fT x),.sh (.tup [fT lo,fT up])]=.ok (decide (x.2<1000000000000) || (decide (lo=x) || decide (up=x)),[.sh (fT x),.sh (.tup [fT lo,fT up])]):=by
 have mx:tu (fT x)=.ok (.int x.2,false):=by
  show Rs.ok (Tr.int (if x.2 > x.1 then x.2 else x.1),false)=_
  congr 3
  split <;> lia
 have ap:=p12
 have ef:=aiy x lo up
 by_cases c:x.2<1000000000000
 .rw[decide_eq_true c,Bool.true_or]
  walk_at "r"
  done
 .rw[decide_eq_false c,Bool.false_or]
  walk_at "r"
  done
theorem aiB(hB:Bk m rs)(ho:bL rs.length r)(hc:c<=m)(hp:p<rs.length)(hi:i<m)(hk:Kp m r rs k)(c0:c=0->k=[])(c1:c=m->∀t,t<m->t∈k)(hb:vO [aQ rs,aF r,iT c]=.ok (.lst (k.map iT),true)):∃lo up,vQ [aQ rs,aF r,.lst (k.map iT),iT p,iT i]=.ok (.tup [fT lo,fT up],false)/\Xo [aQ rs,aF r,iT c,iT p,iT i,.lst (k.map iT)]=.ok (.bl true,false):=by
 obtain⟨lo,up,q,rm⟩:=ais hB ho hp hi hk
 have wx:Wo (jq rs p i):=hB.WY hp hi
 have er:=rm _ (wx.fq.up (by lia)) wx.2.1
 rw[Ym hB hp hi]at er
 refine⟨lo,up,er,?_⟩
 have ef:=Jy (bq hB) ho hc hp hi hb er
 have e0:aX (aQ rs) (.int 0)=.ok (aJ (rs.getD 0 []),false):=jw hB.1
 have vY:=gZ (rs.getD 0 [])
 rw[(hB.row hB.1).2.1]at vY
 by_cases z0:c=0
 .have h:=q.z (List.eq_nil_iff_forall_not_mem.mpr λo mo=>by
   have:=(mL.mp mo).2
   rw[c0 z0]at this
   simp at this)
  rw[h.1,h.2]at ef
  have ge:iG (.tup [fT (0,1),fT (1,1)]) (.tup [.tup [.int 0,.int 1],.tup [.int 1,.int 1]])=.ok (.bl true,false):=by kernel_rfl
  walk_at "d"
  done
 by_cases zm:c=m
 .have h:=q.z (List.eq_nil_iff_forall_not_mem.mpr λo mo=>by
   have:=mL.mp mo
   exact this.2.mp (c1 zm o this.1) (c1 zm i hi))
  rw[h.1,h.2]at ef
  have ge:iG (.tup [fT (0,1),fT (1,1)]) (.tup [.tup [.int 0,.int 1],.tup [.int 1,.int 1]])=.ok (.bl true,false):=by kernel_rfl
  walk_at "d"
  done
 have sx:=(q.s _ wx.fx wx.2.1).mp (by
  have:=congrArg (vv r) (Ym (i:=i) hB hp hi)
  rw[Ax (bq hB) hp hi]at this
  rw[this]
  exact hk.x3)
 have lu:=gQ q.l.2.2.1 wx.2.2.1 q.h.2.2.1 sx.1 sx.2
 obtain⟨fm,m1,m2⟩:=aiz q.l q.h lu
 have p1:Jm [fT lo,fT up]=.ok (fT (sumF lo up),false):=X3 q.l q.h (by lia)
 have p2:Jk [fT (sumF lo up),.tup [.int 1,.int 2]]=.ok (fT (md lo up),false):=Jt (y:=(1,2)) (N:=2) (Aa q.l q.h) (by unfold Fq; decide) (by lia)
 have mu:(md lo up).1<=(md lo up).2:=by
  have:=gQ fm.2.2.1 q.h.2.2.1 (by decide) m2 (show le2 up (1,1) by unfold le2; have:=q.h1; lia)
  unfold le2 at this
  lia
 have fv:∀x,Wo x->Fq 400 (wv r ((BH.col rs i).set p x)):=λx wo=>by
  have h:=Av (r:=r) (t:=i) (Bk.put (i:=i) hB hp wo) (by rw[jH]; exact ho) hi
  rw[Ax (bq hB) hp hi]at h
  unfold vw at h
  rwa[if_pos rfl]at h
 have hu : [fT lo,fT up,fT (md lo up)]=List.map fT [lo,up,md lo up]:=rfl
 have le1:∀x∈[lo,up,md lo up],x.1<=x.2:=λx mx=>by
  rcases List.mem_cons.mp mx with rfl|mx
  .exact q.l1
  rcases List.mem_cons.mp mx with rfl|mx
  .exact q.h1
  .cases List.mem_singleton.mp mx
   exact mu
 have ends:∀x∈[lo,up,md lo up].filter (λx=>decide (x.2<1000000000000) || (decide (lo=x) || decide (up=x))),Fq 1620 x/\x.1<=x.2/\Fq 400 (wv r ((BH.col rs i).set p x))/\jr (vw r rs p i x) (vw r rs p i x) m k:=λx mx=>by
  obtain⟨mx,pm⟩:=List.mem_filter.mp mx
  have o1:Fq 1620 lo/\lo.1<=lo.2/\Fq 400 (wv r ((BH.col rs i).set p lo))/\jr (vw r rs p i lo) (vw r rs p i lo) m k:=⟨q.l.up (by lia),q.l1,q.lv,(q.s _ q.l.fx q.l1).mpr ⟨kh _,lu⟩⟩
  have o2:Fq 1620 up/\up.1<=up.2/\Fq 400 (wv r ((BH.col rs i).set p up))/\jr (vw r rs p i up) (vw r rs p i up) m k:=⟨q.h.up (by lia),q.h1,q.hv,(q.s _ q.h.fx q.h1).mpr ⟨lu,kh _⟩⟩
  rcases List.mem_cons.mp mx with rfl|mx
  .exact o1
  rcases List.mem_cons.mp mx with rfl|mx
  .exact o2
  .cases List.mem_singleton.mp mx
   by_cases lt:(md lo up).2<1000000000000
   .have wo:Wo (md lo up):=⟨fm.1,mu,fm.2.2.1,by lia,fm.2.2.2.2⟩
    exact⟨wo.fq.up (by lia),mu,fv _ wo,(q.s _ wo.fx mu).mpr ⟨m1,m2⟩⟩
   .rw[decide_eq_false lt,Bool.false_or,Bool.or_eq_true,decide_eq_true_eq,decide_eq_true_eq]at pm
    rcases pm with h|h
    .rw[<-h]; exact o1
    .rw[<-h]; exact o2
 have gu:aX (.tup [fT lo,fT up]) (.int 1)=.ok (fT up,false):=rfl
 have gl:aX (.tup [fT lo,fT up]) (.int 0)=.ok (fT lo,false):=rfl
 have i1:=jL id i k
 have i2:=jL not i k
 have nu:i∈k->dw (fT up) (.tup [.int 1,.int 1])=.ok (.bl false,false):=λh=>by rw[q.u h]; kernel_rfl
 have nl:i∉k->dw (fT lo) (.tup [.int 0,.int 1])=.ok (.bl false,false):=λh=>by rw[q.v h]; kernel_rfl
 have body:(decide (i∈k)=true/\dw (fT up) (.tup [.int 1,.int 1])=.ok (.bl false,false))\/(decide (i∈k)=false/\dw (fT lo) (.tup [.int 0,.int 1])=.ok (.bl false,false)):=by
  by_cases z:i∈k
  .exact .inl ⟨decide_eq_true z,nu z⟩
  .exact .inr ⟨decide_eq_false z,nl z⟩
 have fc:∀x∈[lo,up,md lo up],Yn (.sh (fT x)::cO [some 6] [.sh (aQ rs),.sh (aF r),.sh (iT c),.sh (iT p),.sh (iT i),.sh (.lst (k.map iT)),.sh (.tup [fT lo,fT up]),.sh (.lst [fT lo,fT up,fT (md lo up)]),.un,.un,.un])=.ok (decide (x.2<1000000000000) || (decide (lo=x) || decide (up=x)),.sh (fT x)::cO [some 6] [.sh (aQ rs),.sh (aF r),.sh (iT c),.sh (iT p),.sh (iT i),.sh (.lst (k.map iT)),.sh (.tup [fT lo,fT up]),.sh (.lst [fT lo,fT up,fT (md lo up)]),.un,.un,.un]):=λx hx=>aiA (le1 x hx)
 have ft:uK (uJ (dO (dN (fJ id) (bY 4) (bY 5))) (dO (dN dw (dN aX (bY 6) (eC (.int 1))) (eC (.tup [.int 1,.int 1]))))) (uJ (dO (dN (fJ not) (bY 4) (bY 5))) (dO (dN dw (dN aX (bY 6) (eC (.int 0))) (eC (.tup [.int 0,.int 1]))))) [.sh (aQ rs),.sh (aF r),.sh (iT c),.sh (iT p),.sh (iT i),.sh (.lst (k.map iT)),.sh (.tup [fT lo,fT up]),.un,.un,.un,.un]=.ok (false,[.sh (aQ rs),.sh (aF r),.sh (iT c),.sh (iT p),.sh (iT i),.sh (.lst (k.map iT)),.sh (.tup [fT lo,fT up]),.un,.un,.un,.un]):=by
  rcases body with⟨dz,nz⟩|⟨dz,nz⟩ <;> rw[dz]at i1 i2 <;> walk_at "r"
  all_goals done
 have ln:dw (.tup [fT lo,fT up]) (.tup [fT lo,fT up])=.ok (.bl false,false):=Iv (Yl lo up)
 walk_at "d"
 refine mH (xs:=[lo,up,md lo up].filter λx=>decide (x.2<1000000000000) || (decide (lo=x) || decide (up=x))) (t:=fT) [8,9,10] (λ_:Unit=>[]) (λ_ _=>True) () trivial rfl (λu x v s hx _=>?_) (λv s _=>?_)
 .obtain⟨x1,x2,x3,x4⟩:=ends x (List.mem_of_getElem? hx)
  have hB':=Bq.mv (i:=i) (bq hB) hp ⟨x1,x2⟩
  have ho':bL (mv rs p i x).length r:=by rw[jH]; exact ho
  have ev:=Ax (r:=r) (w:=x) (bq hB) hp hi
  have hV:∀t,t<m->Fq 400 (vv r (mv rs p i x) t):=λt ht=>by
   rw[ev]
   unfold vw
   split
   .exact x3
   .exact Av hB ho ht
  obtain⟨ys,_,_,_,g1,g2⟩:=XR hB' ho' hV hc
  obtain⟨z,g3,g4,hz⟩:=aiw ys k
  obtain⟨bb,g5,g6⟩:=air (i:=i) hB' ho' (λt ht _=>hV t ht) hk.x1 hk.x2
  rw[ev]at g6
  rw[g6.mpr x4]at g5
  have rr:=Bk.row hB hp
  have rn:(rs.map λl=>Tr.lst (l.map fT))[p]?=some (.lst ((rs.getD p []).map fT)):=by simp[hp]
  have em:(rs.map λl=>Tr.lst (l.map fT)).set p (.lst (((rs.getD p []).map fT).set i (fT x)))=(mv rs p i x).map aJ:=by
   unfold mv
   rw[List.map_set,<-List.map_set (f:=fT)]
   rfl
  have fl1:([Rv.s 9,Rv.v (aF r) false,Rv.v (iT c) false].any pK && !fM (.lst (ys.map iT),true))=false:=by rw[Cd]; rfl
  have g2:Jj [.lst ((mv rs p i x).map aJ),aF r,iT c]=.ok (.lst (ys.map iT),true):=g2
  have g5:Ar [.lst ((mv rs p i x).map aJ),aF r,.lst (k.map iT)]=.ok (.bl true,false):=g5
  have g7:z=true->Im [.lst ((mv rs p i x).map aJ),aF r,iT c,iT p,iT i]=.ok (.tup [fT lo,fT up],false):=λh=>by
   cases hz h
   exact Jy hB' ho' hc (by rw[jH]; exact hp) hi g1 (rm x x1 x2)
  cases z with
  |true =>
   have g8:=g7 rfl
   walk_at "p"
   refine WQ (t:=aJ) (h:=λl=>l.map fT) (xs:=rs) rfl rfl (λl hl=>rfl) (λl hl=>Jr l) (by have:=hB.2.1; lia) (tM st1) ?_
   walk_at "r"
   refine WL (m:=p) (n:=i) rfl rfl rfl rn rfl (by rw[List.length_map,rr.2.1]; exact hi) rfl (λu hu=>?_) ((congrArg (λl=>List.set _ 9 (Sl.dp l)) em).trans (tM st1)) ?_
   .obtain⟨x,_,rfl⟩:=List.mem_map.mp hu
    rfl
   walk_at "r"
   exact⟨(),trivial,exV rfl⟩
  |false =>
   walk_at "p"
   refine WQ (t:=aJ) (h:=λl=>l.map fT) (xs:=rs) rfl rfl (λl hl=>rfl) (λl hl=>Jr l) (by have:=hB.2.1; lia) (tM st1) ?_
   walk_at "r"
   refine WL (m:=p) (n:=i) rfl rfl rfl rn rfl (by rw[List.length_map,rr.2.1]; exact hi) rfl (λu hu=>?_) ((congrArg (λl=>List.set _ 9 (Sl.dp l)) em).trans (tM st1)) ?_
   .obtain⟨x,_,rfl⟩:=List.mem_map.mp hu
    rfl
   walk_at "r"
   exact⟨(),trivial,exV rfl⟩
 .walk_at "p"
  done
end
theorem aiC(ns:List Int){L M:Nat}(hL:1<=L/\L<=4)(hM:1<=M/\M<=12):∃rows:List (List (Int × Int)),Bk M rows/\rows.length=L/\Ji [.lst (ns.map .int),.int 1,.int L,.int M]=.ok (aQ rows,true):=by
 suffices h:∃z,Ji [.lst (ns.map .int),.int 1,.int L,.int M]=.ok z/\∃rows:List (List (Int × Int)),(rows.length=L/\∀l∈rows,l.length=M/\∀x∈l,Wo x)/\z=(aQ rows,true) by
  obtain⟨_,e,rows,⟨h1,h2⟩,rfl⟩:=h
  exact⟨rows,⟨by lia,by lia,hM.1,hM.2,h2⟩,h1,e⟩
 walk_at "e"
 refine rY [5,6] (λs:List (List (Int × Int))=>[(4,.ow (s.map aJ))]) (λk s=>s.length=k/\∀l∈s,l.length=M/\∀x∈l,Wo x) [] ⟨rfl,λ_ h=>by cases h⟩ rfl (λk v rows hk ⟨i1,i2⟩=>?_) (λv rows i=>?_)
 rotate_left
 .walk_at "p"
  exact⟨_,rfl,rows,i,rfl⟩
 obtain⟨o,eo⟩:=ahU ns (i:=(1:Int)+k) (by lia)
 obtain⟨as,y,a1,a2,cp⟩:=XD (t:=fT) (P:=Wo) (fe:=vI (n8 1 Jh fL)) M (by lia) o (λu x=>by
  obtain⟨w,y,e,hw⟩:=ahY x
  exact⟨w,y,by walk_at "r",hw⟩)
 walk_at "p"
 exact⟨rows++[as],⟨by simp[i1],snoc i2 ⟨a1,a2⟩⟩,exV (by rw[<-ahV]; rfl)⟩
theorem aiD(x:Int){n:Nat}(h1:1<=n)(h4:n<=4):∃r,Xa [.int x,.int n]=.ok (aF r,false)/\bL n r:=by
 have a1:=p11
 have t1:=mK (x:=x) (s:=6) (by lia) (by lia)
 have t2:=mK (x:=x.fdiv 6) (s:=(n:Int)) (by lia) (by lia)
 have r6:=j8 x 6 (by lia)
 by_cases w2:x.fmod 6<2
 .obtain⟨ws,y,l1,l2,cp⟩:=XD (t:=λp:Int × Int=>.tup [.int p.1,.int p.2]) (P:=λp:Int × Int=>0<=p.1/\p.1<=6/\1<=p.2/\p.2<=4) (fe:=FT (fU (vI (n8 1 Am (fU (eC (.int 7)) fL))) (fU (dN lK (eC (.int 1)) (vI (n8 1 Am (fU (eC (.int 4)) fL)))) fL))) n (by lia) (x.fdiv 6) (λu x=>by
   have t1:=mK (x:=x) (s:=7) (by lia) (by lia)
   have t2:=mK (x:=x.fdiv 7) (s:=4) (by lia) (by lia)
   have r1:=j8 x 7 (by lia)
   have r2:=j8 (x.fdiv 7) 4 (by lia)
   exact⟨(x.fmod 7,1+(x.fdiv 7).fmod 4),(x.fdiv 7).fdiv 4,by walk_at "r",by lia⟩)
  have t3:=mK (x:=y) (s:=8) (by lia) (by lia)
  by_cases h:y.fmod 8=7
  .refine⟨.sh (ws.map λp=>red (p.1*100000000000+1) (p.2*100000000000)),?_,by simp[l1],λw hw=>?_⟩
   .show _=Rs.ok (Tr.tup [.str "shares",aJ _],false)
    rw[Ah]
    have f:∀p∈ws,Ao [.int (p.1*100000000000+1),.int (p.2*100000000000)]=.ok (fT (red (p.1*100000000000+1) (p.2*100000000000)),false):=λp hp=>tE (M:=60) (by have:=l2 p hp; lia) (by have:=l2 p hp; lia) (by lia)
    walk_at "d"
    exact f x hx
    walk_at "r"
   .obtain⟨p,hp,rfl⟩:=List.mem_map.mp hw
    have:=l2 p hp
    exact sJ (by lia) (by lia) (by lia) (by lia)
  .refine⟨.sh (ws.map λp=>red p.1 p.2),?_,by simp[l1],λw hw=>?_⟩
   .show _=Rs.ok (Tr.tup [.str "shares",aJ _],false)
    rw[Ah]
    have f:∀p∈ws,Ao [.int p.1,.int p.2]=.ok (fT (red p.1 p.2),false):=λp hp=>tE (M:=60) (by have:=l2 p hp; lia) (by have:=l2 p hp; lia) (by lia)
    walk_at "d"
    exact f x hx
    walk_at "r"
   .obtain⟨p,hp,rfl⟩:=List.mem_map.mp hw
    have:=l2 p hp
    exact sJ (by lia) (by lia) (by lia) (by lia)
 by_cases w3:x.fmod 6=2
 .have r2:=j8 (x.fdiv 6) n (by lia)
  obtain⟨j,hj⟩:=Int.eq_ofNat_of_zero_le (a:=1+(x.fdiv 6).fmod n) (by lia)
  refine⟨.mid j,?_,by show 1<=j/\j<=n; lia⟩
  show _=Rs.ok (Tr.tup [.str "middle",.int j],false)
  have e:lK (.int 1) (.int ((x.fdiv 6).fmod n))=.ok (.int (j:Nat),false):=by rw[<-hj]; rfl
  walk_at "d"
  done
 obtain⟨r,q,o⟩:∃r,aX (.lst [(.tup [(.str "least")]),(.tup [(.str "greatest")]),(.tup [(.str "product")])]) (.int (x.fmod 6-3))=.ok (aF r,false)/\bL n r:=by
  have:x.fmod 6=3\/x.fmod 6=4\/x.fmod 6=5:=by lia
  rcases this with h|h|h <;> rw[h]
  .exact⟨.least,rfl,trivial⟩
  .exact⟨.greatest,rfl,trivial⟩
  .exact⟨.product,rfl,trivial⟩
 refine⟨r,?_,o⟩
 walk_at "d"
 done
theorem Yo(x:Int){n:Int}(h:1<=n):∃m:Nat,1<=m/\(m:Int)<=n/\lK (.int 1) (.int (x.fmod n))=.ok (.int m,false):=by
 have r:=j8 x n (by lia)
 exact⟨(1+x.fmod n).toNat,by lia,by lia,by rw[Int.toNat_of_nonneg (by lia)]; rfl⟩
theorem aiE(ns:List Int):tD [.lst (ns.map .int)]=.ok (.bl true,false):=by
 obtain⟨x,e0⟩:=cell_eq ns 0
 obtain⟨L,l1,l2,eL⟩:=Yo x (n:=4) (by lia)
 obtain⟨M,m1,m2,eM⟩:=Yo (x.fdiv 4) (n:=12) (by lia)
 obtain⟨rows,hB,hl,e1⟩:=aiC ns (L:=L) (M:=M) (by lia) (by lia)
 obtain⟨x5,e5⟩:=cell_eq ns 5
 obtain⟨r,e2,ho⟩:=aiD x5 (n:=L) (by lia) (by lia)
 have rc:=j8 (x.fdiv 48) ((M:Int)+1) (by lia)
 obtain⟨c,hc⟩:=Int.eq_ofNat_of_zero_le rc.1
 have ec:yp (.int (x.fdiv 48)) (.int ((M:Int)+1))=.ok (.int (c:Nat),false):=by rw[<-hc]; exact Ko (by lia)
 have ho':bL rows.length r:=by rw[hl]; exact ho
 obtain⟨ys,hk,c0,c1,hb,e3⟩:=XR (r:=r) (c:=c) (bq hB) ho' (λt ht=>Av hB ho' ht) (by lia)
 have e4:=aiv hB ho' (by lia) hb
 have e6:=ait (rs:=rows) (r:=r) (c:=c) (k:=ys) (b:=ys) (n:=0)
 have e7:dw (.lst (ys.map iT)) (.lst (ys.map iT))=.ok (.bl false,false):=Iv (by rw[Wg,Ag]; lia)
 walk_at "d"
 refine rY [9,10] (λ_:Unit=>[]) (λ_ _=>True) () trivial rfl (λp v s hp _=>?_) (λv s _=>?_)
 .walk_at "p"
  refine rY [10] (λ_:Unit=>[]) (λ_ _=>True) () trivial rfl (λi v s hi _=>?_) (λv s _=>?_)
  .obtain⟨lo,up,g1,g2⟩:=aiB (p:=p) (i:=i) hB ho' (by lia) (by lia) hi hk c0 c1 hb
   have g3:=aiu (r:=r) (k:=ys) (b:=ys) (c:=c) (n:=0) hB (p:=p) (by lia) hi g1
   have g4:=Jy (bq hB) ho' (c:=c) (by lia) (p:=p) (by lia) hi hb g1
   have g5:dw (.tup [fT lo,fT up]) (.tup [fT lo,fT up])=.ok (.bl false,false):=Iv (Yl lo up)
   walk_at "p"
   exact⟨(),trivial,exV rfl⟩
  .exact⟨(),trivial,exV rfl⟩
 .walk_at "p"
  done
end K96
end
section
namespace L2
open PySem PySem.Spec PyProof.Rows PySem.W
noncomputable def Yp:List Ty:=[.int,.bool,.str,.tuple,.list]
noncomputable def Yq(K:Frag)(cs:List Str)(p:Str->Addr->Bool):Bool:=cs.all λc=>match nsIn K mainGlobals c with
 |some (some (.ref C))=>p c C
 |_=>true
theorem aiF{K:Frag}{cs:List Str}{p:Str->Addr->Bool}(h:Yq K cs p=true){c:Str}(m:c∈cs){C:Addr}(n:nsIn K mainGlobals c=some (some (.ref C))):p c C=true:=by
 have:=List.all_eq_true.mp h c m
 rw[n]at this
 exact this
noncomputable def Jz(K:Frag)(C:Addr):Bool:=findIn K (.ref C) "__getattribute__" == some (some (.builtin "BaseException.__getattribute__"))&&findIn K (.ref C) "__getattr__" == some none&&findIn K (.ref C) "__class__" == some (some (.builtin "object.__class__"))&&mroIn K C (.type "object") == some true&&mroIn K C (.type "BaseException") == some true&&(clsIn K C).isSome
theorem aiG{K:Frag}{C:Addr}(h:Jz K C=true):m8 K C:=by
 unfold Jz at h
 simp only[Bool.and_eq_true]at h
 obtain⟨⟨⟨⟨⟨h1,h2⟩,h3⟩,h4⟩,h5⟩,h6⟩:=h
 exact⟨beq_iff_eq.mp h1,beq_iff_eq.mp h2,beq_iff_eq.mp h3,beq_iff_eq.mp h4,beq_iff_eq.mp h5,h6⟩
theorem lF.of{K:Frag}(h:(Yq K xO λ_ C=>Jz K C&&Yp.all λy=>kitOne K (.ref C) (.type y.name) == some false)=true):lF K:=λc m C n=>by
 obtain⟨x1,x2⟩:=an.mp (aiF h m n)
 exact⟨λa=>acX (aiG x1),λy=>beq_iff_eq.mp (List.all_eq_true.mp x2 y (by cases y <;> simp[Yp]))⟩
theorem aiH{P:Program}{w:World}{K:PySem.W.Frag}{mg mb:Str->Option Value}{CX:gG}{k:Nat}{fa a:Addr}{x:Str}{sp:Sp}{s₁ : Shared}{vs:List Value}{ns:List Int}
  (KX:K.In s₁.heap) (hns:s₁.heap.Ns mainGlobals mg) (hb:s₁.heap.Ns builtinsNs mb) (hbb:∀x:Str,x ≠ "__name__" -> mb x=bootBuiltins x) (hlim:s₁.heap.NoLimit) (hg:s₁.gens = #[])
  (ha:s₁.heap.get? a=some {cls:=.type "list",data:=.seq vs.toArray }) (hi:IntsAre vs ns) (hl:ns.length<=sizeLine) (hr:bO k callerA)
  (hT:∀x∈fD,∀c b,tabIn K x=some (c,b)->CodeHd s₁.heap c b/\s₁.heap.get? b=some (tabObj #[])) (ql:noTabs K=true) (hB:lV mg s₁.heap)
  (F:∀base:Heap,K.In base->base.Ns mainGlobals mg->(∀x∈fD,∀c b,tabIn K x=some (c,b)->CodeHd base c b)->lV mg base->∃fd:FuncData,(∀(s:Shared) (u:Value),K.In s.heap->BindsTo s fd ⟨[u],[]⟩ [(x,u)])/\dg P w K mg base CX k fa fd [x] sp)
  (hsp:∀H:Hp,bf (aq K) H->iB K H a (ns.map V.int)->sp [.ref a] H (λv _=>v=.bl true) λ_ _ _=>False)
  (JB:∀H e s',CX [] H s₁ (λ_ _ _=>False) e s'->False) :
  codeAny (model P w) callerA (.call (.ref fa) ⟨[.ref a],[]⟩) (λr s'=>r=.ok (.ret (.bool true))/\OldK s₁.heap s'.heap/\s'.os=s₁.os/\AllBare s'.gens) s₁ := by
 have rv:=Dq hi
 have lenV:=hi.length
 -- from an abstract heap in which nothing but the script may be tracked
 have hT':∀b,Tb (aq K) b->∃c,CodeHd s₁.heap c b/\s₁.heap.get? b=some (tabObj #[]):=λb ⟨x,hx,c,e⟩=>⟨c,hT x hx c b (Pu e)⟩
 have core:∀H:Hp,(∀b,H b=none\/(∃o xs,H b=some (.cL o (.lst xs)))\/(H b=some (.bM #[])/\Tb (aq K) b))->bf (aq K) H->iB K H a (ns.map V.int)->bZ P w H s₁.heap->(∀b,H b≠none->b=a\/Tb (aq K) b)->(H a≠none->K.lookup a=none) ->
   codeAny (model P w) callerA (.call (.ref fa) ⟨[.ref a],[]⟩) (λr s'=>r=.ok (.ret (.bool true))/\OldK s₁.heap s'.heap/\s'.os=s₁.os/\AllBare s'.gens) s₁ := by
  intro H hO hTb hS hok hA hK
  have Ba:∀{b:Addr} {o:Obj},s₁.heap.get? b=some o->H b=none->(lg s₁.heap H).get? b=some o:=λe n=>aao e n
  have tZ:∀{b:Addr} {o:Obj} {es:Array DictEntry} {ep:Nat},s₁.heap.get? b=some o->o.data=.dict es ep->H b=none:=λ{b o es ep} e d=>by
   cases q:H b with
   |none=>rfl
   |some u =>
    rcases hA b (by rw[q]; simp)with e'|e'
    .subst e'
     rw[ha]at e; cases e
     have d':Data.seq vs.toArray _=Data.dict es ep:=d
     cases d'
    .obtain⟨c,_,z⟩:=hT' b e'
     rw[z]at e; cases e
     cases d
  have Bb:∀{b:Addr} {m:Str->Option Value},s₁.heap.Ns b m->(lg s₁.heap H).Ns b m:=λ{b m} ⟨o,es,ep,e,d,r⟩=>⟨o,es,ep,Ba e (tZ e d),d,r⟩
  have Yr:K.In (lg s₁.heap H):=λb o e=>Ba (KX b o e) (by
   cases q:H b with
   |none=>rfl
   |some u =>
    rcases hA b (by rw[q]; simp)with e'|e'
    .subst e'
     rw[hK (by rw[q]; simp)]at e; cases e
    .obtain⟨c,_,z⟩:=hT' b e'
     have z2:=KX b o e
     rw[z]at z2
     cases z2
     have h2:=List.all_eq_true.mp ql (b,_) (mem_of_lookupK e)
     exact absurd (show false=true from h2) Bool.false_ne_true)
  have hM:Mod K mg (lg s₁.heap H):=⟨Yr,Bb hns,⟨mb,Bb hb,hbb⟩,let⟨mc,h1,h2⟩:=hlim; ⟨mc,Bb h1,h2⟩⟩
  have e0:jO P w K mg (lg s₁.heap H) callerA [] s₁ H:=⟨rfl,hM,λb o e=>aap e,Nat.le_of_eq (aan _ _),trivial,λb hb=>absurd (show b∈([]:List Addr)from hb) (by simp),hok,.of_eq hg⟩
  have free:∀{b:Addr} {o:Obj},s₁.heap.get? b=some o->o.cls ≠ .none->(∀its n,o.data ≠ .seq its n)->H b=none:=λ{b o} e n1 n2=>by
   cases q:H b with
   |none=>rfl
   |some u =>
    rcases hA b (by rw[q]; simp)with e'|e'
    .subst e'
     rw[ha]at e; cases e
     exact(n2 _ _ rfl).elim
    .obtain⟨c,_,z⟩:=hT' b e'
     rw[z]at e; cases e
     exact(n1 rfl).elim
  obtain⟨fd,hbind,F1⟩:=F _ Yr (Bb hns) (λx hx c b e=>by
   obtain⟨o,vs',file,tf,flags,tg,inF,text,tt,e1,r1,r2,r3⟩:=(hT x hx c b e).1
   exact⟨o,vs',file,tf,flags,tg,inF,text,tt,Ba e1 (free e1 (by rw[r1]; intro z; cases z) (λ_ _ z=>by rw[r2]at z; cases z)),r1,r2,r3⟩) (by
   obtain⟨bm,ob,b1,b2,b3,b4,b5,b6,b7⟩:=hB
   exact⟨bm,ob,b1,b2,b3,Ba b4 (free b4 (by rw[b5]; intro z; cases z) (λ_ _ z=>by rw[b7]at z; cases z)),b5,b6,b7⟩)
  refine codeAny_mono (F1.run callerA [] s₁ H ⟨[.ref a],[]⟩ [.ref a] [.ref a] _ _ hr e0 (hbind s₁ (.ref a) KX) (.cons rfl .nil) (hsp H hTb hS)) λr s' h=>?_
  cases r with
  |error e=>exact(JB H e s' h).elim
  |ok fl =>
   cases fl with
   |next=>exact False.elim h
   |brk=>exact False.elim h
   |cont=>exact False.elim h
   |ret u =>
    obtain⟨v,H',os,bare,un,hok',r',q⟩:=h
    have q':v=.bl true:=q
    subst q'
    obtain rfl:u=Value.bool true:=r'
    refine⟨rfl,⟨λb o e=>?_,λb o e=>un.there b o e (by simp)⟩,os,bare⟩
    cases q:H b with
    |none=>exact .inl (un.keep b o e q (by intro z; exact absurd (show b∈([]:List Addr)from z) (by simp)) (by simp))
    |some u =>
     rcases hO b with z|⟨ob,xs,z⟩|⟨z,zt⟩
     .rw[q]at z; cases z
     .have z2:=un.gD b ob _ z
      obtain⟨e1,_⟩:=hok b _ z
      obtain⟨e2,_⟩:=hok' b _ z2
      rw[e]at e1; cases e1
      exact .inl e2
     .obtain⟨more,z2⟩:=un.gF b _ z
      have e1:s₁.heap.get? b=some (tabObj #[]):=hok b _ z
      have e2:s'.heap.get? b=some (tabObj (#[]++more)):=hok' b _ z2
      rw[e]at e1; cases e1
      obtain⟨c,hc,_⟩:=hT' b zt
      exact .inr (.inl ⟨(hc.tab e).isCodeTable,rfl,#[],more,rfl,e2⟩)
 classical
 have Ys:∀H:Hp,(∀b,Tb (aq K) b->H b=some (.bM #[]))->bf (aq K) H:=λH h x hx c b e=>⟨#[],h b ⟨x,hx,c,e⟩,trivial,λpos v z=>by cases z⟩
 have Yt:¬Tb (aq K) a:=λz=>by
  obtain⟨c,_,e⟩:=hT' a z
  rw[ha]at e
  cases e
 cases hk:K.lookup a with
 |some o =>
  have e:=KX a o hk
  rw[ha]at e
  cases e
  refine core (λb=>if Tb (aq K) b then some (.bM #[])else none) (λb=>?_) (Ys _ λb z=>if_pos z) (.inr ⟨vs.toArray,_,hk,by rw[List.size_toArray,lenV]; exact hl,by simpa using rv⟩) (λb u z=>?_) (λb z=>?_) λz=>?_
  .by_cases q:Tb (aq K) b
   .exact .inr (.inr ⟨if_pos q,q⟩)
   .exact .inl (if_neg q)
  .by_cases q:Tb (aq K) b
   .have z':=(if_pos q).symm.trans z
    cases z'
    obtain⟨c,_,e⟩:=hT' b q
    exact e
   .have z':=(if_neg q).symm.trans z
    cases z'
  .by_cases q:Tb (aq K) b
   .exact .inr q
   .exact absurd (if_neg q) z
  .exact absurd (if_neg Yt) z
 |none =>
  refine core (λb=>if b=a then some (.cL {cls:=.type "list",data:=.seq vs.toArray } (.lst (ns.map V.int)))else if Tb (aq K) b then some (.bM #[])else none) (λb=>?_) (Ys _ λb z=>by
   have nb:¬b=a:=λq=>Yt (by rw[<-q]; exact z)
   exact(if_neg nb).trans (if_pos z)) (.inl (.inr ⟨{cls:=.type "list",data:=.seq vs.toArray },if_pos rfl⟩)) (λb u z=>?_) (λb z=>?_) λ_=>hk
  .by_cases hb:b=a
   .exact .inr (.inl ⟨_,_,if_pos hb⟩)
   .by_cases q:Tb (aq K) b
    .exact .inr (.inr ⟨(if_neg hb).trans (if_pos q),q⟩)
    .exact .inl ((if_neg hb).trans (if_neg q))
  .by_cases hb:b=a
   .have z':=(if_pos hb).symm.trans z
    cases z'
    subst hb
    exact⟨ha,by rw[List.length_map]; exact hl,vs,_,rv,ha⟩
   .have z':=(if_neg hb).symm.trans z
    by_cases q:Tb (aq K) b
    .have z':=(if_pos q).symm.trans z'
     cases z'
     obtain⟨c,_,e⟩:=hT' b q
     exact e
    .have z':=(if_neg q).symm.trans z'
     cases z'
  .by_cases hb:b=a
   .exact .inl hb
   .by_cases q:Tb (aq K) b
    .exact .inr q
    .exact absurd ((if_neg hb).trans (if_neg q)) z
theorem aiI{l:PySem.W.OpenLaw}{n k:Nat}{q:Program}{loose:List Str}{XP:(Str->Option Value)->Heap->Prop}{YP:World->Heap->Prop}{d:DefRec}{K:Params->PySem.W.Frag}{CX:World->gG}{sp:World->Sp}{x:Str}
  (hn:l.most=some n) (hn2:n<=sizeLine) (hdf:d.params.defaults=[]) (hr:bO k callerA)
  (v8:∀x∈fD,((recsOf q).find? (λe=>e.name == x)).isSome=true\/∀w:World,nsIn (K w.params) mainGlobals x=some none) (ql:∀w:World,noTabs (K w.params)=true)
  (hY:∀(w:World) (h:Heap),YP w h->(K w.params).In h)
  (F:∀(w:World) (mg:Str->Option Value) (fa:Addr) (h:Heap),(K w.params).In h->h.Ns mainGlobals mg->mg d.name=some (.ref fa) ->
   ∀base:Heap,(K w.params).In base->base.Ns mainGlobals mg->(∀x∈fD,∀c b,tabIn (K w.params) x=some (c,b)->CodeHd base c b)->lV mg base->∃fd:FuncData,(∀(s:Shared) (u:Value),(K w.params).In s.heap->BindsTo s fd ⟨[u],[]⟩ [(x,u)])/\dg l.prog w (K w.params) mg base (CX w) k fa fd [x] (sp w))
  (hsp:∀(w:World) (H:Hp) (a:Addr) (ns:List Int),ns.length<=n->bf (aq (K w.params)) H->iB (K w.params) H a (ns.map V.int)->sp w [.ref a] H (λv _=>v=.bl true) λ_ _ _=>False)
  (JB:∀(w:World) (H:Hp) (s:Shared) (e:Value) (s':Shared),CX w [] H s (λ_ _ _=>False) e s'->False) :
  PySem.W.WalkO q loose XP YP l.row.toRowW d [] (λf vs=>PySem.call f vs):=by
 refine Nr.acB hn hdf λw s₀ s₁ mg mb fa o pm cd doc a vs ns G Y ho hd hcd hmg hobj hints hlen hg=>?_
 have KX:=hY w _ Y
 have hT:∀x∈fD,∀c b,tabIn (K w.params) x=some (c,b)->CodeHd s₁.heap c b/\s₁.heap.get? b=some (tabObj #[]):=λx hx c b e=>by
  rcases v8 x hx with z|z
  .obtain⟨d,z⟩:=Option.isSome_iff_exists.mp z
   exact tab_of G.T KX z e
  .rw[Py (z w)]at e; cases e
 have hB:lV mg s₁.heap:=by
  obtain⟨bm,ob,b1,b2,b3,b4,b5,b6⟩:=G.T.bmain
  refine⟨bm,ob,b1,b2,λz=>?_,b3,b4,b5,b6⟩
  obtain⟨o,es,ep,e,hd,_⟩:=G.T.g
  rw[z,e]at b3; cases b3
  rw[hd]at b6; cases b6
 exact aiH KX G.T.g G.T.b G.T.builtins G.T.nolimit hg hobj hints (Nat.le_trans hlen hn2) hr hT (ql w) hB (F w mg fa _ KX G.T.g hmg) (λH hO hS=>hsp w H a ns hlen hO hS) λH e s'=>JB w H s₁ e s'
end L2
end
section
namespace K96
open PySem L2 BH PySem.W
section
variable {K:Frag}{mg:Str->Option Value}{h:Heap}
theorem aiJ{x:Str}{st:Stmt}(X:K.In h)(G:h.Ns mainGlobals mg){f:Addr}{od an:Option Addr}{sl:Array (Option Value)}{oc kV dc pm cd ct:Value}
  (a:nsIn K mainGlobals x=some (some (.ref f))) (l:K.lookup f=some ⟨oc,od,.func (fnOf x x (iw st) (d8 st) (bD st) .none kV dc pm an cd ct),sl⟩) (c:codeIn K cd x=true) (k:keepIn K (.ref f)=true):At K mg x st :=
 ⟨f,_,xK (st:=st) l c k,mg_of X G a⟩
theorem aiK{x:Str}{st:Stmt}(X:K.In h)(G:h.Ns mainGlobals mg){f c:Addr}{od an:Option Addr}{sl:Array (Option Value)}{oc kV dc pm ct:Value}
  (a:nsIn K mainGlobals x=some (some (.ref f))) (l:K.lookup f=some ⟨oc,od,.func (fnOf x x (iw st) (d8 st) (bD st) .none kV dc pm an (.ref c) ct),sl⟩) (cc:codeIn K (.ref c) x=true) (k:keepIn K (.ref f)=true):uG K mg x st c :=
 ⟨f,_,xK (st:=st) l cc k,mg_of X G a,rfl⟩
theorem Yu{x:Str}{i:Int}{tk:Tok}(X:K.In h)(G:h.Ns mainGlobals mg)(a:nsIn K mainGlobals x=some (some (.int i tk))):Gk K mg x (.int i) (.int i):=⟨.int i tk,mg_of X G a,by first|exact rfl|exact⟨_,rfl⟩,λ_=>.int i⟩
theorem v9{H:Hp}{a:Addr}{od:Option Addr}{its:Array Value}{n:Nat}{sl:Array (Option Value)}{xs:List V}{vs:List Value}{ts:List Tr}(l:K.lookup a=some ⟨.type "tuple",od,.seq its n,sl⟩) (e:its.toList=vs) (hl:vs.length<=1000) (r:Vals xs vs) (rr:au (aq K) H xs ts):Rep (aq K) H (.ref a) (.tup ts):=by
 refine .tup (xs:=xs) (.inr ⟨_,its,n,adh l rfl,rfl,rfl,?_,by rw[e]; exact r⟩) rr
 rw[<-Array.length_toList,e]
 exact Nat.le_of_lt (Ds hl)
theorem aiL(X:K.In h)(G:h.Ns mainGlobals mg){a r1 r2 r3:Addr}{od o1 o2 o3:Option Addr}{its i1 i2 i3:Array Value}{n n1 n2 n3:Nat}{sl NZ sl2 DQ:Array (Option Value)}{t1 t2 t3:Tok}
  (m:nsIn K mainGlobals "BARE_RULES" = some (some (.ref a))) (l:K.lookup a=some ⟨.type "tuple",od,.seq its n,sl⟩) (e:its.toList=[.ref r1,.ref r2,.ref r3])
  (l1:K.lookup r1=some ⟨.type "tuple",o1,.seq i1 n1,NZ⟩) (e1:i1.toList=[.str "least" t1]) (l2:K.lookup r2=some ⟨.type "tuple",o2,.seq i2 n2,sl2⟩) (e2:i2.toList=[.str "greatest" t2]) (l3:K.lookup r3=some ⟨.type "tuple",o3,.seq i3 n3,DQ⟩) (e3:i3.toList=[.str "product" t3]):Gk K mg "BARE_RULES" (.ref a) (.tup [(.tup [(.str "least")]),(.tup [(.str "greatest")]),(.tup [(.str "product")])]):=by
 refine⟨_,mg_of X G m,rfl,λH=>v9 (xs:=[.ref r1,.ref r2,.ref r3]) l e (Nat.le_of_ble_eq_true rfl) (.cons rfl (.cons rfl (.cons rfl .nil))) ?_⟩
 exact .cons (v9 (xs:=[.str "least"]) l1 e1 (Nat.le_of_ble_eq_true rfl) (.cons ⟨_,rfl⟩ .nil) (.cons (.str _) .nil)) (.cons (v9 (xs:=[.str "greatest"]) l2 e2 (Nat.le_of_ble_eq_true rfl) (.cons ⟨_,rfl⟩ .nil) (.cons (.str _) .nil)) (.cons (v9 (xs:=[.str "product"]) l3 e3 (Nat.le_of_ble_eq_true rfl) (.cons ⟨_,rfl⟩ .nil) (.cons (.str _) .nil)) .nil))
theorem Yv(X:K.In h)(G:h.Ns mainGlobals mg){x:Str}{a:Addr}{od:Option Addr}{its:Array Value}{n:Nat}{sl:Array (Option Value)}{i j:Int}{t1 t2:Tok}
  (m:nsIn K mainGlobals x=some (some (.ref a))) (l:K.lookup a=some ⟨.type "tuple",od,.seq its n,sl⟩) (e:its.toList=[.int i t1,.int j t2]):Gk K mg x (.ref a) (.tup [.int i,.int j]) :=
 ⟨_,mg_of X G m,rfl,λH=>v9 (xs:=[.int i,.int j]) l e (Nat.le_of_ble_eq_true rfl) (.cons ⟨_,rfl⟩ (.cons ⟨_,rfl⟩ .nil)) (.cons (.int _) (.cons (.int _) .nil))⟩
noncomputable def Bc(K:Frag)(n:Nat)(F:FP):Sp:=λvs H Q E=>∃G ts,vs.length=n/\au (aq K) G vs ts/\Same G H/\bf (aq K) H/\(∀b,Tb (aq K) b->G b=none)/\∃p,F ts=.ok p/\∀v G' H',VN (aq K) H G' H' v p.1 p.2->Q v H'
theorem aiM{K:Frag}{cl:Str->Addr}{n:Nat}{F:FP}(vs:List V)(H:Hp)(Q:VK)(E:XK)(h:Bc K n F vs H Q E):nC K cl n F vs H Q E:=by
 obtain⟨G,ts,h1,h2,h3,h4,h5,p,h6,h7⟩:=h
 refine⟨G,ts,h1,h2,h3,h4,h5,?_⟩
 rw[h6]
 exact λv G' H' _=>h7 v G' H'
theorem aiN{K:Frag}{H:Hp}(t:bf (aq K) H)(h:iB K H a xs):∃G,Same G H/\(∀b,Tb (aq K) b->G b=none)/\aM (aq K) G a xs:=by
 rcases h with h|h
 .refine⟨λb=>if b=a then H b else none,λb o q=>?_,λb z=>?_,.inl ?_⟩
  .dsimp only at q
   split at q
   .exact q
   .cases q
  .dsimp only
   split
   .rename_i e
    subst e
    obtain⟨ps,y⟩:=t.bM z
    rcases h with h|⟨o,h⟩ <;> (rw[y]at h; cases h)
   .rfl
  .have e:(if a=a then H a else none)=H a:=if_pos rfl
   unfold Rd at h ⊢
   dsimp only
   rw[e]
   exact h
 .exact⟨λ_=>none,λ_ _ z=>(by cases z),λ_ _=>rfl,iB.toN (.inr h)⟩
end
section
variable {P:Program}{w:World}{K:Frag}{mg:Str->Option Value}{base:Heap}
theorem aiO(M:∀x∈(["abs", "all", "bool", "int", "isinstance", "len", "list", "max", "min", "range", "sorted", "tuple", "zip"]:List Str),mg x=none) (O:∀x∈(["NoBook", "NoRule", "NoCount", "NoBottom", "NoList", "NoThing"]:List Str),∃k,PyProof.Rows.OwnCls x k yU "ValueError.__new__" mg base) (XT:lF K) {wg:Addr} (gU:ClsAt K mg "Keeper" wg) (tL:∀k∈(["rows", "rule", "wanted", "kept", "kept_before", "changes"]:List Str),PySem.W.findIn K (.ref wg) k=some none) (aiP:At K mg "_law_cell" (top 61)) (aiQ:At K mg "_law_take" (top 62)) (aiR:At K mg "_law_shared" (top 63)) (aiS:At K mg "_law_frac" (top 64)) (aiT:At K mg "_law_worth" (top 68)) (aiU:At K mg "_law_book" (top 69)) (aiV:At K mg "_law_rule" (top 70)) (aiW:At K mg "is_whole" (top 10)) (aiX:At K mg "common_divisor" (top 11)) (aiY:At K mg "is_fraction" (top 18)) (aiZ:At K mg "is_worth" (top 25)) (ai0:At K mg "are_worths" (top 26)) (ai1:At K mg "is_book" (top 27)) (ai2:At K mg "need_book" (top 30)) (ai3:At K mg "are_weights" (top 35)) (ai4:At K mg "is_rule" (top 36)) (ai5:At K mg "need_book_and_rule" (top 41)) (ai6:At K mg "is_count" (top 29)) (ai7:At K mg "need_count" (top 44)) (ai8:At K mg "need_book_rule_and_count" (top 45)) (ai9:At K mg "fraction_of" (top 12)) (aja:At K mg "frac_sum" (top 13)) (ajb:At K mg "frac_times" (top 15)) (ajc:At K mg "shares_worth" (top 37)) (ajd:At K mg "product_worth" (top 38)) (aje:At K mg "common_bottom" (top 19)) (ajf:At K mg "tops_on_one_bottom" (top 20)) {sy ajg:Addr} (ajh:uG K mg "falling_places" (top 21) sy) (aji:yS K mg base "falling_places" sy ajg) (ajj:At K mg "place_of" (top 39)) (ajk:At K mg "worth_by" (top 40)) (ajl:At K mg "worths_of" (top 46)) (ajm:At K mg "worths_by" (top 47)) (ajn:At K mg "best_few" (top 48)) (ajo:At K mg "_law_things" (top 75)) (ajp:At K mg "is_place" (top 28)) (ajq:At K mg "need_list" (top 31)) (ajr:At K mg "need_thing" (top 32)) (ajs:At K mg "worth_with" (top 53)) (ajt:At K mg "frac_below" (top 17)) (aju:At K mg "frac_by" (top 16)) (ajv:At K mg "frac_less" (top 14)) (ajw:At K mg "worth_for" (top 54)) (ajx:At K mg "room_by" (top 55)) (ajy:At K mg "best_things" (top 49)) (ajz:At K mg "few_room" (top 56)) (ajA:At K mg "_law_by" (top 66)) (ajB:At K mg "_law_plus" (top 65)) (ajC:At K mg "_law_below" (top 67)) (ajD:At K mg "_law_falling" (top 71)) (ajE:At K mg "_law_made" (top 72)) (ajF:At K mg "_law_of_things" (top 73)) (ajG:At K mg "_law_are_best" (top 74)) (ajH:At K mg "_law_good" (top 76)) (ajI:At K mg "copied_rows" (top 58)) (ajJ:At K mg "copied_rule" (top 42)) (ajK:Ii K wg "Keeper.__init__" (Jf 59 0)) (ajL:zZ K wg "things" "Keeper.things" (Jf 59 2)) (ajM:zZ K wg "room" "Keeper.room" (Jf 59 6)) (ajN:At K mg "law" (top 77)) {ajO:V} (ajP:Gk K mg "MOST_LISTS" ajO (.int 4)) {ajQ:V} (ajR:Gk K mg "MOST_THINGS" ajQ (.int 12)) {ajS:V} (ajT:Gk K mg "BARE_RULES" ajS (.tup [(.tup [(.str "least")]),(.tup [(.str "greatest")]),(.tup [(.str "product")])])) {ajU:V} (ajV:Gk K mg "NOTHING" ajU (.tup [(.int 0),(.int 1)])) {ajW:V} (ajX:Gk K mg "FULL" ajW (.tup [(.int 1),(.int 1)])):iz P w K mg base 13 "law" ["_law_script"] (Bc K 1 tD):=by
 have kn:=Kn.mk' (P:=P) (w:=w) M O XT
 have h:∀y∈[Ey.gk "MOST_LISTS" (.int 4),Ey.gk "MOST_THINGS" (.int 12),Ey.gk "BARE_RULES" (.tup [(.tup [(.str "least")]),(.tup [(.str "greatest")]),(.tup [(.str "product")])]),Ey.gk "NOTHING" (.tup [(.int 0),(.int 1)]),Ey.gk "FULL" (.tup [(.int 1),(.int 1)]),Ey.cz "Keeper" "rows",Ey.cz "Keeper" "rule",Ey.cz "Keeper" "wanted",Ey.cz "Keeper" "kept",Ey.cz "Keeper" "kept_before",Ey.cz "Keeper" "changes"],Ey.fQ ⟨P,w,K,mg,base,clz mg⟩ y:=List.forall_mem_cons.mpr ⟨⟨_,ajP⟩,List.forall_mem_cons.mpr ⟨⟨_,ajR⟩,List.forall_mem_cons.mpr ⟨⟨_,ajT⟩,List.forall_mem_cons.mpr ⟨⟨_,ajV⟩,List.forall_mem_cons.mpr ⟨⟨_,ajX⟩,List.forall_mem_cons.mpr ⟨⟨_,gU.1,gU.2.1,tL "rows" (by decide +kernel)⟩,List.forall_mem_cons.mpr ⟨⟨_,gU.1,gU.2.1,tL "rule" (by decide +kernel)⟩,List.forall_mem_cons.mpr ⟨⟨_,gU.1,gU.2.1,tL "wanted" (by decide +kernel)⟩,List.forall_mem_cons.mpr ⟨⟨_,gU.1,gU.2.1,tL "kept" (by decide +kernel)⟩,List.forall_mem_cons.mpr ⟨⟨_,gU.1,gU.2.1,tL "kept_before" (by decide +kernel)⟩,List.forall_mem_cons.mpr ⟨⟨_,gU.1,gU.2.1,tL "changes" (by decide +kernel)⟩,λ_ z=>nomatch z⟩⟩⟩⟩⟩⟩⟩⟩⟩⟩⟩
 have h:=aV W2 kn h aiP
 have h:=Tg W3 kn h aiQ
 have h:=aV W4 kn h aiR
 have h:=aV W6 kn h aiS
 have h:=Tg W7 kn h aiT
 have h:=aV W8 kn h aiU
 have h:=aV W9 kn h aiV
 have h:=aV Ud kn h aiW
 have h:=aV Tv kn h aiX
 have h:=aV Ug kn h aiY
 have h:=aV Uj kn h aiZ
 have h:=aV Ul kn h ai0
 have h:=aV Uo kn h ai1
 have h:=aV UG kn h ai2
 have h:=aV U3 kn h ai3
 have h:=aV U5 kn h ai4
 have h:=aV Vf kn h ai5
 have h:=aV Vm kn h ai6
 have h:=aV Vp kn h ai7
 have h:=aV Vr kn h ai8
 have h:=aV TF kn h ai9
 have h:=aV TQ kn h aja
 have h:=aV T5 kn h ajb
 have h:=aV U7 kn h ajc
 have h:=aV U9 kn h ajd
 have h:=aV Ur kn h aje
 have h:=aV Uu kn h ajf
 have h:=okL ["fractions", "tops"] Uw kn h ajh aji
 have h:=aV Vb kn h ajj
 have h:=aV Vd kn h ajk
 have h:=aV Vh kn h ajl
 have h:=aV Vk kn h ajm
 have h:=aV Vt kn h ajn
 have h:=aV Xb kn h ajo
 have h:=aV Ux kn h ajp
 have h:=aV UL kn h ajq
 have h:=aV Vz kn h ajr
 have h:=aV VJ kn h ajs
 have h:=aV Ua kn h ajt
 have h:=aV T8 kn h aju
 have h:=aV TY kn h ajv
 have h:=aV VR kn h ajw
 have h:=aV V1 kn h ajx
 have h:=aV Vx kn h ajy
 have h:=aV V3 kn h ajz
 have h:=aV Xd kn h ajA
 have h:=aV Xe kn h ajB
 have h:=aV Xg kn h ajC
 have h:=aV Xi kn h ajD
 have h:=aV Xj kn h ajE
 have h:=aV Xk kn h ajF
 have h:=aV Xm kn h ajG
 have h:=aV Xn kn h ajH
 have h:=okD V6 kn h ajI
 have h:=aV V4 kn h ajJ
 have h:=afW Xp kn h gU ajK
 have h:=Tn Xr kn h gU ajL
 have h:=Tn Xv kn h gU ajM
 have h:=aV Xx kn h ajN
 obtain⟨f,fd,h1,h2⟩:iz P w K mg base 13 "law" ["_law_script"] (nC K (clz mg) 1 tD):=h (Ey.fn "law" ["_law_script"] tD 13) (fm "law" (by kernel_rfl))
 exact⟨f,fd,h1.imp aiM,h2⟩
end
theorem walk{l:OpenLaw}{q:Program}{loose:List Str}{XP:(Str->Option Value)->Heap->Prop}{YP:World->Heap->Prop}{d:DefRec}{K:Params->Frag}(hn:l.most=some 63)(hdf:d.params.defaults=[])(hd:d.name = "law")
  (v8:∀x∈fD,((PyProof.Rows.recsOf q).find? (λe=>e.name == x)).isSome=true\/∀w:World,nsIn (K w.params) mainGlobals x=some none) (ql:∀w:World,noTabs (K w.params)=true)
  (hY:∀(w:World) (h:Heap),YP w h->(K w.params).In h)
  (F:∀(w:World) (mg:Str->Option Value) (h:Heap),(K w.params).In h->h.Ns mainGlobals mg->∀base:Heap,(K w.params).In base->base.Ns mainGlobals mg->(∀x∈fD,∀c b,tabIn (K w.params) x=some (c,b)->CodeHd base c b)->lV mg base->iz l.prog w (K w.params) mg base 13 "law" (["_law_script"]:List Str) (Bc (K w.params) 1 tD)) :
  WalkO q loose XP YP l.row.toRowW d [] (λf vs=>PySem.call f vs) :=
 L2.aiI (n:=63) (k:=13) (x := "_law_script") (CX:=λw=>eO l.prog w) (sp:=λw=>Bc (K w.params) 1 tD) hn (by decide) hdf ⟨rfl,by decide,by decide,rfl⟩ v8 ql hY
  (λw mg fa h KX G hm base kb gb hc bm=>by
   obtain⟨f,fd,h1,h2,_,h4⟩:=F w mg h KX G base kb gb hc bm
   rw[hd]at hm
   cases h4.symm.trans hm
   exact⟨fd,λs u ks=>h2 s [u] ks rfl,h1⟩)
  (λw H a ns hl hTb hS=>by
   obtain⟨G,g1,g2,g3⟩:=aiN hTb hS
   exact⟨G,[.lst (ns.map .int)],rfl,.cons (.lst g3 (Hu ns)) .nil,g1,hTb,g2,_,aiE ns,λv G' H' r=>by cases r; rfl⟩)
  λw H s e s' h=>by
   obtain⟨_,_,_,_,_,_,z,_⟩:=h
   exact z
end K96
end
section
namespace PySem.W.Fast
end PySem.W.Fast
inductive PySem.W.Fast:Prop
|tw10125367386169314104
|tw10354538378693826561
|tw10416393177867679951
|tw1043584963094286988
|tw10566208631288802479
|tw10783974334470574061
|tw10859258026219311823
|tw1088051163748404978
|tw10926914196071441794
|tw10928532150956731113
|tw1103555338003322094
|tw11053519418357714277
|tw11124098006589163079
|tw11244160040296656289
|tw11311989966031627038
|tw11442198500011048263
|tw11466678421868881791
|tw11525283856297208984
|tw11616187969763239484
|tw11848219900541589551
|tw11872749666275609515
|tw11950508410594385819
|tw12095922844397503572
|tw12262001293432671689
|tw12314016330489619100
|tw12451353316910059259
|tw12481831555649226544
|tw12497435502613494200
|tw12749875112331850487
|tw12792652310962305687
|tw12855784931305936168
|tw12875831016641246104
|tw12931380581709178452
|tw13387038068861684432
|tw13531430109980255392
|tw13556460641547017791
|tw13660677605244996285
|tw13664690021975056828
|tw13842122594813971789
|tw14110421214404422604
|tw14185962398794887346
|tw14270434860529805505
|tw14291693925471113496
|tw14311946795055189957
|tw1432622573261515363
|tw14376724870341564936
|tw14398166811242664912
|tw14438489264842269268
|tw1456510743687493340
|tw14594504735192422506
|tw14710233908021168449
|tw14767619458194871741
|tw14924203064540366357
|tw15036929483031974116
|tw15127033102784178048
|tw15234708912498625279
|tw15260317873213709868
|tw1535329275966511533
|tw1536053719854576934
|tw15509090819509732402
|tw15578027595337074802
|tw15707336839431980610
|tw1571179247452953793
|tw15745538186477142841
|tw15747479822646526548
|tw15806943421327960515
|tw16154845113288574999
|tw16488670183980804979
|tw16597161603260520871
|tw17224857964068099098
|tw17263995955303190604
|tw17314682467418888312
|tw17415243282992819555
|tw17518706130753415130
|tw17544834783117462178
|tw17617496531403431307
|tw17654950316286002391
|tw17706654739701476924
|tw17753503147116539254
|tw17788326181721302457
|tw18097824282492222623
|tw18301757498082650533
|tw18415529005500706559
|tw2007717267903979054
|tw2078612727242579186
|tw2386508799721773843
|tw2409467140895428853
|tw2425815001310550376
|tw2427646968284145985
|tw2463286688954603036
|tw2518426001817090090
|tw2623823523329632757
|tw2697801043426568796
|tw2835190748220289257
|tw2978086263025474141
|tw3041618851004678016
|tw3105638751180484376
|tw3119233948294320743
|tw3126322468582526241
|tw3179001254706924415
|tw3341903441680002058
|tw3402305327860625054
|tw3421913682147513426
|tw3551039027260878382
|tw3572686780816414873
|tw3945648013492432787
|tw4201242396721397928
|tw4292490604715917020
|tw4569330933758435646
|tw4636020145922378652
|tw4761967058067124082
|tw4863237587786797804
|tw5001337383451261875
|tw5023814129834823805
|tw5085110505499889609
|tw5155067515757987284
|tw5190032092133562301
|tw5339988087611520353
|tw5411667946772416303
|tw5518146714604816999
|tw5686143065451168638
|tw5747058338803459147
|tw5834915199846036988
|tw6051707218916894036
|tw6193963900587938047
|tw6215591210820134275
|tw6420702744882343610
|tw6548010698374884006
|tw6566168476687868964
|tw657716784820022436
|tw7019086500721267597
|tw702607134472836870
|tw7064268425660550119
|tw7073136300599770483
|tw7262032107624214321
|tw7334067732061785658
|tw7346012580953311522
|tw7726143009010584497
|tw7829965409190513724
|tw8064897623108225787
|tw8065739100321271098
|tw8071837461139303614
|tw819146812250742979
|tw8199828632851728298
|tw8223032151678087005
|tw8545878995246725008
|tw8704070974350059660
|tw8828718644443528105
|tw8829749490946134088
|tw8882047145146229779
|tw8962601569222181398
|tw899101296247288118
|tw9184731470203300304
|tw9185938421518919836
|tw9217745195927646425
|tw9239860754747726638
|tw9349002302635832877
|tw9383544162174347764
|tw9458012606402598721
|tw9572794036491627587
|tw9576938151637717506
|tw9794860461493002630
|tw9797081756811229688
open PySem PySem.W PyProof.Rows
set_option maxRecDepth 100000 in
set_option maxHeartbeats 0 in
theorem PySem.Challenge.cw_bestheads_k96_whole_rooms_of_a_book_holds : PySem.Challenge.rw_bestheads_k96_whole_rooms_of_a_book.Holds := by
 w_on; o_law; k_head; (case hw=>w_witness2)
 k_fill
 refine K96.walk (l:=PySem.Challenge.rw_bestheads_k96_whole_rooms_of_a_book) rfl rfl rfl ?v8 ?ql (λw h Y=>by first|exact PySem.W.km_in_of Y|exact PySem.W.kIn_of Y) ?F
 case v8 =>
  intro x hx
  rcases(List.mem_cons.mp hx)with rfl|hx
  .exact .inl (by kernel_rfl)
  .rw[List.mem_singleton.mp hx]
   exact .inr λw=>by k_is
 case ql=>intro w; kernel_rfl
 case F =>
  intro w mg h KX G base kb gb hcd hbm
  refine' K96.aiO ?qM ?qO ?qXT ?ajY ?ajZ ?qd1 ?qd2 ?qd3 ?qd4 ?qd5 ?qd6 ?qd7 ?qd8 ?qd9 ?aj0 ?aj1 ?aj2 ?aj3 ?aj4 ?aj5 ?aj6 ?aj7 ?aj8 ?aj9 ?akb ?akc ?akd ?ake ?akf ?akg ?akh ?aki ?akj ?akk ?akl ?akm ?akn ?ako ?akp ?akq ?akr ?aks ?akt ?aku ?akv ?akx ?aky ?akz ?akA ?akB ?akC ?akD ?akE ?akF ?akG ?akH ?akI ?akJ ?akK ?akL ?akM ?akN ?akO ?akP ?akQ ?akR ?akS ?akT ?akU ?akV
  case qM=>intro x m; simp only[List.mem_cons,List.not_mem_nil,or_false]at m; rcases m with rfl|rfl|rfl|rfl|rfl|rfl|rfl|rfl|rfl|rfl|rfl|rfl|rfl <;> exact mg_none_of KX G (by k_is)
  case ajY =>
   refine' L2.afU KX G ?za ?zl ?zn ?zp ?zh ?zo ?zs
   (case za=>k_is); (case zl=>k_is); (case zn=>kernel_rfl); (case zp=>k_is); (case zh=>k_is); (case zo=>k_is); (case zs=>k_is)
  case ajZ=>intro x m; simp only[List.mem_cons,List.not_mem_nil,or_false]at m; rcases m with rfl|rfl|rfl|rfl|rfl|rfl <;> k_is
  case akN =>
   refine' L2.afV ?ya ?yi ?yl ?yc ?yk ?ym ?yz
   (case ya=>k_is); (case yi=>k_is); (case yl=>k_is); (case yc=>k_is); (case yk=>k_is); (case ym=>k_is); (case yz=>k_is)
  case akO =>
   refine' L2.Tj ?ya ?yi ?yl ?yc ?yk
   (case ya=>k_is); (case yi=>k_is); (case yl=>k_is); (case yc=>k_is); (case yk=>k_is)
  case akP =>
   refine' L2.Tj ?ya ?yi ?yl ?yc ?yk
   (case ya=>k_is); (case yi=>k_is); (case yl=>k_is); (case yc=>k_is); (case yk=>k_is)
  case qd1|qd2|qd3|qd4|qd5|qd6|qd7|qd8|qd9|aj0|aj1|aj2|aj3|aj4|aj5|aj6|aj7|aj8|aj9|akb|akc|akd|ake|akf|akg|akh|aki|akl|akm|akn|ako|akp|akq|akr|aks|akt|aku|akv|akx|aky|akz|akA|akB|akC|akD|akE|akF|akG|akH|akI|akJ|akK|akL|akM|akQ=>exact K96.aiJ KX G (by k_is) (by k_is) (by k_is) (by k_is)
  case akj =>
   refine' K96.aiK KX G ?akW ?akX ?akY ?akZ
   (case akW=>k_is); (case akX=>k_is); (case akY=>k_is); (case akZ=>k_is)
  case akk =>
   refine' L2.aek (by decide) hcd hbm (L2.aej ?ak0 ?ak1 ?ak2 ?ak3 ?ak4 ?ak5 ?ak6 ?ak7 ?ak8) ?ak9
   (case ak0=>k_is); (case ak1=>k_is); (case ak3=>k_is); (case ak5=>exact rfl); (case ak6=>k_is); (case ak2=>kernel_rfl); (case ak4=>kernel_rfl); (case ak7=>kernel_rfl); (case ak8=>exact rfl)
   case ak9 =>
    intro x' hx'
    rcases(List.mem_cons.mp hx')with rfl|hx'
    .exact .inl rfl
    .rw[List.mem_singleton.mp hx']
     exact .inr λc' z=>(by have y:=(L2.Py (by k_is)).symm.trans z; cases y)
  case akR =>
   refine' K96.Yu KX G ?ala
   (case ala=>k_is)
  case akS =>
   refine' K96.Yu KX G ?alb
   (case alb=>k_is)
  case akT =>
   refine' K96.aiL KX G ?qbm ?qbl ?qbe ?alc ?ald ?ale ?alf ?alg ?alh
   (case qbm=>k_is); (case qbl=>k_is); (case qbe=>rfl); (case alc=>k_is); (case ald=>rfl); (case ale=>k_is); (case alf=>rfl); (case alg=>k_is); (case alh=>rfl)
  case akU =>
   refine' K96.Yv KX G ?ali ?alj ?alk
   (case ali=>k_is); (case alj=>k_is); (case alk=>rfl)
  case akV =>
   refine' K96.Yv KX G ?alm ?aln ?alo
   (case alm=>k_is); (case aln=>k_is); (case alo=>rfl)
  case qXT=>exact L2.lF.of (by kernel_rfl)
  case qO=>intro x m; simp only[List.mem_cons,List.not_mem_nil,or_false]at m; rcases m with rfl|rfl|rfl|rfl|rfl|rfl <;> exact⟨_,L2.ac3 kb gb (by k_is) (by k_exc)⟩
#print axioms PySem.Challenge.cw_bestheads_k96_whole_rooms_of_a_book_holds
end