import PyProof.Rows.All
import Wide.All
import OpenK.KSplit
import OpenK.KApp
import KE.RegKMod
import KE.KJoinElse
import KE.KTops
import KE.RegKSuper
import KE.RegLcAnyAll
import KE.KCells
import KE.KPassesOwn
import KE.KNestStore
import KE.KStopIter
import KE.RegKBase
import KE.KDictOne
import KE.KxDecode
import KE.RegKMathGB
import KE.KNestM
import KE.KDflt
import KE.KOwnIterCall
import KE.KSortedM
import KE.KxLen
import KE.RegKMathGC
import KE.KIsClose
import KE.KDisp
import KE.KSetIn
import KE.KRevSl
import KE.KEqDeep
import KE.KAnyBase
import KE.KWhile
import KE.KRevIter
import KE.KTreeR
import KE.KxStill
import KE.KFinally
import KE.KTopLam
import KE.KWithOwn
import KE.KOpsOwn
import KE.KDictNew
import KE.KWhileD
import KE.KSumEnd
import KE.KPopAny
import KE.KGrown
import KE.KItemAt
import KE.KTextLit
import KE.KTupDict
import KE.KFmtOwn
import KE.KMinKey
import KE.KExtendNil
import KE.KMethU
import KE.KDictAnyTail
import KE.RegKStar
import KE.RegKTupTruth
import KE.RegKTupSum
import KE.KMethJoin
import KE.KPathRangeEnd
import KE.RegKParC
import KE.KxAffix
import KE.KxField
import KE.RegKMatchCls
import KE.KLcPair
import KE.KJoinL
import KE.RegKNeg
import KE.KxPercentT
import KE.KBytesCut
import KE.KCompIf
import KE.KxFormat
import KE.KTypeName
import KE.KCompText
import KE.BytesMulAny
import KE.KPairAssign
import KE.KTypeOf
import KE.KMulAny
import KE.KBytesMenu
import KE.KTextDict
import KE.KPathShort
import KE.KSplitRange
import KE.KKinds
import KE.KxPart
import KE.KRangeItem
import KE.KRangeNest
import KE.KSetAt
import KE.KxTruthy
import KE.KPairRows
import KE.KBytesMore
import KE.KRangePlain
import KE.KBitsMul
import KE.KTextTable
import KE.KForList
import KE.KIdxIf
import KE.KAssignIn
import KE.KFirstTurn
import KE.KOwnRange
import KE.KLooksOwn
import KE.KDictWord
import KE.KTurnsGround
import KE.KFinFacts
import KE.RegKTryOn
import KE.KCenter
import KE.KStrWords
import KE.KStateTextK
import KE.KStateWGiven
import KE.KCallTup
import KE.KTreeF
import KE.KEndWord
import KE.KStateBytes
import KE.KRangeEnd
import KE.KOf
import KE.KRepItem
import KE.KListLetter
import KE.KSliceSign
import KE.KToBytes
import KE.KPathText
import KE.KMinBuiltin
import KE.KFromBytes
import KE.KEqDat
import KE.KBytesUnr
import KE.KIsBytes
import KE.KCallRec
import KE.KEndW
import KE.RegLGeC
import Wide.FinOn
import Lean
import PyProof.EqAt
import PyProof.EqKinds
import PyProof.TupleCall
import PyProof.ReprRoads
import PyProof.ReprBulk
import PyProof.Rows.RegStrFacts
import PyProof.StrBlockH
import PyProof.FitsBits
import KE.KTurns
import PyProof.NeKinds
import KE.KNest
import KE.KSortKey
import PyProof.ListRange
import PyProof.Rows.SortWalk
import KE.KListMore
import KE.KSortTup
import PyProof.Rows.SumAny
import PySem.Challenge.RW_bestheads_k32_rounds
set_option exponentiation.threshold 6000
set_option Elab.async false
set_option linter.all false
set_option maxRecDepth 100000
set_option maxHeartbeats 4000000
set_option bootstrap.genMatcherCode false
set_option genSizeOf false
set_option compiler.extract_closed false
abbrev FZ:=PySem.W.Frag
abbrev LZ:=List (Int × Int)
abbrev LO:=List (PySem.Addr × PySem.Obj)
set_option hygiene false in
local macro_rules | `(tactic| walk_at "O")=>`(tactic| with_reducible repeat((first|replace h:=Mi h|replace h:=Mj h|replace h:=Ml h|replace h:=Mp h|replace h:=Mq h|replace h:=Mr h|replace h:=Ms h|replace h:=Mt h|replace h:=Mv h|replace h:=Mw h|replace h:=Mx h|replace h:=Mz h|replace h:=yu h|replace h:=MF h|replace h:=MJ h|replace h:=MK h|replace h:=MN h|replace h:=MP h|replace h:=M4 h|replace h:=M5 h|replace h:=M6 h|replace h:=M7 h|replace h:=M8 h|replace h:=M9 h|replace h:=Nb h|replace h:=Nf h|replace h:=Ng h|replace h:=Nh h|replace h:=Ni h|replace h:=Nj h); (repeat obtain⟨_,h⟩:=h); rename_i ee; first|subst ee|cases ee))
set_option hygiene false in
local macro_rules | `(tactic| walk_at "o")=>`(tactic| with_reducible repeat first|refine aay h λ_ _ h=>?_|refine aaz h λ_ _ _ _ h=>?_|refine aaA h λ_ _ _ h=>?_|refine aaB h λ_ _ _ _ h=>?_|refine aaC h λ_ _ _ h=>?_|refine aaD h λ_ _ _ _ h=>?_|refine aaE h λ_ _ _ h=>?_|refine aaF h λ_ _ _ h=>?_|refine aaG h λ_ _ h=>?_|refine aaH h λ_ _ _ _ h=>?_|refine aaI h λ_ _ _ _ h=>?_|refine aaJ h λ_ _ _ h=>?_|refine aaK h λ_ _ _ _ h=>?_|refine aaL h λ_ _ _ _ h=>?_|refine aaM h λ_ _ _ h=>?_|refine aaN h λ_ _ h=>?_|refine aaO h λ_ _ h=>?_|refine aaP h λ_ _ _ _ h=>?_|refine aaQ h λ_ _ _ h=>?_|refine aaR h λ_ _ _ _ h=>?_|refine aaS h λ_ _ _ _ _ h=>?_|refine aaT h λ_ _ _ _ h=>?_|refine aaU h λ_ _ _ h=>?_|refine aaV h λ_ _ _ h=>?_|refine aaW h λ_ _ _ _ _ _ _ h=>?_|refine aaX h λ_ _ h=>?_|refine aaY h λh=>?_|refine aaZ h λ_ h=>?_|refine aa0 h λh=>?_|refine aa1 h λh=>?_|refine aa2 h λ_ _ _ h=>?_|refine aa3 h λ_ h=>?_|refine aa4 h λ_ h=>?_|refine aa5 h λ_ h=>?_|refine aa6 h λh=>?_)
set_option hygiene false in
local macro_rules | `(tactic| exists $t)=>`(tactic| (refine(?h:VB ?f->SF) ?g; (case g=>exact $t); (case h=>exact λ_=>?f)))
set_option hygiene false in
local macro_rules | `(tactic| walk_at "b")=>`(tactic| first|with_reducible assumption|exact decide_eq_true (by first|assumption|omega)|exact decide_eq_false (by first|assumption|omega)|((with_reducible apply L2.xNb); walk_at "b")|((with_reducible apply L2.xNB); walk_at "b")|exact rfl)
set_option hygiene false in
local macro_rules | `(tactic| walk_at "u")=>`(tactic| fail)
set_option hygiene false in
local macro_rules | `(tactic| walk_at "w")=>`(tactic| fail)
set_option hygiene false in
local macro_rules | `(tactic| walk_at "q")=>`(tactic| repeat' (first|with_reducible rfl|((with_reducible change _=List.getD _ _ _); exact rfl)|(with_reducible apply L2.cn2)|(with_reducible refine congrArg L2.Sl.ow ?_)|(with_reducible refine congrArg L2.Sl.sh ?_)|(with_reducible refine congrArg L2.Sl.dp ?_)))
set_option hygiene false in
local macro_rules | `(tactic| walk_at "1")=>`(tactic| first|(with_reducible first|assumption|apply L2.wSq|apply L2.wSn|apply L2.wAs|apply L2.uQ|apply L2.uR|apply L2.xCl)|walk_at "u" |walk_at "w" | ((with_reducible first | change L2.bZ _ _=_ | change L2.eC _ _=_ | change L2.eX _=_ | change L2.dr _ _=_ | change L2.drs _ _=_ | change L2.con _ _=_ | change L2.cls _=_ | change L2.Dy _ _=_ | change L2.Dz _=_ | change L2.gj _=_ | change L2.Rs.ok _=_ | change L2.yw _=_ | change L2.DG _=_ | change L2.oF _=_ | change L2.rO _=_ | change _=some _ | change _=List.map _ _ | change L2.dO _ _=_ | change _=Tr.lst _ | change _=Tr.int _ | change _=Tr.tup _ | change L2.mJ _ _ _=_ | change L2.Nk _ _=_ | change (_ && _)=_); exact rfl) | (with_reducible first | exact L2.st0 | exact L2.st1 | exact L2.st2 | exact L2.st3 | exact L2.qe | exact L2.iu | exact L2.st6 | exact L2.gq | apply L2.st8) | (with_reducible first | exact L2.aa7 | exact L2.aa8 | exact L2.xLt | exact L2.xGt | exact L2.xLe | exact L2.xGe | exact L2.xEq | exact L2.DK | exact L2.DN | exact L2.xSn | exact L2.DP | exact L2.xLL | exact L2.xLT | apply L2.aa9 | apply L2.xAb | apply L2.abb | apply L2.abd | apply L2.Nm) | (with_reducible first | apply L2.wSr | apply L2.wSc | apply L2.abe | apply L2.wIf | apply L2.xTe | apply L2.xTr | apply L2.xBN | apply L2.xBA | apply L2.xBO | apply L2.wRt | apply L2.xC1 | apply L2.wEx | apply L2.wNo | apply L2.wFo | apply L2.xFS | apply L2.xIs | apply L2.xLs | apply L2.xTu | apply L2.xAp | apply L2.wOw | apply L2.wON | apply L2.oV1 | apply L2.oV2 | apply L2.xEI | apply L2.xEA | apply L2.xEO | apply L2.xEN | apply L2.xUn | apply L2.xC2 | apply L2.xCh | apply L2.xCk | apply L2.wPa | apply L2.wFr | apply L2.xFz | apply L2.wDw | apply L2.xVw | apply L2.xSl | apply L2.xOS | apply L2.xRg | apply L2.xMp | apply L2.xM2 | apply L2.xZi | apply L2.xFl | apply L2.xLR | apply L2.xFO | apply L2.xIn | apply L2.xG2 | apply L2.xG3 | apply L2.xGN | apply L2.wAg) | ((with_reducible first | apply L2.xT | apply L2.wT | apply L2.pT); (walk_at "b"))|((with_reducible first|apply L2.xF|apply L2.wF|apply L2.pF); (walk_at "b"))|(with_reducible first|apply L2.xOv|apply L2.xAv|apply L2.xOV|apply L2.xAV)|((with_reducible change L2.eY _=_); exact rfl)|((with_reducible change L2.vw _=_); (dsimp only[L2.vw,L2.Np,List.map] <;> exact rfl))|((with_reducible change L2.qg _ _ _=_); exact rfl)|((with_reducible change L2.aW _ _=_); exact rfl)|((with_reducible change L2.uT _ _=_); exact rfl)|((with_reducible change L2.oG _=_); exact rfl)|((with_reducible change L2.yx _=_); exact rfl)|((with_reducible change L2.abf _ _=_); exact rfl)|((with_reducible change L2.abg _ _=_); exact rfl)|((with_reducible change L2.yC _=_); exact rfl)|((with_reducible first|apply L2.jO|apply L2.xSN); decide +kernel)|exact λ_=>rfl|((with_reducible first|change ∀_ _,L2.d8 _ _ _=_|change ∀_ _,L2.bG _ _ _=_); exact λ_ _=>rfl)|(dsimp only; (with_reducible apply L2.exV); walk_at "q")|((change ∀_,_∈_->_=_); intro x hx; try rw[List.mem_range]at hx)|((with_reducible change L2.dG _ _=_); (first|(with_reducible first|exact c1 _|exact c2 _|exact c3 _)|exact L2.cMr (by omega)|exact L2.cMl (by omega)))|((with_reducible change L2.jd _ _=_); first|(with_reducible first|exact c1 _|exact c2 _|exact c3 _)|exact L2.Nq (by omega) (by omega))|omega|((with_reducible change _≠_); decide)|(rw[List.length_map]; exact List.length_filter_le ..)|((with_reducible first|change _<=_|change _<_); simp only[List.length_map,List.length_range,List.length_take,List.length_append,List.length_cons,List.length_nil]; omega))
set_option hygiene false in
local macro_rules | `(tactic| walk_at "p")=>`(tactic| (dsimp only[L2.pt,List.map,List.set]; (try with_reducible apply L2.wG); walk_at "r"))
set_option hygiene false in
local macro_rules | `(tactic| walk_at "r")=>`(tactic| (repeat(walk_at "1")))
set_option hygiene false in
local macro_rules | `(tactic| walk_at "e")=>`(tactic| (apply L2.wFe; (dsimp only[L2.fJ,List.map,List.length,List.replicate,List.append,HAppend.hAppend,Append.append,Nat.reduceSub,Nat.reduceAdd] <;> exact rfl); walk_at "r"))
set_option hygiene false in
local macro_rules | `(tactic| walk_at "d")=>`(tactic| (apply L2.Nr; (dsimp only[L2.fJ,List.map,List.length,List.replicate,List.append,HAppend.hAppend,Append.append,Nat.reduceSub,Nat.reduceAdd] <;> exact rfl); walk_at "r"))
set_option hygiene false in
local macro_rules | `(tactic| walk_at "u")=>`(tactic| with_reducible first|exact oH _|exact oJ _|apply qj)
set_option hygiene false in
local macro_rules | `(tactic| walk_at "w")=>`(tactic| first|(with_reducible first|apply L2.Nt|apply L2.Nu|apply L2.Nv|apply L2.Nx|apply L2.Ny|apply L2.Nz|apply L2.NK|apply L2.NP|apply L2.xCD|apply L2.NQ|apply L2.NT|apply L2.NZ|apply L2.N5|apply L2.N6)|((with_reducible change L2.oK _ _=_); first|(apply L2.N7; exact rfl)|(apply L2.N8; exact rfl))|((with_reducible change L2.mK _ _ _=_); first|(apply L2.Oa; exact rfl)|(apply L2.Oh; exact rfl; exact rfl))|((with_reducible first|change L2.DQ _=_|change L2.cH _ _=_|change L2.bh _=_|change L2.fK _=_); exact rfl))
set_option hygiene false in
local macro_rules | `(tactic| walk_at "m")=>`(tactic| (apply L2.dFn; (dsimp only[L2.fJ,List.map,List.length,List.replicate,List.append,HAppend.hAppend,Append.append,Nat.reduceSub,Nat.reduceAdd] <;> exact rfl); walk_at "r"))
set_option hygiene false in
local macro_rules | `(tactic| walk_at "n")=>`(tactic| (apply L2.dFe; (dsimp only[L2.fJ,List.map,List.length,List.replicate,List.append,HAppend.hAppend,Append.append,Nat.reduceSub,Nat.reduceAdd] <;> exact rfl); walk_at "r"))
set_option hygiene false in
local macro_rules | `(tactic| walk_at "u")=>`(tactic| with_reducible first|exact oH _|exact oJ _|apply qj|apply Oi)
set_option hygiene false in
local macro_rules | `(tactic| walk_at "u")=>`(tactic| with_reducible first|exact oH _|exact oJ _|apply qj|apply Oi|apply yD|apply abh|apply DW|exact abj|exact abk|exact abl)
set_option hygiene false in
local macro_rules | `(tactic| walk_at "u")=>`(tactic| with_reducible first|exact Oj|apply Ol|exact DX _ _ _)
set_option hygiene false in
local macro_rules | `(tactic| walk_at "u")=>`(tactic| with_reducible first|exact oH _|exact oJ _|apply qj|apply uU|apply Om|exact half|exact DX _ _ _|exact Oo|exact Oq|apply yD|apply DW|exact rP|exact Ot|exact pick|exact Ou|exact Ov|apply jA (0:Nat)|apply jA ((0,1):Int × Int)|apply Bk.lt (by assumption))
set_option hygiene false in
local macro_rules | `(tactic| walk_at "u")=>`(tactic| with_reducible first|exact abm _ _|exact abn _|exact Oj|apply Ol|exact abo _ _|exact abp _ _|exact oH _|exact oJ _|apply qj|apply uU|apply Om|exact half|exact DX _ _ _|exact Oo|exact Oq|apply yD|apply DW|exact rP|exact Ot|exact pick|exact Ou|exact Ov|apply jA (0:Nat)|apply jA ((0,1):Int × Int)|apply Bk.lt (by assumption))
set_option hygiene false in
local macro_rules | `(tactic| walk_at "w")=>`(tactic| first|(with_reducible first|apply L2.Nt|apply L2.Nu|apply L2.Nv|apply L2.Nx|apply L2.Ny|apply L2.Nz|apply L2.NK|apply L2.NP|apply L2.xCD|apply L2.NQ|apply L2.NT|apply L2.NZ|apply L2.abq|apply L2.wAx|apply L2.wPm|apply L2.wPc|apply L2.wRv|apply L2.xVv|apply L2.N5|apply L2.N6)|((with_reducible change L2.oK _ _=_); first|(apply L2.N7; exact rfl)|(apply L2.N8; exact rfl))|((with_reducible change L2.mK _ _ _=_); first|(apply L2.Oa; exact rfl)|(apply L2.Oh; exact rfl; exact rfl))|((with_reducible first|change L2.DQ _=_|change L2.cH _ _=_|change L2.bh _=_|change L2.je _ _=_|change L2.fK _=_); exact rfl))
section
namespace L2
open PySem PySem.Spec PyProof.Rows
inductive V where
 |non|bl (b:Bool)|int (i:Int)|str (x:Str)|uV (b:Array UInt8)|flt (b:UInt64)|ref (a:Addr)|ty (n:String)
 deriving DecidableEq
def RelV:V->Value->Prop
 |.non,u=>u=Value.none
 |.bl b,u=>u=Value.bool b
 |.int i,u=>∃t,u=Value.int i t
 |.str x,u=>∃t,u=Value.str x t
 |.uV b,u=>∃t,u=Value.bytes b t
 |.flt b,u=>∃t,u=Value.float b t
 |.ref a,u=>u=Value.ref a
 |.ty n,u=>u=Value.type n
abbrev Vals:List V->List Value->Prop:=Paired RelV
theorem Vals.length{xs:List V}{us:List Value}(r:Vals xs us):xs.length=us.length:=Paired.length r
theorem Vals.get:∀{xs:List V} {us:List Value} {i:Nat} {x:V},Vals xs us->xs[i]?=some x->∃u,us[i]?=some u/\RelV x u
 |_,_,_,_,.nil,e=>by simp at e
 |_,_,0,_,.cons r _,e=>by simp at e; subst e; exact⟨_,rfl,r⟩
 |_,_,i+1,x,.cons _ t,e=>by
  obtain⟨u,h1,h2⟩:=Vals.get (i:=i) (x:=x) t (by simpa using e)
  exact⟨u,by simpa using h1,h2⟩
theorem Vals.set{x:V}{u:Value}(r:RelV x u):∀{xs:List V} {us:List Value} (i:Nat),Vals xs us->Vals (xs.set i x) (us.set i u)
 |_,_,_,.nil=>.nil
 |_,_,0,.cons _ t=>.cons r t
 |_,_,i+1,.cons q t=>.cons q (Vals.set r i t)
theorem Vals.append:∀{xs ys:List V} {us ws:List Value},Vals xs us->Vals ys ws->Vals (xs++ys) (us++ws)
 |_,_,_,_,.nil,s=>s
 |_,_,_,_,.cons r t,s=>.cons r (Vals.append t s)
theorem Vals.take:∀{xs:List V} {us:List Value} (n:Nat),Vals xs us->Vals (xs.take n) (us.take n)
 |_,_,0,_=>.nil
 |_,_,_+1,.nil=>.nil
 |_,_,n+1,.cons r t=>.cons r (Vals.take n t)
theorem Vals.drop:∀{xs:List V} {us:List Value} (n:Nat),Vals xs us->Vals (xs.drop n) (us.drop n)
 |_,_,0,r=>r
 |_,_,_+1,.nil=>.nil
 |_,_,n+1,.cons _ t=>Vals.drop n t
def amQ:Option V->Option Value->Prop
 |some v,some u=>RelV v u
 |none,none=>True
 |_,_=>False
inductive HO where
 |lst (xs:List V)
 |tup (xs:List V)
 |own (x:Addr)
 |rng (lo hi:Int)
 |cQ (o:Obj) (u:HO)
 |cJ (ps:Array Value)
 |ext (φ : Heap->Prop)
abbrev Hp:=Addr->Option HO
noncomputable def upd(H:Hp)(a:Addr)(o:HO):Hp:=λb=>if b=a then some o else H b
theorem bN{H:Hp}{a:Addr}{o:HO}:upd H a o a=some o:=by unfold upd; rw[if_pos rfl]
theorem aL{H:Hp}{a b:Addr}{o:HO}(h:b≠a):upd H a o b=H b:=by unfold upd; rw[if_neg h]
theorem iw{H:Hp}{a b:Addr}{o:HO}(h:H a=some o)(h':H b=none):a≠b:=by
 intro e; subst e; rw[h]at h'; cases h'
section
variable (P:Program)(w:World)
def gA(P:Program)(w:World)(H:Hp)(h:Heap)(a:Addr):HO->Prop
 |.lst xs=>xs.length<=sizeLine/\∃(its:List Value) (n:Nat),Vals xs its/\h.get? a=some {cls:=.type "list",data:=.seq its.toArray n }
 |.tup xs=>xs.length<=sizeLine/\∃its:List Value,Vals xs its/\IsTup h a its.toArray
 |.own _=>∃o,h.get? a=some o
 |.rng lo hi=>∃t u v,h.get? a=some {cls:=.type "range",data:=.fields #[.int lo t,.int hi u,.int 1 v] }
 |.cQ o u=>h.get? a=some o/\gA P w H h a u
 |.cJ ps=>h.get? a=some {cls:=.none,data:=.fields ps }
 |.ext φ=>φ h/\(∃o,h.get? a=some o)/\∀h1 h2:Heap,φ h1->(∀o,h1.get? a=some o->h2.get? a=some o) -> φ h2
def cL(H:Hp)(h:Heap):Prop:=∀a o,H a=some o->gA P w H h a o
end
section
variable {P:Program}{w:World}{H H':Hp}{h h':Heap}{a:Addr}{o:HO}
theorem gA.lt(x:gA P w H h a o):a<h.objs.size:=by
 cases o with
 |lst xs=>obtain⟨_,_,_,_,e⟩:=x; exact Heap.lt_size e
 |tup xs=>obtain⟨_,_,_,p⟩:=x; exact p.lt
 |own y=>obtain⟨_,e⟩:=x; exact Heap.lt_size e
 |rng lo hi=>obtain⟨_,_,_,e⟩:=x; exact Heap.lt_size e
 |cQ ob u=>obtain⟨e,_⟩:=x; exact Heap.lt_size e
 |cJ ps=>exact Heap.lt_size (show h.get? a=some _ from x)
 |ext φ=>obtain⟨_,⟨_,e⟩,_⟩:=x; exact Heap.lt_size e
theorem gA.stay(x:gA P w H h a o)(k:∀b u,(b=a\/H b=some (.own a))->h.get? b=some u->h'.get? b=some u)
  (ho:∀b,H b=some (.own a)->H' b=some (.own a)) (ht:∀b xs,H b=some (.tup xs)->H' b=some (.tup xs)):gA P w H' h' a o:=by
 induction o with
 |lst xs=>obtain⟨z,its,n,r,e⟩:=x; exact⟨z,its,n,r,k _ _ (.inl rfl) e⟩
 |tup xs=>obtain⟨z,its,r,ob,e,c⟩:=x; exact⟨z,its,r,ob,k _ _ (.inl rfl) e,c⟩
 |own y=>obtain⟨ob,e⟩:=x; exact⟨ob,k _ _ (.inl rfl) e⟩
 |rng lo hi=>obtain⟨t,u,v,e⟩:=x; exact⟨t,u,v,k _ _ (.inl rfl) e⟩
 |cQ ob u ih=>obtain⟨e,q⟩:=x; exact⟨k _ _ (.inl rfl) e,ih q⟩
 |cJ ps =>
  have e:h.get? a=some {cls:=.none,data:=.fields ps }:=x
  show h'.get? a=some {cls:=.none,data:=.fields ps }
  exact k a _ (.inl rfl) e
 |ext φ=>obtain⟨p,⟨o,e⟩,st⟩:=x; exact⟨st _ _ p λo q=>k _ _ (.inl rfl) q,⟨o,k _ _ (.inl rfl) e⟩,st⟩
theorem cL.lt(x:cL P w H h)(e:H a=some o):a<h.objs.size:=(x a o e).lt
theorem cL.fresh(x:cL P w H h)(e:h.objs.size<=a):H a=none:=by
 cases q:H a with
 |none=>rfl
 |some u=>exact absurd (Nat.lt_of_lt_of_le (x.lt q) e) (Nat.lt_irrefl _)
theorem cL.kept(x:cL P w H h)(k:∀b u,h.get? b=some u->h'.get? b=some u):cL P w H h':=λa o e =>
 (x a o e).stay (λb u _ q=>k b u q) (λ_ q=>q) λ_ _ q=>q
theorem cL.laid(x:cL P w H h)(k:∀b u,h.get? b=some u->h'.get? b=some u)(hp:h.objs.size<=a)(new:gA P w (upd H a o) h' a o):cL P w (upd H a o) h':=λb u e=>by
 have hn:=x.fresh hp
 by_cases hb:b=a
 .subst hb; rw[bN]at e; cases e; exact new
 .rw[aL hb]at e
  exact(x b u e).stay (λc v _ q=>k c v q) (λc q=>by rw[aL (iw q hn)]; exact q) λc xs q=>by rw[aL (iw q hn)]; exact q
end
def Rd(H:Hp)(a:Addr)(u:HO):Prop:=H a=some u\/∃o,H a=some (.cQ o u)
theorem Rd.ok{P:Program}{w:World}{H:Hp}{h:Heap}{a:Addr}{u:HO}(r:Rd H a u)(x:cL P w H h):gA P w H h a u:=by
 rcases r with r|⟨o,r⟩
 .exact x a u r
 .obtain⟨_,q⟩:=x a _ r
  exact q
def yE:Option HO->Prop
 |some (.lst _)=>True
 |some (.ext _)=>True
 |_=>False
section
variable {P:Program}{w:World}{H:Hp}{h h':Heap}{x e:Addr}{o':HO}
theorem cL.write(ok:cL P w H h)(mu:yE (H x))(he:e=x\/H e=some (.own x))(k:∀b u,b≠e->h.get? b=some u->h'.get? b=some u)(heo:∃u,h'.get? e=some u)
  (new:gA P w (upd H x o') h' x o'):cL P w (upd H x o') h':=λb u q=>by
 have Ow:∀c y,H c=some (.own y)->c≠x:=λc y r z=>by subst z; rw[r]at mu; exact mu
 have abr:∀c xs,H c=some (.tup xs)->c≠x:=λc xs r z=>by subst z; rw[r]at mu; exact mu
 by_cases hb:b=x
 .subst hb; rw[bN]at q; cases q; exact new
 .rw[aL hb]at q
  by_cases hbe:b=e
  .have q':H b=some (.own x):=by
    rcases he with z|z
    .exact absurd (hbe.trans z) hb
    .rw[hbe]; exact z
   rw[q]at q'; cases q'
   obtain⟨v,hv⟩:=heo
   exact⟨v,by rw[hbe]; exact hv⟩
  .refine(ok b u q).stay (λc v hc r=>k c v ?_ r) (λc r=>by rw[aL (Ow c b r)]; exact r) λc xs r=>by rw[aL (abr c xs r)]; exact r
   rcases hc with rfl|hc
   .exact hbe
   .rintro rfl
    rcases he with z|z
    .exact Ow c b hc z
    .rw[hc]at z; cases z; exact hb rfl
end
structure Un(fs ex:List Addr)(H H':Hp)(h h':Heap):Prop where
 keep:∀b o,h.get? b=some o->H b=none->b∉fs->b∉ex->h'.get? b=some o
 slot:∀b o,h.get? b=some o->H b=none->b∈fs->b∉ex->∃sl,h'.get? b=some {o with slots:=sl }
 free:∀b o,h.get? b=some o->H b=none->b∉ex->H' b=none
 there:∀b o,h.get? b=some o->b∉ex->∃o',h'.get? b=some o'
 tups:∀b xs,H b=some (.tup xs)->H' b=some (.tup xs)
 jP:∀b o u,H b=some (.cQ o u)->H' b=some (.cQ o u)
 jQ:∀b ps,H b=some (.cJ ps)->∃more,H' b=some (.cJ (ps++more))
section
variable {fs fs' ex ex':List Addr}{H H1 H2:Hp}{h h1 h2 h':Heap}{a x e:Addr}{o:HO}
theorem Un.any(u:Un fs ex H H1 h h1)(q:h.get? b=some ob)(n:H b=none)(hx:b∉ex):∃sl,h1.get? b=some {ob with slots:=sl }:=by
 by_cases hb:b∈fs
 .exact u.slot b ob q n hb hx
 .exact⟨ob.slots,u.keep b ob q n hb hx⟩
theorem Un.kept(k:∀b u,h.get? b=some u->h'.get? b=some u):Un fs ex H H h h' :=
 ⟨λb ob q _ _ _=>k b ob q,λb ob q _ _ _=>⟨ob.slots,k b ob q⟩,λ_ _ _ n _=>n,λb ob q _=>⟨ob,k b ob q⟩,λ_ _ q=>q,λ_ _ _ q=>q,λ_ ps q=>⟨#[],by rw[q]; simp⟩⟩
theorem Un.refl:Un fs ex H H h h:=Un.kept λ_ _ q=>q
theorem Un.laid(k:∀b u,h.get? b=some u->h'.get? b=some u)(hp:h.objs.size<=a)(hn:H a=none):Un fs ex H (upd H a o) h h' where
 keep:=λb u q _ _ _=>k b u q
 slot:=λb u q _ _ _=>⟨u.slots,k b u q⟩
 free:=λb u q n _=>by rw[aL (Nat.ne_of_lt (Nat.lt_of_lt_of_le (Heap.lt_size q) hp))]; exact n
 there:=λb u q _=>⟨u,k b u q⟩
 tups:=λb xs q=>by rw[aL (iw q hn)]; exact q
 jP:=λb u xs q=>by rw[aL (iw q hn)]; exact q
 jQ:=λb ps q=>⟨#[],by rw[aL (iw q hn),q]; simp⟩
theorem Un.write(mu:yE (H x))(he:e=x\/H e=some (.own x))(k:∀b u,b≠e->h.get? b=some u->h'.get? b=some u)(heo:∃u,h'.get? e=some u):Un fs ex H (upd H x o) h h':=by
 have hx:∀b,H b=none->b≠x:=λb n z=>by subst z; rw[n]at mu; exact mu
 have hb:∀b,H b=none->b≠e:=λb n z=>by
  subst z
  rcases he with r|r
  .exact hx b n r
  .rw[n]at r; cases r
 have hm:∀b u,H b=some u->¬yE (some u)->b≠x:=λb u q nm z=>by subst z; rw[q]at mu; exact nm mu
 refine⟨λb u q n _ _=>k b u (hb b n) q,λb u q n _ _=>⟨u.slots,k b u (hb b n) q⟩,λb u q n _=>by rw[aL (hx b n)]; exact n,λb u q _=>?_,
  λb xs q=>by rw[aL (hm b _ q λz=>z)]; exact q,λb u xs q=>by rw[aL (hm b _ q λz=>z)]; exact q,λb ps q=>⟨#[],by rw[aL (hm b _ q λz=>z),q]; simp⟩⟩
 by_cases hbe:b=e
 .subst hbe; exact heo
 .exact⟨u,k b u hbe q⟩
end
noncomputable def yF(h:Heap)(H:Hp):List Addr:=(List.range h.objs.size).filter λa=>(H a).isSome
noncomputable def mL(h:Heap)(H:Hp):Heap:=PySem.W.hideAll h (yF h H)
theorem abt(h:Heap)(H:Hp):(mL h H).objs.size=h.objs.size:=PySem.W.hideAll_size _ _
theorem abu(e:h.get? b=some o)(n:H b=none):(mL h H).get? b=some o :=
 PySem.W.hideAll_get _ e λhm=>by
  have q:(H b).isSome=true:=(List.mem_filter.mp hm).2
  rw[n]at q; simp at q
theorem abv(e:(mL h H).get? b=some o):h.get? b=some o/\H b=none:=by
 have e':h.get? b=some o:=PySem.W.of_hideAll (yF h H) e
 refine⟨e',?_⟩
 cases q:H b with
 |none=>rfl
 |some x =>
  have hm:b∈yF h H:=List.mem_filter.mpr ⟨List.mem_range.mpr (Heap.lt_size e'),by simp[q]⟩
  have z:(mL h H).get? b=none:=PySem.W.hideAll_none (yF h H) hm
  rw[z]at e; cases e
noncomputable def abw(g h:Heap)(L:Addr):LO:=(List.range h.objs.size).filterMap λa=>if a=L\/(g.get? a).isSome=true then none else(h.get? a).map λo=>(a,o)
noncomputable def rest(g h:Heap)(L d:Addr):LO:=(abw g h L).filter λp=>decide (p.1≠d)
structure Mod(K:FZ)(mg:Str->Option Value)(base:Heap):Prop where
 DY:K.In base
 glob:base.Ns mainGlobals mg
 blt:∃mb,base.Ns builtinsNs mb/\∀x:Str,x ≠ "__name__" -> mb x=bootBuiltins x
 nolimit:base.NoLimit
structure Cx where
 prog:Program
 w:World
 K:FZ
 mg:Str->Option Value
 base:Heap
 A:Around
 N:List Str
 s₀ : Shared
 H₀ : Hp
 env:Env
 outer:List Env
 stack:List Env
 ex:List Addr
 fn:Str->Bool
 calm:Bool
 pn:LO
 xe:Value->Shared->Prop
noncomputable def frs(l:List Env):List Addr:=l.filterMap (·.frame)
noncomputable abbrev Cx.fs(X:Cx):List Addr:=frs X.outer
def uW(sc:Scope)(x:Str):Prop:=sc.names.lookup x=some .local\/sc.names.lookup x=some .cell\/sc.names.lookup x=some .free
def Loc(sc:Scope)(x:Str):Prop:=sc.names.lookup x=some .local\/sc.names.lookup x=some .cell
def Look(env:Env)(h:Heap)(m:Str->Option Value)(x:Str)(u:Value):Prop :=
 (env.kindOf x=some .local/\m x=some u)\/((env.kindOf x=some .cell\/env.kindOf x=some .free)/\∃c,env.cells.lookup x=some c/\h.IsCell c (some u))
structure Cx.Ok(X:Cx):Prop where
 mod:Mod X.K X.mg X.base
 kind:X.env.scope.kind=.function
 glob:X.env.globals=mainGlobals
 blt:X.env.builtins=builtinsNs
 above:X.s₀.heap.objs.size<=X.env.locals
 inj:∀x y c,X.env.cells.lookup x=some c->X.env.cells.lookup y=some c->x=y
 has:∀x,(X.env.kindOf x=some .cell\/X.env.kindOf x=some .free)->∃c,X.env.cells.lookup x=some c
 cab:∀x c,X.fn x=true->X.env.cells.lookup x=some c->X.s₀.heap.objs.size<=c
 hd:X.calm=true->X.A.handled=none
 frames:X.A.frames=some X.stack
 stk:X.stack=X.outer\/(X.stack=X.env::X.outer/\X.env.frame=some X.env.locals)
 Oz:∀b∈X.ex,b≠X.env.locals/\∀x c,X.env.cells.lookup x=some c->c≠b
 bs:∀b o,X.base.get? b=some o->X.s₀.heap.get? b=some o/\X.H₀ b=none
 oM:X.base.objs.size<=X.s₀.heap.objs.size
 uX:∀b o,X.base.get? b=some o->b∉X.ex
 yG:∀b∈X.ex,b∉X.fs
 jB:X.s₀.heap.FunFrames X.base X.outer
 ql:∀b∈X.fs,X.H₀ b=none
structure Inv(X:Cx)(pins:LO)(σ : List (Option V))(H:Hp)(s:Shared):Prop where
 ok:X.Ok
 os:s.os=X.s₀.os
 bare:AllBare s.gens
 base:Un X.fs X.ex X.H₀ H X.s₀.heap s.heap
 loc:∃m,s.heap.Ns X.env.locals m/\∀(i:Nat) (x:Str) (v:V),X.N[i]?=some x -> σ[i]?=some (some v)->uW X.env.scope x->∃u,RelV v u/\Look X.env s.heap m x u
 cell:∀x c,X.env.cells.lookup x=some c->∃v,s.heap.IsCell c v
 free:H X.env.locals=none
 jR:∀x c,X.env.cells.lookup x=some c->H c=none
 pin:∀p∈X.pn++pins,s.heap.get? p.1=some p.2/\H p.1=none/\p.1≠X.env.locals/\p.1∉X.fs/\∀v,p.2.data ≠ .cell v
 hok:cL X.prog X.w H s.heap
 len : σ.length=X.N.length
section
variable {X:Cx}{pins:LO}{σ : List (Option V)}{H H':Hp}{s:Shared}{h':Heap}
theorem Cx.Ok.rQ(ok:X.Ok)(e:X.base.get? b=some o):b∉X.fs:=λhb=>by
 have:=(ok.jB.mem hb).1
 rw[e]at this; cases this
theorem Inv.bs(I:Inv X pins σ H s):∀b o,X.base.get? b=some o->s.heap.get? b=some o/\H b=none:=λb o e =>
 ⟨I.base.keep b o (I.ok.bs b o e).1 (I.ok.bs b o e).2 (I.ok.rQ e) (I.ok.uX b o e),I.base.free b o (I.ok.bs b o e).1 (I.ok.bs b o e).2 (I.ok.uX b o e)⟩
theorem Inv.bk(I:Inv X pins σ H s):∀b o,X.base.get? b=some o->s.heap.get? b=some o:=λb o e=>(I.bs b o e).1
theorem Inv.mod(I:Inv X pins σ H s):Mod X.K X.mg X.base:=I.ok.mod
theorem Inv.iy(I:Inv X pins σ H s):X.K.In s.heap:=I.ok.mod.DY.keeps I.bk
theorem Inv.nolimit(I:Inv X pins σ H s):s.heap.NoLimit:=I.ok.mod.nolimit.keeps I.bk
theorem Inv.lt(I:Inv X pins σ H s):X.env.locals<s.heap.objs.size:=let⟨_,hn,_⟩:=I.loc; hn.lt
theorem Inv.sz(I:Inv X pins σ H s):X.s₀.heap.objs.size<=s.heap.objs.size:=Nat.le_trans I.ok.above (Nat.le_of_lt I.lt)
theorem Inv.abx(I:Inv X pins σ H s)(h:s.heap.objs.size<=a):a∉X.fs:=λhb=>by
 obtain⟨_,o,ho,_⟩:=I.ok.jB.mem hb
 exact absurd (Nat.lt_of_lt_of_le (Heap.lt_size ho) (Nat.le_trans I.sz h)) (Nat.lt_irrefl _)
theorem Inv.qm(I:Inv X pins σ H s):∀x c,X.env.cells.lookup x=some c->c≠X.env.locals:=λx c e z=>by
 obtain⟨v,o,ho,hd⟩:=I.cell x c e
 obtain⟨m,⟨o',es,ep,ho',hd',_⟩,_⟩:=I.loc
 rw[z,ho']at ho; cases ho; rw[hd']at hd; cases hd
theorem Inv.jB(I:Inv X pins σ H s):s.heap.FunFrames X.base X.outer:=by
 have all:∀(l:List Env),(∀b∈frs l,b∈X.fs)->X.s₀.heap.FunFrames X.base l->s.heap.FunFrames X.base l:=by
  intro l
  induction l with
  |nil=>intro _ _; trivial
  |cons env r ih =>
   intro hs hl
   obtain⟨hk,⟨L,o,hf,hn,ho,hd⟩,hr⟩:=hl
   have hL:L∈X.fs:=hs L (by unfold frs; rw[List.filterMap_cons,hf]; exact List.mem_cons_self)
   obtain⟨sl,e⟩:=I.base.slot L o ho (I.ok.ql L hL) hL λz=>I.ok.yG L z hL
   exact⟨hk,⟨L,_,hf,hn,e,hd⟩,ih (λb hb=>hs b (by unfold frs; rw[List.filterMap_cons,hf]; exact List.mem_cons_of_mem _ hb)) hr⟩
 exact all X.outer (λ_ hb=>hb) I.ok.jB
theorem Inv.stack(I:Inv X pins σ H s):s.heap.FunFrames X.base X.stack:=by
 rcases I.ok.stk with e|⟨e,hf⟩
 .rw[e]; exact I.jB
 .rw[e]
  obtain⟨m,hn,_⟩:=I.loc
  refine .cons (by rw[I.ok.kind]; decide) hf hn ?_ I.jB
  exact Heap.get?_none_of_le (Nat.le_trans I.ok.oM I.ok.above)
theorem Inv.uY(I:Inv X pins σ H s):∀b∈frs X.stack,b∈X.env.locals::X.fs:=λb hb=>by
 rcases I.ok.stk with e|⟨e,hf⟩
 .rw[e]at hb; exact List.mem_cons_of_mem _ hb
 .rw[e]at hb
  unfold frs at hb
  rw[List.filterMap_cons,hf]at hb
  exact hb
theorem Inv.yH(I:Inv X pins σ H s):∀b∈frs X.stack,H b=none:=λb hb=>by
 rcases List.mem_cons.mp (I.uY b hb)with e|hb
 .rw[e]; exact I.free
 .obtain⟨_,o,ho,_⟩:=I.ok.jB.mem hb
  exact I.base.free b o ho (I.ok.ql b hb) λz=>I.ok.yG b z hb
theorem Inv.step{g':Array GenState}{t':Nat}{d':Drawn}{ch:List Addr}(I:Inv X pins σ H s)
  (hch:∀b∈ch,(b∈X.ex\/X.s₀.heap.objs.size<=b)/\b≠X.env.locals/\(∀x c,X.env.cells.lookup x=some c->c≠b)/\∀p∈X.pn++pins,p.1≠b)
  (keep:∀b o,b≠X.env.locals->b∉X.fs->b∉ch->s.heap.get? b=some o->H b=none->h'.get? b=some o)
  (slot:∀b o,b≠X.env.locals->b∈X.fs->b∉ch->s.heap.get? b=some o->H b=none->∃sl,h'.get? b=some {o with slots:=sl }) (free:∀b o,b∉ch->s.heap.get? b=some o->H b=none->H' b=none)
  (there:∀b o,b∉ch->s.heap.get? b=some o->∃o',h'.get? b=some o')
  (tups:∀b xs,H b=some (.tup xs)->H' b=some (.tup xs)) (jP:∀b o u,H b=some (.cQ o u)->H' b=some (.cQ o u)) (jQ:∀b ps,H b=some (.cJ ps)->∃more,H' b=some (.cJ (ps++more)))
  (ns:∀m,s.heap.Ns X.env.locals m->h'.Ns X.env.locals m) (hok:cL X.prog X.w H' h') (hg:AllBare g') :
  Inv X pins σ H' {s with heap:=h',gens:=g',drawn:=d',toks:=t' }:=by
 have OD:∀b o,X.s₀.heap.get? b=some o->b≠X.env.locals:=λb o e=>Nat.ne_of_lt (Nat.lt_of_lt_of_le (Heap.lt_size e) I.ok.above)
 have yJ:∀b o,X.s₀.heap.get? b=some o->b∉X.ex->b∉ch:=λb o e hx hb=>by
  rcases(hch b hb).1 with z|z
  .exact hx z
  .exact absurd (Nat.lt_of_lt_of_le (Heap.lt_size e) z) (Nat.lt_irrefl _)
 have cellK:∀x c,X.env.cells.lookup x=some c->∀v,s.heap.IsCell c v->h'.IsCell c v:=λx c e v ⟨o,ho,hd⟩=>by
  have uZ:c∉ch:=λz=>(hch c z).2.2.1 x c e rfl
  by_cases hc:c∈X.fs
  .obtain⟨sl,q⟩:=slot c o (I.qm x c e) hc uZ ho (I.jR x c e)
   exact⟨_,q,hd⟩
  .exact⟨o,keep c o (I.qm x c e) hc uZ ho (I.jR x c e),hd⟩
 refine⟨I.ok,I.os,hg,⟨λb o e n hb hx=>?_,λb o e n hb hx=>?_,λb o e n hx=>?_,λb o e hx=>?_,λb xs e=>tups b xs (I.base.tups b xs e),λb o xs e=>jP b o xs (I.base.jP b o xs e),λb ps e=>?_⟩,?_,λx c e=>?_,?_,λx c e=>?_,λp hp=>?_,hok,I.len⟩
 .exact keep b o (OD b o e) hb (yJ b o e hx) (I.base.keep b o e n hb hx) (I.base.free b o e n hx)
 .obtain⟨sl,e1⟩:=I.base.slot b o e n hb hx
  obtain⟨sl',e2⟩:=slot b _ (OD b o e) hb (yJ b o e hx) e1 (I.base.free b o e n hx)
  exact⟨sl',e2⟩
 .obtain⟨o',e1⟩:=I.base.there b o e hx
  exact free b o' (yJ b o e hx) e1 (I.base.free b o e n hx)
 .obtain⟨o',e1⟩:=I.base.there b o e hx
  exact there b o' (yJ b o e hx) e1
 .obtain⟨m1,e1⟩:=I.base.jQ b ps e
  obtain⟨m2,e2⟩:=jQ b _ e1
  exact⟨m1++m2,by rw[e2,Array.append_assoc]⟩
 .obtain⟨m,hn,hl⟩:=I.loc
  refine⟨m,ns m hn,λi x v e1 e2 e3=>?_⟩
  obtain⟨u,r,l⟩:=hl i x v e1 e2 e3
  refine⟨u,r,?_⟩
  rcases l with l|⟨k,c,e,z⟩
  .exact .inl l
  .exact .inr ⟨k,c,e,cellK x c e _ z⟩
 .obtain⟨v,z⟩:=I.cell x c e
  exact⟨v,cellK x c e v z⟩
 .obtain⟨m,⟨o,_,_,ho,_⟩,_⟩:=I.loc
  exact free _ o (λz=>(hch _ z).2.1 rfl) ho I.free
 .obtain⟨v,o,ho,hd⟩:=I.cell x c e
  exact free c o (λz=>(hch c z).2.2.1 x c e rfl) ho (I.jR x c e)
 .obtain⟨e,n,ne,nf,d⟩:=I.pin p hp
  have uZ:p.1∉ch:=λz=>(hch p.1 z).2.2.2 p hp rfl
  exact⟨keep p.1 p.2 ne nf uZ e n,free p.1 p.2 uZ e n,ne,nf,d⟩
theorem Inv.un{t':Nat}(I:Inv X pins σ H s)(u:Un X.fs [] H H' s.heap h')(hok:cL X.prog X.w H' h'):Inv X pins σ H' {s with heap:=h',toks:=t' }:=by
 obtain⟨m,⟨o,es,ep,ho,r⟩,_⟩:=id I.loc
 obtain⟨sl,hL⟩:=u.any ho I.free (by simp)
 exact I.step (g':=s.gens) (d':=s.drawn) (ch:=[]) (λ_ z=>nomatch z) (λb o _ hb _ e n=>u.keep b o e n hb (by simp)) (λb o _ hb _ e n=>u.slot b o e n hb (by simp)) (λb o _ e n=>u.free b o e n (by simp)) (λb o _ e=>u.there b o e (by simp)) u.tups u.jP u.jQ (λm' hm=>by
  obtain⟨o',es',ep',ho',r'⟩:=hm
  rw[ho]at ho'; cases ho'
  exact⟨_,es',ep',hL,r'⟩) hok I.bare
theorem Inv.call{g':Array GenState}{t':Nat}{d':Drawn}{ch:List Addr}(I:Inv X pins σ H s)(u:Un (frs X.stack) ch H H' s.heap h')(hok:cL X.prog X.w H' h')(hg:AllBare g')
  (hch:∀b∈ch,(b∈X.ex\/X.s₀.heap.objs.size<=b)/\b≠X.env.locals/\(∀x c,X.env.cells.lookup x=some c->c≠b)/\∀p∈X.pn++pins,p.1≠b) :
  Inv X pins σ H' {s with heap:=h',gens:=g',drawn:=d',toks:=t' }:=by
 obtain⟨m,⟨o,es,ep,ho,r⟩,_⟩:=id I.loc
 obtain⟨sl,hL⟩:=u.any ho I.free λz=>(hch _ z).2.1 rfl
 exact I.step (ch:=ch) hch (λb o hL hb hc e n=>u.keep b o e n (λz=>(List.mem_cons.mp (I.uY b z)).elim hL hb) hc) (λb o _ _ hc e n=>u.any e n hc) (λb o hc e n=>u.free b o e n hc) (λb o hc e=>u.there b o e hc) u.tups u.jP u.jQ (λm' hm=>by
  obtain⟨o',es',ep',ho',r'⟩:=hm
  rw[ho]at ho'; cases ho'
  exact⟨_,es',ep',hL,r'⟩) hok hg
theorem Inv.turned{t':Nat}{it:Addr}(I:Inv X pins σ H s)(k:∀b o,b≠it->s.heap.get? b=some o->h'.get? b=some o)(hn:H it=none)(hL:it≠X.env.locals)
  (h1:it∈X.ex\/X.s₀.heap.objs.size<=it) (h2:∀x c,X.env.cells.lookup x=some c->c≠it) (h3:∀p∈X.pn++pins,p.1≠it):Inv X pins σ H {s with heap:=h',toks:=t' }:=by
 have OJ:∀b u,H b=some u->b≠it:=λb u e z=>by rw[z,hn]at e; cases e
 refine I.step (g':=s.gens) (d':=s.drawn) (ch:=[it]) (λb hb=>?_) (λb o _ _ hc e _=>k b o (λz=>hc (by simp[z])) e) (λb o _ _ hc e _=>⟨o.slots,k b o (λz=>hc (by simp[z])) e⟩) (λ_ _ _ _ n=>n)
  (λb o hc e=>⟨o,k b o (λz=>hc (by simp[z])) e⟩) (λ_ _ e=>e) (λ_ _ _ e=>e) (λb ps e=>⟨#[],by rw[e]; simp⟩) (λm hm=>?_) (λb u e=>?_) I.bare
 .have e:b=it:=by simpa using hb
  subst e
  exact⟨h1,hL,h2,h3⟩
 .obtain⟨o,es,ep,ho,r⟩:=hm
  exact⟨o,es,ep,k _ o (Ne.symm hL) ho,r⟩
 .refine(I.hok b u e).stay (λc v hc q=>k c v ?_ q) (λ_ q=>q) λ_ _ q=>q
  rcases hc with z|z
  .rw[z]; exact OJ b u e
  .exact OJ c _ z
theorem Inv.tok(I:Inv X pins σ H s)(t:Nat):Inv X pins σ H {s with toks:=t }:=I.un (h':=s.heap) (t':=t) Un.refl I.hok
theorem Inv.kept(I:Inv X pins σ H s)(k:∀b u,s.heap.get? b=some u->h'.get? b=some u):Inv X pins σ H {s with heap:=h',toks:=t' }:=I.un (Un.kept k) (I.hok.kept k)
theorem Inv.laid{a:Addr}{o:HO}{t':Nat}(I:Inv X pins σ H s)(k:∀b u,s.heap.get? b=some u->h'.get? b=some u)(hp:s.heap.objs.size<=a)(new:gA X.prog X.w (upd H a o) h' a o) :
  Inv X pins σ (upd H a o) {s with heap:=h',toks:=t' }:=I.un (Un.laid k hp (I.hok.fresh hp)) (I.hok.laid k hp new)
theorem Inv.write(I:Inv X pins σ H s)(mu:yE (H x))(he:e=x\/H e=some (.own x))(k:∀b u,b≠e->s.heap.get? b=some u->h'.get? b=some u)(heo:∃u,h'.get? e=some u)
  (new:gA X.prog X.w (upd H x o) h' x o):Inv X pins σ (upd H x o) {s with heap:=h',toks:=t' }:=I.un (Un.write mu he k heo) (I.hok.write mu he k heo new)
theorem Inv.yK(I:Inv X pins σ H s)(h:∀p∈oO,s.heap.get? p.1=some p.2/\H p.1=none/\p.1≠X.env.locals/\p.1∉X.fs/\∀v,p.2.data ≠ .cell v):Inv X oO σ H s :=
 ⟨I.ok,I.os,I.bare,I.base,I.loc,I.cell,I.free,I.jR,λp hp=>(List.mem_append.mp hp).elim (λz=>I.pin p (List.mem_append_left _ z)) (h p),I.hok,I.len⟩
theorem O4{N:List Str}(hN:N.Nodup){i j:Nat}{x:Str}(a:N[i]?=some x)(b:N[j]?=some x):i=j:=by
 obtain⟨h1,e1⟩:=List.getElem?_eq_some_iff.mp a
 obtain⟨h2,e2⟩:=List.getElem?_eq_some_iff.mp b
 exact(List.getElem_inj hN).mp (e1.trans e2.symm)
theorem O5{M:Model}{A:Around}{E:Value->Shared->Prop}{i:Nat}{x:Str}{v:V}{u:Value}{Q:Unit->Shared->Prop}(I:Inv X pins σ H s)(hN:X.N.Nodup)(hi:X.N[i]?=some x)(hx:Loc X.env.scope x)(r:RelV v u)
  (h:∀s',Inv X pins (σ.set i (some v)) H s'->(∃a,Heap.SameBut a s.heap s'.heap/\(a=X.env.locals\/X.env.cells.lookup x=some a))->Q () s') (hf:X.fn x=true\/X.env.scope.names.lookup x=some .local:=by first|exact .inl rfl|exact .inr rfl|assumption):wpAny M A (storeName X.env x u) Q E s:=by
 obtain⟨m,hn,hl⟩:=id I.loc
 have hcls:(X.env.scope.kind == .class || (X.env.scope.kind == .module&&X.env.locals != X.env.globals))=false:=by rw[I.ok.kind]; rfl
 have O6:i < σ.length:=by rw[I.len]; exact(List.getElem?_eq_some_iff.mp hi).1
 have qm:=I.qm
 have tracked:∀{a:Addr} {h':Heap},(∃o,s.heap.get? a=some o/\H a=none)->Heap.SameBut a s.heap h'->cL X.prog X.w H h':=λ{a h'} ha hs b ob e=>by
  obtain⟨_,_,hfree⟩:=ha
  refine(I.hok b ob e).stay (λc w' hc q=>(hs.2 c ?_).trans q) (λ_ q=>q) λ_ _ q=>q
  rintro rfl
  rcases hc with rfl|hc
  .rw[hfree]at e; cases e
  .rw[hfree]at hc; cases hc
 rcases hx with hk|hk
 .refine wpAny_storeName_local hk hn (λh' hn' hs=>?_) hcls
  obtain⟨oL,_,_,hoL,_⟩:=id hn
  refine h _ ⟨I.ok,I.os,I.bare,⟨λb o e n hb hx=>?_,λb o e n hb hx=>?_,I.base.free,λb o e hx=>?_,I.base.tups,I.base.jP,I.base.jQ⟩,⟨_,hn',λj y v' e1 e2 e3=>?_⟩,λy c e=>?_,I.free,I.jR,λp hp=>?_,tracked ⟨oL,hoL,I.free⟩ hs,by simpa using I.len⟩ ⟨_,hs,.inl rfl⟩
  .exact(hs.2 b (Nat.ne_of_lt (Nat.lt_of_lt_of_le (Heap.lt_size e) I.ok.above))).trans (I.base.keep b o e n hb hx)
  .obtain⟨sl,e1⟩:=I.base.slot b o e n hb hx
   exact⟨sl,(hs.2 b (Nat.ne_of_lt (Nat.lt_of_lt_of_le (Heap.lt_size e) I.ok.above))).trans e1⟩
  .obtain⟨o',e1⟩:=I.base.there b o e hx
   exact⟨o',(hs.2 b (Nat.ne_of_lt (Nat.lt_of_lt_of_le (Heap.lt_size e) I.ok.above))).trans e1⟩
  .by_cases hj:j=i
   .subst hj
    rw[hi]at e1; cases e1
    rw[List.getElem?_set_self O6]at e2
    cases e2
    exact⟨u,r,.inl ⟨hk,by simp⟩⟩
   .rw[List.getElem?_set_ne (Ne.symm hj)]at e2
    obtain⟨u',r',q⟩:=hl j y v' e1 e2 e3
    refine⟨u',r',?_⟩
    rcases q with⟨k,e⟩|⟨k,c,e,z⟩
    .refine .inl ⟨k,?_⟩
     have:y≠x:=λe=>hj (O4 hN e1 (e▸hi))
     simp[this,e]
    .exact .inr ⟨k,c,e,z.sameBut hs (qm y c e)⟩
  .obtain⟨w',z⟩:=I.cell y c e
   exact⟨w',z.sameBut hs (qm y c e)⟩
  .obtain⟨e,n,ne,nf,d⟩:=I.pin p hp
   exact⟨(hs.2 p.1 ne).trans e,n,ne,nf,d⟩
 .have hfn:X.fn x=true:=by
   rcases hf with z|z
   .exact z
   .rw[z]at hk; cases hk
  obtain⟨c,hc⟩:=I.ok.has x (.inl hk)
  obtain⟨w',z⟩:=I.cell x c hc
  refine wpAny_storeName_cell I.ok.kind hk hc z (λh' hc' hs=>?_)
  obtain⟨oc,hoc,aby⟩:=id z
  refine h {s with heap:=h' } ⟨I.ok,I.os,I.bare,⟨λb o e n hb hx=>?_,λb o e n hb hx=>?_,I.base.free,λb o e hx=>?_,I.base.tups,I.base.jP,I.base.jQ⟩,⟨m,hn.sameBut hs (Ne.symm (qm x c hc)),λj y v' e1 e2 e3=>?_⟩,λy c' e=>?_,I.free,I.jR,λp hp=>?_,tracked ⟨oc,hoc,I.jR x c hc⟩ hs,by simpa using I.len⟩ ⟨c,hs,.inr hc⟩
  .exact(hs.2 b (Nat.ne_of_lt (Nat.lt_of_lt_of_le (Heap.lt_size e) (I.ok.cab x c hfn hc)))).trans (I.base.keep b o e n hb hx)
  .obtain⟨sl,e1⟩:=I.base.slot b o e n hb hx
   exact⟨sl,(hs.2 b (Nat.ne_of_lt (Nat.lt_of_lt_of_le (Heap.lt_size e) (I.ok.cab x c hfn hc)))).trans e1⟩
  .obtain⟨o',e1⟩:=I.base.there b o e hx
   exact⟨o',(hs.2 b (Nat.ne_of_lt (Nat.lt_of_lt_of_le (Heap.lt_size e) (I.ok.cab x c hfn hc)))).trans e1⟩
  .by_cases hj:j=i
   .subst hj
    rw[hi]at e1; cases e1
    rw[List.getElem?_set_self O6]at e2
    cases e2
    exact⟨u,r,.inr ⟨.inl hk,c,hc,hc'⟩⟩
   .rw[List.getElem?_set_ne (Ne.symm hj)]at e2
    obtain⟨u',r',q⟩:=hl j y v' e1 e2 e3
    refine⟨u',r',?_⟩
    rcases q with q|⟨k,c',e,z'⟩
    .exact .inl q
    .refine .inr ⟨k,c',e,z'.sameBut hs ?_⟩
     rintro rfl
     exact hj (O4 hN e1 (I.ok.inj _ _ _ e hc▸hi))
  .by_cases hcc:c'=c
   .subst hcc; exact⟨_,hc'⟩
   .obtain⟨w2,z2⟩:=I.cell y c' e
    exact⟨w2,z2.sameBut hs hcc⟩
  .obtain⟨e,n,ne,nf,d⟩:=I.pin p hp
   refine⟨(hs.2 p.1 ?_).trans e,n,ne,nf,d⟩
   intro q
   rw[q,hoc]at e
   have q':oc=p.2:=Option.some.inj e
   exact d w' (by rw[<-q']; exact aby)
theorem u0(I:Inv X pins σ H s)(hN:X.N.Nodup)(hi:X.N[i]?=some x)(hx:Loc X.env.scope x)(r:RelV v u)
  (h:∀s',Inv X pins (σ.set i (some v)) H s'->Q () s') (hf:X.fn x=true\/X.env.scope.names.lookup x=some .local:=by first|exact .inl rfl|exact .inr rfl|assumption):wpAny M A (storeName X.env x u) Q E s :=
 O5 I hN hi hx r (λs' I' _=>h s' I') hf
theorem Inv.call'(I:Inv X pins σ H s)(ho:s'.os=s.os)(u:Un (frs X.stack) ch H H' s.heap s'.heap)(hok:cL X.prog X.w H' s'.heap)(hg:AllBare s'.gens)
  (hch:∀b∈ch,(b∈X.ex\/X.s₀.heap.objs.size<=b)/\b≠X.env.locals/\(∀x c,X.env.cells.lookup x=some c->c≠b)/\∀p∈X.pn++pins,p.1≠b):Inv X pins σ H' s':=by
 obtain⟨h',g',d',t',o'⟩:=s'
 have e:o'=s.os:=ho
 subst e
 exact I.call (g':=g') (t':=t') (d':=d') u hok hg hch
end
abbrev XK:=Value->Option Addr->Hp->Prop
abbrev St:=List (Option V)
abbrev VK:=V->Hp->Prop
abbrev TE:=St->Hp->VK->Prop
abbrev TT:=St->Hp->(Bool->Hp->Prop)->Prop
abbrev TA:=St->Hp->(List V->Hp->Prop)->Prop
structure Ends where
 nx:St->Hp->Prop
 rt:VK
 bk:St->Hp->Prop:=λ_ _=>False
 ct:St->Hp->Prop:=λ_ _=>False
abbrev TS:=Ends->St->Hp->Prop
def EP(X:Cx)(pins:LO)(σ : St)(Q:VK)(u:Value)(s':Shared):Prop:=∃v H',Inv X pins σ H' s'/\RelV v u/\Q v H'
def TP(X:Cx)(pins:LO)(σ : St)(Q:Bool->Hp->Prop)(b:Bool)(s':Shared):Prop:=∃H',Inv X pins σ H' s'/\Q b H'
def AP(X:Cx)(pins:LO)(σ : St)(Q:List V->Hp->Prop)(us:List Value)(s':Shared):Prop:=∃vs H',Inv X pins σ H' s'/\Vals vs us/\Q vs H'
def SP(X:Cx)(pins:LO)(D:Ends)(f:Flow)(s':Shared):Prop :=
 match f with
 |.next=>∃σ' H',Inv X pins σ' H' s'/\D.nx σ' H'
 |.brk=>∃σ' H',Inv X pins σ' H' s'/\D.bk σ' H'
 |.cont=>∃σ' H',Inv X pins σ' H' s'/\D.ct σ' H'
 |.ret u=>∃v σ' H',Inv X pins σ' H' s'/\RelV v u/\D.rt v H'
structure PE(X:Cx)(e:Expr)(t:TE):Prop where
 run:∀(pins:LO) (s:Shared) (σ : St) (H:Hp) (Q:VK),Inv X pins σ H s->t σ H Q->wpAny (model X.prog X.w) X.A (eval e X.env) (EP X pins σ Q) X.xe s
noncomputable instance {X:Cx}{e:Expr}{t:TE}:CoeFun (PE X e t) λ_=>∀(pins:LO) (s:Shared) (σ : St) (H:Hp) (Q:VK),Inv X pins σ H s->t σ H Q->wpAny (model X.prog X.w) X.A (eval e X.env) (EP X pins σ Q) X.xe s:=⟨PE.run⟩
structure PT(X:Cx)(e:Expr)(t:TT):Prop where
 run:∀(pins:LO) (s:Shared) (σ : St) (H:Hp) (Q:Bool->Hp->Prop),Inv X pins σ H s->t σ H Q->wpAny (model X.prog X.w) X.A (isTrue e X.env (eval e X.env)) (TP X pins σ Q) X.xe s
noncomputable instance {X:Cx}{e:Expr}{t:TT}:CoeFun (PT X e t) λ_=>∀(pins:LO) (s:Shared) (σ : St) (H:Hp) (Q:Bool->Hp->Prop),Inv X pins σ H s->t σ H Q->wpAny (model X.prog X.w) X.A (isTrue e X.env (eval e X.env)) (TP X pins σ Q) X.xe s:=⟨PT.run⟩
structure PW(X:Cx)(e:Expr)(t:TT):Prop where
 run:∀(whole:Sem Value) (pins:LO) (s:Shared) (σ : St) (H:Hp) (Q:Bool->Hp->Prop),Inv X pins σ H s->t σ H Q->wpAny (model X.prog X.w) X.A (isTrue e X.env whole) (TP X pins σ Q) X.xe s
noncomputable instance {X:Cx}{e:Expr}{t:TT}:CoeFun (PW X e t) λ_=>∀(whole:Sem Value) (pins:LO) (s:Shared) (σ : St) (H:Hp) (Q:Bool->Hp->Prop),Inv X pins σ H s->t σ H Q->wpAny (model X.prog X.w) X.A (isTrue e X.env whole) (TP X pins σ Q) X.xe s:=⟨PW.run⟩
theorem PW.pt(h:PW X e t):PT X e t:=⟨h.run _⟩
structure PA(X:Cx)(es:List Expr)(t:TA):Prop where
 run:∀(pos:Pos) (pins:LO) (s:Shared) (σ : St) (H:Hp) (Q:List V->Hp->Prop),Inv X pins σ H s->t σ H Q->wpAny (model X.prog X.w) X.A (spliced (backTo pos (starEach es X.env))) (AP X pins σ Q) X.xe s
noncomputable instance {X:Cx}{es:List Expr}{t:TA}:CoeFun (PA X es t) λ_=>∀(pos:Pos) (pins:LO) (s:Shared) (σ : St) (H:Hp) (Q:List V->Hp->Prop),Inv X pins σ H s->t σ H Q->wpAny (model X.prog X.w) X.A (spliced (backTo pos (starEach es X.env))) (AP X pins σ Q) X.xe s:=⟨PA.run⟩
structure PS(X:Cx)(st:Stmt)(t:TS):Prop where
 run:∀(pins:LO) (s:Shared) (σ : St) (H:Hp) (D:Ends),Inv X pins σ H s->t D σ H->wpAny (model X.prog X.w) X.A (exec st X.env) (SP X pins D) X.xe s
noncomputable instance {X:Cx}{st:Stmt}{t:TS}:CoeFun (PS X st t) λ_=>∀(pins:LO) (s:Shared) (σ : St) (H:Hp) (D:Ends),Inv X pins σ H s->t D σ H->wpAny (model X.prog X.w) X.A (exec st X.env) (SP X pins D) X.xe s:=⟨PS.run⟩
structure eE(X:Cx)(st:List Stmt)(t:TS):Prop where
 run:∀(pins:LO) (s:Shared) (σ : St) (H:Hp) (D:Ends),Inv X pins σ H s->t D σ H->wpAny (model X.prog X.w) X.A (execs st X.env) (SP X pins D) X.xe s
noncomputable instance {X:Cx}{st:List Stmt}{t:TS}:CoeFun (eE X st t) λ_=>∀(pins:LO) (s:Shared) (σ : St) (H:Hp) (D:Ends),Inv X pins σ H s->t D σ H->wpAny (model X.prog X.w) X.A (execs st X.env) (SP X pins D) X.xe s:=⟨eE.run⟩
theorem aD{α : Type}{t:Sem α}{Q Q' : α -> Shared->Prop}{M:Model}{A:Around}{E:Value->Shared->Prop}{s:Shared}(h:wpAny M A t Q E s)(hQ:∀a s,Q a s->Q' a s):wpAny M A t Q' E s:=wpAny_mono h hQ λ_ _ x=>x
section
variable {X:Cx}
def qp(i:Nat):TE:=λσ H Q=>∃v,σ[i]?=some (some v)/\Q v H
def tC(v:V):TE:=λ_ H Q=>Q v H
theorem O7(hN:X.N[i]?=some x)(hv:uW X.env.scope x)(hd:(x == ("__debug__" : Str))=false:=by decide) (hcd:(x == ("__classdict__" : Str))=false:=by decide):PE X (.Name x pos) (qp i):=by
 refine⟨λpins s σ H Q I h=>?_⟩
 obtain⟨v,e,h⟩:=h
 obtain⟨m,hn,hl⟩:=I.loc
 obtain⟨u,r,l⟩:=hl i x v hN e hv
 have fin:EP X pins σ Q u s:=⟨v,H,I,r,h⟩
 rcases l with⟨hk,hm⟩|⟨hk,c,hc,hcell⟩
 .exact wpAny_Name (wpAny_loadName_local I.ok.kind hk hn hm fin) hd
 .rcases hk with hk|hk
  .exact wpAny_Name (wpAny_loadName_cell I.ok.kind hk hc hcell fin) hd
  .exact wpAny_Name (wpAny_loadName_free I.ok.kind hk hc hcell fin hcd) hd
theorem rR{i j pos}:PE X (.Constant (.int i) j pos) (tC (.int i)):=⟨λ_ _ _ H _ I h=>wpAny_Constant_int ⟨.int i,H,I.tok _,⟨_,rfl⟩,h⟩⟩
theorem O8{b j pos}:PE X (.Constant (.bool b) j pos) (tC (.bl b)):=⟨λ_ _ _ H _ I h=>Constant_bool ⟨.bl b,H,I,rfl,h⟩⟩
theorem O9{j pos}:PE X (.Constant .none j pos) (tC .non):=⟨λ_ _ _ H _ I h=>Constant_none ⟨.non,H,I,rfl,h⟩⟩
theorem Pa{x j pos}:PE X (.Constant (.str x) j pos) (tC (.str x)):=⟨λ_ _ _ H _ I h=>Calls.Constant_str ⟨.str x,H,I.tok _,⟨_,rfl⟩,h⟩⟩
def Gl(X:Cx)(x:Str):Prop:=X.env.kindOf x=some .globalImplicit
theorem Ea(I:Inv X pins σ H s)(hg:Gl X x)(hm:X.mg x=some u)(h:Q u s)
  (hd:(x == ("__debug__" : Str))=false:=by decide):wpAny (model X.prog X.w) X.A (eval (.Name x pos) X.env) Q E s :=
 Calls.Name_function_global I.ok.kind hg (Calls.loadGlobal_global (by rw[I.ok.glob]; exact I.mod.glob.keeps I.bk) hm h) hd
theorem jT(I:Inv X pins σ H s)(hg:Gl X x)(hm:X.mg x=none)(hv:bootBuiltins x=some u)(h:Q u s)
  (hn:x ≠ "__name__" := by decide) (hd:(x == ("__debug__" : Str))=false:=by decide):wpAny (model X.prog X.w) X.A (eval (.Name x pos) X.env) Q E s:=by
 obtain⟨mb,h1,h2⟩:=I.mod.blt
 exact Calls.Name_function_global I.ok.kind hg (Calls.loadGlobal_builtin (by rw[I.ok.glob]; exact I.mod.glob.keeps I.bk) hm (by rw[I.ok.blt]; exact h1.keeps I.bk) ((h2 x hn).trans hv) h) hd
theorem abz(hg:Gl X x)(hm:X.mg x=some u)(r:RelV v u)(hd:(x == ("__debug__" : Str))=false:=by decide):PE X (.Name x pos) (tC v) :=
 ⟨λ_ _ _ H _ I h=>Ea I hg hm ⟨v,H,I,r,h⟩ hd⟩
theorem abA(hg:Gl X x)(hm:X.mg x=none)(hv:bootBuiltins x=some u)(r:RelV v u)(hn:x ≠ "__name__" := by decide) (hd:(x == ("__debug__" : Str))=false:=by decide):PE X (.Name x pos) (tC v) :=
 ⟨λ_ _ _ H _ I h=>jT I hg hm hv ⟨v,H,I,r,h⟩ hn hd⟩
variable {a b:Expr}{ta tb:TE}{pos:Pos}
variable {tA yL:TT}{rest:List Expr}
def Pb(t u:TT):TT:=λσ H Q=>t σ H λc H1=>if c=true then u σ H1 Q else Q false H1
def Pg(t u:TT):TT:=λσ H Q=>t σ H λc H1=>if c=true then Q true H1 else u σ H1 Q
def Ph(t:TT):TT:=λσ H Q=>t σ H λc H1=>Q (!c) H1
theorem abB(ha:PT X a tA):PW X (.BoolOp .And [a] pos) tA:=by
 refine⟨λwh pins s σ H Q I h=>?_⟩
 refine isTrue_and (aD (ha pins s σ H Q I h) λc s1 e=>?_)
 cases c with
 |true=>exact isTrue_and_nil e
 |false=>exact e
theorem abC(ha:PT X a tA):PW X (.BoolOp .Or [a] pos) tA:=by
 refine⟨λwh pins s σ H Q I h=>?_⟩
 refine isTrue_or (aD (ha pins s σ H Q I h) λc s1 e=>?_)
 cases c with
 |false=>exact isTrue_or_nil e
 |true=>exact e
theorem abD(ha:PT X a tA)(hb:PW X (.BoolOp .And (b::rest) pos) yL):PW X (.BoolOp .And (a::b::rest) pos) (Pb tA yL):=by
 refine⟨λwh pins s σ H Q I h=>?_⟩
 refine isTrue_and (aD (ha pins s σ H _ I h) λc s1 ⟨H1,I1,q1⟩=>?_)
 cases c with
 |true=>exact hb wh pins s1 σ H1 Q I1 q1
 |false=>exact⟨H1,I1,q1⟩
theorem abE(ha:PT X a tA)(hb:PW X (.BoolOp .Or (b::rest) pos) yL):PW X (.BoolOp .Or (a::b::rest) pos) (Pg tA yL):=by
 refine⟨λwh pins s σ H Q I h=>?_⟩
 refine isTrue_or (aD (ha pins s σ H _ I h) λc s1 ⟨H1,I1,q1⟩=>?_)
 cases c with
 |true=>exact⟨H1,I1,q1⟩
 |false=>exact hb wh pins s1 σ H1 Q I1 q1
theorem abF(ha:PT X a tA):PT X (.UnaryOp .Not a pos) (Ph tA):=by
 refine⟨λpins s σ H Q I h=>?_⟩
 exact isTrue_not (ha pins s σ H (λc H1=>Q (!c) H1) I h)
def Pk(ta tb:TE):TE:=λσ H Q=>ta σ H λx H1=>∃c,x=.bl c/\if c=true then tb σ H1 Q else Q (.bl false) H1
def Pn(ta tb:TE):TE:=λσ H Q=>ta σ H λx H1=>∃c,x=.bl c/\if c=true then Q (.bl true) H1 else tb σ H1 Q
def Pq(ta:TE):TE:=λσ H Q=>ta σ H λx H1=>∃c,x=.bl c/\Q (.bl (!c)) H1
theorem abG{op}{t:TE}(h:PE X a t):PE X (.BoolOp op [a] pos) t:=⟨λpins s σ H Q I hw=>BoolOp_one (h pins s σ H Q I hw)⟩
theorem abH(ha:PE X a ta)(hb:PE X (.BoolOp .And (b::rest) pos) tb):PE X (.BoolOp .And (a::b::rest) pos) (Pk ta tb):=by
 refine⟨λpins s σ H Q I h=>?_⟩
 refine BoolOp_and (aD (ha pins s σ H _ I h) λv s1 ⟨x,H1,I1,r1,q1⟩=>?_)
 obtain⟨c,rfl,q1⟩:=q1
 cases r1
 refine wpAny_truthy_bool ?_
 cases c with
 |true=>exact hb pins s1 σ H1 Q I1 q1
 |false=>exact⟨.bl false,H1,I1,rfl,q1⟩
theorem abI(ha:PE X a ta)(hb:PE X (.BoolOp .Or (b::rest) pos) tb):PE X (.BoolOp .Or (a::b::rest) pos) (Pn ta tb):=by
 refine⟨λpins s σ H Q I h=>?_⟩
 refine BoolOp_or (aD (ha pins s σ H _ I h) λv s1 ⟨x,H1,I1,r1,q1⟩=>?_)
 obtain⟨c,rfl,q1⟩:=q1
 cases r1
 refine wpAny_truthy_bool ?_
 cases c with
 |false=>exact hb pins s1 σ H1 Q I1 q1
 |true=>exact⟨.bl true,H1,I1,rfl,q1⟩
theorem abJ(ha:PE X a ta):PE X (.UnaryOp .Not a pos) (Pq ta):=by
 refine⟨λpins s σ H Q I h=>?_⟩
 refine UnaryOp_ (aD (ha pins s σ H _ I h) λv s1 ⟨x,H1,I1,r1,q1⟩=>?_)
 obtain⟨c,rfl,q1⟩:=q1
 cases r1
 exact not_of (wpAny_truthy_bool ⟨.bl (!c),H1,I1,rfl,q1⟩)
def Pu(t:TT)(ta tb:TE):TE:=λσ H Q=>t σ H λc H1=>if c=true then ta σ H1 Q else tb σ H1 Q
theorem abK{c:Expr}(hc:PT X c tA)(ha:PE X a ta)(hb:PE X b tb):PE X (.IfExp c a b pos) (Pu tA ta tb):=by
 refine⟨λpins s σ H Q I h=>?_⟩
 refine wpAny_IfExp (aD (hc pins s σ H _ I h) λd s1 ⟨H1,I1,q1⟩=>?_)
 cases d with
 |true=>exact ha pins s1 σ H1 Q I1 q1
 |false=>exact hb pins s1 σ H1 Q I1 q1
end
def aG(K:FZ)(H:Hp)(a:Addr)(xs:List V):Prop :=
 Rd H a (.lst xs) \/
  ∃(o:Obj) (its:Array Value) (n:Nat),K.lookup a=some o/\o.cls=.type "list" /\ o.dict=none/\o.data=.seq its n/\its.size<=sizeLine/\Vals xs its.toList
def bw(K:FZ)(H:Hp)(a:Addr)(xs:List V):Prop :=
 Rd H a (.tup xs) \/
  ∃(o:Obj) (its:Array Value) (n:Nat),K.lookup a=some o/\o.cls=.type "tuple" /\ o.data=.seq its n/\its.size<=sizeLine/\Vals xs its.toList
noncomputable def abL:Value->Option V
 |.none=>some .non
 |.bool b=>some (.bl b)
 |.int i _=>some (.int i)
 |.str x _=>some (.str x)
 |.bytes b _=>some (.uV b)
 |.float b _=>some (.flt b)
 |.ref a=>some (.ref a)
 |.type n=>some (.ty n)
 |_=>none
theorem RelV.abs(r:RelV x u):abL u=some x:=by
 cases x with
 |non=>cases r; rfl
 |bl _=>cases r; rfl
 |int _=>obtain⟨t,rfl⟩:=r; rfl
 |str _=>obtain⟨t,rfl⟩:=r; rfl
 |uV _=>obtain⟨t,rfl⟩:=r; rfl
 |flt _=>obtain⟨t,rfl⟩:=r; rfl
 |ref _=>cases r; rfl
 |ty _=>cases r; rfl
theorem RelV.inj{x y:V}{u:Value}(r:RelV x u)(q:RelV y u):x=y:=Option.some.inj (r.abs.symm.trans q.abs)
theorem Vals.inj:∀{xs ys:List V} {us:List Value},Vals xs us->Vals ys us->xs=ys
 |_,_,_,.nil,.nil=>rfl
 |_,_,_,.cons r t,.cons r' t'=>by rw[r.inj r',Vals.inj t t']
section
variable {X:Cx}{pins:LO}{σ : St}{H:Hp}{s:Shared}{a:Addr}{xs ys:List V}
theorem aG.of{K:FZ}(h:H a=some (.lst xs)):aG K H a xs:=.inl (.inl h)
theorem bw.of{K:FZ}(h:H a=some (.tup xs)):bw K H a xs:=.inl (.inl h)
theorem Inv.list(I:Inv X pins σ H s)(h:aG X.K H a xs):∃its:List Value,Vals xs its/\PlainL s.heap a its.toArray/\xs.length<=sizeLine:=by
 rcases h with h|⟨o,its,n,hk,hc,hd,hs,hz,r⟩
 .obtain⟨z,its,n,r,e⟩:=h.ok I.hok
  exact⟨its,r,⟨_,n,e,rfl,rfl,rfl⟩,z⟩
 .refine⟨its.toList,r,⟨o,n,I.iy a o hk,hc,hd,by simpa using hs⟩,?_⟩
  have e:=r.length
  simp only[Array.length_toList]at e
  lia
theorem Inv.tuple(I:Inv X pins σ H s)(h:bw X.K H a xs):∃its:List Value,Vals xs its/\IsTup s.heap a its.toArray/\xs.length<=sizeLine:=by
 rcases h with h|⟨o,its,n,hk,hc,hs,hz,r⟩
 .obtain⟨z,its,r,p⟩:=h.ok I.hok
  exact⟨its,r,p,z⟩
 .refine⟨its.toList,r,⟨o,I.iy a o hk,hc,n,by simpa using hs⟩,?_⟩
  have e:=r.length
  simp only[Array.length_toList]at e
  lia
theorem Inv.oR(I:Inv X pins σ H s)(h:aG X.K H a xs)(h':aG X.K H a ys):xs=ys:=by
 obtain⟨its,r,⟨o,n,e,_,_,d⟩,_⟩:=I.list h
 obtain⟨its',r',⟨o',n',e',_,_,d'⟩,_⟩:=I.list h'
 rw[e]at e'; cases e'
 rw[d]at d'
 injection d' with d1 _
 have:its=its':=by simpa using congrArg Array.toList d1
 subst this
 exact r.inj r'
theorem Inv.Px(I:Inv X pins σ H s)(h:bw X.K H a xs)(h':bw X.K H a ys):xs=ys:=by
 obtain⟨its,r,⟨o,e,_,n,d⟩,_⟩:=I.tuple h
 obtain⟨its',r',⟨o',e',_,n',d'⟩,_⟩:=I.tuple h'
 rw[e]at e'; cases e'
 rw[d]at d'
 injection d' with d1 _
 have:its=its':=by simpa using congrArg Array.toList d1
 subst this
 exact r.inj r'
end
noncomputable abbrev Cx.wish(X:Cx)(E:Value->Shared->Prop):Cx:={X with xe:=E }
noncomputable abbrev Cx.u6(X:Cx):Cx:=X.wish λ_ _=>False
theorem Cx.Ok.wish{X:Cx}(ok:X.Ok)(E:Value->Shared->Prop):(X.wish E).Ok :=
 ⟨ok.mod,ok.kind,ok.glob,ok.blt,ok.above,ok.inj,ok.has,ok.cab,ok.hd,ok.frames,ok.stk,ok.Oz,ok.bs,ok.oM,ok.uX,ok.yG,ok.jB,ok.ql⟩
theorem Cx.Ok.oU{X:Cx}{E:Value->Shared->Prop}(ok:(X.wish E).Ok):X.Ok :=
 ⟨ok.mod,ok.kind,ok.glob,ok.blt,ok.above,ok.inj,ok.has,ok.cab,ok.hd,ok.frames,ok.stk,ok.Oz,ok.bs,ok.oM,ok.uX,ok.yG,ok.jB,ok.ql⟩
section
variable {X:Cx}{pins:LO}{σ : St}{H:Hp}{s:Shared}{E:Value->Shared->Prop}
theorem Inv.wish(I:Inv X pins σ H s)(E:Value->Shared->Prop):Inv (X.wish E) pins σ H s:=⟨I.ok.wish E,I.os,I.bare,I.base,I.loc,I.cell,I.free,I.jR,I.pin,I.hok,I.len⟩
theorem Inv.oU(I:Inv (X.wish E) pins σ H s):Inv X pins σ H s:=⟨I.ok.oU,I.os,I.bare,I.base,I.loc,I.cell,I.free,I.jR,I.pin,I.hok,I.len⟩
theorem SP.oU{D:Ends}{f:Flow}{s':Shared}(h:SP (X.wish E) pins D f s'):SP X pins D f s':=by
 cases f with
 |next=>obtain⟨σ',H',I,q⟩:=h; exact⟨σ',H',I.oU,q⟩
 |brk=>obtain⟨σ',H',I,q⟩:=h; exact⟨σ',H',I.oU,q⟩
 |cont=>obtain⟨σ',H',I,q⟩:=h; exact⟨σ',H',I.oU,q⟩
 |ret u=>obtain⟨v,σ',H',I,r,q⟩:=h; exact⟨v,σ',H',I.oU,r,q⟩
end
section
variable {X:Cx}{st:Stmt}{rest:List Stmt}{t u:TS}{e:Expr}{te:TE}{pos:Pos}
def abM:TS:=λD σ H=>D.nx σ H
def Py(t u:TS):TS:=λD σ H=>t {D with nx:=u D } σ H
theorem abN:eE X [] abM:=⟨λ_ _ σ H _ I h=>wpAny_execs_nil ⟨σ,H,I,h⟩⟩
theorem PB(h1:PS X st t)(h2:eE X rest u):eE X (st::rest) (Py t u):=by
 refine⟨λpins s σ H D I h=>?_⟩
 refine wpAny_execs_cons (aD (h1 pins s σ H {D with nx:=u D } I h) λf s1 q=>?_)
 cases f with
 |next =>
  obtain⟨σ',H',I',q⟩:=q
  exact h2 pins s1 σ' H' D I' q
 |ret v=>exact q
 |brk=>exact q
 |cont=>exact q
theorem Eb(h1:PS X st t):eE X [st] t:=by
 refine⟨λpins s σ H D I h=>?_⟩
 refine wpAny_execs_cons (aD (h1 pins s σ H D I h) λf s1 q=>?_)
 cases f with
 |next=>exact wpAny_execs_nil q
 |ret v=>exact q
 |brk=>exact q
 |cont=>exact q
theorem Inv.quiet{pins:LO}{σ : St}{H:Hp}{s:Shared}(I:Inv X pins σ H s):interactive X.env=false:=by simp[interactive,I.ok.kind]
def PJ(te:TE):TS:=λD σ H=>te σ H λ_ H1=>D.nx σ H1
theorem yM(he:PE X e te)(hs:swapsWith e none pos.line X.env=pure false:=by rfl):PS X (.Expr e pos) (PJ te):=by
 refine⟨λpins s σ H D I h=>?_⟩
 exact wpAny_Expr_any (aD (he pins s σ H _ I h) λv s1 ⟨x,H1,I1,r1,q1⟩=>⟨σ,H1,I1,q1⟩) I.quiet hs
def abO(te:TE):TS:=λD σ H=>te σ H D.rt
theorem PK(he:PE X e te):PS X (.Return (some e) pos) (abO te):=by
 refine⟨λpins s σ H D I h=>?_⟩
 exact wpAny_Return_some (aD (he pins s σ H _ I h) λv s1 ⟨x,H1,I1,r1,q1⟩=>⟨x,σ,H1,I1,r1,q1⟩)
def abP(c:TT)(t u:TS):TS:=λD σ H=>c σ H λb H1=>if b=true then t D σ H1 else u D σ H1
theorem abQ{c:Expr}{a b:List Stmt}{tc:TT}(hc:PT X c tc)(ha:eE X a t)(hb:eE X b u):PS X (.If c a b pos) (abP tc t u):=by
 refine⟨λpins s σ H D I h=>?_⟩
 refine wpAny_If (aD (hc pins s σ H _ I h) λd s1 ⟨H1,I1,q1⟩=>?_)
 cases d with
 |true=>exact ha pins s1 σ H1 D I1 q1
 |false=>exact hb pins s1 σ H1 D I1 q1
end
abbrev TG:=V->St->Hp->(St->Hp->Prop)->Prop
abbrev qu:=List V->St->Hp->(St->Hp->Prop)->Prop
def PG(X:Cx)(target:Expr)(t:TG):Prop :=
 ∀(pins:LO) (s:Shared) (σ : St) (H:Hp) (v:V) (u:Value) (Q:St->Hp->Prop),Inv X pins σ H s->RelV v u->t v σ H Q ->
  wpAny (model X.prog X.w) X.A (assign target X.env u) (λ_ s'=>∃σ' H',Inv X pins σ' H' s'/\Q σ' H') X.xe s
def oV(X:Cx)(ts:List Expr)(t:qu):Prop :=
 ∀(pins:LO) (s:Shared) (σ : St) (H:Hp) (vs:List V) (us:List Value) (Q:St->Hp->Prop),Inv X pins σ H s->Vals vs us->t vs σ H Q ->
  wpAny (model X.prog X.w) X.A (assignInOrder ((assignEach ts X.env).map (·.2)) us) (λ_ s'=>∃σ' H',Inv X pins σ' H' s'/\Q σ' H') X.xe s
abbrev yN:=V->V->V->Hp->(Hp->Prop)->Prop
def Ec(X:Cx)(t:yN):Prop :=
 ∀(pins:LO) (s:Shared) (σ : St) (H:Hp) (o i v:V) (ov iv u:Value) (Q:Hp->Prop),Inv X pins σ H s->RelV o ov->RelV i iv->RelV v u->t o i v H Q ->
  wpAny (model X.prog X.w) X.A (setItem ov iv u) (λ_ s'=>∃H',Inv X pins σ H' s'/\Q H') X.xe s
abbrev yP:=V->V->Hp->VK->Prop
def Ed(X:Cx)(op:Operator)(t:yP):Prop :=
 ∀(pins:LO) (s:Shared) (σ : St) (H:Hp) (x y:V) (v u:Value) (Q:VK),Inv X pins σ H s->RelV x v->RelV y u->t x y H Q ->
  wpAny (model X.prog X.w) X.A (inplaceOp op v u) (EP X pins σ Q) X.xe s
section
variable {X:Cx}{pos:Pos}
def lq(i:Nat):TG:=λv σ H Q=>Q (σ.set i (some v)) H
theorem PL(hN:X.N.Nodup)(hi:X.N[i]?=some x)(hx:Loc X.env.scope x)(hf:X.fn x=true\/X.env.scope.names.lookup x=some .local:=by first|exact .inl rfl|exact .inr rfl|assumption):PG X (.Name x pos) (lq i):=by
 intro pins s σ H v u Q I r h
 exact wpAny_assign_Name (u0 I hN hi hx r (λs' I'=>⟨_,H,I',h⟩) hf)
def abR:qu:=λvs σ H Q=>vs=[]/\Q σ H
def abS(t:TG)(u:qu):qu:=λvs σ H Q=>∃v r,vs=v::r/\t v σ H λσ' H'=>u r σ' H' Q
theorem abT:oV X [] abR:=by
 intro pins s σ H vs us Q I r h
 obtain⟨e,h⟩:=h
 subst e
 cases r
 exact assignInOrder_nil ⟨σ,H,I,h⟩
theorem abU{e:Expr}{es:List Expr}{t:TG}{u:qu}(h1:PG X e t)(h2:oV X es u)
  (hs:(assignEach (e::es) X.env).map (·.2)=assign e X.env::(assignEach es X.env).map (·.2):=by rfl):oV X (e::es) (abS t u):=by
 intro pins s σ H vs us Q I r h
 obtain⟨v,vr,e1,h⟩:=h
 subst e1
 cases r with
 |cons r rr =>
  rw[hs]
  refine assignInOrder_cons (aD (h1 pins s σ H _ _ _ I r h) λ_ s1 ⟨σ1,H1,I1,q1⟩=>?_)
  exact h2 pins s1 σ1 H1 _ _ Q I1 rr q1
def abV(K:FZ)(n:Nat)(t:qu):TG:=λv σ H Q=>∃a xs,v=.ref a/\bw K H a xs/\xs.length=n/\t xs σ H Q
theorem abW(hc:X.calm=true)(h:oV X es t)
  (hn:(assignEach es X.env).length=n:=by rfl) (hst:(assignEach es X.env).findIdx? (·.1)=none:=by rfl):PG X (.Tuple es k pos) (abV X.K n t):=by
 intro pins s σ H v u Q I r hw
 obtain⟨a,xs,e1,hq,hl,hw⟩:=hw
 subst e1
 cases r
 obtain⟨its,rv,ht,hz⟩:=I.tuple hq
 refine assign_Tuple_tuple (I.ok.hd hc) ht (by simp[hn,<-hl,rv.length]) hst λh' hx=>?_
 have I1:Inv X pins σ H {s with heap:=h' }:=I.kept (t':=s.toks) λb o e=>hx b o (Nat.ne_of_lt (Heap.lt_size e)) e
 exact h pins _ σ H xs _ Q I1 (by simpa using rv) hw
def abX(to ti:TE)(t:yN):TG:=λv σ H Q=>to σ H λo H1=>ti σ H1 λi H2=>t o i v H2 λH3=>Q σ H3
theorem abY{o i:Expr}{to ti:TE}{t:yN}(ho:PE X o to)(hi:PE X i ti)(hs:Ec X t)
  (ha:∀v,assign (.Subscript o i pos) X.env v=(do
   let ov <-holding [v] (eval o X.env)
   let iv <-holding [v,ov] (eval i X.env)
   standAt pos
   holding [v,ov,iv] (setItem ov iv v)
   release [v,ov,iv] []):=by intro _; rfl):PG X (.Subscript o i pos) (abX to ti t):=by
 intro pins s σ H v u Q I r h
 rw[ha]
 refine wpAny_bind (wpAny_holding (aD (ho pins s σ H _ I h) λov s1 ⟨x,H1,I1,r1,q1⟩=>?_))
 refine wpAny_bind (wpAny_holding (aD (hi pins s1 σ H1 _ I1 q1) λiv s2 ⟨y,H2,I2,r2,q2⟩=>?_))
 refine wpAny_bind (wpAny_standAt (wpAny_bind (wpAny_holding (aD (hs pins s2 σ H2 x y v ov iv u _ I2 r1 r2 r q2) λ_ s3 ⟨H3,I3,q3⟩=>?_))))
 exact wpAny_release ⟨σ,H3,I3,q3⟩
def mO(te:TE)(g:TG):TS:=λD σ H=>te σ H λx H1=>g x σ H1 D.nx
theorem PN{tg e:Expr}{te:TE}{g:TG}(he:PE X e te)(hg:PG X tg g)(hs:swapsWithSole [tg] e pos.line X.env=pure false:=by rfl)(hw:swappedStores [tg] e X.env=pure none:=by rfl)
  (h1:(assignEach [tg] X.env).map (·.2)=[assign tg X.env]:=by rfl):PS X (.Assign [tg] e pos) (mO te g):=by
 refine⟨λpins s σ H D I h=>?_⟩
 refine wpAny_Assign_stores (aD (he pins s σ H _ I h) λv s1 ⟨x,H1,I1,r1,q1⟩=>?_) hs hw
 rw[h1]
 exact aD (hg pins s1 σ H1 x v _ I1 r1 q1) λ_ s2 q=>q
theorem Ef{i:Nat}{x:Str}{e:Expr}{te:TE}{pos':Pos}(hN:X.N.Nodup)(hi:X.N[i]?=some x)(hx:Loc X.env.scope x)(he:PE X e te)(hs:swapsWith e (some (.Name x pos')) pos.line X.env=pure false:=by rfl)(hf:X.fn x=true\/X.env.scope.names.lookup x=some .local:=by first|exact .inl rfl|exact .inr rfl|assumption) :
  PS X (.Assign [.Name x pos'] e pos) (mO te (lq i)):=by
 refine⟨λpins s σ H D I h=>?_⟩
 refine wpAny_Assign_Name (aD (he pins s σ H _ I h) λv s1 ⟨y,H1,I1,r1,q1⟩=>?_) hs
 exact u0 I1 hN hi hx r1 (λs2 I2=>⟨_,H1,I2,q1⟩) hf
def abZ(i j:Nat)(ta:TA):TS:=λD σ H=>ta σ H λvs H1=>∃v w,vs=[v,w]/\D.nx ((σ.set i (some v)).set j (some w)) H1
theorem ab0{kt k2 Eh}(hc:X.calm=true)(hN:X.N.Nodup)(hi:X.N[i]?=some x)(hj:X.N[j]?=some y)(hij:i≠j)
  (hx:X.env.scope.names.lookup x=some .local) (hy:X.env.scope.names.lookup y=some .local) (ha:PA X [a,b] ta)
  (hw:swappedStores [.Tuple [.Name x px,.Name y py] kt pt] (.Tuple [a,b] k2 Eh) X.env=pure (some [x,y]))
  (hs:swapsWithSole [.Tuple [.Name x px,.Name y py] kt pt] (.Tuple [a,b] k2 Eh) pos.line X.env=pure false:=by rfl) :
  PS X (.Assign [.Tuple [.Name x px,.Name y py] kt pt] (.Tuple [a,b] k2 Eh) pos) (abZ i j ta):=by
 refine⟨λpins s σ H D I h=>?_⟩
 rw[exec_Assign_arm]
 refine wpAny_bind (wpAny_standAt ?_)
 rw[hs]
 refine wpAny_bind (wpAny_pure ?_)
 rw[if_neg (by decide)]
 refine wpAny_bind (Tuple_ (aD (ha _ pins s σ H _ I h) λus s1 ⟨vs,H1,I1,r1,q1⟩=>?_))
 obtain⟨v,w,e1,q1⟩:=q1
 subst e1
 obtain⟨u1,u2,rfl,rv,jU⟩:∃u1 u2,us=[u1,u2]/\RelV v u1/\RelV w u2:=by
  cases r1 with
  |cons p q =>
   cases q with
   |cons p' q' =>
    cases q'
    exact⟨_,_,rfl,p,p'⟩
 refine wpAny_newObj_type ?_ (by show 2<=sizeLine; decide)
 have I2:Inv X pins σ H1 {s1 with heap:=s1.heap.push {cls:=.type "tuple",data:=.seq [u1,u2].toArray } }:=I1.kept (t':=s1.toks) λb o e=>Heap.get?_push_of_some _ e
 rw[hw]
 refine wpAny_bind (wpAny_pure ?_)
 show wpAny (model X.prog X.w) X.A (do rule "assign.swapped-stores"; let items <-unpackItems (.ref s1.heap.objs.size) 2 none; assignInOrder [λv=>bindName X.env y v,λv=>bindName X.env x v] items.reverse; pure Flow.next) _ _ _
 refine wpAny_bind (wpAny_rule (wpAny_bind (unpackItems_tuple (items:=#[u1,u2]) (I.ok.hd hc) (IsTup.new s1.heap _) λh' hx'=>?_)))
 have I3:=I2.kept (h':=h') (t':=s1.toks) λb o e=>hx' b o (Nat.ne_of_lt (Heap.lt_size e)) e
 show wpAny _ _ (assignInOrder [λv=>bindName X.env y v,λv=>bindName X.env x v] [u2,u1] >>= λ_=>pure Flow.next) _ _ _
 refine wpAny_bind (assignInOrder_cons (wpAny_bindName (u0 I3 hN hj (.inl hy) jU (λs2 I4=>?_) (.inr hy))))
 refine assignInOrder_cons (wpAny_bindName (u0 I4 hN hi (.inl hx) rv (λs3 I5=>assignInOrder_nil (wpAny_pure ?_)) (.inr hx)))
 rw[List.set_comm _ _ (Ne.symm hij)]at I5
 exact⟨_,H1,I5,q1⟩
def ab1(i:Nat)(te:TE)(ti:yP):TS:=λD σ H=>∃x,σ[i]?=some (some x)/\te σ H λy H1=>ti x y H1 λz H2=>D.nx (σ.set i (some z)) H2
theorem ab2(hN:X.N.Nodup)(hi:X.N[i]?=some x)(hx:Loc X.env.scope x)(he:PE X e te)(ho:Ed X op ti)(hf:X.fn x=true\/X.env.scope.names.lookup x=some .local:=by first|exact .inl rfl|exact .inr rfl|assumption) :
  PS X (.AugAssign (.Name x pos') op e pos) (ab1 i te ti):=by
 refine⟨λpins s σ H D I h=>?_⟩
 obtain⟨v,e1,h⟩:=h
 obtain⟨m,hn,hl⟩:=I.loc
 have vis:uW X.env.scope x:=by rcases hx with k|k; exact .inl k; exact .inr (.inl k)
 obtain⟨u,r,l⟩:=hl i x v hi e1 vis
 refine wpAny_AugAssign_Name ?_
 have go:wpAny (model X.prog X.w) X.A (eval e X.env) (λw s₂=>wpAny (model X.prog X.w) X.A (inplaceOp op u w) (λr s₃=>wpAny (model X.prog X.w) X.A (storeName X.env x r) (λ_=>SP X pins D .next) X.xe s₃) X.xe s₂) X.xe s:=by
  refine aD (he pins s σ H _ I h) λw s1 ⟨y,H1,I1,r1,q1⟩=>?_
  refine aD (ho pins s1 σ H1 v y u w _ I1 r r1 q1) λz s2 ⟨zv,H2,I2,r2,q2⟩=>?_
  exact u0 I2 hN hi hx r2 (λs3 I3=>⟨_,H2,I3,q2⟩) hf
 rcases l with⟨hk,hm⟩|⟨hk,c,hc,hcell⟩
 .exact wpAny_loadName_local I.ok.kind hk hn hm go
 .rcases hk with hk|hk
  .exact wpAny_loadName_cell I.ok.kind hk hc hcell go
  .rcases hx with k|k
   .have:X.env.scope.names.lookup x=some .free:=hk
    rw[k]at this; cases this
   .have:X.env.scope.names.lookup x=some .free:=hk
    rw[k]at this; cases this
def ab3(to ti te:TE)(Ei:V->V->Hp->VK->Prop)(Ej:yP)(Ek:yN):TS:=λD σ H=>to σ H λo H1=>ti σ H1 λi H2=>Ei o i H2 λx H3=>te σ H3 λy H4=>Ej x y H4 λz H5=>Ek o i z H5 λH6=>D.nx σ H6
def PX(X:Cx)(t:V->V->Hp->VK->Prop):Prop :=
 ∀(pins:LO) (s:Shared) (σ : St) (H:Hp) (o i:V) (ov iv:Value) (Q:VK),Inv X pins σ H s->RelV o ov->RelV i iv->t o i H Q ->
  wpAny (model X.prog X.w) X.A (getItem ov iv) (EP X pins σ Q) X.xe s
theorem ab4(ho:PE X o to)(hi:PE X i ti)(hg:PX X Ei)(he:PE X e te)(hp:Ed X op Ej)(hs:Ec X Ek)
  (ha:∀ov iv new,augStore i ov iv new=(do holding [new,ov,iv] (setItem ov iv new); release [new,ov,iv] []; pure .next):=by intros; rfl):PS X (.AugAssign (.Subscript o i tpos) op e pos) (ab3 to ti te Ei Ej Ek):=by
 refine⟨λpins s σ H D I h=>?_⟩
 refine wpAny_AugAssign_SubscriptAny (aD (ho pins s σ H _ I h) λov s1 ⟨x1,H1,I1,r1,q1⟩=>?_) ha
 refine aD (hi pins s1 σ H1 _ I1 q1) λiv s2 ⟨x2,H2,I2,r2,q2⟩=>?_
 refine aD (hg pins s2 σ H2 x1 x2 ov iv _ I2 r1 r2 q2) λold s3 ⟨x3,H3,I3,r3,q3⟩=>?_
 refine aD (he pins s3 σ H3 _ I3 q3) λv s4 ⟨x4,H4,I4,r4,q4⟩=>?_
 refine aD (hp pins s4 σ H4 x3 x4 old v _ I4 r3 r4 q4) λnew s5 ⟨x5,H5,I5,r5,q5⟩=>?_
 exact aD (hs pins s5 σ H5 x1 x2 x5 ov iv new _ I5 r1 r2 r5 q5) λ_ s6 ⟨H6,I6,q6⟩=>⟨σ,H6,I6,q6⟩
def ipI(f:Int->Int->Int):yP:=λx y H Q=>∃i j,x=.int i/\y=.int j/\Q (.int (f i j)) H
theorem P0:Ed X .Add (ipI λi j=>i+j):=by
 intro pins s σ H x y v u Q I r1 r2 h
 obtain⟨i,j,e1,e2,q⟩:=h
 subst e1; subst e2
 obtain⟨t,rfl⟩:=r1
 obtain⟨t',rfl⟩:=r2
 exact iadd_int ⟨.int _,H,I.tok _,⟨_,rfl⟩,q⟩
end
section
variable {X:Cx}{pos:Pos}
def ab5(c:TT)(tb:TS):TS:=λD σ H=>∃W:Nat->St->Hp->Prop,(∃m,W m σ H)/\∀m σ H,W m σ H ->
 c σ H λb H1=>if b=true then ∃N:St->Hp->Prop,(∀σ' H',N σ' H'->∃m',m'<m/\W m' σ' H')/\tb {D with nx:=N,ct:=N,bk:=D.nx } σ H1 else D.nx σ H1
theorem ab6(hp:PassesOwn (model X.prog X.w) X.A X.env X.xe)(hc:PT X c tc)(hb:eE X body tb):PS X (.While c body [] pos) (ab5 tc tb):=by
 refine⟨λpins s σ H D I h=>?_⟩
 obtain⟨W,⟨m0,w0⟩,turn⟩:=h
 refine wpAny_While (codeAny_whileLoop (λn s'=>∃σ' H',Inv X pins σ' H' s'/\W n σ' H') ?_ m0 ⟨σ,H,I,w0⟩)
 rintro n s1 ⟨σ1,H1,I1,w1⟩
 refine wpAny_passesOwn hp (aD (hc pins s1 σ1 H1 _ I1 (turn n σ1 H1 w1)) λb s2 ⟨H2,I2,q2⟩=>?_)
 cases b with
 |true =>
  obtain⟨N,hN,q2⟩:=q2
  rw[if_pos rfl]
  refine wpAny_passesOwn hp (aD (hb pins s2 σ1 H2 _ I2 q2) λf s3 q3=>?_)
  cases f with
  |next =>
   obtain⟨σ3,H3,I3,n3⟩:=q3
   obtain⟨m',hm,w3⟩:=hN σ3 H3 n3
   exact⟨m',hm,σ3,H3,I3,w3⟩
  |cont =>
   obtain⟨σ3,H3,I3,n3⟩:=q3
   obtain⟨m',hm,w3⟩:=hN σ3 H3 n3
   exact⟨m',hm,σ3,H3,I3,w3⟩
  |brk=>exact q3
  |ret v=>exact q3
 |false =>
  rw[if_neg Bool.false_ne_true]
  exact wpAny_execs_nil ⟨σ1,H2,I2,q2⟩
end
structure It where
 go:Nat->Hp->Prop
 jV:Nat->Hp->V->Hp->Prop
 stop:Nat->Hp->Prop
def bT(X:Cx)(pins:LO)(H:Hp)(b:Addr):Prop :=
 H b=none/\b≠X.env.locals/\b∉X.fs/\(b∈X.ex\/X.s₀.heap.objs.size<=b)/\(∀x c,X.env.cells.lookup x=some c->c≠b)/\∀p∈X.pn++pins,p.1≠b
theorem Inv.jW(I:Inv X pins σ H s)(hb:s.heap.objs.size<=b)(hn:H' b=none):bT X pins H' b:=by
 refine⟨hn,Nat.ne_of_gt (Nat.lt_of_lt_of_le I.lt hb),I.abx hb,.inr (Nat.le_trans I.sz hb),λx c e z=>?_,λp hp z=>?_⟩
 .obtain⟨v,q⟩:=I.cell x c e
  exact absurd (Nat.lt_of_lt_of_le q.lt (by rw[z]; exact hb)) (Nat.lt_irrefl _)
 .exact absurd (Nat.lt_of_lt_of_le (Heap.lt_size (I.pin p hp).1) (by rw[z]; exact hb)) (Nat.lt_irrefl _)
structure Turn(P:Program)(w:World)(K:FZ)(tg:Expr)(J:It)(fp:List Addr)(it:Addr)(tn:Nat->Heap->Prop):Prop where
 mem:it∈fp
 obj:∀i h,tn i h->∀b∈fp,∃o,h.get? b=some o/\∀v,o.data ≠ .cell v
 keep:∀i h h',tn i h->(∀b∈fp,∀o,h.get? b=some o->h'.get? b=some o)->tn i h'
 item:∀(X:Cx),X.prog=P->X.w=w->X.K=K->X.calm=true->∀(i:Nat) (pins:LO) (s:Shared) (σ : St) (H:Hp) (E:Value->Shared->Prop),Inv X pins σ H s->(∀b∈fp,bT X pins H b)->tn i s.heap->J.go i H ->
  wpAny (model P w) X.A (pyNext (.ref it)) (λr s1=>∃u,r=some u /\
   wpAny (model P w) X.A (letOwnedTupleGo tg (.ref it) u) (λ_ s2=>∃x H',Inv X pins σ H' s2/\RelV x u/\J.jV i H x H'/\tn (i+1) s2.heap/\∀b∈fp,H' b=none) E s1) E s
 done:∀(X:Cx),X.prog=P->X.w=w->X.K=K->X.calm=true->∀(i:Nat) (pins:LO) (s:Shared) (σ : St) (H:Hp) (E:Value->Shared->Prop),Inv X pins σ H s->(∀b∈fp,bT X pins H b)->tn i s.heap->J.stop i H ->
  wpAny (model P w) X.A (pyNext (.ref it)) (λr s1=>r=none/\Inv X pins σ H s1) E s
 self:∀(A:Around) (i:Nat) (s:Shared) (Q:Value->Shared->Prop) (E:Value->Shared->Prop),tn i s.heap->Q (.ref it) s->wpAny (model P w) A (pyIter (.ref it)) Q E s
abbrev TI:=St->Hp->(It->Hp->Prop)->Prop
def PIE(X:Cx)(pins:LO)(σ : St)(tg:Expr)(R:It->Hp->Prop)(itv:Value)(s2:Shared):Prop :=
 ∃(it:Addr) (fp:List Addr) (tn:Nat->Heap->Prop) (J:It) (H':Hp),itv=.ref it/\Inv X pins σ H' s2/\Turn X.prog X.w X.K tg J fp it tn/\tn 0 s2.heap/\(∀b∈fp,bT X pins H' b)/\R J H'
def PI(X:Cx)(tg iter:Expr)(wi:TI):Prop :=
 ∀(pins:LO) (s:Shared) (σ : St) (H:Hp) (R:It->Hp->Prop),Inv X pins σ H s->wi σ H R ->
  wpAny (model X.prog X.w) X.A (eval iter X.env) (λv s1=>wpAny (model X.prog X.w) X.A (pyIter v) (PIE X pins σ tg R) X.xe s1) X.xe s
theorem El(ho:s.heap.get? it=some o)(hc:o.cls=.type n)(hd:o.data=.fields vs)
    (hn : ["enumerate", "zip", "dict_itemiterator", "dict_reverseitemiterator", "odict_iterator", "itertools.zip_longest", "itertools.pairwise"].contains n=false) (hQ:Q () s):wpAny M A (letOwnedTupleGo tg (.ref it) u) Q E s:=by
  unfold letOwnedTupleGo
  cases tg <;> first
    |exact wpAny_pure hQ
    | (cases u <;> first
        |exact wpAny_pure hQ
        | (refine wpAny_bind (wpAny_load ho ?_)
           rw[hc,hd]
           show wpAny M A (if(["enumerate", "zip", "dict_itemiterator", "dict_reverseitemiterator", "odict_iterator", "itertools.zip_longest", "itertools.pairwise"].contains n&&vs[0]? == some (rawInt _))=true then _ else _) Q E s
           rw[if_neg (by intro h; rw[hn,Bool.false_and]at h; cases h)]
           exact wpAny_pure hQ))
noncomputable def Em(K:FZ)(a:Addr):It :=
 ⟨λi H=>∃xs x,aG K H a xs/\xs[i]?=some x,λi H x H'=>H'=H/\∀xs,aG K H a xs->xs[i]?=some x,λi H=>∃xs,aG K H a xs/\xs.length<=i⟩
noncomputable def Eo(K:FZ)(a:Addr):It :=
 ⟨λi H=>∃xs x,bw K H a xs/\xs[i]?=some x,λi H x H'=>H'=H/\∀xs,bw K H a xs->xs[i]?=some x,λi H=>∃xs,bw K H a xs/\xs.length<=i⟩
noncomputable def yQ(lo:Int)(n:Nat):It:=⟨λi _=>i<n,λi H x H'=>H'=H/\x=.int (lo+i),λi _=>n<=i⟩
theorem ab7{P:Program}{w:World}{K:FZ}{tg:Expr}(a it:Addr):Turn P w K tg (Em K a) [it] it (λi h=>h.IsListIter it a i) where
 mem:=by simp
 obj:=λi h st b hb=>by
  have e:b=it:=by simpa using hb
  subst e
  obtain⟨o,e,c,d⟩:=st
  exact⟨o,e,λv z=>by rw[d]at z; cases z⟩
 keep:=λi h h' st k=>st.at λo e=>k it (by simp) o e
 item:=by
  intro X hP hw hK hc i pins s σ H E I hf st hg
  subst hP hw hK
  obtain⟨xs,x,hq,hx⟩:=hg
  obtain⟨its,rv,p,hz⟩:=I.list hq
  obtain⟨u,hu,ru⟩:=rv.get hx
  obtain⟨f0,f1,f2,f3,f4,f5⟩:=hf it (by simp)
  refine wpAny_pyNext_list_item st p.isList (x:=u) (by simpa using hu) λh' st' sb=>?_
  have I1:Inv X pins σ H {s with heap:=h' }:=I.turned (t':=s.toks) (λb o hb e=>(sb.2 b hb).trans e) f0 f1 f3 f4 f5
  obtain⟨o,e,c,d⟩:=id st'
  exact⟨u,rfl,El (s:={s with heap:=h' }) e c d (by decide) ⟨x,H,I1,ru,⟨rfl,λys hy=>by rw[I.oR hy hq]; exact hx⟩,st',λb hb=>(hf b hb).1⟩⟩
 done:=by
  intro X hP hw hK hc i pins s σ H E I hf st hg
  subst hP hw hK
  obtain⟨xs,hq,hx⟩:=hg
  obtain⟨its,rv,p,hz⟩:=I.list hq
  obtain⟨f0,f1,f2,f3,f4,f5⟩:=hf it (by simp)
  have hl:=rv.length
  exact wpAny_pyNext_list_end (I.ok.hd hc) st p.isList (by simp; lia) λh' eb=>⟨rfl,I.turned (t':=s.toks) (λb o hb e=>eb b o hb e) f0 f1 f3 f4 f5⟩
 self:=λ_ _ _ _ _ st h=>wpAny_pyIter_listiter st h
theorem ab8{P:Program}{w:World}{K:FZ}{tg:Expr}(a it:Addr):Turn P w K tg (Eo K a) [it] it (λi h=>h.IsTupleIter it a i) where
 mem:=by simp
 obj:=λi h st b hb=>by
  have e:b=it:=by simpa using hb
  subst e
  obtain⟨o,e,c,d⟩:=st
  exact⟨o,e,λv z=>by rw[d]at z; cases z⟩
 keep:=λi h h' st k=>st.at λo e=>k it (by simp) o e
 item:=by
  intro X hP hw hK hc i pins s σ H E I hf st hg
  subst hP hw hK
  obtain⟨xs,x,hq,hx⟩:=hg
  obtain⟨its,rv,p,hz⟩:=I.tuple hq
  obtain⟨u,hu,ru⟩:=rv.get hx
  obtain⟨f0,f1,f2,f3,f4,f5⟩:=hf it (by simp)
  refine wpAny_pyNext_tuple_item st (show s.heap.IsTuple a its.toArray from p) (x:=u) (by simpa using hu) λh' st' sb=>?_
  have I1:Inv X pins σ H {s with heap:=h' }:=I.turned (t':=s.toks) (λb o hb e=>(sb.2 b hb).trans e) f0 f1 f3 f4 f5
  obtain⟨o,e,c,d⟩:=id st'
  exact⟨u,rfl,El (s:={s with heap:=h' }) e c d (by decide) ⟨x,H,I1,ru,⟨rfl,λys hy=>by rw[I.Px hy hq]; exact hx⟩,st',λb hb=>(hf b hb).1⟩⟩
 done:=by
  intro X hP hw hK hc i pins s σ H E I hf st hg
  subst hP hw hK
  obtain⟨xs,hq,hx⟩:=hg
  obtain⟨its,rv,p,hz⟩:=I.tuple hq
  obtain⟨f0,f1,f2,f3,f4,f5⟩:=hf it (by simp)
  have hl:=rv.length
  exact wpAny_pyNext_tuple_end (I.ok.hd hc) st (show s.heap.IsTuple a its.toArray from p) (by simp; lia) λh' eb=>⟨rfl,I.turned (t':=s.toks) (λb o hb e=>eb b o hb e) f0 f1 f3 f4 f5⟩
 self:=λ_ _ _ _ _ st h=>wpAny_pyIter_tupleiter st h
theorem ab9{P:Program}{w:World}{K:FZ}{tg:Expr}(it:Addr)(lo:Int)(n:Nat):Turn P w K tg (yQ lo n) [it] it (λi h=>IsRangeIter h it (lo+(i:Nat)*1) ((n:Int)-(i:Nat)) 1) where
 mem:=by simp
 obj:=λi h st b hb=>by
  have e:b=it:=by simpa using hb
  subst e
  exact⟨_,st,λv z=>by
   have z':Data.fields _=Data.cell v:=z
   cases z'⟩
 keep:=λi h h' st k=>k it (by simp) _ st
 item:=by
  intro X hP hw hK hc i pins s σ H E I hf st hg
  subst hP hw hK
  obtain⟨f0,f1,f2,f3,f4,f5⟩:=hf it (by simp)
  have W:=Walks.range (prog:=X.prog) (w:=X.w) (I.ok.hd hc) it lo 1 n
  refine W.item i s _ _ hg st λv h' tk hv st' kk=>?_
  obtain⟨t,rfl⟩:=hv
  have I1:Inv X pins σ H {s with heap:=h',toks:=tk }:=I.turned (λb o hb e=>kk b o (by simpa using hb) e) f0 f1 f3 f4 f5
  refine⟨_,rfl,El (s:={s with heap:=h',toks:=tk }) (n := "range_iterator") st' rfl rfl (by decide) ⟨.int (lo+i),H,I1,⟨t,?_⟩,⟨rfl,rfl⟩,st',λb hb=>(hf b hb).1⟩⟩
  rw[Int.mul_one]
 done:=by
  intro X hP hw hK hc i pins s σ H E I hf st hg
  subst hP hw hK
  obtain⟨f0,f1,f2,f3,f4,f5⟩:=hf it (by simp)
  exact wpAny_pyNext_range_end (I.ok.hd hc) st (by have:n<=i:=hg; lia) λh' eb=>⟨rfl,I.turned (t':=s.toks) (λb o hb e=>eb b o hb e) f0 f1 f3 f4 f5⟩
 self:=λ_ _ _ _ _ st h=>wpAny_pyIter_rangeiter st h
section
variable {X:Cx}{tg:Expr}
def Qa(K:FZ)(tl:TE):TI:=λσ H R=>tl σ H λx H1=>∃a,x=.ref a/\(∃xs,aG K H1 a xs)/\R (Em K a) H1
def Qc(K:FZ)(tl:TE):TI:=λσ H R=>tl σ H λx H1=>∃a,x=.ref a/\(∃xs,bw K H1 a xs)/\R (Eo K a) H1
theorem acd{l:Expr}{tl:TE}(hl:PE X l tl):PI X tg l (Qa X.K tl):=by
 intro pins s σ H R I h
 refine aD (hl pins s σ H _ I h) λv s1 ⟨x,H1,I1,r1,q1⟩=>?_
 obtain⟨a,e,⟨xs,hq⟩,q⟩:=q1
 subst e
 cases r1
 obtain⟨its,rv,p,hz⟩:=I1.list hq
 refine wpAny_pyIter_list p.isList ?_
 refine⟨s1.heap.objs.size,[s1.heap.objs.size],_,_,H1,rfl,I1.kept (t':=s1.toks) λb o e=>Heap.get?_push_of_some _ e,ab7 a _,⟨_,Heap.get?_push_size _ rfl,rfl,rfl⟩,λb hb=>?_,q⟩
 have e:b=s1.heap.objs.size:=by simpa using hb
 subst e
 exact I1.jW (Nat.le_refl _) (I1.hok.fresh (Nat.le_refl _))
theorem ace{l:Expr}{tl:TE}(hl:PE X l tl):PI X tg l (Qc X.K tl):=by
 intro pins s σ H R I h
 refine aD (hl pins s σ H _ I h) λv s1 ⟨x,H1,I1,r1,q1⟩=>?_
 obtain⟨a,e,⟨xs,hq⟩,q⟩:=q1
 subst e
 cases r1
 obtain⟨its,rv,p,hz⟩:=I1.tuple hq
 refine wpAny_pyIter_tuple (show s1.heap.IsTuple a its.toArray from p) ?_
 refine⟨s1.heap.objs.size,[s1.heap.objs.size],_,_,H1,rfl,I1.kept (t':=s1.toks) λb o e=>Heap.get?_push_of_some _ e,ab8 a _,⟨_,Heap.get?_push_size _ rfl,rfl,rfl⟩,λb hb=>?_,q⟩
 have e:b=s1.heap.objs.size:=by simpa using hb
 subst e
 exact I1.jW (Nat.le_refl _) (I1.hok.fresh (Nat.le_refl _))
theorem acf{pins:LO}{σ : St}{H:Hp}{s:Shared}{R:It->Hp->Prop}{E:Value->Shared->Prop}{lo hi:Int}{t u v:Tok}{tk:Nat}(I:Inv X pins σ H s)(h1 : -(2 ^ 62)<=lo)(h2:lo<2 ^ 62)(h3 : -(2 ^ 62)<=hi)(h4:hi<2 ^ 62)
  (q:R (yQ lo (hi-lo).toNat) H):wpAny (model X.prog X.w) X.A (pyIter (.ref s.heap.objs.size)) (PIE X pins σ tg R) E {s with heap:=s.heap.push {cls:=.type "range",data:=.fields #[.int lo t,.int hi u,.int 1 v] },toks:=tk }:=by
 refine wpAny_pyIter_range (IsRange.new ..) (small_one h1 h2 h3 h4) ?_
 have I1:Inv X pins σ H {s with heap:=s.heap.push {cls:=.type "range",data:=.fields #[.int lo t,.int hi u,.int 1 v] },toks:=tk }:=I.kept λb o e=>Heap.get?_push_of_some _ e
 refine⟨(s.heap.push {cls:=.type "range",data:=.fields #[.int lo t,.int hi u,.int 1 v] }).objs.size,[(s.heap.push {cls:=.type "range",data:=.fields #[.int lo t,.int hi u,.int 1 v] }).objs.size],_,_,H,rfl,
  I1.kept (t':=tk) λb o e=>Heap.get?_push_of_some _ e,ab9 _ lo (hi-lo).toNat,?_,λb hb=>?_,q⟩
 .have e1:lo+((0:Nat):Int)*1=lo:=by simp
  have e2:(((hi-lo).toNat:Nat):Int)-((0:Nat):Int)=Builtin.Range.rangeSize lo hi 1:=by rw[rangeSize_one]; split <;> lia
  show IsRangeIter _ _ (lo+((0:Nat):Int)*1) ((((hi-lo).toNat:Nat):Int)-((0:Nat):Int)) 1
  rw[e1,e2]
  exact Heap.get?_push_size _ rfl
 .have e:b=(s.heap.push {cls:=.type "range",data:=.fields #[.int lo t,.int hi u,.int 1 v] }).objs.size:=by simpa using hb
  subst e
  exact I1.jW (Nat.le_refl _) (I1.hok.fresh (Nat.le_refl _))
def acg(ta:TA):TI:=λσ H R=>ta σ H λvs H1=>∃j:Int,vs=[.int j] /\ -(2 ^ 62)<=j/\j<2 ^ 62/\R (yQ 0 j.toNat) H1
theorem ach{a:Expr}{ta:TA}{p pos:Pos}(hg:Gl X "range") (hm:X.mg "range" = none) (ha:PA X [a] ta) (hs:starEach [a] X.env=[(false,eval a X.env)]:=by rfl):PI X tg (.Call (.Name "range" p) [a] [] pos) (acg ta):=by
 intro pins s σ H R I h
 refine Call_ (jT I hg hm boot_range (PyProof.Rows.callWith_type1 (aD (ha pos pins s σ H _ I h) λus s1 ⟨vs,H1,I1,r1,q1⟩=>?_) hs rfl))
 obtain⟨j,e,q1,q2,q⟩:=q1
 subst e
 cases r1 with
 |cons r rr =>
  cases rr
  obtain⟨t,rfl⟩:=r
  exact call_range_1 (acf I1 (by lia) (by lia) q1 q2 (by simpa using q))
def Qd(wi:TI)(g:TG)(tb:TS):TS:=λD σ H=>wi σ H λJ H1=>∃W:Nat->Nat->St->Hp->Prop,(∃m,W 0 m σ H1)/\∀i m σ H,W i m σ H ->
 (J.stop i H/\D.nx σ H)\/(J.go i H/\∃N:St->Hp->Prop,(∀σ' H',N σ' H'->∃m',m'<m/\W (i+1) m' σ' H')/\∀x H',J.jV i H x H'->g x σ H' λσ2 H2=>tb {D with nx:=N,ct:=N,bk:=D.nx } σ2 H2)
noncomputable def yR(fp:List Addr)(h:Heap):LO:=fp.filterMap λb=>(h.get? b).map λo=>(b,o)
theorem lu(hb:b∈fp)(e:h.get? b=some o):(b,o)∈yR fp h:=List.mem_filterMap.mpr ⟨b,hb,by rw[e]; rfl⟩
theorem aci(hp:p∈yR fp h):p.1∈fp/\h.get? p.1=some p.2:=by
 obtain⟨b,hb,e⟩:=List.mem_filterMap.mp hp
 cases q:h.get? b with
 |none=>rw[q]at e; cases e
 |some o =>
  rw[q]at e
  have e':(b,o)=p:=Option.some.inj e
  subst e'
  exact⟨hb,q⟩
theorem Inv.pinned(I:Inv X pins σ H s)(hf:∀b∈fp,bT X pins H b)(ho:∀b∈fp,∃o,s.heap.get? b=some o/\∀v,o.data ≠ .cell v):Inv X (pins++yR fp s.heap) σ H s :=
 I.yK λp hp=>(List.mem_append.mp hp).elim (λz=>I.pin p (List.mem_append_right _ z)) λz=>by
  obtain⟨hb,e⟩:=aci z
  obtain⟨f0,f1,f2,_⟩:=hf p.1 hb
  obtain⟨o,e',d⟩:=ho p.1 hb
  rw[e]at e'; cases e'
  exact⟨e,f0,f1,f2,d⟩
theorem Inv.qw(I:Inv X (pins++pl) σ H s):Inv X pins σ H s:=I.yK λp hp=>I.pin p (List.mem_append_right _ (List.mem_append_left _ hp))
theorem Qe(hp:PassesOwn (model X.prog X.w) X.A X.env X.xe)(hc:X.calm=true)(hi:PI X tg iter wi)(hg:PG X tg g)(hb:eE X body tb)
  (hs:∀x,foldedSetIterable iter X.env x=pure x:=by intro _; rfl):PS X (.For tg iter body [] pos) (Qd wi g tb):=by
 refine⟨λpins s σ H D I h=>?_⟩
 refine wpAny_For (aD (hi pins s σ H _ I h) λv s1 h1=>aD h1 λitv s2 h2=>?_) hs
 obtain⟨it,fp,tn,J,H2,e,I2,T,st2,f2,W,⟨m0,w0⟩,turn⟩:=h2
 subst e
 -- what stays true of the iterator's objects through the loop
 have stat:∀{H':Hp},(∀b∈fp,H' b=none)->∀b∈fp,bT X pins H' b:=λhn b hb=>⟨hn b hb,(f2 b hb).2⟩
 refine codeAny_forLoop_any (λn s'=>∃i σ' H',Inv X pins σ' H' s'/\tn i s'.heap/\(∀b∈fp,H' b=none)/\W i n σ' H') ?_ m0 ⟨0,σ,H2,I2,st2,λb hb=>(f2 b hb).1,w0⟩
 rintro n s3 ⟨i,σ3,H3,I3,st3,Qf,w3⟩
 rcases turn i n σ3 H3 w3 with⟨stop,qn⟩|⟨go,N,hN,step⟩
 .refine wpAny_passesOwn hp (aD (T.done X rfl rfl rfl hc i pins s3 σ3 H3 X.xe I3 (stat Qf) st3 stop) λr s4 ⟨hr,I4⟩=>?_)
  subst hr
  exact wpAny_execs_nil ⟨σ3,H3,I4,qn⟩
 .refine wpAny_passesOwn hp (aD (T.item X rfl rfl rfl hc i pins s3 σ3 H3 X.xe I3 (stat Qf) st3 go) λr s4 ⟨u,hr,h4⟩=>?_)
  subst hr
  refine wpAny_passesOwn hp (aD h4 λ_ s5 ⟨x,H5,I5,r5,y5,iu,lA⟩=>?_)
  have I5':=I5.pinned (stat lA) (T.obj _ _ iu)
  refine wpAny_passesOwn hp (aD (hg _ s5 σ3 H5 x u _ I5' r5 (step x H5 y5)) λ_ s6 ⟨σ6,H6,I6,q6⟩=>?_)
  refine wpAny_passesOwn hp (aD (hb _ s6 σ6 H6 _ I6 q6) λf s7 q7=>?_)
  have again:∀{σ7:St} {H7:Hp},Inv X (pins++yR fp s5.heap) σ7 H7 s7->N σ7 H7->∃m,m<n/\∃i σ' H',Inv X pins σ' H' s7/\tn i s7.heap/\(∀b∈fp,H' b=none)/\W i m σ' H':=λ{σ7 H7} I7 n7=>by
   obtain⟨m',hm,w7⟩:=hN σ7 H7 n7
   refine⟨m',hm,i+1,σ7,H7,I7.qw,T.keep _ _ _ iu λb hb o e=>(I7.pin (b,o) (List.mem_append_right _ (List.mem_append_right _ (lu hb e)))).1,λb hb=>?_,w7⟩
   obtain⟨o,e,d⟩:=T.obj _ _ iu b hb
   exact(I7.pin (b,o) (List.mem_append_right _ (List.mem_append_right _ (lu hb e)))).2.1
  cases f with
  |next=>obtain⟨σ7,H7,I7,n7⟩:=q7; exact again I7 n7
  |cont=>obtain⟨σ7,H7,I7,n7⟩:=q7; exact again I7 n7
  |brk=>obtain⟨σ7,H7,I7,q7⟩:=q7; exact⟨σ7,H7,I7.qw,q7⟩
  |ret v=>obtain⟨x7,σ7,H7,I7,r7,q7⟩:=q7; exact⟨x7,σ7,H7,I7.qw,r7,q7⟩
end
abbrev R2:=V->V->Hp->VK->Prop
def bA(X:Cx)(f:Value->Value->Sem Value)(r:R2):Prop :=
 ∀(pins:LO) (s:Shared) (σ : St) (H:Hp) (x y:V) (v u:Value) (Q:VK),Inv X pins σ H s->RelV x v->RelV y u->r x y H Q ->
  wpAny (model X.prog X.w) X.A (f v u) (EP X pins σ Q) X.xe s
def Ep(X:Cx)(f:Value->Sem Value)(r:V->Hp->VK->Prop):Prop :=
 ∀(pins:LO) (s:Shared) (σ : St) (H:Hp) (x:V) (v:Value) (Q:VK),Inv X pins σ H s->RelV x v->r x H Q ->
  wpAny (model X.prog X.w) X.A (f v) (EP X pins σ Q) X.xe s
def fL(X:Cx)(f:Value)(r:List V->Hp->VK->Prop):Prop :=
 ∀(pins:LO) (s:Shared) (σ : St) (H:Hp) (xs:List V) (us:List Value) (Q:VK),Inv X pins σ H s->Vals xs us->r xs H Q ->
  wpAny (model X.prog X.w) X.A (call f us) (EP X pins σ Q) X.xe s
def acj(X:Cx)(r:V->Hp->(Bool->Hp->Prop)->Prop):Prop :=
 ∀(pins:LO) (s:Shared) (σ : St) (H:Hp) (x:V) (v:Value) (Q:Bool->Hp->Prop),Inv X pins σ H s->RelV x v->r x H Q ->
  wpAny (model X.prog X.w) X.A (truthy v) (TP X pins σ Q) X.xe s
def u9(r:R2)(ta tb:TE):TE:=λσ H Q=>ta σ H λx H1=>tb σ H1 λy H2=>r x y H2 Q
def Qg(r:V->Hp->VK->Prop)(ta:TE):TE:=λσ H Q=>ta σ H λx H1=>r x H1 Q
def rI(C:Int->Int->Prop)(g:Int->Int->V):R2:=λx y H Q=>∃i j,x=.int i/\y=.int j/\C i j/\Q (g i j) H
def dU(g:Int->Int->V):R2:=λx y H Q=>∃i j,x=.int i/\y=.int j/\Q (g i j) H
def rU(g:Int->V):V->Hp->VK->Prop:=λx H Q=>∃i,x=.int i/\Q (g i) H
section
variable {X:Cx}{a b c:Expr}{ta tb tc:TE}{pos:Pos}
theorem Er(ha:PE X a ta)(hb:PE X b tb){pins:LO}{s:Shared}{σ : St}{H:Hp}{R:V->V->Hp->Prop}(I:Inv X pins σ H s)
  (h:ta σ H λx H1=>tb σ H1 λy H2=>R x y H2) {Q:Value->Shared->Prop} {f:Value->Value->Sem Value}
  (hf:∀v u s2 x y H2,Inv X pins σ H2 s2->RelV x v->RelV y u->R x y H2->wpAny (model X.prog X.w) X.A (f v u) Q X.xe s2) :
  wpAny (model X.prog X.w) X.A (eval a X.env) (λv s₁=>wpAny (model X.prog X.w) X.A (eval b X.env) (λu s₂=>wpAny (model X.prog X.w) X.A (f v u) Q X.xe s₂) X.xe s₁) X.xe s:=by
 refine aD (ha pins s σ H _ I h) λv s1 ⟨x,H1,I1,r1,q1⟩=>?_
 refine aD (hb pins s1 σ H1 _ I1 q1) λu s2 ⟨y,H2,I2,r2,q2⟩=>?_
 exact hf v u s2 x y H2 I2 r1 r2 q2
theorem yS{op:Operator}{r:R2}(ho:bA X (binaryOp op) r)(ha:PE X a ta)(hb:PE X b tb):PE X (.BinOp a op b pos) (u9 r ta tb):=by
 refine⟨λpins s σ H Q I h=>?_⟩
 exact wpAny_BinOp (Er ha hb I h λv u s2 x y H2 I2 rx ry q=>ho pins s2 σ H2 x y v u Q I2 rx ry q)
theorem Es(ho:Ep X (unaryOp op) r)(ha:PE X a ta):PE X (.UnaryOp op a pos) (Qg r ta):=by
 refine⟨λpins s σ H Q I h=>?_⟩
 exact UnaryOp_ (aD (ha pins s σ H _ I h) λv s1 ⟨x,H1,I1,r1,q1⟩=>ho pins s1 σ H1 x v Q I1 r1 q1)
theorem yU{f:Value->Value->Sem Value}{C:Int->Int->Prop}{g:Int->Int->Int}
  (rule:∀(i j:Int) (t u:Tok) (s:Shared) (Q:Value->Shared->Prop) (E:Value->Shared->Prop),C i j->Q (.int (g i j) s.toks) {s with toks:=s.toks+1 }->wpAny (model X.prog X.w) X.A (f (.int i t) (.int j u)) Q E s) :
  bA X f (rI C λi j=>.int (g i j)):=by
 intro pins s σ H x y v u Q I rx ry h
 obtain⟨i,j,rfl,rfl,hc,q⟩:=h
 obtain⟨t,rfl⟩:=rx
 obtain⟨t',rfl⟩:=ry
 exact rule i j t t' s _ _ hc ⟨.int (g i j),H,I.tok _,⟨_,rfl⟩,q⟩
theorem Qh{f:Value->Value->Sem Value}{g:Int->Int->Int}
  (rule:∀(i j:Int) (t u:Tok) (s:Shared) (Q:Value->Shared->Prop) (E:Value->Shared->Prop),Q (.int (g i j) s.toks) {s with toks:=s.toks+1 }->wpAny (model X.prog X.w) X.A (f (.int i t) (.int j u)) Q E s) :
  bA X f (dU λi j=>.int (g i j)):=by
 intro pins s σ H x y v u Q I rx ry h
 obtain⟨i,j,rfl,rfl,q⟩:=h
 obtain⟨t,rfl⟩:=rx
 obtain⟨t',rfl⟩:=ry
 exact rule i j t t' s _ _ ⟨.int (g i j),H,I.tok _,⟨_,rfl⟩,q⟩
theorem yV{f:Value->Value->Sem Value}{g:Int->Int->Bool}
  (rule:∀(i j:Int) (t u:Tok) (s:Shared) (Q:Value->Shared->Prop) (E:Value->Shared->Prop),Q (.bool (g i j)) s->wpAny (model X.prog X.w) X.A (f (.int i t) (.int j u)) Q E s) :
  bA X f (dU λi j=>.bl (g i j)):=by
 intro pins s σ H x y v u Q I rx ry h
 obtain⟨i,j,rfl,rfl,q⟩:=h
 obtain⟨t,rfl⟩:=rx
 obtain⟨t',rfl⟩:=ry
 exact rule i j t t' s _ _ ⟨.bl (g i j),H,I,rfl,q⟩
def yW(i j:Int):Prop:=0<=j/\j<=1000000/\i.natAbs<2 ^ 64
theorem Qi:bA X (binaryOp .Add) (dU λi j=>.int (i+j)):=Qh λ_ _ _ _ _ _ _ q=>add_int q
theorem Qj:bA X (binaryOp .Sub) (dU λi j=>.int (i-j)):=Qh λ_ _ _ _ _ _ _ q=>sub_int q
theorem acn:bA X (binaryOp .Mod) (rI (λ_ j=>j≠0) λi j=>.int (i.fmod j)):=yU λ_ _ _ _ _ _ _ hc q=>mod_int' hc q
theorem Qk:bA X (binaryOp .Pow) (rI yW λi j=>.int (i ^ j.toNat)):=yU λ_ _ _ _ _ _ _ hc q=>pow_int_small hc.1 hc.2.1 hc.2.2 q
theorem unI{f:Value->Sem Value}{g:Int->Int}
  (rule:∀(i:Int) (t:Tok) (s:Shared) (Q:Value->Shared->Prop) (E:Value->Shared->Prop),Q (.int (g i) s.toks) {s with toks:=s.toks+1 }->wpAny (model X.prog X.w) X.A (f (.int i t)) Q E s) :
  Ep X f (rU λi=>.int (g i)):=by
 intro pins s σ H x v Q I rx h
 obtain⟨i,rfl,q⟩:=h
 obtain⟨t,rfl⟩:=rx
 exact rule i t s _ _ ⟨.int (g i),H,I.tok _,⟨_,rfl⟩,q⟩
theorem Et:Ep X (unaryOp .USub) (rU λi=>.int (-i)):=unI λ_ _ _ _ _ q=>neg_int q
end
section
variable {X:Cx}{a b c:Expr}{ta tb tc:TE}{pos:Pos}
theorem Ql(I:Inv X pins σ H s)(q:Q (.bl k) H)(e:k=k'):EP X pins σ Q (.bool k') s:=by
 subst e
 exact⟨.bl k,H,I,rfl,q⟩
theorem aco:bA X (compareOp .Lt) (dU λi j=>.bl (decide (i<j))):=yV λ_ _ _ _ _ _ _ q=>lt_int q
theorem acp:bA X (compareOp .LtE) (dU λi j=>.bl (decide (i<=j))):=yV λ_ _ _ _ _ _ _ q=>le_int q
theorem acq:bA X (compareOp .Gt) (dU λi j=>.bl (decide (j<i))):=yV λ_ _ _ _ _ _ _ q=>gt_int q
theorem acr:bA X (compareOp .GtE) (dU λi j=>.bl (decide (j<=i))):=yV λ_ _ _ _ _ _ _ q=>ge_int q
theorem acs:bA X (compareOp .Is) (λx y H Q=>y=.non/\Q (.bl (decide (x=.non))) H):=by
 intro pins s σ H x y v u Q I rx ry h
 obtain⟨rfl,q⟩:=h
 cases ry
 refine is_none_gen (Ql I q ?_)
 cases x <;> first
  |(cases rx; rfl)
  |(obtain⟨t,rfl⟩:=rx; rfl)
theorem acu:bA X (compareOp .IsNot) (λx y H Q=>y=.non/\Q (.bl (!decide (x=.non))) H):=by
 intro pins s σ H x y v u Q I rx ry h
 obtain⟨rfl,q⟩:=h
 cases ry
 refine isnot_none_gen (Ql I q ?_)
 cases x <;> first
  |(cases rx; rfl)
  |(obtain⟨t,rfl⟩:=rx; rfl)
theorem bA.or(h:bA X f r)(h':bA X f r'):bA X f (λx y H Q=>r x y H Q\/r' x y H Q):=by
 intro pins s σ H x y v u Q I rx ry q
 rcases q with q|q
 .exact h pins s σ H x y v u Q I rx ry q
 .exact h' pins s σ H x y v u Q I rx ry q
theorem acv{op:CmpOp}{r:R2}(ho:bA X (compareOp op) r)(ha:PE X a ta)(hb:PE X b tb)(hm:behindInMarks op b=false):PE X (.Compare a [op] [b] pos) (u9 r ta tb):=by
 refine⟨λpins s σ H Q I h=>?_⟩
 exact wpAny_Compare1 (Er ha hb I h λv u s2 x y H2 I2 rx ry q=>ho pins s2 σ H2 x y v u Q I2 rx ry q) hm
def oW(t:TE):TT:=λσ H Q=>t σ H λx H'=>∃k,x=.bl k/\Q k H'
theorem acw(ho:bA X (compareOp op) r)(ha:PE X a ta)(hb:PE X b tb)(hm:behindInMarks op b=false):PT X (.Compare a [op] [b] pos) (oW (u9 r ta tb)):=by
 refine⟨λpins s σ H Q I h=>?_⟩
 refine wpAny_isTrue_Compare1 (aD (ha pins s σ H _ I h) λv s1 ⟨x,H1,I1,r1,q1⟩=>aD (hb pins s1 σ H1 _ I1 q1) λu s2 ⟨y,H2,I2,r2,q2⟩ =>
  aD (ho pins s2 σ H2 x y v u _ I2 r1 r2 q2) λc s3 ⟨z,H3,I3,r3,k,e,q3⟩=>?_) hm
 subst e
 cases r3
 exact wpAny_truthy_bool ⟨H3,I3,q3⟩
def Eu(r r':R2)(ta tb tc:TE):TE:=λσ H Q=>ta σ H λx H1=>tb σ H1 λy H2=>r x y H2 λz H3=>∃k,z=.bl k /\
 (if k=true then tc σ H3 λw' H4=>r' y w' H4 Q else Q (.bl false) H3)
theorem acy(ho:bA X (compareOp op) r)(ho':bA X (compareOp op') r')(ha:PE X a ta)(hb:PE X b tb)(hc:PE X c tc)
  (hm:lastMarks [op,op'] [b,c]=false:=by with_unfolding_all rfl):PE X (.Compare a [op,op'] [b,c] pos) (Eu r r' ta tb tc):=by
 refine⟨λpins s σ H Q I h=>?_⟩
 refine Compare_chain (aD (ha pins s σ H _ I h) λv s1 ⟨x,H1,I1,r1,q1⟩=>chain_link (aD (hb pins s1 σ H1 _ I1 q1) λu s2 ⟨y,H2,I2,r2,q2⟩ =>
  aD (ho pins s2 σ H2 x y v u _ I2 r1 r2 q2) λd s3 ⟨z,H3,I3,r3,k,e,q3⟩=>?_)) hm
 subst e
 cases r3
 refine wpAny_truthy_bool ?_
 cases k with
 |false=>exact ite_ff ⟨.bl false,H3,I3,rfl,q3⟩
 |true=>exact ite_tt (chain_last (aD (hc pins s3 σ H3 _ I3 q3) λw' s4 ⟨z',H4,I4,r4,q4⟩=>ho' pins s4 σ H4 y z' u w' Q I4 r2 r4 q4))
theorem acz(ho:bA X (compareOp op) r)(ho':bA X (compareOp op') r')(ha:PE X a ta)(hb:PE X b tb)(hc:PE X c tc)
  (hm:lastMarks [op,op'] [b,c]=false:=by with_unfolding_all rfl):PT X (.Compare a [op,op'] [b,c] pos) (oW (Eu r r' ta tb tc)):=by
 refine⟨λpins s σ H Q I h=>?_⟩
 refine isTrue_chain (aD (ha pins s σ H _ I h) λv s1 ⟨x,H1,I1,r1,q1⟩=>test_link (aD (hb pins s1 σ H1 _ I1 q1) λu s2 ⟨y,H2,I2,r2,q2⟩ =>
  aD (ho pins s2 σ H2 x y v u _ I2 r1 r2 q2) λd s3 ⟨z,H3,I3,r3,k,e,q3⟩=>?_)) hm
 subst e
 cases r3
 refine wpAny_truthy_bool ?_
 cases k with
 |false =>
  obtain⟨k',e',q'⟩:=q3
  cases e'
  exact ite_ff ⟨H3,I3,q'⟩
 |true =>
  refine ite_tt (test_last (aD (hc pins s3 σ H3 _ I3 q3) λw' s4 ⟨z',H4,I4,r4,q4⟩=>aD (ho' pins s4 σ H4 y z' u w' _ I4 r2 r4 q4) λd' s5 ⟨z2,H5,I5,r5,k2,e2,q5⟩=>?_))
  subst e2
  cases r5
  exact wpAny_truthy_bool ⟨H5,I5,q5⟩
def Ew(K:FZ)(x:V)(H:Hp)(k:Bool):Prop :=
 match x with
 |.non=>k=false
 |.bl b=>k=b
 |.int i=>k=(i != 0)
 |.str y=>y.length<=sizeLine/\k=((y.length:Int) != 0)
 |.uV y=>y.size<=sizeLine/\k=((y.size:Int) != 0)
 |.ref p=>(∃xs,aG K H p xs/\k = !xs.isEmpty)\/(∃xs,bw K H p xs/\k = !xs.isEmpty)
 |_=>False
theorem Qm{xs:List V}{its:List Value}(r:Vals xs its):(!its.toArray.isEmpty) = !xs.isEmpty:=by
 cases r <;> simp
theorem oX:(sizeLine:Nat)<2 ^ 63:=by rw[sizeLine_eq]; decide
theorem acA:acj X (λx H Q=>∃k,Ew X.K x H k/\Q k H):=by
 intro pins s σ H x v Q I rx h
 obtain⟨k,e,q⟩:=h
 have hl:=oX
 have hs:sizeLine=16777216:=sizeLine_eq
 cases x with
 |non =>
  cases rx
  have e':k=false:=e
  subst e'
  exact truthy_none ⟨H,I,q⟩
 |bl b =>
  cases rx
  have e':k=b:=e
  subst e'
  exact wpAny_truthy_bool ⟨H,I,q⟩
 |int i =>
  obtain⟨t,rfl⟩:=rx
  have e':k=(i != 0):=e
  subst e'
  exact PySem.P.truthy_int ⟨H,I,q⟩
 |str y =>
  obtain⟨t,rfl⟩:=rx
  obtain⟨hy,e'⟩:y.length<=sizeLine/\k=((y.length:Int) != 0):=e
  subst e'
  exact PySem.P.truthy_str (by lia) ⟨H,I.tok _,q⟩
 |uV y =>
  obtain⟨t,rfl⟩:=rx
  obtain⟨hy,e'⟩:y.size<=sizeLine/\k=((y.size:Int) != 0):=e
  subst e'
  exact PySem.W.truthy_bytes (by lia) ⟨H,I.tok _,q⟩
 |ref p =>
  cases rx
  have e':(∃xs,aG X.K H p xs/\k = !xs.isEmpty)\/(∃xs,bw X.K H p xs/\k = !xs.isEmpty):=e
  rcases e' with⟨xs,hx,e'⟩|⟨xs,hx,e'⟩
  .subst e'
   obtain⟨its,r,pl,hz⟩:=I.list hx
   have hlen:=r.length
   exact wpAny_truthy_list pl.isList (by simp only[List.size_toArray]; lia) ⟨H,I.tok _,by rw[Qm r]; exact q⟩
  .subst e'
   obtain⟨its,r,pl,hz⟩:=I.tuple hx
   have hlen:=r.length
   exact truthy_tuple pl (by simp only[List.size_toArray]; lia) ⟨H,I.tok _,by rw[Qm r]; exact q⟩
 |_=>exact(show False from e).elim
theorem acB(ha:PE X a ta)(he:∀whole,isTrue a X.env whole=(do let v <-whole; standAt a.pos; holding [v] (truthy v))) :
  PT X a (λσ H Q=>ta σ H λx H'=>∃k,Ew X.K x H' k/\Q k H'):=by
 refine⟨λpins s σ H Q I h=>?_⟩
 exact isTrue_plain (aD (ha pins s σ H _ I h) λv s1 ⟨x,H1,I1,r1,q1⟩=>acA pins s1 σ H1 x v Q I1 r1 q1) (he _)
theorem acC:bA X (binaryOp .Add) (λx y H Q=>∃i j,x=.str i/\y=.str j/\i.length+j.length<=sizeLine/\Q (.str (i++j)) H):=by
 intro pins s σ H x y v u Q I rx ry h
 obtain⟨i,j,rfl,rfl,hz,q⟩:=h
 obtain⟨t,rfl⟩:=rx
 obtain⟨t',rfl⟩:=ry
 exact add_str (λt' tk=>⟨.str (i++j),H,I.tok _,⟨_,rfl⟩,q⟩) hz
theorem vals1(r:Vals [x] us):∃u,us=[u]/\RelV x u:=by
 cases r with
 |cons r1 r2=>cases r2; exact⟨_,rfl,r1⟩
theorem vals2(r:Vals [x,y] us):∃u w',us=[u,w']/\RelV x u/\RelV y w':=by
 cases r with
 |cons r1 r2 =>
  cases r2 with
  |cons r3 r4=>cases r4; exact⟨_,_,rfl,r1,r3⟩
theorem acD:fL X (.builtin "abs") (λxs H Q=>∃i,xs=[.int i]/\Q (.int (if i<0 then -i else i)) H):=by
 intro pins s σ H xs us Q I r h
 obtain⟨i,rfl,q⟩:=h
 obtain⟨u,rfl,t,rfl⟩:=vals1 r
 exact call_abs_int λu tk=>⟨.int (if i<0 then -i else i),H,I.tok _,⟨_,rfl⟩,q⟩
theorem acE:fL X (.type "int") (λxs H Q=>(∃i,xs=[.int i]/\Q (.int i) H)\/∃k,xs=[.bl k]/\Q (.int (if k then 1 else 0)) H):=by
 intro pins s σ H xs us Q I r h
 rcases h with⟨i,rfl,q⟩|⟨k,rfl,q⟩
 .obtain⟨u,rfl,t,rfl⟩:=vals1 r
  exact call_int_int ⟨.int i,H,I,⟨_,rfl⟩,q⟩
 .obtain⟨u,rfl,r1⟩:=vals1 r
  cases r1
  exact call_int_bool ⟨.int (if k then 1 else 0),H,I.tok _,⟨_,rfl⟩,q⟩
end
structure dW(k:Nat)(A:Around):Prop where
 hd:A.handled=none
 dp:A.depth+3*k+5<recursionLimit
 un:A.units+16*k+200<cLine
 gd:A.guards=some []:=by rfl
theorem dW.mono(r:dW k A)(h:j<=k):dW j A:=⟨r.hd,by have:=r.dp; lia,by have:=r.un; lia,r.gd⟩
theorem dW.deeper(r:dW (k+1) A)(env:Env):dW k (A.deeper env) :=
 ⟨r.hd,by have:=r.dp; show A.depth+1+3*k+5<_; lia,by have:=r.un; show A.units+3+16*k+200<_; lia,r.gd⟩
theorem dW.depth(r:dW k A):A.depth<recursionLimit:=by have:=r.dp; lia
def Qn:TA:=λ_ H Q=>Q [] H
def Ez(ta:TE)(tr:TA):TA:=λσ H Q=>ta σ H λx H1=>tr σ H1 λxs H2=>Q (x::xs) H2
section
variable {X:Cx}{e:Expr}{es:List Expr}{te:TE}{t:TA}{pos:Pos}
theorem qx:PA X [] Qn:=⟨λ_ _ _ _ H Q I h=>Calls.spliced_nil ⟨[],H,I,.nil,h⟩⟩
theorem mQ(ha:PE X e te)(hr:PA X es t)(hs:starEach (e::es) X.env=(false,eval e X.env)::starEach es X.env:=by rfl):PA X (e::es) (Ez te t):=by
 refine⟨λpos pins s σ H Q I h=>?_⟩
 rw[hs]
 show wpAny _ _ (spliced ((false,eval e X.env)::backTo pos (starEach es X.env))) _ _ s
 refine Calls.spliced_cons (aD (ha pins s σ H _ I h) λu s1 ⟨x,H1,I1,r1,q1⟩=>?_)
 exact aD (hr pos pins s1 σ H1 _ I1 q1) λus s2 ⟨xs,H2,I2,r2,q2⟩=>⟨x::xs,H2,I2,.cons r1 r2,q2⟩
def acF(t:TA):TE:=λσ H Q=>t σ H λxs H1=>xs.length<=sizeLine/\∀p,H1 p=none->Q (.ref p) (upd H1 p (.tup xs))
def acG(t:TA):TE:=λσ H Q=>t σ H λxs H1=>xs.length<=sizeLine/\∀p,H1 p=none->Q (.ref p) (upd H1 p (.lst xs))
theorem yX{x1}(h:PA X es t):PE X (.Tuple es x1 pos) (acF t):=by
 refine⟨λpins s σ H Q I hq=>?_⟩
 refine wpAny_Tuple_spliced (aD (h pos pins s σ H _ I hq) λus s1 ⟨xs,H1,I1,r,z,q⟩=>⟨by rw[<-r.length]; exact z,?_⟩)
 have hf:H1 s1.heap.objs.size=none:=I1.hok.fresh (Nat.le_refl _)
 refine⟨.ref s1.heap.objs.size,upd H1 s1.heap.objs.size (.tup xs),I1.laid (t':=s1.toks) (λb u e=>Heap.get?_push_of_some _ e) (Nat.le_refl _) ?_,rfl,q _ hf⟩
 exact⟨z,us,r,⟨_,Heap.get?_push_size _ rfl,rfl,_,rfl⟩⟩
theorem EY(h:PA X es t):PE X (.List es pos) (acG t):=by
 refine⟨λpins s σ H Q I hq=>?_⟩
 refine wpAny_List_spliced (aD (h pos pins s σ H _ I hq) λus s1 ⟨xs,H1,I1,r,z,q⟩=>⟨by rw[<-r.length]; exact z,?_⟩)
 have hf:H1 s1.heap.objs.size=none:=I1.hok.fresh (Nat.le_refl _)
 refine⟨.ref s1.heap.objs.size,upd H1 s1.heap.objs.size (.lst xs),I1.laid (t':=s1.toks) (λb u e=>Heap.get?_push_of_some _ e) (Nat.le_refl _) ?_,rfl,q _ hf⟩
 exact⟨z,us,0,r,Heap.get?_push_size _ rfl⟩
end
abbrev Sp:=List V->Hp->VK->XK->Prop
abbrev iz:=List Env->Hp->Shared->XK->Value->Shared->Prop
structure yZ(P:Program)(w:World)(K:FZ)(mg:Str->Option Value)(base:Heap)(A:Around)(outer:List Env)(s:Shared)(H:Hp):Prop where
 frames:A.frames=some outer
 mod:Mod K mg base
 bs:∀b o,base.get? b=some o->s.heap.get? b=some o/\H b=none
 oM:base.objs.size<=s.heap.objs.size
 jB:s.heap.FunFrames base outer
 ql:∀b∈frs outer,H b=none
 hok:cL P w H s.heap
 bare:AllBare s.gens
def CE(outer:List Env)(P:Program)(w:World)(H:Hp)(s:Shared)(Q:VK)(u:Value)(s':Shared):Prop :=
 ∃v H',s'.os=s.os/\AllBare s'.gens/\Un (frs outer) [] H H' s.heap s'.heap/\cL P w H' s'.heap/\RelV v u/\Q v H'
def CR(CX:iz)(outer:List Env)(P:Program)(w:World)(H:Hp)(s:Shared)(Q:VK)(E:XK)(r:Result)(s':Shared):Prop :=
 match r with
 |.ok (.ret u)=>CE outer P w H s Q u s'
 |.ok _=>False
 |.error e=>CX outer H s E e s'
structure jf(P:Program)(w:World)(K:FZ)(mg:Str->Option Value)(base:Heap)(CX:iz)(k:Nat)(f:Addr)(fd:FuncData)(ps:List Str)(sp:Sp):Prop where
 len:∀vs H Q E,sp vs H Q E->vs.length=ps.length
 run:∀(A:Around) (outer:List Env) (s:Shared) (H:Hp) (args:Args) (us:List Value) (vs:List V) (Q:VK) (E:XK),dW k A->yZ P w K mg base A outer s H->BindsTo s fd args (ps.zip us)->Vals vs us->sp vs H Q E ->
  codeAny (model P w) A (.call (.ref f) args) (CR CX outer P w H s Q E) s
theorem jf.mono{P:Program}{w:World}{K:FZ}{mg:Str->Option Value}{base:Heap}{CX:iz}{j k:Nat}{f:Addr}{fd:FuncData}{ps:List Str}{sp:Sp}(F:jf P w K mg base CX j f fd ps sp)(h:j<=k) :
  jf P w K mg base CX k f fd ps sp:=⟨F.len,λA outer s H args us vs Q E hr=>F.run A outer s H args us vs Q E (hr.mono h)⟩
theorem jf.imp{P:Program}{w:World}{K:FZ}{mg:Str->Option Value}{base:Heap}{CX:iz}{k:Nat}{f:Addr}{fd:FuncData}{ps:List Str}{sp Qo:Sp}(F:jf P w K mg base CX k f fd ps sp)
  (h:∀vs H Q E,Qo vs H Q E->sp vs H Q E):jf P w K mg base CX k f fd ps Qo :=
 ⟨λvs H Q E q=>F.len vs H Q E (h _ _ _ _ q),λA outer s H args us vs Q E hr he hb hv hs=>F.run A outer s H args us vs Q E hr he hb hv (h _ _ _ _ hs)⟩
section
variable {X:Cx}{pins:LO}{σ : St}{H:Hp}{s s':Shared}
theorem Inv.env0(I:Inv X pins σ H s):yZ X.prog X.w X.K X.mg X.base X.A X.stack s H :=
 ⟨I.ok.frames,I.ok.mod,I.bs,Nat.le_trans I.ok.oM I.sz,I.stack,I.yH,I.hok,I.bare⟩
theorem Inv.after(I:Inv X pins σ H s)(h:CE X.stack X.prog X.w H s Q u s'):EP X pins σ Q u s':=by
 obtain⟨v,H',os,bare,un,hok,r,q⟩:=h
 obtain⟨hh,g,d,t,os'⟩:=s'
 obtain rfl:os'=s.os:=os
 exact⟨v,H',I.call (h':=hh) (g':=g) (d':=d) (t':=t) (ch:=[]) un hok bare (λb z=>absurd z (by simp)),r,q⟩
end
def Fb(sp:Sp)(oY:List V)(E:XK)(t:TA):TE:=λσ H Q=>t σ H λvs H1=>sp (vs++oY) H1 Q E
def Binds(K:FZ)(fd:FuncData)(ps:List Str)(ds:List Value):Prop :=
 ∀(s:Shared) (us:List Value),K.In s.heap->(us++ds).length=ps.length->BindsTo s fd ⟨us,[]⟩ (ps.zip (us++ds))
theorem Binds.all{K:FZ}{fd:FuncData}{ps:List Str}(h:∀us:List Value,us.length=ps.length->bindArgs fd ⟨us,[]⟩=pure (ps.zip us)):Binds K fd ps []:=λs us _ hl=>by
 rw[List.append_nil]at hl ⊢
 exact .of_eq (h us hl)
def Passes(CX:iz)(X:Cx)(E:XK):Prop:=∀(pins:LO) (σ : St) (H:Hp) (s:Shared) (e:Value) (s':Shared),Inv X pins σ H s->CX X.stack H s E e s'->X.xe e s'
section
variable {X:Cx}{CX:iz}{k:Nat}{f C:Addr}{fd:FuncData}{ps:List Str}{sp:Sp}{oY:List V}{ds:List Value}{E:XK}{x m:Str}{p pos apos:Pos}{e o:Expr}{es:List Expr}{ta:TE}{t:TA}
theorem acH(F:jf X.prog X.w X.K X.mg X.base CX k f fd ps sp)(hr:dW k X.A)(hb:Binds X.K fd ps ds)(hd:Vals oY ds)(hx:Passes CX X E)
  (I:Inv X pins σ H s) (r:Vals vs us) (h:sp (vs++oY) H Q E):wpAny (model X.prog X.w) X.A (call (.ref f) us) (EP X pins σ Q) X.xe s:=by
 have r2:Vals (vs++oY) (us++ds):=r.append hd
 have hl:(us++ds).length=ps.length:=by rw[<-r2.length]; exact F.len _ _ _ _ h
 refine wpAny_call (codeAny_mono (F.run X.A X.stack s H ⟨us,[]⟩ (us++ds) (vs++oY) Q E hr I.env0 (hb s us I.iy hl) r2 h) λr s' hq=>?_)
 cases r with
 |error e=>exact hx pins σ H s e s' I hq
 |ok fl =>
  cases fl with
  |ret u=>exact I.after hq
  |next=>exact False.elim hq
  |brk=>exact False.elim hq
  |cont=>exact False.elim hq
theorem Qp(F:jf X.prog X.w X.K X.mg X.base CX k f fd ps sp)(hr:dW k X.A)(hg:Gl X x)(hm:X.mg x=some (.ref f))(hk:PySem.W.keepIn X.K (.ref f)=true)(hb:Binds X.K fd ps ds)(hd:Vals oY ds)(hx:Passes CX X E)
  (ha:PA X (e::es) t) (hdb:(x == ("__debug__" : Str))=false:=by decide) (he:starEach (e::es) X.env=(false,eval e X.env)::starEach es X.env:=by rfl) (hpl:(backTo pos (starEach es X.env)).any (·.1)=false:=by rfl) :
  PE X (.Call (.Name x p) (e::es) [] pos) (Fb sp oY E t):=by
 refine⟨λpins s σ H Q I h=>?_⟩
 refine wpAny_Call_Name_kw (Ea I hg hm ?_ hdb)
 refine PySem.W.callWith_K (h₀ := X.base) I.ok.mod.DY hk (aD (ha pos pins s σ H _ I h) λus s1 ⟨vs,H1,I1,r,q⟩=>⟨I1.iy,?_⟩) he hpl
 exact acH F hr hb hd hx I1 r q
end
structure rT(N P:List Str)(sc:Scope):Prop where
 kind:sc.kind=.function
 co:sc.isCoroutine=false
 gen:sc.isGenerator=false
 nd:N.Nodup
 pre:N.take P.length=P
 par:∀x∈P,sc.names.lookup x=some .local\/sc.names.lookup x=some .cell
 acI:∀y∈sc.names,y.2 ≠ .free
theorem Qq{kindOf:Str->Option NameKind}{x:Str}:∀{binds:List (Str × Value)} {m:Str->Option Value},(∀v,(x,v)∉binds)->bindL kindOf binds m x=m x
 | [],_,_=>rfl
 |(n,v)::r,m,h=>by
  unfold bindL
  rw[Qq λw hw=>h w (List.mem_cons_of_mem _ hw)]
  split
  .have:x≠n:=by rintro rfl; exact h v List.mem_cons_self
   simp[this]
  .rfl
theorem Qs{kindOf:Str->Option NameKind}{x:Str}:∀{binds:List (Str × Value)} {m:Str->Option Value},(∀v,(x,v)∉binds)->bindC kindOf binds m x=m x
 | [],_,_=>rfl
 |(n,v)::r,m,h=>by
  unfold bindC
  rw[Qs λw hw=>h w (List.mem_cons_of_mem _ hw)]
  split
  .rfl
  .have:x≠n:=by rintro rfl; exact h v List.mem_cons_self
   simp[this]
theorem Qt{kindOf:Str->Option NameKind}{x:Str}{v:Value}:∀{P:List Str} {vs:List Value} {i:Nat} {m:Str->Option Value},P.Nodup->P[i]?=some x->vs[i]?=some v->kindOf x=some .local ->
  bindL kindOf (P.zip vs) m x=some v
 | [],_,_,_,_,h,_,_=>by simp at h
 |_::_,[],_,_,_,_,h,_=>by simp at h
 |p::P,w::vs,0,m,nd,h1,h2,hk=>by
  simp at h1 h2; subst h1; subst h2
  show bindL kindOf ((p,w)::P.zip vs) m p=_
  unfold bindL
  rw[Qq λv hv=>(List.nodup_cons.mp nd).1 (List.of_mem_zip hv).1,if_pos hk]
  simp
 |p::P,w::vs,i+1,m,nd,h1,h2,hk=>by
  show bindL kindOf ((p,w)::P.zip vs) m x=_
  unfold bindL
  exact Qt (i:=i) (List.nodup_cons.mp nd).2 (by simpa using h1) (by simpa using h2) hk
theorem Qu{kindOf:Str->Option NameKind}{x:Str}{v:Value}:∀{P:List Str} {vs:List Value} {i:Nat} {m:Str->Option Value},P.Nodup->P[i]?=some x->vs[i]?=some v->kindOf x≠some .local ->
  bindC kindOf (P.zip vs) m x=some v
 | [],_,_,_,_,h,_,_=>by simp at h
 |_::_,[],_,_,_,_,h,_=>by simp at h
 |p::P,w::vs,0,m,nd,h1,h2,hk=>by
  simp at h1 h2; subst h1; subst h2
  show bindC kindOf ((p,w)::P.zip vs) m p=_
  unfold bindC
  rw[Qs λv hv=>(List.nodup_cons.mp nd).1 (List.of_mem_zip hv).1,if_neg hk]
  simp
 |p::P,w::vs,i+1,m,nd,h1,h2,hk=>by
  show bindC kindOf ((p,w)::P.zip vs) m x=_
  unfold bindC
  exact Qu (i:=i) (List.nodup_cons.mp nd).2 (by simpa using h1) (by simpa using h2) hk
noncomputable def start(N:List Str)(vs:List V):St:=vs.map some++List.replicate (N.length-vs.length) none
noncomputable def iB(CX:iz)(P:Program)(w:World)(K:FZ)(mg:Str->Option Value)(base:Heap)(N:List Str)(qual:Str)(scope:Scope)(f:Addr)(cd:Value)(A:Around)(outer:List Env)(s:Shared)(H:Hp)(E:XK):Cx where
 prog:=P
 w:=w
 K:=K
 mg:=mg
 base:=base
 A:=A.deeper (envOfC qual scope s.heap.objs.size f cd)
 N:=N
 s₀ := s
 H₀ := H
 env:=envOfC qual scope s.heap.objs.size f cd
 outer:=outer
 stack:=envOfC qual scope s.heap.objs.size f cd::outer
 ex:=[]
 calm:=true
 fn:=λ_=>true
 pn:=[]
 xe:=λe s'=>wpAny (model P w) (A.deeper (envOfC qual scope s.heap.objs.size f cd)) (leaving (envOfC qual scope s.heap.objs.size f cd) e) (λ_ s''=>CX outer H s E e s'') (λe' s''=>CX outer H s E e' s'') s'
theorem Qv{sc:Scope}{n:Nat}{x:Str}(h:sc.names.lookup x=some .cell):∃c,(cellsFrom n sc.names []).lookup x=some c:=by
 have q:=PySem.W.cellsFrom_some sc.names n [] (.inl h)
 exact Option.isSome_iff_exists.mp q
theorem acJ{CX:iz}{P:Program}{w:World}{K:FZ}{mg:Str->Option Value}{base:Heap}{N ps:List Str}{qual:Str}{scope:Scope}{f:Addr}{cd:Value}{A:Around}{outer:List Env}{s s1:Shared}{H:Hp}{E:XK}{us:List Value}{vs:List V}
  (S:rT N ps scope) (hd:A.handled=none) (e0:yZ P w K mg base A outer s H) (hl:vs.length=ps.length) (r:Vals vs us)
  (x:InCallC s s.heap.objs.size (bindL (envOfC qual scope s.heap.objs.size f cd).kindOf (ps.zip us) λ_=>none) (cellsFrom (s.heap.objs.size+1) scope.names []) (bindC (envOfC qual scope s.heap.objs.size f cd).kindOf (ps.zip us) λ_=>none) s1) :
  Inv (iB CX P w K mg base N qual scope f cd A outer s H E) [] (start N vs) H s1:=by
 have hpl:ps.length<=N.length:=by have:=congrArg List.length S.pre; rw[List.length_take]at this; lia
 obtain⟨h1,tk,rfl,hk⟩:=x.done
 have vd:∀b:Addr,b∉(iB CX P w K mg base N qual scope f cd A outer s H E).ex:=λb z=>absurd (show b∈([]:List Addr)from z) (by simp)
 refine⟨⟨e0.mod,S.kind,rfl,rfl,Nat.le_refl _,λy z c h1 h2=>?_,λy hy=>?_,λy c _ h=>?_,λ_=>hd,Around.frames_deeper e0.frames,.inr ⟨rfl,rfl⟩,λb z=>absurd z (vd b),e0.bs,e0.oM,λb _ _=>vd b,λb z=>absurd z (vd b),e0.jB,e0.ql⟩,
  rfl,e0.bare,Un.kept hk,⟨_,x.toInCall.ns,λi y v h1 h2 h3=>?_⟩,λy c h=>⟨_,x.cell y c h⟩,e0.hok.fresh (Nat.le_refl _),λy c h=>?_,λp hp=>absurd (show p∈([]:LO)from hp) (by simp),e0.hok.kept hk,?_⟩
 .exact name_of_addr x.apart (PySem.mem_of_lookup h1) (PySem.mem_of_lookup h2)
 .have hy:scope.names.lookup y=some .cell\/scope.names.lookup y=some .free:=hy
  rcases hy with hy|hy
  .exact Qv hy
  .exact absurd rfl (S.acI _ (PySem.mem_of_lookup hy))
 .exact Nat.le_of_lt (x.above y c (PySem.mem_of_lookup h))
 .have hi:i<vs.length:=by
   unfold start at h2
   by_cases hi:i<vs.length
   .exact hi
   .rw[List.getElem?_append_right (by simpa using hi)]at h2
    rw[List.getElem?_replicate]at h2
    split at h2 <;> cases h2
  have ha:vs[i]?=some v:=by
   unfold start at h2
   rw[List.getElem?_append_left (by simpa using hi),List.getElem?_map]at h2
   cases e:vs[i]? with
   |none=>rw[e]at h2; cases h2
   |some a=>rw[e]at h2; cases h2; rfl
  obtain⟨u,hu,rv⟩:=r.get ha
  have hp:ps[i]?=some y:=by
   rw[<-S.pre,List.getElem?_take_of_lt (by lia)]; exact h1
  have Qw:ps.Nodup:=by rw[<-S.pre]; exact S.nd.sublist (List.take_sublist _ _)
  refine⟨u,rv,?_⟩
  rcases S.par y (List.mem_of_getElem? hp)with k|k
  .exact .inl ⟨k,Qt Qw hp hu k⟩
  .obtain⟨c,e⟩:=Qv (n:=s.heap.objs.size+1) k
   refine .inr ⟨.inl k,c,e,?_⟩
   have q:=x.cell y c e
   rw[Qu Qw hp hu (by show scope.names.lookup y≠_; rw[k]; decide)]at q
   exact q
 .exact e0.hok.fresh (Nat.le_of_lt (x.above y c (PySem.mem_of_lookup h)))
 .unfold start
  show _=N.length
  rw[List.length_append,List.length_map,List.length_replicate]
  lia
theorem Qx{CX:iz}{P:Program}{w:World}{K:FZ}{mg:Str->Option Value}{base:Heap}{k:Nat}{f:Addr}{name qual:Str}{params:Arguments}{body:List Stmt}{scope:Scope}{dV kV doc pm cdv ct oc:Value}{an od:Option Addr}
  {osl:Array (Option Value)} {N ps:List Str} {sp:Sp} (lk:K.lookup f=some ⟨oc,od,.func (PySem.W.fnOf name qual params body scope dV kV doc pm an cdv ct),osl⟩) (hcd:PySem.W.codeIn K cdv qual=true) (S:rT N ps scope)
  (len:∀vs H Q E,sp vs H Q E->vs.length=ps.length)
  (hbody:∀(A:Around) (outer:List Env) (s:Shared) (H:Hp) (vs:List V) (Q:VK) (E:XK),dW k (A.deeper (envOfC qual scope s.heap.objs.size f cdv))->sp vs H Q E ->
   ∃t,eE (iB CX P w K mg base N qual scope f cdv A outer s H E) body t/\t {nx:=λ_ H'=>Q .non H',rt:=Q } (start N vs) H) :
  jf P w K mg base CX (k+1) f (PySem.W.fnOf name qual params body scope dV kV doc pm an cdv ct) ps sp:=by
 refine⟨len,λA outer s H args us vs Q E hr e0 hb r hsp=>?_⟩
 have hl:=len _ _ _ _ hsp
 have KX:K.In s.heap:=e0.mod.DY.keeps λb o e=>(e0.bs b o e).1
 have lim:s.heap.NoLimit:=e0.mod.nolimit.keeps λb o e=>(e0.bs b o e).1
 have hkind:∀y∈ps.zip us,scope.names.lookup y.1=some .local\/(scope.names.lookup y.1=some .cell/\((cellsFrom (s.heap.objs.size+1) scope.names []).lookup y.1).isSome=true):=λ⟨n,v⟩ hy=>by
  rcases S.par n (List.of_mem_zip hy).1 with q|q
  .exact .inl q
  .exact .inr ⟨q,PySem.W.cellsFrom_some _ _ _ (.inl q)⟩
 refine codeAny_call_function hr.depth (KX _ _ lk) rfl S.co S.gen rfl (PySem.W.codeRec_of KX hcd) (hb _ _ _ _ ?_)
 refine wpAny_newFunctionEnv_cells S.kind hkind λenv he s1 x=>?_
 subst he
 refine⟨lim.keeps x.toInCall.keep,codeAny_func ?_⟩
 obtain⟨t,ht,hq⟩:=hbody A outer s H vs Q E (hr.deeper _) hsp
 have I:Inv (iB CX P w K mg base N qual scope f cdv A outer s H E) [] (start N vs) H s1:=acJ S hr.hd e0 hl r x
 refine wpAny_mono (ht [] s1 (start N vs) H _ I hq) (λfl s' hs=>?_) λe s' hs=>hs
 have fin:∀{σ':St} {H':Hp} {v:V} {u:Value},Inv (iB CX P w K mg base N qual scope f cdv A outer s H E) [] σ' H' s'->RelV v u->Q v H'->CE outer P w H s Q u s' :=
  λ{σ' H' v u} J rv q=>⟨v,H',J.os,J.bare,J.base,J.hok,rv,q⟩
 cases fl with
 |ret u =>
  obtain⟨v,σ',H',J,rv,q⟩:=hs
  exact fin J rv q
 |next =>
  obtain⟨σ',H',J,q⟩:=hs
  exact fin (v:=V.non) (u:=Value.none) J rfl q
 |brk =>
  obtain⟨_,_,_,q⟩:=hs
  exact False.elim q
 |cont =>
  obtain⟨_,_,_,q⟩:=hs
  exact False.elim q
section
variable {X:Cx}{x:Str}{p pos:Pos}{e:Expr}{es:List Expr}{t:TA}{id T:String}{r:List V->Hp->VK->Prop}
def zf(r:List V->Hp->VK->Prop)(t:TA):TE:=λσ H Q=>t σ H λvs H1=>r vs H1 Q
theorem Qy(hc:fL X (.builtin id) r)(hg:Gl X x)(hm:X.mg x=none)(hv:bootBuiltins x=some (.builtin id))(ha:PA X (e::es) t)(hn:x ≠ "__name__" := by decide) (hdb:(x == ("__debug__" : Str))=false:=by decide)
  (he:starEach (e::es) X.env=(false,eval e X.env)::starEach es X.env:=by rfl) (hpl:(backTo pos (starEach es X.env)).any (·.1)=false:=by rfl):PE X (.Call (.Name x p) (e::es) [] pos) (zf r t):=by
 refine⟨λpins s σ H Q I h=>?_⟩
 refine wpAny_Call_Name_kw (jT I hg hm hv ?_ hn hdb)
 exact PyProof.Rows.callWith_builtin1 (aD (ha pos pins s σ H _ I h) λus s1 ⟨vs,H1,I1,r1,q1⟩=>hc pins s1 σ H1 vs us Q I1 r1 q1) he hpl
theorem acK(hc:fL X (.type T) r)(hg:Gl X x)(hm:X.mg x=none)(hv:bootBuiltins x=some (.type T))(ha:PA X (e::es) t)(hn:x ≠ "__name__" := by decide) (hdb:(x == ("__debug__" : Str))=false:=by decide)
  (he:starEach (e::es) X.env=(false,eval e X.env)::starEach es X.env:=by rfl) (hpl:(backTo pos (starEach es X.env)).any (·.1)=false:=by rfl):PE X (.Call (.Name x p) (e::es) [] pos) (zf r t):=by
 refine⟨λpins s σ H Q I h=>?_⟩
 refine wpAny_Call_Name_kw (jT I hg hm hv ?_ hn hdb)
 exact PyProof.Rows.callWith_type1 (aD (ha pos pins s σ H _ I h) λus s1 ⟨vs,H1,I1,r1,q1⟩=>hc pins s1 σ H1 vs us Q I1 r1 q1) he hpl
end
end L2
namespace HT
open PySem PyProof.Rows
noncomputable def lexLt:List Int->List Int->Bool
 | [],[]=>false
 | [],_::_=>true
 |_::_,[]=>false
 |x::xs,y::ys=>if x=y then lexLt xs ys else decide (x<y)
theorem acL(x y:Int)(xs ys:List Int):lexLt (x::xs) (y::ys)=if x=y then lexLt xs ys else decide (x<y):=rfl
theorem acM:lexLt [] []=false:=rfl
theorem acN(y:Int)(ys:List Int):lexLt [] (y::ys)=true:=rfl
theorem acO(x:Int)(xs:List Int):lexLt (x::xs) []=false:=rfl
theorem acP(A:Around)(s:Shared)(a:Int)(t:Tok)(c:Int)(u:Tok):∃e,SeqAt.EqAt A s (.int a t) (.int c u) e/\(e=true↔a=c) :=
 ⟨(a == c),SeqAt.EqAt.int_int a t c u,by simp⟩
theorem acQ(A:Around)(s:Shared)(a:Int)(t:Tok)(c:Int)(u:Tok)(prog:Program)(w:World)(E:Value->Shared->Prop)(Q:Value->Shared->Prop)(h:Q (.bool (decide (a<c))) s) :
  wpAny (model prog w) A (richCompare .Lt (.int a t) (.int c u)) Q E s :=
 (PyProof.Rows.lt_int h:wpAny (model prog w) A (compareOp .Lt (.int a t) (.int c u)) Q E s)
section
open PySem.SeqAt
open PySem.AutoSeq1 (wpAny_loadPart')
open PySem.MeetsSeq PySem.MeetsSeq2 PySem.MeetsSeq3
theorem acR(l b:Addr)(items items2:Array Value)(n n2:Nat)(dd dd2:Option Addr)(sl sl2:Array (Option Value))(ns ms:List Int)(hi:IntsAre items.toList ns)(hj:IntsAre items2.toList ms) :
  Meets (Builtin.«tuple.__lt__» ⟨[.ref l,.ref b],[]⟩)
   (λ_ R s=>s.heap.get? l=some {cls:=.type "tuple",dict:=dd,data:=.seq items n,slots:=sl }∧s.heap.get? b=some {cls:=.type "tuple",dict:=dd2,data:=.seq items2 n2,slots:=sl2 } ∧
    R (.ok (.ret (.bool (lexLt ns ms)))) s) :=
 .of_wp λprog w A R s h=>by
  obtain⟨hp,g,d,tk,os⟩:=s; obtain⟨hl,hb,h⟩:=h
  have f2:=AutoSeq1.sub_tuple_tuple
  have z1:items.size=ns.length:=by rw[<-hi.length]; simp
  have z2:items2.size=ms.length:=by rw[<-hj.length]; simp
  wp_walk using wpAny_loadPart' hl,wpAny_loadPart' hb,wpAny_forIn_list _ (λrest b s'=>b.1=none/\s'=⟨hp,g,d,tk,os⟩/\∃(vs ws:List Value) (ns' rW:List Int),rest=vs.zip ws /\
   IntsAre vs ns'/\IntsAre ws rW/\ns'.length+items2.size=rW.length+items.size/\R (.ok (.ret (.bool (lexLt ns' rW)))) ⟨hp,g,d,tk,os⟩) _
  case turn =>
   rintro⟨y,x⟩ rest b s' ⟨hb',rfl,vs,ws,ns',rW,hz,Fd,hwi,hlen,hR⟩
   cases Fd with
   |nil=>rw[List.zip_nil_left]at hz; cases hz
   |cons a t acS =>
    cases hwi with
    |nil=>rw[List.zip_nil_right]at hz; cases hz
    |cons c u acT =>
     rw[List.zip_cons_cons]at hz
     injection hz with hyx hrest
     injection hyx with hy hx
     subst hy hx
     rw[acL]at hR
     simp only[List.length_cons]at hlen
     obtain⟨e,he,hiff⟩:=acP A.in1 ⟨hp,g,d,tk,os⟩ a t c u
     refine wpAny_bind (he prog w _ _ ?_)
     cases e with
     |true =>
      rw[if_pos (hiff.mp rfl)]at hR
      wp_walk
      exact⟨rfl,rfl,_,_,_,_,hrest,acS,acT,by lia,hR⟩
     |false =>
      rw[if_neg (λq=>absurd (hiff.mpr q) Bool.false_ne_true)]at hR
      have hri:=acQ A.in1 ⟨hp,g,d,tk,os⟩ a t c u prog w
      wp_walk using hri
      exact⟨_,rfl,by simpa using hR⟩
  case fin =>
   rintro⟨b1,b2⟩ s' ⟨hb',rfl,vs,ws,ns',rW,hz,Fd,hwi,hlen,hR⟩
   simp only at hb'
   subst hb'
   have hv:lexLt ns' rW=decide (items.size<items2.size):=by
    cases Fd with
    |nil =>
     cases hwi with
     |nil =>
      simp only[List.length_nil]at hlen
      rw[acM]
      exact(decide_eq_false (by lia)).symm
     |cons c u hw =>
      simp only[List.length_nil,List.length_cons]at hlen
      rw[acN]
      exact(decide_eq_true (by lia)).symm
    |cons a t hv =>
     cases hwi with
     |nil =>
      simp only[List.length_nil,List.length_cons]at hlen
      rw[acO]
      exact(decide_eq_false (by lia)).symm
     |cons c u hw =>
      rw[List.zip_cons_cons]at hz
      cases hz
   rw[hv]at hR
   wp_walk
   exact⟨_,rfl,by simpa[Builtin.Tuple.tupleCompareSizes]using hR⟩
  case h =>
   exact⟨rfl,rfl,items.toList,items2.toList,ns,ms,rfl,hi,hj,by lia,h⟩
end
section
variable {prog:Program}{w:World}{A:Around}{E:Value->Shared->Prop}{s:Shared}
theorem acU(hl:IsTup s.heap l items)(hb:IsTup s.heap b items2)(hi:IntsAre items.toList ns)(hj:IntsAre items2.toList ms)
  (hu:A.units<cLine) (h:Q (.bool (lexLt ns ms)) s):wpAny (model prog w) A (compareOp .Lt (.ref l) (.ref b)) Q E s:=by
 obtain⟨⟨cls,dd,data,sl⟩,ho,hc,n,hd⟩:=id hl
 obtain⟨⟨cls2,dd2,data2,sl2⟩,ho2,hc2,n2,hd2⟩:=id hb
 simp only at hc hd hc2 hd2
 subst hc hd hc2 hd2
 exact richCompare_meets_room (op:=.Lt) ⟨_,ho,rfl⟩ ⟨_,ho2,rfl⟩ PySem.F.slot_tuple_lt PySem.F.entry_tuple_lt (PySem.F.args_tuple_lt_2 _ _) (acR l b items items2 n n2 dd dd2 sl sl2 ns ms hi hj)
  ⟨ho,ho2,show Value.bool (lexLt ns ms)≠Value.notImplemented/\Q (.bool (lexLt ns ms)) s from⟨(λx=>nomatch x),h⟩⟩ hu
theorem acV(ht:IsTup s.heap t vs.toArray)(hb:IsTup s.heap b ws.toArray)(hv:vs≠[])
  (h1:ws=[]->Q (.ref t) s) (h2:ws≠[]->Q (.ref s.heap.objs.size) {s with heap:=s.heap.push {cls:=.type "tuple",data:=.seq (vs++ws).toArray } })
  (hsz:vs.length+ws.length<=sizeLine):wpAny (model prog w) A (binaryOp .Add (.ref t) (.ref b)) Q E s:=by
 obtain⟨⟨cls,dd,data,sl⟩,ho,hc,n,hd⟩:=id ht
 obtain⟨⟨cls2,dd2,data2,sl2⟩,ho2,hc2,n2,hd2⟩:=id hb
 simp only at hc hd hc2 hd2
 subst hc hd hc2 hd2
 have e:vs.toArray++ws.toArray=(vs++ws).toArray:=by simp
 by_cases hw:ws=[]
 .exact concat_meets ⟨_,ho,rfl⟩ ⟨_,ho2,rfl⟩ noFill_tuple_add seq_tuple_add PySem.F.slot_tuple_add PySem.F.entry_tuple_add (PySem.F.args_tuple_add_2 _ _)
   (tuple_addW1 t b vs.toArray ws.toArray n n2 dd dd2 sl sl2 (by simpa using hv) (by simp[hw])) ⟨ho,ho2,h1 hw⟩
 .refine concat_meets ⟨_,ho,rfl⟩ ⟨_,ho2,rfl⟩ noFill_tuple_add seq_tuple_add PySem.F.slot_tuple_add PySem.F.entry_tuple_add (PySem.F.args_tuple_add_2 _ _)
   (tuple_addW2 t b vs.toArray ws.toArray n n2 dd dd2 sl sl2 (by simpa using hv) (by simpa using hw) (by rw[List.size_toArray,List.size_toArray]; exact hsz)) ⟨ho,ho2,?_⟩
  rw[e]
  exact h2 hw
noncomputable def aR(n d:Nat):Option Int->Nat
 |none=>d
 |some v=>if v<0 then(v+(n:Int)).toNat else min v.toNat n
theorem acW(n d:Nat)(hd:d<=n)(o:Option Int):aR n d o<=n:=by
 cases o with
 |none=>exact hd
 |some v =>
  show(if v<0 then(v+(n:Int)).toNat else min v.toNat n)<=n
  by_cases hv:v<0
  .rw[if_pos hv]; lia
  .rw[if_neg hv]; exact Nat.min_le_right _ _
theorem Qz(v:Int)(n d:Nat):(if v<0 then max (v+(n:Int)) 0 else min v (n:Int))=((aR n d (some v):Nat):Int):=by
 show(if v<0 then max (v+(n:Int)) 0 else min v (n:Int))=(((if v<0 then(v+(n:Int)).toNat else min v.toNat n):Nat):Int)
 by_cases hv:v<0
 .simp only[if_pos hv]; lia
 .simp only[if_neg hv]; lia
theorem acX(lo hi:Option Int)(n:Nat):Builtin.Slice.sliceAdjust lo hi 1 (n:Int)=(((aR n 0 lo:Nat):Int),((aR n n hi:Nat):Int)):=by
 have h1:¬((1:Int)<0):=by lia
 unfold Builtin.Slice.sliceAdjust
 simp only[h1,if_false]
 refine Prod.ext ?_ ?_
 .cases lo with
  |none=>rfl
  |some v=>exact Qz v n 0
 .cases hi with
  |none=>rfl
  |some v=>exact Qz v n n
theorem acY(i j:Nat):Builtin.Slice.slicePlaces (i:Int) (j:Int) 1=j-i:=by
 unfold Builtin.Slice.slicePlaces
 have h1:(1:Int) > 0:=by lia
 simp only[h1,if_true,Int.ediv_one]
 split <;> lia
theorem QB(p:IsPart v o)(h:Q o s):wpAny (model prog w) A (Builtin.Slice.slicePartIndex v) Q E s:=by
 cases p with
 |none=>exact slicePart_none h
 |int i t=>exact slicePart_int h
theorem acZ{sl:Addr}{vl vu:Value}{lo hi:Option Int}{n:Nat}{Q:Int × Int × Nat->Shared->Prop}(hs:s.heap.IsSliceOf sl vl vu .none)(pl:IsPart vl lo)(pu:IsPart vu hi)
  (h:Q (((aR n 0 lo:Nat):Int),1,aR n n hi-aR n 0 lo) s):wpAny (model prog w) A (Builtin.Slice.sliceApplied (.ref sl) (pure (n:Int))) Q E s:=by
 obtain⟨os,hos,hcs,hds⟩:=id hs
 unfold Builtin.Slice.sliceApplied Builtin.Slice.sliceFields
 refine wpAny_bind (wpAny_bind (wpAny_field hos hds (x:=vl) rfl (wpAny_bind (wpAny_field hos hds (x:=vu) rfl (wpAny_bind (wpAny_field hos hds (x:=.none) rfl (wpAny_pure ?_)))))))
 refine wpAny_bind (slicePart_none ?_)
 show wpAny _ _ (if((1:Int) == 0)=true then _ else _) _ _ s
 rw[if_neg (by decide)]
 refine wpAny_bind (QB pl (wpAny_bind (QB pu (wpAny_bind (wpAny_pure ?_)))))
 show wpAny _ _ (match Builtin.Slice.sliceAdjust lo hi 1 (n:Int)with|(lo,hi)=>pure (lo,(1:Int),Builtin.Slice.slicePlaces lo hi 1)) _ _ s
 rw[acX lo hi n]
 show wpAny _ _ (pure (((aR n 0 lo:Nat):Int),(1:Int),Builtin.Slice.slicePlaces ((aR n 0 lo:Nat):Int) ((aR n n hi:Nat):Int) 1)) _ _ s
 rw[acY]
 exact wpAny_pure h
theorem ac0(xs:Array Value)(i k:Nat):((List.range k).filterMap λ(m:Nat)=>xs[((i:Int)+(m:Int)*1).toNat]?).toArray=((xs.toList.drop i).take k).toArray:=by
 have e:(λ(m:Nat)=>xs[((i:Int)+(m:Int)*1).toNat]?)=λm=>xs[i+m]? := by
  funext m
  have:((i:Int)+(m:Int)*1).toNat=i+m:=by lia
  rw[this]
 rw[e]
 have:=pick_run xs i k
 rw[List.filterMap_map]at this
 have e2:((λx=>xs[x]?) ∘ λx=>i+x)=λm=>xs[i+m]? := rfl
 rw[e2]at this
 rw[this]
theorem ac1{t sl:Addr}{items:Array Value}{vl vu:Value}{lo hi:Option Int}{Q:Value->Shared->Prop}(ht:IsTup s.heap t items)(hs:s.heap.IsSliceOf sl vl vu .none)(pl:IsPart vl lo)(pu:IsPart vu hi)
  (hw:¬(aR items.size 0 lo=0/\aR items.size items.size hi=items.size))
  (h:Q (.ref s.heap.objs.size) {s with heap:=s.heap.push {cls:=.type "tuple",data:=.seq ((items.toList.drop (aR items.size 0 lo)).take (aR items.size items.size hi-aR items.size 0 lo)).toArray } })
  (hsz:items.size<=sizeLine):wpAny (model prog w) A (getItem (.ref t) (.ref sl)) Q E s:=by
 have zj:sizeOk (.seq ((items.toList.drop (aR items.size 0 lo)).take (aR items.size items.size hi-aR items.size 0 lo)).toArray):=by
  show((items.toList.drop (aR items.size 0 lo)).take (aR items.size items.size hi-aR items.size 0 lo)).toArray.size<=sizeLine
  rw[List.size_toArray,List.length_take,List.length_drop,Array.length_toList]
  lia
 have hj:aR items.size items.size hi<=items.size:=acW _ _ (Nat.le_refl _) hi
 obtain⟨os,hos,hcs,hds⟩:=id hs
 have hTs:s.TypeIs (.ref sl) "slice" := ⟨os,hos,hcs⟩
 unfold getItem
 try with_reducible refine wpAny_holding ?_
 first|refine wpAny_bind (wpAny_pure ?_)|skip
 refine wpAny_bind (wpAny_sequenceKey ht.typeIs (by decide) ?_)
 refine wpAny_bind (wpAny_callSpecial?_slot (name:=Str.ofString "__getitem__") ht.typeIs PyProof.Rows.slot_tuple_getitem
  (wpAny_call_entry PyProof.Rows.slot_tuple_getitem ht.typeIs entry_tuple_getitem ?_ (args_tuple_getitem _ _)))
 show wpAny _ _ (Builtin.Tuple.tupleItemsOf (.ref t) >>= _) _ _ s
 refine wpAny_bind (tupleItemsOf_ ht ?_)
 refine wpAny_bind (wpAny_typeOf hTs ?_)
 rw[if_pos (by decide)]
 refine wpAny_bind (acZ hs pl pu ?_)
 have hno:¬((((aR items.size 0 lo:Nat):Int) == 0&&(1:Int) == 1&&(aR items.size items.size hi-aR items.size 0 lo) == items.size)=true):=by
  intro q
  rw[Bool.and_eq_true,Bool.and_eq_true]at q
  have q1:((aR items.size 0 lo:Nat):Int)=0:=eq_of_beq q.1.1
  have q2:aR items.size items.size hi-aR items.size 0 lo=items.size:=eq_of_beq q.2
  exact hw ⟨by lia,by lia⟩
 show wpAny _ _ (if(((aR items.size 0 lo:Nat):Int) == 0&&(1:Int) == 1&&(aR items.size items.size hi-aR items.size 0 lo) == items.size)=true then _ else _) _ _ s
 rw[if_neg hno,ac0]
 first
  |exact wpAny_bind (m:=Builtin.Tuple.tupleExact _) (wpAny_newObj_type (wpAny_pure ⟨_,rfl,wpAny_pure h⟩) zj)
  |exact wpAny_bind (m:=Builtin.Tuple.tupleExact _) (wpAny_newObj_type (wpAny_bind (wpAny_pure (wpAny_pure ⟨_,rfl,wpAny_pure h⟩))) zj)
  |exact wpAny_bind (wpAny_bind (m:=Builtin.Tuple.tupleExact _) (wpAny_newObj_type (wpAny_pure (wpAny_pure ⟨_,rfl,wpAny_pure h⟩)) zj))
  |exact wpAny_bind (wpAny_bind (m:=Builtin.Tuple.tupleExact _) (wpAny_newObj_type (wpAny_pure ⟨_,rfl,wpAny_pure h⟩) zj))
end
end HT
namespace L2
open PySem PySem.Spec PyProof.Rows
abbrev TO:=St->Hp->(Option Int->Hp->Prop)->Prop
def PO(X:Cx)(e:Option Expr)(t:TO):Prop :=
 ∀(pins:LO) (s:Shared) (σ : St) (H:Hp) (Q:Option Int->Hp->Prop),Inv X pins σ H s->t σ H Q ->
  wpAny (model X.prog X.w) X.A (evalPart e X.env) (λu s'=>∃o H',Inv X pins σ H' s'/\IsPart u o/\Q o H') X.xe s
def ac2:TO:=λ_ H Q=>Q none H
def ac3(t:TE):TO:=λσ H Q=>t σ H λx H1=>∃i,x=.int i/\Q (some i) H1
theorem intsAre_of:∀{us:List Value},Vals (ns.map V.int) us->IntsAre us ns:=by
 induction ns with
 |nil=>intro us r; rw[List.map_nil]at r; cases r; exact .nil
 |cons n ns ih =>
  intro us r
  rw[List.map_cons]at r
  cases r with
  |cons r1 r2 =>
   obtain⟨t,e⟩:=r1
   subst e
   exact .cons n t (ih r2)
section
variable {X:Cx}{e:Expr}{te:TE}{lo hi:Option Expr}{tl th:TO}{pos p2:Pos}
theorem ac4:PO X none ac2:=by
 intro pins s σ H Q I h
 rw[evalPart_none]
 exact wpAny_pure ⟨none,H,I,.none,h⟩
theorem ac5(h:PE X e te):PO X (some e) (ac3 te):=by
 intro pins s σ H Q I hw
 rw[evalPart_some]
 refine aD (h pins s σ H _ I hw) λu s1 ⟨x,H1,I1,r1,q1⟩=>?_
 obtain⟨i,rfl,q⟩:=q1
 obtain⟨t,rfl⟩:=r1
 exact⟨some i,H1,I1,.int i t,q⟩
def mR(X:Cx)(r:V->Option Int->Option Int->Hp->VK->Prop):Prop :=
 ∀(pins:LO) (s:Shared) (σ : St) (H:Hp) (x:V) (v vl vu:Value) (lo hi:Option Int) (sl:Addr) (Q:VK),Inv X pins σ H s->RelV x v->s.heap.IsSliceOf sl vl vu .none->IsPart vl lo->IsPart vu hi->r x lo hi H Q ->
  ∃T id,typeLookup (.type T) "__getitem__" = pure (some (.builtin id))/\s.TypeIs v T/\wpAny (model X.prog X.w) X.A (getItem v (.ref sl)) (EP X pins σ Q) X.xe s
theorem mR.or(h:mR X r)(h':mR X r'):mR X (λx lo hi H Q=>r x lo hi H Q\/r' x lo hi H Q):=by
 intro pins s σ H x v vl vu lo hi sl Q I rx hs pl pu q
 rcases q with q|q
 .exact h pins s σ H x v vl vu lo hi sl Q I rx hs pl pu q
 .exact h' pins s σ H x v vl vu lo hi sl Q I rx hs pl pu q
def tSl(r:V->Option Int->Option Int->Hp->VK->Prop)(te:TE)(tl th:TO):TE:=λσ H Q=>te σ H λx H1=>tl σ H1 λl H2=>th σ H2 λu H3=>r x l u H3 Q
theorem ac6(hr:mR X r)(he:PE X e te)(hl:PO X lo tl)(hu:PO X hi th):PE X (.Subscript e (.Slice lo hi none p2) pos) (tSl r te tl th):=by
 refine⟨λpins s σ H Q I h=>?_⟩
 refine Subscript_ (aD (he pins s σ H _ I h) λv s1 ⟨x,H1,I1,r1,q1⟩=>?_)
 refine wpAny_Slice (aD (hl pins s1 σ H1 _ I1 q1) λvl s2 ⟨l,H2,I2,pl,q2⟩=>aD (hu pins s2 σ H2 _ I2 q2) λvu s3 ⟨u,H3,I3,pu,q3⟩=>?_)
 rw[evalPart_none]
 refine wpAny_pure ?_
 have I4:Inv X pins σ H3 {s3 with heap:=s3.heap.push {cls:=.type "slice",data:=.fields #[vl,vu,.none] } }:=I3.kept (t':=s3.toks) λb ob q=>Heap.get?_push_of_some _ q
 obtain⟨T,id,hT,ht,hg⟩:=hr pins {s3 with heap:=s3.heap.push {cls:=.type "slice",data:=.fields #[vl,vu,.none] } } σ H3 x v vl vu l u s3.heap.objs.size Q I4 r1 (Heap.IsSliceOf.new ..) pl pu q3
 show wpAny (model X.prog X.w) X.A (subscriptTail e (.Slice lo hi none p2) v (.ref s3.heap.objs.size)) (EP X pins σ Q) X.xe {s3 with heap:=s3.heap.push {cls:=.type "slice",data:=.fields #[vl,vu,.none] } }
 exact tail_any (ops:=[.ref s3.heap.objs.size,v]) ht hT hg (by with_unfolding_all rfl)
noncomputable def oZ(xs:List V)(lo hi:Option Int):List V:=(xs.drop (HT.aR xs.length 0 lo)).take (HT.aR xs.length xs.length hi-HT.aR xs.length 0 lo)
theorem QC(xs:List V)(lo hi:Option Int):(oZ xs lo hi).length<=xs.length:=by
 unfold oZ
 rw[List.length_take,List.length_drop]
 lia
def QD(K:FZ):V->Option Int->Option Int->Hp->VK->Prop:=λx lo hi H Q=>∃a xs,x=.ref a/\bw K H a xs /\
 ¬(HT.aR xs.length 0 lo=0/\HT.aR xs.length xs.length hi=xs.length)/\∀p,H p=none->Q (.ref p) (upd H p (.tup (oZ xs lo hi)))
theorem ac7:mR X (QD X.K):=by
 intro pins s σ H x v vl vu lo hi sl Q I rx hs pl pu h
 obtain⟨a,xs,rfl,hx,hw,q⟩:=h
 cases rx
 obtain⟨its,r,ht,hz⟩:=I.tuple hx
 have hlen:its.toArray.size=xs.length:=by rw[List.size_toArray]; exact r.length.symm
 refine⟨"tuple",_,PyProof.Rows.slot_tuple_getitem.lookup,ht.typeIs,?_⟩
 refine HT.ac1 ht hs pl pu (by rw[hlen]; exact hw) ?_ (by rw[hlen]; exact hz)
 rw[hlen]
 refine⟨.ref s.heap.objs.size,_,I.laid (t':=s.toks) (o:=.tup (oZ xs lo hi)) (λb ob q=>Heap.get?_push_of_some _ q) (Nat.le_refl _) ?_,rfl,q _ (I.hok.fresh (Nat.le_refl _))⟩
 exact⟨Nat.le_trans (QC xs lo hi) hz,_,(r.drop (HT.aR xs.length 0 lo)).take (HT.aR xs.length xs.length hi-HT.aR xs.length 0 lo),IsTup.new _ _⟩
def QG(K:FZ):R2:=λx y H Q=>∃a b ns ms,x=.ref a/\y=.ref b/\bw K H a (ns.map V.int)/\bw K H b (ms.map V.int)/\Q (.bl (HT.lexLt ns ms)) H
theorem ac8(hu:X.A.units<cLine):bA X (compareOp .Lt) (QG X.K):=by
 intro pins s σ H x y v u Q I rx ry h
 obtain⟨a,b,ns,ms,rfl,rfl,ha,hb,q⟩:=h
 cases rx
 cases ry
 obtain⟨its,r1,p1,_⟩:=I.tuple ha
 obtain⟨its2,r2,p2,_⟩:=I.tuple hb
 have i1:IntsAre its.toArray.toList ns:=intsAre_of r1
 have i2:IntsAre its2.toArray.toList ms:=intsAre_of r2
 exact HT.acU p1 p2 i1 i2 hu ⟨.bl (HT.lexLt ns ms),H,I,rfl,q⟩
def QH(K:FZ):R2:=λx y H Q=>∃a b xs ys,x=.ref a/\y=.ref b/\bw K H a xs/\bw K H b ys/\xs≠[]/\xs.length+ys.length<=sizeLine /\
 (ys=[]->Q (.ref a) H)/\(ys≠[]->∀p,H p=none->Q (.ref p) (upd H p (.tup (xs++ys))))
theorem Vals.Fe(r:Vals xs us):us=[]↔xs=[]:=by
 cases r with
 |nil=>simp
 |cons _ _=>simp
theorem ac9:bA X (binaryOp .Add) (QH X.K):=by
 intro pins s σ H x y v u Q I rx ry h
 obtain⟨a,b,xs,ys,rfl,rfl,ha,hb,hx,hz,q1,q2⟩:=h
 cases rx
 cases ry
 obtain⟨its,r1,p1,_⟩:=I.tuple ha
 obtain⟨its2,r2,p2,_⟩:=I.tuple hb
 refine HT.acV p1 p2 (λz=>hx (r1.Fe.mp z)) (λz=>⟨.ref a,H,I,rfl,q1 (r2.Fe.mp z)⟩) (λz=>?_) (by rw[<-r1.length,<-r2.length]; exact hz)
 refine⟨.ref s.heap.objs.size,_,I.laid (t':=s.toks) (o:=.tup (xs++ys)) (λb ob q=>Heap.get?_push_of_some _ q) (Nat.le_refl _) ?_,rfl,q2 (λw=>z (r2.Fe.mpr w)) _ (I.hok.fresh (Nat.le_refl _))⟩
 exact⟨by rw[List.length_append]; exact hz,_,r1.append r2,IsTup.new _ _⟩
end
noncomputable def fM(n:Nat)(i:Int):Option Nat:=if 0<=i then(if i<n then some i.toNat else none)else if -(n:Int)<=i then some (i+n).toNat else none
noncomputable def cR{α : Type}(xs:List α)(i:Int):Option α := (fM xs.length i).bind λj=>xs[j]?
theorem QJ(h:fM n i=some j):seqIndex? i n=some j/\j<n /\ -(n:Int)<=i/\i<n:=by
 unfold fM at h
 by_cases h0:0<=i
 .rw[if_pos h0]at h
  by_cases h1:i<n
  .rw[if_pos h1]at h
   have e:i.toNat=j:=Option.some.inj h
   exact⟨by rw[seqIndex_of h0 h1,e],by lia,by lia,h1⟩
  .rw[if_neg h1]at h; cases h
 .rw[if_neg h0]at h
  by_cases h1 : -(n:Int)<=i
  .rw[if_pos h1]at h
   have e:(i+n).toNat=j:=Option.some.inj h
   exact⟨by rw[seqIndex_neg (by lia) h1,e],by lia,h1,by lia⟩
  .rw[if_neg h1]at h; cases h
theorem Fg{α : Type}{xs:List α}{i:Int}{v : α}(h:cR xs i=some v):∃j,seqIndex? i xs.length=some j/\xs[j]?=some v/\j<xs.length /\ -(xs.length:Int)<=i/\i<xs.length:=by
 unfold cR at h
 cases e:fM xs.length i with
 |none=>rw[e]at h; cases h
 |some j =>
  rw[e]at h
  obtain⟨h1,h2,h3,h4⟩:=QJ e
  exact⟨j,h1,h,h2,h3,h4⟩
def QK(b:Expr):Prop:=∀o i,subscripted b false o i=operate [o,i] (getItem o i)
def mU(X:Cx)(r:R2):Prop :=
 ∀(value slice:Expr) (pins:LO) (s:Shared) (σ : St) (H:Hp) (x y:V) (v u:Value) (Q:VK),Inv X pins σ H s->RelV x v->RelV y u->r x y H Q ->
  subscripted slice false v u=operate [v,u] (getItem v u)->wpAny (model X.prog X.w) X.A (subscriptTail value slice v u) (EP X pins σ Q) X.xe s
def QL(X:Cx)(id:String)(r:V->List V->Hp->VK->Prop):Prop :=
 ∀(pins:LO) (s:Shared) (σ : St) (H:Hp) (x:V) (xs:List V) (v:Value) (us:List Value) (Q:VK),Inv X pins σ H s->RelV x v->Vals xs us->r x xs H Q ->
  wpAny (model X.prog X.w) X.A (call (.builtin id) (v::us)) (EP X pins σ Q) X.xe s
section
variable {X:Cx}{a b:Expr}{ta tb:TE}{pos:Pos}
theorem mU.or(h:mU X r)(h':mU X r'):mU X (λx y H Q=>r x y H Q\/r' x y H Q):=by
 intro value slice pins s σ H x y v u Q I rx ry q hs
 rcases q with q|q
 .exact h value slice pins s σ H x y v u Q I rx ry q hs
 .exact h' value slice pins s σ H x y v u Q I rx ry q hs
theorem zq(hr:mU X r)(ha:PE X a ta)(hb:PE X b tb)(hs:QK b):PE X (.Subscript a b pos) (u9 r ta tb):=by
 refine⟨λpins s σ H Q I h=>?_⟩
 exact Subscript_ (Er ha hb I h λv u s2 x y H2 I2 rx ry q=>hr a b pins s2 σ H2 x y v u Q I2 rx ry q (hs _ _))
def QM(K:FZ):R2:=λx y H Q=>∃p xs i v,x=.ref p/\y=.int i/\aG K H p xs/\cR xs i=some v/\Q v H
def QS(K:FZ):R2:=λx y H Q=>∃p xs i v,x=.ref p/\y=.int i/\bw K H p xs/\cR xs i=some v/\Q v H
def QT:R2:=λx y H Q=>∃z i c,x=.str z/\y=.int i/\z.length<=sizeLine/\cR z.cps.toList i=some c/\Q (.str ⟨#[c]⟩) H
theorem ada:mU X (QM X.K):=by
 intro value slice pins s σ H x y v u Q I rx ry h hs
 obtain⟨p,xs,i,z,rfl,rfl,hq,he,q⟩:=h
 cases rx
 obtain⟨t,rfl⟩:=ry
 obtain⟨its,r,pl,hz⟩:=I.list hq
 obtain⟨j,h1,h2,h3,h4,h5⟩:=Fg he
 obtain⟨w,ew,jU⟩:=r.get h2
 have hl:=r.length
 have hn:=oX
 have fin:EP X pins σ Q w s:=⟨z,H,I,jU,q⟩
 by_cases h0:0<=i
 .have hj:i.toNat=j:=by
   rw[seqIndex_of h0 h5]at h1
   exact Option.some.inj h1
  exact item_listR pl.isList h0 (by lia) (by rw[hj]; simpa using ew) fin hs
 .have hj:(i+(its.toArray.size:Int)).toNat=j:=by
   rw[seqIndex_neg (by lia) h4]at h1
   rw[List.size_toArray,<-hl]
   exact Option.some.inj h1
  exact subscriptTail_builtinR (x:=w) pl.isList.typeIs slot_list_getitem.lookup
   (wpAny_getItem_list_neg (Q:=λr s'=>r=w/\EP X pins σ Q r s') pl.isList (by lia) (by rw[List.size_toArray] <;> lia) (by lia) (by rw[hj]; simpa using ew) ⟨rfl,fin⟩) hs
theorem adb:mU X (QS X.K):=by
 intro value slice pins s σ H x y v u Q I rx ry h hs
 obtain⟨p,xs,i,z,rfl,rfl,hq,he,q⟩:=h
 cases rx
 obtain⟨t,rfl⟩:=ry
 obtain⟨its,r,pl,hz⟩:=I.tuple hq
 obtain⟨j,h1,h2,h3,h4,h5⟩:=Fg he
 obtain⟨w,ew,jU⟩:=r.get h2
 have hl:=r.length
 have hn:=oX
 have fin:EP X pins σ Q w s:=⟨z,H,I,jU,q⟩
 exact subscriptTail_builtinR (x:=w) pl.typeIs slot_tuple_getitem.lookup
  (getItem_tuple (j:=j) (Q:=λr s'=>r=w/\EP X pins σ Q r s') pl (by lia) (by lia) (by rw[List.size_toArray,<-hl]; exact h1) (by simpa using ew) ⟨rfl,fin⟩) hs
theorem ade:mU X QT:=by
 intro value slice pins s σ H x y v u Q I rx ry h hs
 obtain⟨z,i,c,rfl,rfl,hz,he,q⟩:=h
 obtain⟨t,rfl⟩:=rx
 obtain⟨t',rfl⟩:=ry
 obtain⟨j,h1,h2,h3,h4,h5⟩:=Fg he
 have hl:z.cps.toList.length=z.length:=by simp[Str.length]
 rw[hl]at h1 h4 h5
 have hn:=oX
 exact tail_any (typeIs_str s z t) slot_str_getitem.lookup (getItem_str (c:=c) (by
  have e1:decide (i < -(2 ^ 63:Int))=false:=decide_eq_false (by lia)
  have e2:decide (i >= 2 ^ 63)=false:=decide_eq_false (by lia)
  rw[e1,e2,Bool.or_false]) (by rw[h1]; simpa using h2) ⟨.str ⟨#[c]⟩,H,I.tok _,⟨_,rfl⟩,q⟩) hs
def QV(K:FZ):R2:=λx y H Q=>QM K x y H Q\/QS K x y H Q\/QT x y H Q
theorem zx:mU X (QV X.K):=ada.or (adb.or ade)
theorem adf(its:List Value)(n j:Nat)(u:Value):Obj.mapSeq (·.setIfInBounds j u) {cls:=.type "list",data:=.seq its.toArray n }={cls:=.type "list",data:=.seq (its.set j u).toArray n }:=by
 simp[Obj.mapSeq]
theorem Inv.lst{pins:LO}{σ : St}{H:Hp}{s:Shared}{p:Addr}{xs:List V}(I:Inv X pins σ H s)(h:H p=some (.lst xs)) :
  ∃(its:List Value) (n:Nat),Vals xs its/\s.heap.get? p=some {cls:=.type "list",data:=.seq its.toArray n }/\xs.length<=sizeLine:=by
 obtain⟨z,its,n,r,e⟩:=I.hok p _ h
 exact⟨its,n,r,e,z⟩
theorem Inv.adg{pins:LO}{σ : St}{H:Hp}{s:Shared}{p:Addr}{xs ys:List V}{its its':List Value}{n n':Nat}{f:Obj->Obj}(I:Inv X pins σ H s)(h:H p=some (.lst xs))
  (ho:s.heap.get? p=some {cls:=.type "list",data:=.seq its.toArray n }) (hf:f {cls:=.type "list",data:=.seq its.toArray n }={cls:=.type "list",data:=.seq its'.toArray n' }) (r:Vals ys its') (hz:ys.length<=sizeLine) (t:Nat) :
  Inv X pins σ (upd H p (.lst ys)) {s with heap:=s.heap.update p f,toks:=t }:=by
 have e:(s.heap.update p f).get? p=some {cls:=.type "list",data:=.seq its'.toArray n' }:=by
  rw[Heap.get?_update_self f ho (by rw[hf] <;> rfl),hf]
 refine I.write (x:=p) (e:=p) (by rw[h]; trivial) (.inl rfl) (λb u hb q=>(Heap.get?_update_other _ _ (Ne.symm hb)).trans q) ⟨_,e⟩ ?_
 exact⟨hz,its',n',r,e⟩
def adh:V->V->V->Hp->(Hp->Prop)->Prop:=λo i v H Q=>∃p xs k j,o=.ref p/\i=.int k/\H p=some (.lst xs)/\fM xs.length k=some j/\Q (upd H p (.lst (xs.set j v)))
theorem set_list:Ec X adh:=by
 intro pins s σ H o i v ov iv u Q I ro ri rv h
 obtain⟨p,xs,k,j,rfl,rfl,hp,hj,q⟩:=h
 cases ro
 obtain⟨t,rfl⟩:=ri
 obtain⟨its,n,r,ho,hz⟩:=I.lst hp
 obtain⟨h1,h2,h3,h4⟩:=QJ hj
 have hl:=r.length
 have hn:=oX
 have I':Inv X pins σ (upd H p (.lst (xs.set j v))) {s with heap:=s.heap.update p (Obj.mapSeq (·.setIfInBounds j u)) } :=
  I.adg hp ho (adf its n j u) (r.set rv j) (by rw[List.length_set]; exact hz) s.toks
 by_cases h0:0<=k
 .have hk:k.toNat=j:=by
   rw[seqIndex_of h0 h4]at h1
   exact Option.some.inj h1
  exact PySem.W.ki_setAt ho h0 (by lia) (by rw[List.size_toArray,<-hl]; exact h4) (by rw[hk]; exact⟨_,I',q⟩)
 .have hk:(k+(its.toArray.size:Int)).toNat=j:=by
   rw[seqIndex_neg (by lia) h3]at h1
   rw[List.size_toArray,<-hl]
   exact Option.some.inj h1
  exact PySem.W.ki_setBack ho (by lia) (by rw[List.size_toArray,<-hl]; exact h3) (by lia) (by rw[hk]; exact⟨_,I',q⟩)
theorem adi(lo hi:Option Int)(n:Nat):(sliceBounds lo hi none n).1=((HT.aR n 0 lo:Nat):Int)/\(sliceBounds lo hi none n).2.1=((HT.aR n n hi:Nat):Int)/\(sliceBounds lo hi none n).2.2=1:=by
 refine⟨?_,?_,rfl⟩
 .cases lo with
  |none=>simp[sliceBounds,HT.aR]
  |some i =>
   simp only[sliceBounds,HT.aR,Option.getD_none,show(1:Int) > 0 by decide,if_true]
   by_cases h:i<0
   .simp only[h,if_true] <;> lia
   .simp only[h,if_false] <;> lia
 .cases hi with
  |none=>simp[sliceBounds,HT.aR]
  |some i =>
   simp only[sliceBounds,HT.aR,Option.getD_none,show(1:Int) > 0 by decide,if_true]
   by_cases h:i<0
   .simp only[h,if_true] <;> lia
   .simp only[h,if_false] <;> lia
theorem adk(its:List Value)(lo hi:Option Int):slicePick its.toArray lo hi none=((its.drop (HT.aR its.length 0 lo)).take (HT.aR its.length its.length hi-HT.aR its.length 0 lo)).toArray:=by
 obtain⟨h1,h2,h3⟩:=adi lo hi its.toArray.size
 unfold slicePick
 rw[h1,h2,h3]
 simp only[sliceRange_one,pick_run,List.size_toArray] <;> rfl
def QW(K:FZ):V->Option Int->Option Int->Hp->VK->Prop:=λx lo hi H Q=>∃a xs,x=.ref a/\aG K H a xs/\∀p,H p=none->Q (.ref p) (upd H p (.lst (oZ xs lo hi)))
theorem adl:mR X (QW X.K):=by
 intro pins s σ H x v vl vu lo hi sl Q I rx hs pl pu h
 obtain⟨a,xs,rfl,hx,q⟩:=h
 cases rx
 obtain⟨its,r,ht,hz⟩:=I.list hx
 have hlen:=r.length
 refine⟨"list",_,slot_list_getitem.lookup,ht.isList.typeIs,?_⟩
 refine wpAny_getItem_list_slice ht.isList hs pl pu .none (by simp) ?_ (by rw[List.size_toArray] <;> lia)
 rw[adk,<-hlen]
 refine⟨.ref s.heap.objs.size,_,I.laid (t':=s.toks) (o:=.lst (oZ xs lo hi)) (λb ob q=>Heap.get?_push_of_some _ q) (Nat.le_refl _) ?_,rfl,q _ (I.hok.fresh (Nat.le_refl _))⟩
 exact⟨Nat.le_trans (QC xs lo hi) hz,_,0,(r.drop (HT.aR xs.length 0 lo)).take (HT.aR xs.length xs.length hi-HT.aR xs.length 0 lo),Heap.get?_push_size _ rfl⟩
theorem adn:fL X (.builtin "len") (λxs H Q=>∃p ys,xs=[.ref p]/\(aG X.K H p ys\/bw X.K H p ys)/\Q (.int ys.length) H):=by
 intro pins s σ H xs us Q I r h
 obtain⟨p,ys,rfl,hq,q⟩:=h
 obtain⟨u,rfl,rx⟩:=vals1 r
 cases rx
 have hn:=oX
 rcases hq with hq|hq
 .obtain⟨its,r',pl,hz⟩:=I.list hq
  have hlen:=r'.length
  exact Calls.call_len_list pl.isList (by simp only[List.size_toArray] <;> lia) ⟨.int ys.length,H,I.tok _,⟨s.toks+1,by rw[List.size_toArray,hlen]⟩,q⟩
 .obtain⟨its,r',pl,hz⟩:=I.tuple hq
  have hlen:=r'.length
  exact len_tuple pl (by simp only[List.size_toArray] <;> lia) ⟨.int ys.length,H,I.tok _,⟨s.toks+1,by rw[List.size_toArray,hlen]⟩,q⟩
theorem ado:fL X (.builtin "len") (λxs H Q=>∃z,xs=[.str z]/\z.length<=sizeLine/\Q (.int z.length) H):=by
 intro pins s σ H xs us Q I r h
 obtain⟨z,rfl,hz,q⟩:=h
 obtain⟨u,rfl,t,rfl⟩:=vals1 r
 have hn:=oX
 exact len_str (by lia) ⟨.int z.length,H,I.tok _,⟨_,rfl⟩,q⟩
theorem fL.or(h:fL X f r)(h':fL X f r'):fL X f (λxs H Q=>r xs H Q\/r' xs H Q):=by
 intro pins s σ H xs us Q I rs q
 rcases q with q|q
 .exact h pins s σ H xs us Q I rs q
 .exact h' pins s σ H xs us Q I rs q
theorem adp:fL X (.type "list") (λxs H Q=>∃p ys,xs=[.ref p]/\(aG X.K H p ys\/bw X.K H p ys)/\∀l,H l=none->Q (.ref l) (upd H l (.lst ys))):=by
 intro pins s σ H xs us Q I r h
 obtain⟨p,ys,rfl,hq,q⟩:=h
 obtain⟨u,rfl,rx⟩:=vals1 r
 cases rx
 have fin:∀(its:List Value),Vals ys its->ys.length<=sizeLine->∀(h':Heap) (c':Nat),(∀b o',s.heap.get? b=some o'->h'.get? b=some o') ->
   h'.get? s.heap.objs.size=some {cls:=.type "list",dict:=none,data:=.seq its.toArray c',slots:=#[] }->EP X pins σ Q (.ref s.heap.objs.size) {s with heap:=h' }:=λits r' hz h' c' kp e =>
  ⟨.ref s.heap.objs.size,_,I.laid (t':=s.toks) kp (Nat.le_refl _) (show gA X.prog X.w _ h' _ (.lst ys)from⟨hz,its,c',r',e⟩),rfl,q _ (I.hok.fresh (Nat.le_refl _))⟩
 rcases hq with hq|hq
 .obtain⟨its,r',pl,hz⟩:=I.list hq
  have hlen:=r'.length
  obtain⟨o,ho,hc,n,hd⟩:=pl.isList
  exact call_list_seq p (.inl rfl) ho hc hd (λh' c' kp e=>fin its r' hz h' c' kp e) (by simp only[List.size_toArray] <;> lia)
 .obtain⟨its,r',pl,hz⟩:=I.tuple hq
  have hlen:=r'.length
  obtain⟨o,ho,hc,n,hd⟩:=pl
  exact call_list_seq p (.inr rfl) ho hc hd (λh' c' kp e=>fin its r' hz h' c' kp e) (by simp only[List.size_toArray] <;> lia)
def Fi(K:FZ)(T:String)(x:V)(H:Hp):Prop:=match x with
 |.str _=>T = "str"
 |.int _=>T = "int"
 | .ref p=>(T = "list" ∧ ∃xs,aG K H p xs)∨(T = "tuple" ∧ ∃o,K.lookup p=some o∧o.cls=.type "tuple" ∧ o.dict=none)
 |_=>False
theorem QX(I:Inv X pins σ H s)(r:RelV x v)(ty:Fi X.K T x H) :
  s.TypeIs v T/\∀a,v=.ref a->∃ob,s.heap.get? a=some ob/\ob.dict=none:=by
 cases x with
 |str z =>
  obtain⟨t,rfl⟩:=r
  cases(show T = "str" from ty)
  exact⟨typeIs_str s z t,λ_ e=>nomatch e⟩
 |int i =>
  obtain⟨t,rfl⟩:=r
  cases(show T = "int" from ty)
  exact⟨typeIs_int s i t,λ_ e=>nomatch e⟩
 |ref p =>
  cases r
  rcases ty with⟨rfl,xs,hq⟩|⟨rfl,o,hk,hc,hd⟩
  .obtain⟨its,_,pl,_⟩:=I.list hq
   refine⟨pl.isList.typeIs,λa e=>?_⟩
   cases e
   obtain⟨o,n,e,c,hd,_⟩:=pl
   exact⟨o,e,hd⟩
  .refine⟨⟨o,I.iy p o hk,hc⟩,λa e=>?_⟩
   cases e
   exact⟨o,I.iy _ o hk,hd⟩
 |_=>exact False.elim ty
def QZ(K:FZ)(T:String)(r:V->List V->Hp->VK->Prop)(to:TE):TE:=λσ H Q=>to σ H λx H1=>Fi K T x H1/\r x [] H1 Q
def tBM(K:FZ)(T:String)(r:V->List V->Hp->VK->Prop)(to:TE)(t:TA):TE:=λσ H Q=>to σ H λx H1=>Fi K T x H1/\t σ H1 λxs H2=>r x xs H2 Q
variable {o e:Expr}{es:List Expr}{to:TE}{t:TA}{name:Str}{apos cpos:Pos}{T id:String}{r:V->List V->Hp->VK->Prop}
theorem Q5(pa:PlainAttrs T)(slot:Slot T name id)(hty:typeOf (.builtin id)=pure (.type "method_descriptor")) (hm:QL X id r) (ho:PE X o to)
  (hbase:attributeBase o name X.env (eval o X.env)=eval o X.env:=by rfl) (hline:(apos.endLine == cpos.line)=true:=by rfl):PE X (.Call (.Attribute o name apos) [] [] cpos) (QZ X.K T r to):=by
 refine⟨λpins s σ H Q I h=>?_⟩
 refine wpAny_Call_method0_late hbase hline (aD (ho pins s σ H _ I h) λv s1 ⟨x,H1,I1,r1,ty,q1⟩=>?_)
 obtain⟨h1,h2⟩:=QX I1 r1 ty
 exact⟨T,id,pa,slot,hty,h1,h2,Calls.callWith_builtin rfl (PySem.evalArgs_none (hm pins s1 σ H1 x [] v [] Q I1 r1 .nil q1))⟩
theorem Q6(pa:PlainAttrs T)(slot:Slot T name id)(hty:typeOf (.builtin id)=pure (.type "method_descriptor")) (hm:QL X id r) (ho:PE X o to) (ha:PA X (e::es) t)
  (hbase:attributeBase o name X.env (eval o X.env)=eval o X.env:=by rfl)
  (hfew:((backTo cpos (starEach (e::es) X.env)).all (λx=>!x.1)&&(backToKw cpos (keywordEach [] X.env)).all (λx=>x.1.isSome)
   && decide ((e::es).length+([]:List Keyword).length+(if([]:List Keyword).isEmpty then 0 else 1)<30))=true:=by rfl)
  (hline:(apos.endLine == cpos.line)=true:=by rfl) (hs:starEach (e::es) X.env=(false,eval e X.env)::starEach es X.env:=by rfl) (hplain:(backTo cpos (starEach es X.env)).any (·.1)=false:=by rfl) :
  PE X (.Call (.Attribute o name apos) (e::es) [] cpos) (tBM X.K T r to t):=by
 refine⟨λpins s σ H Q I h=>?_⟩
 refine wpAny_Call_method_late hbase hfew hline rfl (aD (ho pins s σ H _ I h) λv s1 ⟨x,H1,I1,r1,ty,q1⟩=>?_)
 obtain⟨h1,h2⟩:=QX I1 r1 ty
 refine⟨T,id,pa,slot,hty,h1,h2,?_⟩
 have hA:=ha cpos pins s1 σ H1 _ I1 q1
 rw[hs]at hA ⊢
 refine Calls.callWith_builtin (by show(false || (backTo cpos (starEach es X.env)).any (·.1))=false; rw[hplain] <;> rfl) (Calls.evalArgs_plain ?_)
 exact aD hA λus s2 ⟨vs,H2,I2,r2,q2⟩=>hm pins s2 σ H2 x vs v us Q I2 r1 r2 q2
end
def vf(X:Cx)(id:String)(r:V->List V->Hp->VK->Prop):Prop :=
 ∀(pins:LO) (s:Shared) (σ : St) (H:Hp) (x:V) (xs:List V) (v:Value) (us:List Value) (Q:VK),Inv X pins σ H s->RelV x v->Vals xs us->r x xs H Q ->
  wpAny (model X.prog X.w) X.A (call (.builtin id) (v::us)) (EP X pins σ Q) X.xe s
theorem Vals.one:∀{x:V} {us:List Value},Vals [x] us->∃u,us=[u]/\RelV x u
 |_,_,.cons r .nil=>⟨_,rfl,r⟩
theorem Vals.zero:∀{us:List Value},Vals [] us->us=[]
 |_,.nil=>rfl
theorem Vals.reverse{xs:List V}{us:List Value}(h:Vals xs us):Vals xs.reverse us.reverse:=by
 induction h with
 |nil=>exact .nil
 |cons r t ih=>rw[List.reverse_cons,List.reverse_cons]; exact Vals.append ih (.cons r .nil)
theorem Vals.rep(h:Vals xs us):∀k:Nat,Vals (List.replicate k xs).flatten (List.replicate k us).flatten
 | 0=>.nil
 |k+1=>by
  rw[List.replicate_succ,List.replicate_succ,List.flatten_cons,List.flatten_cons]
  exact Vals.append h (Vals.rep h k)
theorem foldl_rep(its:List Value):∀(k:Nat) (acc:List Value),
  List.foldl (λx1 x2=>x1++x2) acc.toArray (List.replicate k its.toArray)=(acc++(List.replicate k its).flatten).toArray
 | 0,acc=>by simp
 |k+1,acc=>by
  have e:acc.toArray++its.toArray=(acc++its).toArray:=by simp
  have e2:(acc++its)++(List.replicate k its).flatten=acc++(List.replicate (k+1) its).flatten:=by
   rw[List.replicate_succ,List.flatten_cons,List.append_assoc]
  rw[<-e2,<-foldl_rep its k (acc++its),<-e,List.replicate_succ,List.foldl_cons]
section
variable {X:Cx}{pins:LO}{σ : St}{H:Hp}{s:Shared}{l b:Addr}{xs ys zs:List V}
theorem Inv.zA{its its':List Value}{n:Nat}{f:Array Value->Array Value}{t':Nat}(I:Inv X pins σ H s)(hH:H l=some (.lst xs))
  (e:s.heap.get? l=some {cls:=.type "list",data:=.seq its.toArray n }) (hf:f its.toArray=its'.toArray) (hv:Vals ys its') (hz:ys.length<=sizeLine) :
  Inv X pins σ (upd H l (.lst ys)) {s with heap:=s.heap.update l (Obj.mapSeq f),toks:=t' }:=by
 have q:=PySem.IsL.update e f
 rw[hf]at q
 refine I.write (x:=l) (e:=l) (by rw[hH]; exact trivial) (.inl rfl) (λb' u hb hu=>(Heap.get?_update_other s.heap (Obj.mapSeq f) (Ne.symm hb)).trans hu) ⟨_,q⟩ ?_
 exact⟨hz,its',_,hv,q⟩
theorem Inv.zB(I:Inv X pins σ H s)(hv:Vals ys its)(hz:ys.length<=sizeLine) :
  Inv X pins σ (upd H s.heap.objs.size (.lst ys)) {s with heap:=s.heap.push {cls:=.type "list",data:=.seq its.toArray },toks:=t' } :=
 I.laid (λ_ _ q=>Heap.get?_push_of_some _ q) (Nat.le_refl _) ⟨hz,its,0,hv,Heap.get?_push_size _ rfl⟩
theorem Inv.fresh(I:Inv X pins σ H s):H s.heap.objs.size=none:=I.hok.fresh (Nat.le_refl _)
theorem Inv.zE(I:Inv X pins σ H s)(hH:H l=some (.lst xs)):xs.length<=sizeLine/\∃(its:List Value) (n:Nat),Vals xs its/\xs.length=its.length/\s.heap.get? l=some {cls:=.type "list",data:=.seq its.toArray n }:=by
 obtain⟨z,its,n,r,e⟩:=I.hok l _ hH
 exact⟨z,its,n,r,r.length,e⟩
theorem adq{n:Nat}(h:n<=sizeLine):Builtin.List.listTooLong n=false:=by
 unfold Builtin.List.listTooLong
 exact decide_eq_false (by lia)
end
section
variable {X:Cx}
def Fj:V->List V->Hp->VK->Prop:=λx vs H Q=>∃l xs y,x=.ref l/\vs=[y]/\H l=some (.lst xs)/\xs.length<sizeLine/\Q .non (upd H l (.lst (xs++[y])))
theorem zF:vf X "list.append" Fj:=by
 intro pins s σ H x vs v us Q I rx rv h
 obtain⟨l,xs,y,rfl,rfl,hH,hz,q⟩:=h
 cases rx
 obtain⟨u,rfl,ru⟩:=rv.one
 obtain⟨z,its,n,r,hl,e⟩:=I.zE hH
 refine call_meets F.slot_list_append ⟨_,e,rfl⟩ F.entry_list_append (F.args_list_append_2 _ _) (PySem.list_append l its.toArray n u (by rw[List.size_toArray]; lia)) ⟨e,?_⟩
 refine⟨.non,_,I.zA (its':=its++[u]) hH e (by simp) (r.append (.cons ru .nil)) ?_,rfl,q⟩
 rw[List.length_append,List.length_singleton]
 lia
def Q7:V->List V->Hp->VK->Prop:=λx vs H Q=>∃l xs,x=.ref l/\vs=[]/\H l=some (.lst xs)/\Q .non (upd H l (.lst xs.reverse))
theorem adt:vf X "list.reverse" Q7:=by
 intro pins s σ H x vs v us Q I rx rv h
 obtain⟨l,xs,rfl,rfl,hH,q⟩:=h
 cases rx
 have hus:=rv.zero
 subst hus
 obtain⟨z,its,n,r,hl,e⟩:=I.zE hH
 refine call_meets F.slot_list_reverse ⟨_,e,rfl⟩ F.entry_list_reverse (F.args_list_reverse_1 _) (AutoSeq1.list_reverse_list_0 l its.toArray n (by rw[List.size_toArray]; lia)) ⟨e,?_⟩
 refine⟨.non,_,I.zA (its':=its.reverse) hH e (by simp) r.reverse ?_,rfl,q⟩
 rw[List.length_reverse]
 lia
def adu:V->List V->Hp->VK->Prop:=λx vs H Q=>∃l xs,x=.ref l/\vs=[]/\H l=some (.lst xs)/\Q .non (upd H l (.lst []))
theorem adv:vf X "list.clear" adu:=by
 intro pins s σ H x vs v us Q I rx rv h
 obtain⟨l,xs,rfl,rfl,hH,q⟩:=h
 cases rx
 have hus:=rv.zero
 subst hus
 obtain⟨z,its,n,r,hl,e⟩:=I.zE hH
 refine call_meets F.slot_list_clear ⟨_,e,rfl⟩ F.entry_list_clear (F.args_list_clear_1 _) (AutoSeq1.list_clear_list_0 l its.toArray n (by rw[List.size_toArray]; lia)) ⟨e,?_⟩
 exact⟨.non,_,I.zA (its':=[]) (ys:=[]) hH e rfl .nil (Nat.zero_le _),rfl,q⟩
theorem len_rep{α : Type}(xs:List α)(k:Nat):(List.replicate k xs).flatten.length=k*xs.length:=by
 induction k with
 |zero=>simp
 |succ k ih=>rw[List.replicate_succ,List.flatten_cons,List.length_append,ih,Nat.succ_mul,Nat.add_comm]
end
end L2
namespace Q8
open PySem PySem.W PySem.Calls PyProof.Rows
theorem adw:∀(ns:List Int) (vs:List Value),WellAll P h vs (ns.map WData.int)->IntsAre vs ns:=by
 intro ns
 induction ns with
 |nil =>
  intro vs w
  rw[List.map_nil]at w
  cases w
  exact .nil
 |cons n ns ih =>
  intro vs w
  rw[List.map_cons]at w
  cases w with
  |cons a b =>
   cases a
   exact .cons _ _ (ih _ b)
theorem adx{l:OpenLaw}{n:Nat}(hn:l.most=some n){P:Params}{h:Heap}{args:List WData}{vals:List Value}
  (hpre:l.row.toRowW.claim.pre args=true) (hwl:WellAll P h vals args) :
  ∃a vs ns,vals=[Value.ref a]/\args=[WData.list (ns.map WData.int)]/\h.get? a=some {cls:=.type "list",data:=.seq vs.toArray }/\IntsAre vs ns/\ns.length<=n:=by
 have hsh:WShape.hasAll [] args [.list .int]=true:=(pre_splitW hpre).1
 have hc:l.pre.holds [] {args:=args }=true:=(pre_splitW hpre).2
 obtain⟨d,r,rfl,h1,h2⟩:=hasAllW_cons hsh
 obtain rfl:=hasAllW_nil h2
 obtain⟨xs,rfl,h3⟩:=hasW_list h1
 obtain⟨ns,rfl⟩:=items_int h3
 have hlen:ns.length<=n:=by
  unfold OpenLaw.pre at hc
  have h4:(WTm.not (.lt (.lit (.int (n:Int))) (.len (.arg 0)))).holds [] {args:=[.list (ns.map .int)] }=true:=by
   have h4:=(holds_andW hc).1
   rw[hn]at h4
   exact h4
  have h5:=condW_of h4 (w_not (w_lt w_lit (w_len_list (w_arg rfl))))
  rw[List.length_map]at h5
  refine Nat.le_of_not_lt λq=>?_
  have q':(n:Int)<((ns.length:Nat):Int):=by lia
  first
   |(rw[decide_eq_true q']at h5; exact absurd h5 (by decide))
   |(simp at h5; lia)
 cases hwl with
 |cons w1 w2 =>
  cases w2
  cases w1 with
  |list ho hall=>exact⟨_,_,ns,rfl,rfl,ho,adw ns _ hall,hlen⟩
theorem ady(l:OpenLaw)(args:List WData):l.row.toRowW.claim.post args (.bool true) args=true :=
 postW_of (r:=l.row.toRowW) (X:=(true == true))
  (show WShape.has [] (.bool true) .bool=true by first|rfl|decide|simp[WShape.has,WShape.arms,WShape.armsAll])
  (show(WTm.eq .res (.lit (.bool true))).value [] {args:=args,res:=some (.bool true),after:=args }=some (.bool (true == true))from w_eq_bool (w_res rfl) w_lit) rfl
theorem adz{l:OpenLaw}{n:Nat}{q:Program}{loose:List Str}{XP:(Str->Option Value)->Heap->Prop}{YP:World->Heap->Prop}{d:DefRec}
  (hn:l.most=some n) (hdf:d.params.defaults=[])
  (call:∀(w:World) (s₀ s₁ : Shared) (mg mb:Str->Option Value) (fa:Addr) (o:Obj) (pm cd doc:Value) (a:Addr) (vs:List Value) (ns:List Int),
   Ground q loose [] XP w s₀ mg mb s₁.heap->YP w s₁.heap ->
   s₁.heap.get? fa=some o->o.data=.func (docDef d.name d.params d.body d.scope pm cd doc)->s₁.heap.CodeRec cd d.name->mg d.name=some (.ref fa) ->
   s₁.heap.get? a=some {cls:=.type "list",data:=.seq vs.toArray }->IntsAre vs ns->ns.length<=n->s₁.gens = #[] ->
   codeAny (model l.prog w) callerA (.call (.ref fa) ⟨[.ref a],[]⟩) (λr s'=>r=.ok (.ret (.bool true))/\OldK s₁.heap s'.heap/\s'.os=s₁.os/\AllBare s'.gens) s₁) :
  WalkO q loose XP YP l.row.toRowW d [] (λf vs=>PySem.call f vs):=by
 intro w s₀ s₁ mg mb G Y fa o pm cd doc dV kV ho hd hcd hD hmg hg args vals as hpre hlay hrd hwl hlo
 obtain rfl:dV=.none:=Dflts.none hD hdf
 obtain rfl:kV=.none:=Dflts.noKw hD
 obtain⟨a,vs,ns,rfl,rfl,hobj,hints,hlen⟩:=adx hn hpre hwl
 refine enter_call (codeAny_mono (call w s₀ s₁ mg mb fa o pm cd doc a vs ns G Y ho (fd_plain hd) hcd hmg hobj hints hlen hg) λr s' hq=>?_)
 obtain⟨rfl,h2,h3,h4⟩:=hq
 exact⟨.inl ⟨.bool true,.bool true,[],rfl,λ_=>rfl,.bool true,ady l _,λ_=>⟨List.Pairwise.nil,λ_ hm=>(nomatch hm)⟩⟩,h2,h3,h4⟩
end Q8
namespace L2
open PySem PySem.Spec PyProof.Rows
theorem Fo:∀{vs:List Value} {ns:List Int},IntsAre vs ns->Vals (ns.map V.int) vs
 |_,_,.nil=>.nil
 |_,_,.cons n t h=>.cons ⟨t,rfl⟩ (Fo h)
noncomputable def jX(s:Stmt):Arguments:=match s with
 |.FunctionDef _ a _ _ _ _ _ _ _ _=>a
 |_=>{posonlyargs:=[],args:=[],vararg:=none,kwonlyargs:=[],kw_defaults:=[],kwarg:=none,defaults:=[] }
noncomputable def gC(s:Stmt):List Stmt:=match s with
 |.FunctionDef _ _ b _ _ _ _ _ _ _=>b
 |_=>[]
noncomputable def bU(s:Stmt):Scope:=match s with
 |.FunctionDef _ _ _ _ _ _ sc _ _ _=>sc
 |_=>{kind:=.function,names:=[],isGenerator:=false,isCoroutine:=false }
abbrev E0:XK:=λ_ _ _=>False
structure qy(K:FZ)(x qual:Str)(st:Stmt)(f:Addr)(fd:FuncData):Prop where
 ex:∃(oc:Value) (od:Option Addr) (kV doc pm:Value) (an:Option Addr) (cdv ct:Value) (osl:Array (Option Value)),
  fd=PySem.W.fnOf x qual (jX st) (gC st) (bU st) .none kV doc pm an cdv ct/\K.lookup f=some ⟨oc,od,.func fd,osl⟩/\PySem.W.codeIn K cdv qual=true
 kp:PySem.W.keepIn K (.ref f)=true
section
variable {P:Program}{w:World}{K:FZ}{mg:Str->Option Value}{base:Heap}
theorem qy.binds{x qual:Str}{st:Stmt}{f:Addr}{fd:FuncData}{ps:List Str}(F:qy K x qual st f fd)
  (h:∀(kV doc pm:Value) (an:Option Addr) (cdv ct:Value) (us:List Value),us.length=ps.length->bindArgs (PySem.W.fnOf x qual (jX st) (gC st) (bU st) .none kV doc pm an cdv ct) ⟨us,[]⟩=pure (ps.zip us)):Binds K fd ps []:=by
 obtain⟨oc,od,kV,doc,pm,an,cdv,ct,osl,rfl,lk,hcd⟩:=F.ex
 exact .all (h kV doc pm an cdv ct)
theorem Q9{x qual:Str}{st:Stmt}{f:Addr}{oc:Value}{od an:Option Addr}{osl:Array (Option Value)}{kV doc pm cdv ct:Value}(l:K.lookup f=some ⟨oc,od,.func (PySem.W.fnOf x qual (jX st) (gC st) (bU st) .none kV doc pm an cdv ct),osl⟩)
  (c:PySem.W.codeIn K cdv qual=true) (k:PySem.W.keepIn K (.ref f)=true):qy K x qual st f (PySem.W.fnOf x qual (jX st) (gC st) (bU st) .none kV doc pm an cdv ct):=⟨⟨oc,od,kV,doc,pm,an,cdv,ct,osl,rfl,l,c⟩,k⟩
end
theorem Ft(h:n<=1000):n<sizeLine:=Nat.lt_of_le_of_lt h (by decide)
def Same(H H':Hp):Prop:=∀b o,H b=some o->H' b=some o
theorem Same.refl(H:Hp):Same H H:=λ_ _ h=>h
theorem Same.trans(a:Same H H1)(b:Same H1 H2):Same H H2:=λc o h=>b c o (a c o h)
theorem Same.free{H H':Hp}(e:Same H H'){l:Addr}(h:H' l=Option.none):H l=Option.none:=by
 cases q:H l with
 |none=>rfl
 |some o =>
  rw[e l o q]at h
  cases h
theorem Same.seq{K:FZ}{H H':Hp}{a:Addr}{xs:List V}(e:Same H H')(h:aG K H a xs):aG K H' a xs:=by
 rcases h with(h|⟨o,h⟩)|h
 .exact .inl (.inl (e _ _ h))
 .exact .inl (.inr ⟨o,e _ _ h⟩)
 .exact .inr h
noncomputable def bM(cells:List (Str × Addr)):List (Str × NameKind)->List (Str × Addr)->List (Str × Addr)
 | [],acc=>acc
 |(n,k)::r,acc=>if k=.free then(match cells.lookup n with|some a=>bM cells r ((n,a)::acc)|none=>bM cells r acc)else bM cells r acc
theorem o7:∀{names:List (Str × NameKind)} {acc:List (Str × Addr)},(bM cells names acc).lookup x=some c->acc.lookup x=some c\/cells.lookup x=some c
 | [],acc,h=>.inl h
 |(n,k)::r,acc,h=>by
  unfold bM at h
  split at h
  .split at h
   .rename_i a ha
    rcases o7 h with q|q
    .by_cases e:x=n
     .subst e
      rw[List.lookup_cons,beq_self_eq_true]at q
      cases q
      exact .inr ha
     .rw[List.lookup_cons,beq_false_of_ne e]at q
      exact .inl q
    .exact .inr q
   .exact o7 h
  .exact o7 h
theorem qz:∀{names:List (Str × NameKind)} {acc:List (Str × Addr)},((acc.lookup x).isSome=true\/((x,NameKind.free)∈names/\(cells.lookup x).isSome=true))->((bM cells names acc).lookup x).isSome=true
 | [],acc,h=>by
  rcases h with h|⟨h,_⟩
  .exact h
  .cases h
 |(n,k)::r,acc,h=>by
  have up:∀a,(acc.lookup x).isSome=true->(List.lookup x ((n,a)::acc)).isSome=true:=λa q=>by
   rw[List.lookup_cons]
   split
   .rfl
   .exact q
  unfold bM
  split
  .rename_i hk
   split
   .rename_i a ha
    refine qz ?_
    rcases h with h|⟨h,hc⟩
    .exact .inl (up a h)
    .rcases List.mem_cons.mp h with e|e
     .cases e
      refine .inl ?_
      rw[List.lookup_cons,beq_self_eq_true]
      rfl
     .exact .inr ⟨e,hc⟩
   .rename_i hn
    refine qz ?_
    rcases h with h|⟨h,hc⟩
    .exact .inl h
    .rcases List.mem_cons.mp h with e|e
     .cases e
      rw[hn]at hc; cases hc
     .exact .inr ⟨e,hc⟩
  .rename_i hk
   refine qz ?_
   rcases h with h|⟨h,hc⟩
   .exact .inl h
   .rcases List.mem_cons.mp h with e|e
    .cases e; exact absurd rfl hk
    .exact .inr ⟨e,hc⟩
theorem zG(h:∀y∈scope.names,y.2=.free->(env.cells.lookup y.1).isSome=true):closureFor scope env=pure (bM env.cells scope.names []):=by
 suffices q:∀(names:List (Str × NameKind)) (acc:List (Str × Addr)),(∀y∈names,y.2=.free->(env.cells.lookup y.1).isSome=true) ->
   (forIn names acc λx r=>do
    match x with
    |(name,kind)=>if(kind == NameKind.free)=true then do let a <-cellOf env name; pure (ForInStep.yield ((name,a)::r))else pure (ForInStep.yield r):Sem _)=pure (bM env.cells names acc) by
  have z:=q scope.names [] h
  exact(congrArg (λm=>m >>= λcs=>pure cs) z)
 intro names
 induction names with
 |nil=>intro acc _; rfl
 |cons y r ih =>
  intro acc hy
  obtain⟨n,k⟩:=y
  rw[List.forIn_cons]
  unfold bM
  by_cases hk:k=.free
  .subst hk
   have q:=hy (n,.free) List.mem_cons_self rfl
   cases e:env.cells.lookup n with
   |none=>rw[e]at q; cases q
   |some a =>
    have ec:cellOf env n=pure a:=by unfold cellOf; rw[e]
    simp only[ec]
    exact ih _ λz hz=>hy z (List.mem_cons_of_mem _ hz)
  .rw[if_neg hk]
   have hb:(k == NameKind.free)=false:=by simpa using hk
   simp only[hb]
   exact ih _ λz hz=>hy z (List.mem_cons_of_mem _ hz)
noncomputable def Ra(scope sc:Scope):Scope :=
 {scope with names:=scope.names.map λ(n,k)=>if(k == .free&&sc.kind == .function&&sc.names.lookup n == some .cell)then(n,.cell)else(n,k) }
theorem Rb{env:Env}:∀{names:List (Str × NameKind)} {x:Str},names.lookup x=some .free ->
  (names.map λ(n,k)=>if(k == NameKind.free&&env.scope.kind == .function&&env.kindOf n == some .cell)then(n,NameKind.cell)else(n,k)).lookup x=some .cell \/
  (names.map λ(n,k)=>if(k == NameKind.free&&env.scope.kind == .function&&env.kindOf n == some .cell)then(n,NameKind.cell)else(n,k)).lookup x=some .free
 | [],_,h=>by simp at h
 |(n,k)::r,x,h=>by
  have ih:=@Rb env r x
  rw[List.map_cons]
  dsimp only
  cases hx:x == n with
  |true =>
   simp only[List.lookup_cons,hx]at h
   cases h
   by_cases hc:(NameKind.free == NameKind.free&&env.scope.kind == .function&&env.kindOf n == some .cell)=true
   .rw[if_pos hc]; simp[List.lookup_cons,hx]
   .rw[if_neg hc]; simp[List.lookup_cons,hx]
  |false =>
   simp only[List.lookup_cons,hx]at h
   by_cases hc:(k == NameKind.free&&env.scope.kind == .function&&env.kindOf n == some .cell)=true
   .rw[if_pos hc]; simp only[List.lookup_cons,hx]; exact ih h
   .rw[if_neg hc]; simp only[List.lookup_cons,hx]; exact ih h
theorem Rf{env:Env}:∀{names:List (Str × NameKind)} {x:Str},
  ((names.map λ(n,k)=>if(k == NameKind.free&&env.scope.kind == .function&&env.kindOf n == some .cell)then(n,NameKind.cell)else(n,k)).lookup x=some .cell \/
  (names.map λ(n,k)=>if(k == NameKind.free&&env.scope.kind == .function&&env.kindOf n == some .cell)then(n,NameKind.cell)else(n,k)).lookup x=some .free)->names.lookup x=some .cell\/names.lookup x=some .free
 | [],_,h=>by simp at h
 |(n,k)::r,x,h=>by
  have ih:=@Rf env r x
  rw[List.map_cons]at h
  dsimp only at h
  cases hx:x == n with
  |true =>
   by_cases hcc:(k == NameKind.free&&env.scope.kind == .function&&env.kindOf n == some .cell)=true
   .have hk:k=.free:=by
     simp only[Bool.and_eq_true,beq_iff_eq]at hcc
     exact hcc.1.1
    subst hk
    exact .inr (by simp only[List.lookup_cons,hx])
   .rw[if_neg hcc]at h
    simp only[List.lookup_cons,hx]at h ⊢
    exact h
  |false =>
   have q:=ih (by
    by_cases hcc:(k == NameKind.free&&env.scope.kind == .function&&env.kindOf n == some .cell)=true
    .rw[if_pos hcc]at h; simp only[List.lookup_cons,hx]at h; exact h
    .rw[if_neg hcc]at h; simp only[List.lookup_cons,hx]at h; exact h)
   simp only[List.lookup_cons,hx]
   exact q
theorem mV:∀(names:List (Str × NameKind)) (n:Nat) (acc:List (Str × Addr)),cellsFrom n names acc=cellsFrom n names []++acc
 | [],_,_=>rfl
 |(x,k)::r,n,acc=>by
  unfold cellsFrom
  split
  .rw[mV r (n+1) ((x,n)::acc),mV r (n+1) [(x,n)],List.append_assoc]
   rfl
  .exact mV r n acc
theorem Fv:∀(names:List (Str × NameKind)) (n:Nat) {x:Str} {c:Addr},(x,c)∈cellsFrom n names []->(x,NameKind.cell)∈names
 | [],_,_,_,h=>by cases h
 |(y,k)::r,n,x,c,h=>by
  unfold cellsFrom at h
  split at h
  .rename_i hk
   have hk:k=.cell:=by simpa using hk
   rw[mV]at h
   rcases List.mem_append.mp h with z|z
   .exact List.mem_cons_of_mem _ (Fv r _ z)
   .have z:=List.mem_singleton.mp z
    cases z
    rw[hk]
    exact List.mem_cons_self
  .exact List.mem_cons_of_mem _ (Fv r _ h)
theorem rY(x:Str):∀(a b:List (Str × Addr)),(a++b).lookup x=(match a.lookup x with|some c=>some c|none=>b.lookup x)
 | [],_=>rfl
 |(y,c)::r,b=>by
  have ih:=rY x r b
  rw[List.cons_append,List.lookup_cons,List.lookup_cons]
  cases h:x == y with
  |true=>rfl
  |false=>exact ih
theorem Rg
  (hQ:∀h',h'.Ns s.heap.objs.size (λ_=>none)->(∀b o,s.heap.get? b=some o->h'.get? b=some o)->CellsOk h' (s.heap.objs.size+1) (cellsFrom (s.heap.objs.size+1) scope.names []) ->
   Q {scope:=scope,locals:=s.heap.objs.size,globals:=globals,cells:=cellsFrom (s.heap.objs.size+1) scope.names cl,qual:=qual,func:=none,code:=env.code,frame:=env.frame,builtins:=env.builtins } {s with heap:=h',toks:=s.toks+([]:List (Str × Value)).length }) :
  wpAny M A (newFunctionEnv scope globals cl [] qual none .none (some env)) Q E s:=by
 simp only[newFunctionEnv,Option.isSome_some,if_true]
 refine wpAny_bind (wpAny_alloc ?_)
 refine wpAny_bind (wpAny_layCells _ (λname kind cells=>by cases hkc:kind == NameKind.cell <;> simp[hkc]) _ _ _ _ ?_)
 have ok:=cellsFrom_ok scope.names (s.heap.push {cls:=.type "dict",data:=.dict #[] }) (s.heap.objs.size+1) [] ⟨λ_ _ hm=>(nomatch hm),List.Pairwise.nil⟩ (by rw[Heap.size_push]; exact Nat.le_refl _)
 rw[Heap.size_push]at ok
 rw[show({s with heap:=s.heap.push {cls:=.type "dict",data:=.dict #[] } }:Shared).heap.objs.size=s.heap.objs.size+1 from Heap.size_push ..]
 exact wpAny_bind (wpAny_pure (wpAny_pure (hQ _ ((Heap.Ns.new s.heap (.type "dict")).keeps (pushCells_keeps _ _)) (λb o e=>pushCells_keeps _ _ b o (Heap.get?_push_of_some _ e)) ok)))
structure o8(sc:Scope)(No N:List Str)(src:List (Option Nat))(scope:Scope):Prop where
 kind:scope.kind=.function
 cells:∀y∈scope.names,y.2=.cell->scope.names.lookup y.1=some .cell
 names:∀y∈scope.names,y.2=.local->scope.names.lookup y.1=some .local
 free:∀y∈scope.names,y.2=.free->sc.names.lookup y.1=some .cell\/sc.names.lookup y.1=some .free
 len:src.length=N.length
 up:∀p∈N.zip src,∀j∈p.2,No[j]?=some p.1/\scope.names.lookup p.1=some .free
noncomputable def bV(src:List (Option Nat))(σ : St):St:=src.map λo=>o.bind λj=>(σ[j]?).join
noncomputable def aY(X:Cx)(N:List Str)(scope:Scope)(C:Addr)(s:Shared)(H:Hp)(ex:List Addr):Cx where
 prog:=X.prog
 w:=X.w
 K:=X.K
 mg:=X.mg
 base:=X.base
 A:=X.A
 N:=N
 s₀ := s
 H₀ := H
 env:=compEnvC scope (cellsFrom (C+1) scope.names (bM X.env.cells scope.names [])) C X.env
 outer:=X.stack
 stack:=X.stack
 ex:=ex
 fn:=λx=>scope.names.lookup x == some .cell
 calm:=X.calm
 pn:=[]
 xe:=λ_ _=>False
def Fw(Q:VK)(D:Addr)(H:Hp):Prop:=Q (.ref D) H
section
variable {X:Cx}{elt tg iter:Expr}{scope sc:Scope}{pos:Pos}{No N:List Str}{src:List (Option Nat)}{wi:TI}{g:TG}{te:TE}
theorem Rh{pins:LO}{σ : St}{H:Hp}{s:Shared}{h₁ : Heap}{fp:List Addr}{tk:Nat}(hsc:X.env.scope=sc)(fO:X.N=No)(S:o8 sc No N src scope)(I:Inv X pins σ H s)
  (hf:∀b∈fp,bT X pins H b) (hlt:∀b∈fp,b<s.heap.objs.size)
  (hns:h₁.Ns s.heap.objs.size (λ_=>none)) (old:∀b o,s.heap.get? b=some o->h₁.get? b=some o) (ck:CellsOk h₁ (s.heap.objs.size+1) (cellsFrom (s.heap.objs.size+1) scope.names [])) :
  Inv (aY X N scope s.heap.objs.size s H fp) [] (bV src σ) H {s with heap:=h₁,toks:=tk }:=by
 subst hsc
 subst fO
 have rZ:∀x c,(cellsFrom (s.heap.objs.size+1) scope.names (bM X.env.cells scope.names [])).lookup x=some c->(cellsFrom (s.heap.objs.size+1) scope.names []).lookup x=some c\/X.env.cells.lookup x=some c:=λx c h=>by
  rw[mV,rY]at h
  split at h
  .rename_i e
   exact .inl (e.trans h)
  .rcases o7 h with q|q
   .simp at q
   .exact .inr q
 have big:=λx c h=>(ck.empty x c (PySem.mem_of_lookup h)).2
 have Ri:∀x c,X.env.cells.lookup x=some c->c<s.heap.objs.size:=λx c e=>by
  obtain⟨v,q⟩:=I.cell x c e
  exact q.lt
 have amR:∀b∈frs X.stack,b<s.heap.objs.size:=λb hb=>by
  obtain⟨_,o,ho,_⟩:=I.stack.mem hb
  exact Heap.lt_size ho
 refine⟨⟨I.ok.mod,S.kind,I.ok.glob,I.ok.blt,Nat.le_refl _,λx y c h1 h2=>?_,λx hx=>?_,λx c hfn h=>?_,I.ok.hd,I.ok.frames,.inl rfl,λb hb=>⟨Nat.ne_of_lt (hlt b hb),λx c e=>?_⟩,
   I.bs,Nat.le_trans I.ok.oM I.sz,λb o e hb=>?_,λb hb hb'=>?_,I.stack,I.yH⟩,
  rfl,I.bare,Un.kept old,⟨_,hns,λi x v h1 h2 h3=>?_⟩,λx c e=>?_,I.hok.fresh (Nat.le_refl _),λx c e=>?_,λp hp=>absurd (show p∈([]:LO)from hp) (by simp),I.hok.kept old,?_⟩
 .rcases rZ _ _ h1 with z1|z1
  .rcases rZ _ _ h2 with z2|z2
   .exact name_of_addr ck.apart (PySem.mem_of_lookup z1) (PySem.mem_of_lookup z2)
   .exact absurd (Nat.le_trans (big _ _ z1) (Nat.le_of_lt (Ri _ _ z2))) (Nat.not_succ_le_self _)
  .rcases rZ _ _ h2 with z2|z2
   .exact absurd (Nat.le_trans (big _ _ z2) (Nat.le_of_lt (Ri _ _ z1))) (Nat.not_succ_le_self _)
   .exact I.ok.inj x y c z1 z2
 ·-- every cell or free name has its cell
  rcases Rf hx with m|m
  .exact Option.isSome_iff_exists.mp (PySem.W.cellsFrom_some _ _ _ (.inl m))
  .have m:=PySem.mem_of_lookup m
   have q:=qz (cells:=X.env.cells) (acc:=[]) (.inr ⟨m,by
    obtain⟨c,e⟩:=I.ok.has x (S.free _ m rfl)
    rw[e]; rfl⟩)
   exact Option.isSome_iff_exists.mp (PySem.W.cellsFrom_some _ _ _ (.inr q))
 .have hfn:scope.names.lookup x=some .cell:=by
   have z:(scope.names.lookup x == some .cell)=true:=hfn
   simpa using z
  obtain⟨c',e'⟩:=Option.isSome_iff_exists.mp (PySem.W.cellsFrom_some _ (s.heap.objs.size+1) [] (.inl hfn))
  have h:(cellsFrom (s.heap.objs.size+1) scope.names (bM X.env.cells scope.names [])).lookup x=some c:=h
  rw[mV,rY,e']at h
  cases h
  exact Nat.le_of_succ_le (big _ _ e')
 .rcases rZ _ _ e with z|z
  .exact λy=>absurd (Nat.le_trans (big _ _ z) (y▸Nat.le_of_lt (hlt b hb))) (Nat.not_succ_le_self _)
  .exact(hf b hb).2.2.2.2.1 x c z
 .obtain⟨f0,f1,f2,f3,f4,f5⟩:=hf b hb
  rcases f3 with z|z
  .exact I.ok.uX b o e z
  .have q:=Heap.lt_size (I.ok.bs b o e).1
   exact absurd q (Nat.not_lt.mpr z)
 .obtain⟨f0,f1,f2,_⟩:=hf b hb
  rcases List.mem_cons.mp (I.uY b hb')with z|z
  .exact f1 z
  .exact f2 z
 .have hi:i<src.length:=by
   unfold bV at h2
   have:=(List.getElem?_eq_some_iff.mp h2).1
   simpa using this
  have h2':((src[i]).bind λj=>(σ[j]?).join)=some v:=by
   unfold bV at h2
   rw[List.getElem?_map,List.getElem?_eq_getElem hi]at h2
   exact Option.some.inj h2
  cases es:src[i]with
  |none=>rw[es]at h2'; cases h2'
  |some j =>
   rw[es]at h2'
   have hj : σ[j]?=some (some v):=by
    have z:(σ[j]?).join=some v:=h2'
    cases q : σ[j]? with
    |none=>rw[q]at z; cases z
    |some o=>rw[q]at z; have z':o=some v:=z; rw[z']
   have hz:(x,some j)∈N.zip src:=by
    refine List.mem_of_getElem? (i:=i) ?_
    rw[List.getElem?_zip_eq_some]
    exact⟨h1,by rw[List.getElem?_eq_getElem hi,es]⟩
   obtain⟨u1,u2⟩:=S.up _ hz j rfl
   have m:(x,NameKind.free)∈scope.names:=PySem.mem_of_lookup u2
   have kx:=S.free _ m rfl
   obtain⟨m0,hn0,hl0⟩:=id I.loc
   obtain⟨u,r,lk⟩:=hl0 j x v u1 hj (kx.elim (λz=>.inr (.inl z)) λz=>.inr (.inr z))
   refine⟨u,r,?_⟩
   rcases lk with⟨k,_⟩|⟨_,c,e,ic⟩
   .have k':X.env.scope.names.lookup x=some .local:=k
    rcases kx with z|z
    .rw[z]at k'; cases k'
    .rw[z]at k'; cases k'
   .refine .inr ⟨Rb u2,c,?_,?_⟩
    .have q:=qz (cells:=X.env.cells) (acc:=[]) (.inr ⟨m,by rw[e]; rfl⟩)
     obtain⟨c',e'⟩:=Option.isSome_iff_exists.mp q
     have e2:X.env.cells.lookup x=some c':=by
      rcases o7 e' with q|q
      .simp at q
      .exact q
     rw[e]at e2; cases e2
     show(cellsFrom (s.heap.objs.size+1) scope.names (bM X.env.cells scope.names [])).lookup x=some c
     rw[mV,rY]
     split
     .rename_i c2 z
      have y:=S.cells _ (Fv _ _ (PySem.mem_of_lookup z)) rfl
      rw[u2]at y; cases y
     .exact e'
    .obtain⟨o,ho,hd⟩:=ic
     exact⟨o,old _ _ ho,hd⟩
 .rcases rZ _ _ e with z|z
  .exact⟨_,(ck.empty x c (PySem.mem_of_lookup z)).1⟩
  .obtain⟨v,o,ho,hd⟩:=I.cell x c z
   exact⟨v,o,old _ _ ho,hd⟩
 .rcases rZ _ _ e with z|z
  .exact I.hok.fresh (Nat.le_of_succ_le (big _ _ z))
  .exact I.jR x c z
 .unfold bV
  rw[List.length_map]
  exact S.len
end
def Fx(e C:Addr)(h:Heap):Prop:=∃o vs,h.get? e=some o/\o.cls=.ref C/\o.data=.fields vs
noncomputable def zH(e C:Addr):HO:=.ext (Fx e C)
noncomputable def zJ:List Str:=["NoBottom", "NoBook", "NoList", "NoRule", "NoCount", "NoLooks", "NoThings", "NotSure", "NoSlack", "NoThing", "NoWorth", "TooMany", "NoText", "NoLine"]
inductive Tr where
 |non|bl (b:Bool)|int (i:Int)|str (x:Str)|tup (ts:List Tr)|lst (ts:List Tr)|bQ (c:Str)
mutual
inductive Rep(K:FZ)(H:Hp):V->Tr->Prop
 |non:Rep K H .non .non
 |bl (b:Bool):Rep K H (.bl b) (.bl b)
 |int (i:Int):Rep K H (.int i) (.int i)
 |str (x:Str):Rep K H (.str x) (.str x)
 |tup {a:Addr} {xs:List V} {ts:List Tr} (h:bw K H a xs) (r:aA K H xs ts):Rep K H (.ref a) (.tup ts)
 |lst {a:Addr} {xs:List V} {ts:List Tr} (h:aG K H a xs) (r:aA K H xs ts):Rep K H (.ref a) (.lst ts)
 |bQ {a C:Addr} {c:Str} (h:H a=some (zH a C)) (m:c∈zJ) (n:PySem.W.nsIn K mainGlobals c=some (some (.ref C))):Rep K H (.ref a) (.bQ c)
inductive aA(K:FZ)(H:Hp):List V->List Tr->Prop
 |nil:aA K H [] []
 |cons {x:V} {t:Tr} {xs:List V} {ts:List Tr} (h:Rep K H x t) (r:aA K H xs ts):aA K H (x::xs) (t::ts)
end
theorem Rep.both{K:FZ}{H:Hp}{P:V->Tr->Prop}{Q:List V->List Tr->Prop}(h1:P .non .non)(h2:∀b,P (.bl b) (.bl b))(h3:∀i,P (.int i) (.int i))(h4:∀x,P (.str x) (.str x))(h5:∀a xs ts,bw K H a xs->Q xs ts->P (.ref a) (.tup ts))(h6:∀a xs ts,aG K H a xs->Q xs ts->P (.ref a) (.lst ts))(h7:∀a C c,H a=some (zH a C)->c∈zJ->PySem.W.nsIn K mainGlobals c=some (some (.ref C))->P (.ref a) (.bQ c))(h8:Q [] [])(h9:∀x t xs ts,P x t->Q xs ts->Q (x::xs) (t::ts)):(∀{v t},Rep K H v t->P v t)/\∀{vs ts},aA K H vs ts->Q vs ts :=
 ⟨λh=>Rep.rec (motive_1:=λv t _=>P v t) (motive_2:=λv t _=>Q v t) h1 h2 h3 h4 (λh _ q=>h5 _ _ _ h q) (λh _ q=>h6 _ _ _ h q) (λh m n=>h7 _ _ _ h m n) h8 (λ_ _ p q=>h9 _ _ _ _ p q) h,λh=>aA.rec (motive_1:=λv t _=>P v t) (motive_2:=λv t _=>Q v t) h1 h2 h3 h4 (λh _ q=>h5 _ _ _ h q) (λh _ q=>h6 _ _ _ h q) (λh m n=>h7 _ _ _ h m n) h8 (λ_ _ p q=>h9 _ _ _ _ p q) h⟩
theorem Same.iC{K:FZ}{H H':Hp}{a:Addr}{xs:List V}(e:Same H H')(h:bw K H a xs):bw K H' a xs:=by
 rcases h with(h|⟨o,h⟩)|h
 .exact .inl (.inl (e _ _ h))
 .exact .inl (.inr ⟨o,e _ _ h⟩)
 .exact .inr h
theorem Rj{K:FZ}{H H':Hp}(e:Same H H'):(∀{v t},Rep K H v t->Rep K H' v t)/\∀{vs ts},aA K H vs ts->aA K H' vs ts:=Rep.both .non .bl .int .str (λ_ _ _ h q=>.tup (e.iC h) q) (λ_ _ _ h q=>.lst (e.seq h) q) (λ_ _ _ h m n=>.bQ (e _ _ h) m n) .nil λ_ _ _ _ p q=>.cons p q
theorem Rep.mono{K:FZ}{H H':Hp}(e:Same H H'){v:V}{t:Tr}(h:Rep K H v t):Rep K H' v t:=(Rj e).1 h
theorem aA.mono{K:FZ}{H H':Hp}(e:Same H H'){v:List V}{t:List Tr}(h:aA K H v t):aA K H' v t:=(Rj e).2 h
theorem aA.length{K:FZ}{H:Hp}:∀{v:List V} {t:List Tr},aA K H v t->v.length=t.length
 |_,_,.nil=>rfl
 |_,_,.cons _ r=>by rw[List.length_cons,List.length_cons,aA.length r]
theorem aA.get{K:FZ}{H:Hp}:∀{v:List V} {t:List Tr} {i:Nat} {x:V},aA K H v t->v[i]?=some x->∃u,t[i]?=some u/\Rep K H x u
 |_,_,_,_,.nil,e=>by simp at e
 |_,_,0,_,.cons h _,e=>by
  simp at e
  subst e
  exact⟨_,rfl,h⟩
 |_,_,i+1,x,.cons _ r,e=>by
  obtain⟨u,h1,h2⟩:=aA.get (i:=i) (x:=x) r (by simpa using e)
  exact⟨u,by simpa using h1,h2⟩
theorem aA.app{K:FZ}{H:Hp}:∀{v w:List V} {t u:List Tr},aA K H v t->aA K H w u->aA K H (v++w) (t++u)
 |_,_,_,_,.nil,s=>s
 |_,_,_,_,.cons h r,s=>.cons h (aA.app r s)
theorem aA.take{K:FZ}{H:Hp}:∀{v:List V} {t:List Tr} (n:Nat),aA K H v t->aA K H (v.take n) (t.take n)
 |_,_,0,_=>by rw[List.take_zero,List.take_zero]; exact .nil
 |_,_,n+1,.nil=>by simpa using aA.nil
 |_,_,n+1,.cons h r=>by
  exact .cons h (aA.take n r)
theorem aA.drop{K:FZ}{H:Hp}:∀{v:List V} {t:List Tr} (n:Nat),aA K H v t->aA K H (v.drop n) (t.drop n)
 |_,_,0,r=>by rw[List.drop_zero,List.drop_zero]; exact r
 |_,_,n+1,.nil=>by simpa using aA.nil
 |_,_,n+1,.cons h r=>by
  exact aA.drop n r
mutual
noncomputable def dep:Tr->Nat
 |.tup ts=>deps ts+1
 |.lst ts=>deps ts+1
 |.bQ _=>100
 |_=>0
noncomputable def deps:List Tr->Nat
 | []=>0
 |t::r=>max (dep t) (deps r)
end
mutual
noncomputable def eqT:Tr->Tr->Bool
 |.non,.non=>true
 |.bl a,.bl b=>a == b
 |.bl a,.int b=>(if a then 1 else 0) == b
 |.int a,.bl b=>a == (if b then 1 else 0)
 |.int a,.int b=>a == b
 |.str a,.str b=>a == b
 |.tup a,.tup b=>jg a b
 |.lst a,.lst b=>jg a b
 |.bQ a,.bQ b=>a == b
 |_,_=>false
noncomputable def jg:List Tr->List Tr->Bool
 | [],[]=>true
 |a::x,b::y=>eqT a b&&jg x y
 |_,_=>false
end
mutual
theorem vg:∀t:Tr,eqT t t=true
 |.non=>rfl
 |.bl b=>by exact beq_self_eq_true b
 |.int i=>by exact beq_self_eq_true i
 |.str x=>by exact beq_self_eq_true x
 |.tup ts=>by exact Fy ts
 |.lst ts=>by exact Fy ts
 |.bQ c=>by exact beq_self_eq_true c
theorem Fy:∀ts:List Tr,jg ts ts=true
 | []=>rfl
 |t::r=>by show(eqT t t&&jg r r)=true; rw[vg t,Fy r]; rfl
end
theorem vh:∀{a b:List Tr},a.length≠b.length->jg a b=false
 | [],[],h=>absurd rfl h
 | [],_::_,_=>rfl
 |_::_,[],_=>rfl
 |x::a,y::b,h=>by
  show(_&&jg a b)=false
  rw[vh (a:=a) (b:=b) (by simpa using h),Bool.and_false]
noncomputable def mW(a b:List Tr)(j:Nat):Bool:=match a[j]?,b[j]? with
 |some x,some y=>eqT x y
 |_,_=>true
theorem vm:∀{a b:List Tr},a.length=b.length->(List.range a.length).all (mW a b)=jg a b
 | [],[],_=>rfl
 | [],_::_,h=>by cases h
 |_::_,[],h=>by cases h
 |x::a,y::b,h=>by
  have ih:=vm (a:=a) (b:=b) (by simpa using h)
  rw[List.length_cons,List.range_succ_eq_map,List.all_cons,List.all_map]
  show _=(eqT x y&&jg a b)
  rw[<-ih]
  rfl
section
variable {X:Cx}{pins:LO}{σ : St}{H:Hp}{s:Shared}
theorem Inv.adA(I:Inv X pins σ H s)(h:H a=some (zH a C))(p:IsTup s.heap a its):False:=by
 obtain⟨o,_,e1,e2,_⟩:=(I.hok a _ h).1
 obtain⟨o',e1',e2',_⟩:=p
 rw[e1]at e1'
 cases e1'
 rw[e2]at e2'
 cases e2'
theorem Inv.adB(I:Inv X pins σ H s)(h:H a=some (zH a C))(p:PlainL s.heap a its):False:=by
 obtain⟨o,_,e1,e2,_⟩:=(I.hok a _ h).1
 obtain⟨o',_,e1',e2',_⟩:=p
 rw[e1]at e1'
 cases e1'
 rw[e2]at e2'
 cases e2'
theorem adC(I:Inv X pins σ H s):(∀{v t},Rep X.K H v t->dep t<=99->∀u,Rep X.K H v u->t=u)/\∀{vs ts},aA X.K H vs ts->deps ts<=99->∀us,aA X.K H vs us->ts=us:=by
 refine Rep.both (λ_ u h=>?_) (λ_ _ u h=>?_) (λ_ _ u h=>?_) (λ_ _ u h=>?_) (λa xs ts h q d u h'=>?_) (λa xs ts h q d u h'=>?_) (λa C c h m n d u _=>?_) (λ_ u h=>?_) λx t xs ts p q d u h=>?_
 .cases h; rfl
 .cases h; rfl
 .cases h; rfl
 .cases h; rfl
 .obtain⟨_,_,p,_⟩:=I.tuple h
  cases h' with
  |tup h' r' =>
   have e:=I.Px h h'
   subst e
   rw[q (by unfold dep at d; lia) _ r']
  |lst h' r' =>
   obtain⟨_,_,p',_⟩:=I.list h'
   exact absurd rfl (SeqAt.ne_of_list_tuple p'.isList p)
  |bQ h' _ _=>exact(I.adA h' p).elim
 .obtain⟨_,_,p,_⟩:=I.list h
  cases h' with
  |tup h' r' =>
   obtain⟨_,_,p',_⟩:=I.tuple h'
   exact absurd rfl (SeqAt.ne_of_list_tuple p.isList p')
  |lst h' r' =>
   have e:=I.oR h h'
   subst e
   rw[q (by unfold dep at d; lia) _ r']
  |bQ h' _ _=>exact(I.adB h' p).elim
 .unfold dep at d; lia
 .cases h; rfl
 .cases h with
  |cons h r =>
   unfold deps at d
   rw[p (by lia) _ h,q (by lia) _ r]
theorem Rep.inj(I:Inv X pins σ H s){v:V}{t u:Tr}(d:dep t<=99)(h:Rep X.K H v t)(h':Rep X.K H v u):t=u:=(adC I).1 h d u h'
theorem in1_units(A:Around):A.in1.units<=A.units+1:=by
 show A.units+1<=_
 lia
theorem zK{xs:List V}{its:List Value}{j:Nat}(r:Vals xs its)(h:j<its.toArray.size):∃x,xs[j]?=some x/\RelV x its.toArray[j]:=by
 have h':j<its.length:=by simpa using h
 have hx:j<xs.length:=by rw[r.length]; exact h'
 obtain⟨u,h1,h2⟩:=r.get (List.getElem?_eq_getElem hx)
 refine⟨xs[j],List.getElem?_eq_getElem hx,?_⟩
 have e:u=its.toArray[j]:=by
  rw[List.getElem?_eq_getElem h']at h1
  have:=Option.some.inj h1
  simpa using this.symm
 rw[<-e]; exact h2
theorem Rk{a b:List Tr}{j:Nat}{x y:Tr}(h1:a[j]?=some x)(h2:b[j]?=some y):mW a b j=eqT x y:=by
 unfold mW
 rw[h1,h2]
theorem o9:∀{ts:List Tr} {j:Nat} {t:Tr},ts[j]?=some t->dep t<=deps ts
 | [],_,_,h=>by simp at h
 |x::r,0,t,h=>by
  simp at h
  subst h
  unfold deps
  exact Nat.le_max_left _ _
 |x::r,j+1,t,h=>by
  have:=o9 (ts:=r) (j:=j) (t:=t) (by simpa using h)
  unfold deps
  exact Nat.le_trans this (Nat.le_max_right _ _)
theorem vo(I:Inv X pins σ H s)(A:Around)(t u:Tr)(x y:V)(xv yv:Value)(hu:A.units+0<cLine)(hd:dep t<=0)(du:dep u<=99)(rx:Rep X.K H x t)(ry:Rep X.K H y u)(vx:RelV x xv)(vy:RelV y yv) :
  SeqAt.RcAt A s xv yv (eqT t u)/\SeqAt.EqAt A s xv yv (eqT t u):=by
 have hu0:A.units<cLine:=by lia
 cases rx with
 |tup h r=>unfold dep at hd; lia
 |lst h r=>unfold dep at hd; lia
 |bQ h m n=>unfold dep at hd; lia
 |non =>
  cases vx
  cases ry with
  |non=>cases vy; exact⟨SeqAt.RcAt.none_none,.same _⟩
  |bl b2=>cases vy; exact⟨SeqAt.RcAt.none_bool _,SeqAt.EqAt.none_bool _⟩
  |int i2=>obtain⟨_,rfl⟩:=vy; exact⟨SeqAt.RcAt.none_int _ _,SeqAt.EqAt.none_int _ _⟩
  |str z2=>obtain⟨_,rfl⟩:=vy; exact⟨SeqAt.RcAt.none_str _ _,SeqAt.EqAt.none_str _ _⟩
  |tup h r=>cases vy; obtain⟨_,_,p,_⟩:=I.tuple h; exact⟨SeqAt.RcAt.none_tuple p hu0,SeqAt.EqAt.none_tuple p hu0⟩
  |lst h r=>cases vy; obtain⟨_,_,p,_⟩:=I.list h; exact⟨SeqAt.RcAt.none_list p.isList hu0,SeqAt.EqAt.none_list p.isList hu0⟩
  |bQ h m n=>unfold dep at du; lia
 |bl b =>
  cases vx
  cases ry with
  |non=>cases vy; exact⟨SeqAt.RcAt.bool_none _,SeqAt.EqAt.bool_none _⟩
  |bl b2=>cases vy; exact⟨SeqAt.RcAt.bool_bool _ _,SeqAt.EqAt.bool_bool _ _⟩
  |int i2=>obtain⟨_,rfl⟩:=vy; exact⟨SeqAt.RcAt.bool_int _ _ _,SeqAt.EqAt.bool_int _ _ _⟩
  |str z2=>obtain⟨_,rfl⟩:=vy; exact⟨SeqAt.RcAt.bool_str _ _ _,SeqAt.EqAt.bool_str _ _ _⟩
  |tup h r=>cases vy; obtain⟨_,_,p,_⟩:=I.tuple h; exact⟨SeqAt.RcAt.bool_tuple _ p hu0,SeqAt.EqAt.bool_tuple _ p hu0⟩
  |lst h r=>cases vy; obtain⟨_,_,p,_⟩:=I.list h; exact⟨SeqAt.RcAt.bool_list _ p.isList hu0,SeqAt.EqAt.bool_list _ p.isList hu0⟩
  |bQ h m n=>unfold dep at du; lia
 |int i =>
  obtain⟨_,rfl⟩:=vx
  cases ry with
  |non=>cases vy; exact⟨SeqAt.RcAt.int_none _ _,SeqAt.EqAt.int_none _ _⟩
  |bl b2=>cases vy; exact⟨SeqAt.RcAt.int_bool _ _ _,SeqAt.EqAt.int_bool _ _ _⟩
  |int i2=>obtain⟨_,rfl⟩:=vy; exact⟨SeqAt.RcAt.int_int _ _ _ _,SeqAt.EqAt.int_int _ _ _ _⟩
  |str z2=>obtain⟨_,rfl⟩:=vy; exact⟨SeqAt.RcAt.int_str _ _ _ _,SeqAt.EqAt.int_str _ _ _ _⟩
  |tup h r=>cases vy; obtain⟨_,_,p,_⟩:=I.tuple h; exact⟨SeqAt.RcAt.int_tuple _ _ p hu0,SeqAt.EqAt.int_tuple _ _ p hu0⟩
  |lst h r=>cases vy; obtain⟨_,_,p,_⟩:=I.list h; exact⟨SeqAt.RcAt.int_list _ _ p.isList hu0,SeqAt.EqAt.int_list _ _ p.isList hu0⟩
  |bQ h m n=>unfold dep at du; lia
 |str z =>
  obtain⟨_,rfl⟩:=vx
  cases ry with
  |non=>cases vy; exact⟨SeqAt.RcAt.str_none _ _,SeqAt.EqAt.str_none _ _⟩
  |bl b2=>cases vy; exact⟨SeqAt.RcAt.str_bool _ _ _,SeqAt.EqAt.str_bool _ _ _⟩
  |int i2=>obtain⟨_,rfl⟩:=vy; exact⟨SeqAt.RcAt.str_int _ _ _ _,SeqAt.EqAt.str_int _ _ _ _⟩
  |str z2=>obtain⟨_,rfl⟩:=vy; exact⟨SeqAt.RcAt.str_str _ _ _ _,SeqAt.EqAt.str_str _ _ _ _⟩
  |tup h r=>cases vy; obtain⟨_,_,p,_⟩:=I.tuple h; exact⟨SeqAt.RcAt.str_tuple _ _ p hu0,SeqAt.EqAt.str_tuple _ _ p hu0⟩
  |lst h r=>cases vy; obtain⟨_,_,p,_⟩:=I.list h; exact⟨SeqAt.RcAt.str_list _ _ p.isList hu0,SeqAt.EqAt.str_list _ _ p.isList hu0⟩
  |bQ h m n=>unfold dep at du; lia
theorem zL(I:Inv X pins σ H s):∀(n:Nat) (A:Around) (t u:Tr) (x y:V) (xv yv:Value),A.units+n<cLine->dep t<=n->dep t<=99->dep u<=99->Rep X.K H x t->Rep X.K H y u->RelV x xv->RelV y yv ->
  SeqAt.RcAt A s xv yv (eqT t u)/\SeqAt.EqAt A s xv yv (eqT t u):=by
 intro n
 induction n with
 |zero=>exact λA t u x y xv yv hu hd _ du rx ry vx vy=>vo I A t u x y xv yv hu hd du rx ry vx vy
 |succ n ih =>
  intro A t u x y xv yv hu hd sy du rx ry vx vy
  have hu0:A.units<cLine:=by lia
  have hu1:A.in1.units+n<cLine:=by
   have:=in1_units A
   lia
  have he:∀{xs ys:List V} {ts us:List Tr} {its its2:List Value},Vals xs its->Vals ys its2->aA X.K H xs ts->aA X.K H ys us->deps ts<=n->deps ts<=99->deps us<=99->∀j (h1:j<its.toArray.size) (h2:j<its2.toArray.size),SeqAt.EqAt A.in1 s its.toArray[j] its2.toArray[j] (mW ts us j):=by
   intro xs ys ts us its its2 r1 r2 q1 q2 hde hd9 Rm j h1 h2
   obtain⟨a,ea,ra⟩:=zK r1 h1
   obtain⟨b,eb,rb⟩:=zK r2 h2
   obtain⟨ta,eta,qa⟩:=q1.get ea
   obtain⟨tb,vp,qb⟩:=q2.get eb
   rw[Rk eta vp]
   exact(ih A.in1 ta tb a b _ _ hu1 (Nat.le_trans (o9 eta) hde) (Nat.le_trans (o9 eta) hd9) (Nat.le_trans (o9 vp) Rm) qa qb ra rb).2
  have dt:∀{ts:List Tr},dep (.tup ts)<=n+1->deps ts<=n:=λ{ts} h=>by unfold dep at h; lia
  have dl:∀{ts:List Tr},dep (.lst ts)<=n+1->deps ts<=n:=λ{ts} h=>by unfold dep at h; lia
  have nt:∀{ts:List Tr},dep (.tup ts)<=99->deps ts<=99:=λ{ts} h=>by unfold dep at h; lia
  have nl:∀{ts:List Tr},dep (.lst ts)<=99->deps ts<=99:=λ{ts} h=>by unfold dep at h; lia
  have refs:∀{a b:Addr} {t u:Tr} {k:Bool},dep t<=99->Rep X.K H (.ref a) t->Rep X.K H (.ref b) u->k=eqT t u->SeqAt.RcAt A s (.ref a) (.ref b) k->SeqAt.EqAt A s (.ref a) (.ref b) k:=λ{a b t u k} d9 r1 r2 ek h=>by
   by_cases e:a=b
   .subst e
    have:=Rep.inj I d9 r1 r2
    subst this
    rw[ek,vg]
    exact .same _
   .exact .of_refs e h
  cases rx with
  | @tup a1 xs1 ts h r =>
   cases vx
   obtain⟨its,rv,p,_⟩:=I.tuple h
   cases ry with
   | @tup a2 xs2 us h' r' =>
    cases vy
    obtain⟨its2,fW,p2,_⟩:=I.tuple h'
    have R:=SeqAt.RcAt.tuples p p2 hu0 (he rv fW r r' (dt hd) (nt sy) (nt du))
    have el:its.toArray.size=ts.length:=by simpa using(rv.length.symm.trans r.length)
    have el2:its2.toArray.size=us.length:=by simpa using(fW.length.symm.trans r'.length)
    rw[el,el2]at R
    have eb:((List.range (min ts.length us.length)).all (mW ts us)&&ts.length == us.length)=eqT (.tup ts) (.tup us):=by
     show _=jg ts us
     by_cases e:ts.length=us.length
     .rw[e,Nat.min_self,<-e,vm e,beq_self_eq_true,Bool.and_true]
     .rw[beq_false_of_ne e,Bool.and_false,vh e]
    rw[eb]at R
    exact⟨R,refs sy (.tup h r) (.tup h' r') rfl R⟩
   |lst h' r' =>
    cases vy
    obtain⟨_,_,p2,_⟩:=I.list h'
    exact⟨SeqAt.RcAt.tuple_list p p2.isList hu0,.tuple_list p p2.isList hu0⟩
   |bQ h' m n=>unfold dep at du; lia
   |non=>cases vy; exact⟨SeqAt.RcAt.tuple_none p hu0,.tuple_none p hu0⟩
   |bl b=>cases vy; exact⟨SeqAt.RcAt.tuple_bool _ p hu0,.tuple_bool _ p hu0⟩
   |int i=>obtain⟨_,rfl⟩:=vy; exact⟨SeqAt.RcAt.tuple_int _ _ p hu0,.tuple_int _ _ p hu0⟩
   |str z=>obtain⟨_,rfl⟩:=vy; exact⟨SeqAt.RcAt.tuple_str _ _ p hu0,.tuple_str _ _ p hu0⟩
  | @lst a1 xs1 ts h r =>
   cases vx
   obtain⟨its,rv,p,_⟩:=I.list h
   cases ry with
   | @lst a2 xs2 us h' r' =>
    cases vy
    obtain⟨its2,fW,p2,_⟩:=I.list h'
    have el:its.toArray.size=ts.length:=by simpa using(rv.length.symm.trans r.length)
    have el2:its2.toArray.size=us.length:=by simpa using(fW.length.symm.trans r'.length)
    by_cases e:ts.length=us.length
    .have R:=SeqAt.RcAt.lists p.isList p2.isList (by rw[el,el2,e]) hu0 (he rv fW r r' (dl hd) (nl sy) (nl du))
     rw[el,vm e]at R
     have eb:jg ts us=eqT (.lst ts) (.lst us):=by rfl
     rw[eb]at R
     exact⟨R,refs sy (.lst h r) (.lst h' r') rfl R⟩
    .have R:SeqAt.RcAt A s _ _ false:=SeqAt.RcAt.lists_lengths p.isList p2.isList (by rw[el,el2]; simpa using e) hu0
     have eb:false=eqT (.lst ts) (.lst us):=(vh e).symm
     rw[eb]at R
     exact⟨R,refs sy (.lst h r) (.lst h' r') rfl R⟩
   |tup h' r' =>
    cases vy
    obtain⟨_,_,p2,_⟩:=I.tuple h'
    exact⟨SeqAt.RcAt.list_tuple p.isList p2 hu0,.list_tuple p.isList p2 hu0⟩
   |bQ h' m n=>unfold dep at du; lia
   |non=>cases vy; exact⟨SeqAt.RcAt.list_none p.isList hu0,.list_none p.isList hu0⟩
   |bl b=>cases vy; exact⟨SeqAt.RcAt.list_bool _ p.isList hu0,.list_bool _ p.isList hu0⟩
   |int i=>obtain⟨_,rfl⟩:=vy; exact⟨SeqAt.RcAt.list_int _ _ p.isList hu0,.list_int _ _ p.isList hu0⟩
   |str z=>obtain⟨_,rfl⟩:=vy; exact⟨SeqAt.RcAt.list_str _ _ p.isList hu0,.list_str _ _ p.isList hu0⟩
  |bQ h m n=>unfold dep at sy; lia
  |non=>exact vo I A _ _ _ _ _ _ (by lia) (by unfold dep; lia) du .non ry vx vy
  |bl b=>exact vo I A _ _ _ _ _ _ (by lia) (by unfold dep; lia) du (.bl b) ry vx vy
  |int i=>exact vo I A _ _ _ _ _ _ (by lia) (by unfold dep; lia) du (.int i) ry vx vy
  |str z=>exact vo I A _ _ _ _ _ _ (by lia) (by unfold dep; lia) du (.str z) ry vx vy
end
section
variable {X:Cx}{a b:Expr}{ta tb:TE}{pos:Pos}
def Fz(K:FZ):R2:=λx y H Q=>∃t u,Rep K H x t/\Rep K H y u/\dep t<=40/\dep u<=40/\Q (.bl (eqT t u)) H
theorem adD(hu:X.A.units+64<cLine):bA X (compareOp .Eq) (Fz X.K):=by
 intro pins s σ H x y v u Q I rx ry h
 obtain⟨t,t',q1,q2,hd,hd2,q⟩:=h
 exact(zL I 40 X.A t t' x y v u (by lia) hd (by lia) (by lia) q1 q2 rx ry).1 _ _ _ _ ⟨.bl _,H,I,rfl,q⟩
noncomputable def lB(t:Tr)(ts:List Tr):Bool:=ts.any λu=>eqT u t
def FJ(K:FZ):R2:=λx y H Q=>∃t ts p xs,Rep K H x t/\y=.ref p/\(aG K H p xs\/bw K H p xs)/\aA K H xs ts/\deps ts<=40/\dep t<=40/\Q (.bl (lB t ts)) H
theorem zM{xs:List V}{its:List Value}{ts:List Tr}{K:FZ}{H:Hp}(f:Tr->Bool)(e:Value->Bool)(r:Vals xs its)(q:aA K H xs ts)(h:∀x v t,x∈xs->RelV x v->Rep K H x t->t∈ts->e v=f t):its.any e=ts.any f:=by
 induction r generalizing ts with
 |nil=>cases q; rfl
 |cons r1 r2 ih =>
  cases q with
  |cons q1 q2 =>
   rw[List.any_cons,List.any_cons,h _ _ _ List.mem_cons_self r1 q1 List.mem_cons_self,ih q2 λx v t hx hr hq ht=>h x v t (List.mem_cons_of_mem _ hx) hr hq (List.mem_cons_of_mem _ ht)]
theorem sE:∀{ts:List Tr} {t:Tr},t∈ts->dep t<=deps ts:=λ{ts t} h=>by
 obtain⟨i,hi,e⟩:=List.mem_iff_getElem.mp h
 exact o9 (j:=i) (by rw[List.getElem?_eq_getElem hi,e])
open Classical in
theorem adE(hu:X.A.units+64<cLine):bA X (compareOp .In) (FJ X.K):=by
 intro pins s σ H x y v u Q I rx ry h
 obtain⟨t,ts,p,xs,q1,rfl,hq,qs,hd,hd2,q⟩:=h
 cases ry
 have hu1:X.A.in1.units+40<cLine:=by
  have:=in1_units X.A
  lia
 -- what == tells of an item,by the item itself
 let e:Value->Bool:=λw'=>if h:∃z tz,z∈xs/\RelV z w'/\Rep X.K H z tz/\tz∈ts then eqT (Classical.choose (Classical.choose_spec h)) t else false
 have ee:∀z w' tz,z∈xs->RelV z w'->Rep X.K H z tz->tz∈ts->e w'=eqT tz t:=λz w' tz h1 h2 h3 h4=>by
  have hx:∃z tz,z∈xs/\RelV z w'/\Rep X.K H z tz/\tz∈ts:=⟨z,tz,h1,h2,h3,h4⟩
  show(if h:_ then _ else _)=_
  rw[dif_pos hx]
  have sp:=Classical.choose_spec (Classical.choose_spec hx)
  have key:∀z z' t1 t2,RelV z w'->RelV z' w'->dep t1<=99->Rep X.K H z t1->Rep X.K H z' t2->t1=t2:=λz z' t1 t2 a1 a2 d9 a3 a4=>by
   obtain rfl:=RelV.inj a1 a2
   exact Rep.inj I d9 a3 a4
  rw[key _ _ _ _ sp.2.1 h2 (by have:=sE sp.2.2.2; lia) sp.2.2.1 h3]
 have mem:∀{its:List Value},Vals xs its->∀w'∈its,SeqAt.EqAt X.A.in1 s w' v (e w'):=by
  intro its r w' hw
  obtain⟨j,hj,ej⟩:=List.mem_iff_getElem.mp hw
  have hjx:j<xs.length:=by rw[r.length]; exact hj
  obtain⟨u',h1,h2⟩:=r.get (List.getElem?_eq_getElem hjx)
  rw[List.getElem?_eq_getElem hj,ej]at h1
  cases h1
  obtain⟨tz,h3,h4⟩:=qs.get (List.getElem?_eq_getElem hjx)
  have hm:=List.mem_of_getElem? h3
  rw[ee _ _ tz (List.getElem_mem hjx) h2 h4 hm]
  exact(zL I 40 X.A.in1 tz t _ x _ v hu1 (Nat.le_trans (sE hm) hd) (by have:=sE hm; lia) (by lia) h4 q1 h2 rx).2
 rcases hq with hq|hq
 .obtain⟨its,r,pl,hz⟩:=I.list hq
  refine SeqAt.in_listAt e pl.isList (λw hw=>mem r w (by simpa using hw)) ⟨.bl _,H,I,rfl,?_⟩
  rw[show its.toArray.any e=its.any e by simp,zM (λz=>eqT z t) e r qs λz w' tz h1 h2 h3 h4=>ee z w' tz h1 h2 h3 h4]
  exact q
 .obtain⟨its,r,pl,hz⟩:=I.tuple hq
  refine SeqAt.in_tupleAt e pl (λw hw=>mem r w (by simpa using hw)) ⟨.bl _,H,I,rfl,?_⟩
  rw[show its.toArray.any e=its.any e by simp,zM (λz=>eqT z t) e r qs λz w' tz h1 h2 h3 h4=>ee z w' tz h1 h2 h3 h4]
  exact q
inductive Ty where|int|bool|str|tuple|list
noncomputable def Ty.name:Ty->String
 |.int => "int" |.bool => "bool" |.str => "str" |.tuple => "tuple" |.list => "list"
noncomputable def sG:Tr->Ty->Bool
 |.bl _,.bool=>true|.bl _,.int=>true|.int _,.int=>true|.str _,.str=>true|.tup _,.tuple=>true|.lst _,.list=>true
 |_,_=>false
def Rn(K:FZ):List V->Hp->VK->Prop:=λxs H Q=>∃v t c,xs=[v,.ty (Ty.name c)]/\Rep K H v t/\Q (.bl (sG t c)) H
def mX(K:FZ):Prop:=∀c∈zJ,∀C,PySem.W.nsIn K mainGlobals c=some (some (.ref C))->(∀a,PySem.W.KitX K (.ref a) (.ref C) (Fx a C))/\∀y:Ty,PySem.W.kitOne K (.ref C) (.type y.name)=some false
theorem adF(hX:mX X.K):fL X (.builtin "isinstance") (Rn X.K):=by
 intro pins s σ H xs us Q I r h
 obtain⟨v,t,c,rfl,q1,q⟩:=h
 obtain⟨u,w',rfl,ru,jU⟩:=vals2 r
 obtain rfl:w'=Value.type (Ty.name c):=jU
 have fin:∀tk,EP X pins σ Q (.bool (sG t c)) {s with toks:=tk }:=λtk=>⟨.bl _,H,I.tok tk,rfl,q⟩
 cases q1 with
 |non=>cases ru; cases c <;> exact PySem.W.kia_one PySem.W.kitx_none I.iy True.intro (by kernel_rfl) (λz=>nomatch z) fin
 |bl y=>cases ru; cases c <;> exact PySem.W.kia_one PySem.W.kitx_bool I.iy True.intro (by kernel_rfl) (λz=>nomatch z) fin
 |int i=>obtain⟨_,rfl⟩:=ru; cases c <;> exact PySem.W.kia_one PySem.W.kitx_int I.iy True.intro (by kernel_rfl) (λz=>nomatch z) fin
 |str y=>obtain⟨_,rfl⟩:=ru; cases c <;> exact PySem.W.kia_one PySem.W.kitx_str I.iy True.intro (by kernel_rfl) (λz=>nomatch z) fin
 |tup h r =>
  cases ru
  obtain⟨_,_,⟨o,h1,h2,_⟩,_⟩:=I.tuple h
  cases c <;> exact PySem.W.kia_one PySem.W.kitx_tuple I.iy ⟨o,h1,h2⟩ (by kernel_rfl) (λz=>nomatch z) fin
 |lst h r =>
  cases ru
  obtain⟨_,_,p,_⟩:=I.list h
  obtain⟨o,h1,h2,_⟩:=p.isList
  cases c <;> exact PySem.W.kia_one PySem.W.kitx_list I.iy ⟨o,h1,h2⟩ (by kernel_rfl) (λz=>nomatch z) fin
 |bQ h m n =>
  cases ru
  obtain⟨z1,z2⟩:=hX _ m _ n
  exact PySem.W.kia_one (z1 _) I.iy (I.hok _ _ h).1 (z2 c) (λz=>nomatch z) fin
def FN(K:FZ):List V->Hp->VK->Prop:=λxs H Q=>∃(p:Addr) (bs:List Bool),xs=[.ref p]/\aG K H p (bs.map V.bl)/\Q (.bl (bs.all id)) H
theorem adG(hc:X.calm=true):fL X (.builtin "all") (FN X.K):=by
 intro pins s σ H xs us Q I r h
 obtain⟨p,bs,rfl,hq,q⟩:=h
 obtain⟨u,rfl,ru⟩:=vals1 r
 cases ru
 obtain⟨its,rv,pl,hz⟩:=I.list hq
 refine call_all_walk (wpAny_pyIter_list pl.isList ?_)
 obtain⟨ol,hol,hol'⟩:=id pl.isList
 have hlt:p<s.heap.objs.size:=Heap.lt_size hol
 have hlen:its.toArray.size=bs.length:=by simpa using rv.length.symm
 have at_:∀(i:Nat) (v:Value),its.toArray[i]?=some v->∃k,bs[i]?=some k/\v=Value.bool k:=λi v e=>by
  have e':its[i]?=some v:=by simpa using e
  have hi:i<its.length:=(List.getElem?_eq_some_iff.mp e').1
  have hb:i<(bs.map V.bl).length:=by rw[rv.length]; exact hi
  obtain⟨u',h1,h2⟩:=rv.get (List.getElem?_eq_getElem hb)
  rw[e']at h1
  cases h1
  have hb':i<bs.length:=by simpa using hb
  refine⟨bs[i],List.getElem?_eq_getElem hb',?_⟩
  rw[List.getElem_map]at h2
  exact h2
 refine⟨s.heap.objs.size,_,_,_,_,_,λi=>bs.getD i true,rfl,Walks.list (A:=X.A.in1) (I.ok.hd hc) s.heap.objs.size p (Nat.ne_of_lt hlt) its.toArray,⟨⟨_,Heap.get?_push_size _ rfl,rfl,rfl⟩,⟨ol,Heap.get?_push_of_some _ hol,hol'⟩⟩,?_,?_⟩
 .intro i v s' Q' E' hP hQ'
  obtain⟨k,h1,rfl⟩:=at_ i v hP
  have:bs.getD i true=k:=by rw[List.getD_eq_getElem?_getD,h1]; rfl
  dsimp only at hQ'
  rw[this]at hQ'
  exact wpAny_truthy_bool hQ'
 .intro h' tk hk
  have I1:Inv X pins σ H {s with heap:=h',toks:=tk }:=I.kept λb o e=>hk b o (by
   have:=Heap.lt_size e
   simp
   exact Nat.ne_of_lt this) (Heap.get?_push_of_some _ e)
  refine⟨.bl _,H,I1,rfl,?_⟩
  have eq:(List.range its.toArray.size).all (λi=>bs.getD i true)=bs.all id:=by
   rw[hlen]
   clear q hq rv at_ hlen hz
   induction bs with
   |nil=>rfl
   |cons b r ih =>
    rw[List.length_cons,List.range_succ_eq_map,List.all_cons,List.all_map,List.all_cons]
    exact congrArg (b && ·) ih
  rw[eq]
  exact q
end
def At(K:FZ)(mg:Str->Option Value)(x:Str)(st:Stmt):Prop:=∃f fd,qy K x x st f fd/\mg x=some (.ref f)
section
variable {X:Cx}{k:Nat}{x:Str}{ps:List Str}{sp:Sp}{p q pos:Pos}{e:Expr}{es:List Expr}{te:TE}{t:TA}
theorem adH(hX:mX X.K)(c:Ty)(he:PE X e te)(h1:X.mg "isinstance" = none) (h2:X.mg x=none) (hb:bootBuiltins x=some (.type c.name):=by decide +kernel) (hg1:Gl X "isinstance" := by rfl) (hg2:Gl X x:=by rfl) (hn:x ≠ "__name__" := by decide) (hd:(x == ("__debug__" : Str))=false:=by decide)
  (hs:starEach (e::[.Name x q]) X.env=(false,eval e X.env)::starEach [.Name x q] X.env:=by rfl):PE X (.Call (.Name "isinstance" p) [e,.Name x q] [] pos) (zf (Rn X.K) (Ez te (Ez (tC (.ty c.name)) Qn))) :=
 Qy (adF hX) hg1 h1 PyProof.Rows.boot_isinstance (mQ he (mQ (abA hg2 h2 hb rfl hn hd) qx) hs) (he:=hs)
end
structure Pj(Pr:Hp->Hp)(H0:Hp):Prop where
 mono:∀{H H':Hp},Same H H'->Same (Pr H) (Pr H')
 sub:∀H,Same (Pr H) H
 new:∀{H:Hp} {r:Addr} {o:HO},Same H0 H->H r=none->Pr (upd H r o) r=some o
theorem Pj.id(H0:Hp):Pj (λH=>H) H0:=⟨λs=>s,λH=>Same.refl H,λ_ _=>bN⟩
theorem Pj.le(p:Pj Pr H0)(s:Same H0 H1):Pj Pr H1:=⟨p.mono,p.sub,λs' h=>p.new (s.trans s') h⟩
theorem iD(h:H p=none)(o:HO):Same H (upd H p o):=λb u q=>by rw[aL (iw q h)]; exact q
noncomputable def notStar:Expr->Bool
 |.Starred _ _=>false
 |_=>true
theorem eG(h:notStar e=true):starEach (e::es) env=(false,eval e env)::starEach es env:=by
 cases e <;> first|rfl|(unfold notStar at h; cases h)
def qC(K:FZ)(T:Tr):TE:=λ_ H Q=>∀v H',Same H H'->(∀Pr,Pj Pr H->Rep K (Pr H') v T)->Q v H'
def sH(K:FZ)(Ts:List Tr):TA:=λ_ H Q=>∀vs H',Same H H'->(∀Pr,Pj Pr H->aA K (Pr H') vs Ts)->Q vs H'
def FQ(K:FZ)(Ts:List Tr):TE:=λ_ H Q=>∀a xs H1,Same H H1->H1 a=none->(∀Pr,Pj Pr H->aA K (Pr H1) xs Ts)->xs.length=Ts.length->Q (.ref a) (upd H1 a (.lst xs))
theorem PE.imp(h:PE X e t)(i:∀σ H Q,u σ H Q->t σ H Q):PE X e u:=⟨λpins s σ H Q I q=>h pins s σ H Q I (i σ H Q q)⟩
theorem PA.imp(h:PA X e t)(i:∀σ H Q,u σ H Q->t σ H Q):PA X e u:=⟨λpos pins s σ H Q I q=>h pos pins s σ H Q I (i σ H Q q)⟩
mutual
noncomputable def pd:Tr->PyData
 |.non=>.none
 |.bl b=>.bool b
 |.int i=>.int i
 |.str x=>.str x
 |.tup ts=>.tuple (FT ts)
 |.lst ts=>.list (FT ts)
 |.bQ _=>.none
noncomputable def FT:List Tr->List PyData
 | []=>[]
 |t::r=>pd t::FT r
end
noncomputable def nw(H H':Hp):Hp:=λb=>match H b with
 |none=>H' b
 |some _=>none
def gD(P:Program)(w:World):iz:=λouter H s E e s'=>∃ea cls a0 H' B,e=.ref ea/\E cls none H'/\s'.os=s.os/\AllBare s'.gens/\Un (frs outer) [] H H' s.heap s'.heap/\cL P w H' B /\
 Heap.FlyingW B outer ea cls a0 s'.heap/\∀b o,s.heap.get? b=some o->b∉frs outer->∃o',B.get? b=some o'
theorem adI(hf:env.frame=some L)(h:b∈frs (env::outer)):b=L\/b∈frs outer:=by
 unfold frs at h
 rw[List.filterMap_cons_some hf]at h
 exact List.mem_cons.mp h
theorem adJ(h:b∈frs outer):b∈frs (env::outer):=by
 obtain⟨e,he,q⟩:=List.mem_filterMap.mp h
 exact List.mem_filterMap.mpr ⟨e,List.mem_cons_of_mem _ he,q⟩
theorem adK(x:cL P w H h)(fr:∀b∈l,H b=none):cL P w H (PySem.W.hideAll h l):=λa o e =>
 (x a o e).stay (λb u hb q=>PySem.W.hideAll_get _ q λhm=>by
  rcases hb with rfl|hb
  .rw[fr _ hm]at e; cases e
  .rw[fr _ hm]at hb; cases hb) (λ_ q=>q) λ_ _ q=>q
section
variable {P:Program}{w:World}{K:FZ}{mg:Str->Option Value}{base:Heap}{N:List Str}{qual:Str}{scope:Scope}{f:Addr}{cd:Value}{A:Around}{outer:List Env}{s:Shared}{H:Hp}{E:XK}{CX:iz}
theorem Un.left{pins:LO}{σ : St}{H1 H2:Hp}{s1:Shared}{h2 h3 B:Heap}(I:Inv (iB CX P w K mg base N qual scope f cd A outer s H E) pins σ H1 s1)
  (u:Un (frs (envOfC qual scope s.heap.objs.size f cd::outer)) [] H1 H2 s1.heap h2) (st:B.StaysIn h2) (kb:∀b o,s1.heap.get? b=some o->b∉frs (envOfC qual scope s.heap.objs.size f cd::outer)->∃o',B.get? b=some o')
  (fl:B.StaysIn h3) (sl:h2.UpToSlots h3):Un (frs outer) [] H H2 s.heap h3/\∀b o,s.heap.get? b=some o->b∉frs outer->∃o',B.get? b=some o':=by
 have ub:=I.base
 have hf:(envOfC qual scope s.heap.objs.size f cd).frame=some s.heap.objs.size:=by
  rcases I.ok.stk with z|z
  .exact absurd (congrArg List.length z) (by show outer.length+1≠outer.length; lia)
  .exact z.2
 have no:∀b o,s.heap.get? b=some o->b∉frs outer->b∉frs (envOfC qual scope s.heap.objs.size f cd::outer):=λb o e n z=>by
  rcases adI hf z with rfl|z
  .exact absurd (Heap.lt_size e) (Nat.lt_irrefl _)
  .exact n z
 have nx:∀b:Addr,b∉([]:List Addr):=λb z=>nomatch z
 have inB:∀b o,s.heap.get? b=some o->b∉frs outer->∃o',B.get? b=some o':=λb o e n=>by
  obtain⟨o1,e1⟩:=ub.there b o e (nx b)
  exact kb b o1 e1 (no b o e n)
 have slots:∀b o,s.heap.get? b=some o->H b=none->b∈frs outer->∃sl,h3.get? b=some {o with slots:=sl }:=λb o e n z=>by
  obtain⟨Ro,e1⟩:=ub.slot b o e n z (nx b)
  obtain⟨sl2,e2⟩:=u.slot b _ e1 (ub.free b o e n (nx b)) (adJ z) (nx b)
  obtain⟨_,o',e',nf⟩:=I.ok.jB.mem z
  have e'':s.heap.get? b=some o':=e'
  rw[e]at e''
  cases e''
  obtain⟨FW,e3⟩:=sl b _ e2 nf
  exact⟨FW,e3⟩
 refine⟨⟨λb o e n z _=>?_,λb o e n z _=>slots b o e n z,λb o e n _=>?_,λb o e _=>?_,λb xs q=>u.tups b xs (ub.tups b xs q),λb o q z=>u.jP b o q (ub.jP b o q z),λb ps q=>?_⟩,inB⟩
 .have e1:=ub.keep b o e n z (nx b)
  have e2:=u.keep b o e1 (ub.free b o e n (nx b)) (no b o e z) (nx b)
  obtain⟨o',e3⟩:=inB b o e z
  have e4:=st b o' e3
  rw[e2]at e4
  cases e4
  exact fl b o e3
 .obtain⟨o1,e1⟩:=ub.there b o e (nx b)
  exact u.free b o1 e1 (ub.free b o e n (nx b)) (nx b)
 .by_cases z:b∈frs outer
  .obtain⟨sl,e1⟩:=slots b o e (I.ok.ql b z) z
   exact⟨_,e1⟩
  .obtain⟨o',e1⟩:=inB b o e z
   exact⟨o',fl b o' e1⟩
 .obtain⟨m1,e1⟩:=ub.jQ b ps q
  obtain⟨m2,e2⟩:=u.jQ b _ e1
  exact⟨m1++m2,by rw[e2,Array.append_assoc]⟩
end
def Raises(X:Cx)(E:XK):Prop:=∀(pins:LO) (σ : St) (H:Hp) (s:Shared) (h':Heap) (e C:Addr) (us:List Value),Inv X pins σ H s->Heap.MadeExcOf s.heap h' e (.ref C) us->E (.ref C) none H->X.xe (.ref e) {s with heap:=h' }
theorem Ga{P:Program}{w:World}{K:FZ}{mg:Str->Option Value}{base:Heap}{N:List Str}{qual:Str}{scope:Scope}{f:Addr}{cd:Value}{A:Around}{outer:List Env}{s:Shared}{H:Hp}{E:XK} :
  Raises (iB (gD P w) P w K mg base N qual scope f cd A outer s H E) E:=by
 intro pins σ H1 s1 h' e C us I hx q
 have hs:=I.stack
 have hf:(envOfC qual scope s.heap.objs.size f cd).frame=some s.heap.objs.size:=by
  rcases I.ok.stk with z|z
  .exact absurd (congrArg List.length z) (by show outer.length+1≠outer.length; lia)
  .exact z.2
 have hin:∀env∈(envOfC qual scope s.heap.objs.size f cd::outer),∀a,env.frame=some a->a∈frs (envOfC qual scope s.heap.objs.size f cd::outer):=λenv he b hb=>List.mem_filterMap.mpr ⟨env,he,hb⟩
 have Rq:(PySem.W.hideAll s1.heap (frs (envOfC qual scope s.heap.objs.size f cd::outer))).StaysIn s1.heap:=λb o z=>PySem.W.of_hideAll _ z
 have stH:=λb o z=>hx.keeps b o (Rq b o z)
 refine wpAny_leaves_madeW (base:=PySem.W.hideAll s1.heap (frs (envOfC qual scope s.heap.objs.size f cd::outer))) (h:=s1.heap) I.ok.frames hf Rq (PySem.W.funFrames_hide hs hin) hx λh'' t fl _ _ sl=>?_
 obtain⟨un,ib⟩:=Un.left (B:=PySem.W.hideAll s1.heap (frs (envOfC qual scope s.heap.objs.size f cd::outer))) I (Un.kept (h':=h') hx.keeps) stH (λb o z n=>⟨o,PySem.W.hideAll_get _ z n⟩) fl.1 sl
 exact⟨e,.ref C,.ref t,H1,_,rfl,q,I.os,I.bare,un,adK I.hok I.yH,fl,ib⟩
theorem Gb{P:Program}{w:World}{K:FZ}{mg:Str->Option Value}{base:Heap}{N:List Str}{qual:Str}{scope:Scope}{f:Addr}{cd:Value}{A:Around}{outer:List Env}{s:Shared}{H:Hp}{E:XK} :
  Passes (gD P w) (iB (gD P w) P w K mg base N qual scope f cd A outer s H E) E:=by
 intro pins σ H1 s1 e s' I h
 obtain⟨ea,cls,a0,H2,B,rfl,q,os,bare,un,hok,fl,kb⟩:=h
 have hf:(envOfC qual scope s.heap.objs.size f cd).frame=some s.heap.objs.size:=by
  rcases I.ok.stk with z|z
  .exact absurd (congrArg List.length z) (by show outer.length+1≠outer.length; lia)
  .exact z.2
 refine wpAny_leaves_onW (base:=B) I.ok.frames hf fl λh'' sJ sl=>?_
 obtain⟨un',ib⟩:=Un.left (B:=B) I un fl.1 kb sJ.1 sl
 exact⟨ea,cls,a0,H2,B,rfl,q,os.trans I.os,bare,un',hok,sJ,ib⟩
def adL(E:XK)(C:Addr)(te:TE):TS:=λ_ σ H=>te σ H λv H1=>[v].length=1/\E (.ref C) none H1
theorem adM(R:Raises X E)(O:OwnCls x C bm newId X.mg X.base)(FB:ExcBaseFacts B newId initId bm)(hc:X.calm=true)(ha:PE X e te)
  (hg:Gl X x:=by rfl) (hd:(x == ("__debug__" : Str))=false:=by decide) (hs:starEach [e] X.env=[(false,eval e X.env)]:=by rfl) :
  PS X (.Raise (some (.Call (.Name x np) [e] [] cpos)) none pos) (adL E C te):=by
 refine⟨λpins s σ H D I h=>?_⟩
 obtain⟨tl,N,nm,q,bs,hdct,sn,sub,ab,col,dd,k0,k1,k2,k3,k5,mN,hC,hN,hni,T⟩:=O.obj
 refine wpAny_Raise_call_subT (C:=C) (nm:=nm) (q:=q) (N:=N) (bs:=bs) (bm:=tl) (hdct:=hdct) (sn:=sn) (sub:=sub) (ab:=ab) (col:=col) (dd:=dd) (k0:=k0) (k1:=k1) (k2:=k2) (k3:=k3) (k5:=k5)
  FB (mN:=mN) (T.hasType FB.hasBase) (I.ok.hd hc) (by rw[hs]; rfl) hni (Ea I hg O.bound ⟨rfl,?_⟩ hd)
 have ga:=mQ ha qx (by rw[hs]; rfl)
 have z:=ga cpos pins s σ H (λvs H1=>vs.length=1/\E (.ref C) none H1) I (by
  exact h)
 rw[hs]at z ⊢
 refine Calls.evalArgs_plain (wpAny_mono z (λus s₂ h₂=>?_) λ_ _ y=>y)
 obtain⟨vs,H2,I2,rv,hl,hE⟩:=h₂
 refine⟨rfl,?_,I2.bk _ _ hC,hN.keeps I2.bk,T.keeps I2.bk,λh' e' hm=>R pins σ H2 s₂ h' e' C us I2 hm hE⟩
 rw[<-rv.length,hl]
 decide
def XP(X:Cx)(pins:LO)(EX:St->XK)(e:Value)(s':Shared):Prop:=∃σ H s,Inv X pins σ H s/\gD X.prog X.w X.stack H s (EX σ) e s'
abbrev TX:=Ends->(St->XK)->St->Hp->Prop
abbrev TEX:=(St->XK)->TE
end L2
end
section
namespace L2
open PySem PySem.Spec PyProof.Rows PySem.W PySem.Builtin PySem.Builtin.ObjectAttr PySem.Builtin.Getset_descriptor
structure pq(K:Frag)(C:Addr):Prop where
 ga:findIn K (.ref C) "__getattribute__" = some (some (.builtin "BaseException.__getattribute__"))
 gn:findIn K (.ref C) "__getattr__" = some none
 cl:findIn K (.ref C) "__class__" = some (some (.builtin "object.__class__"))
 ob:mroIn K C (.type "object")=some true
 be:mroIn K C (.type "BaseException")=some true
 is:(clsIn K C).isSome=true
section
variable {prog:Program}{w:World}{A:Around}{E:Value->Shared->Prop}{h:Heap}{g:Array GenState}{d:Drawn}{t:Nat}{os:OsState}{a C:Addr}{o:Obj}{K:Frag}
theorem adN(X:K.In h)(Z:pq K C)(hx:h.get? a=some o)(hc:o.cls=.ref C)(hq:R (.ok (.ret (.ref C))) ⟨h,g,d,t,os⟩) :
  codeAny (model prog w) A (.call (.builtin "getset_descriptor.__get__") ⟨[.builtin "object.__class__",.ref a,.ref C],[]⟩) R ⟨h,g,d,t,os⟩:=by
 have ty:Looks (model prog w) h (typeOf (.ref a)) (.ref C):=hc▸(Looks.ld hx).andThen .now
 have ms:=looks_mroIn (M:=model prog w) X Z.ob
 refine codeAny_call_builtin KF.slot_gs.plain KF.entry_gs (KF.slot_gs.check _ _ _ _ _ _ _ _ KF.type_class (KF.args_gs _ _ _) ?_)
 unfold Builtin.«getset_descriptor.__get__»
 unfold Builtin.Getset_descriptor.descrGet
 rw[dga_obj]
 refine wpAny_bind (wpAny_pure ?_)
 unfold Builtin.Getset_descriptor.descrGetter
 unfold Builtin.Getset_descriptor.descrCheckInstance
 unfold Builtin.Getset_descriptor.descrNameAndClass
 unfold isInstance
 simp only[KF.owner_class]
 repeat lk
 refine⟨Code.quiet_builtin _ (by decide +kernel),codeAny_builtin KF.entry_class ?_⟩
 unfold Builtin.«object.__class__»
 unfold shownTypeOf
 repeat lk
 all_goals first|exact hq|assumption
theorem adO(X:K.In h)(Z:pq K C)(hx:h.get? a=some o)(hc:o.cls=.ref C)(hq:Q (.done (.ret (.ref C))) ⟨h,g,d,t,os⟩) :
  wpAny (model prog w) A (Builtin.«object.__getattribute__» ⟨[.ref a,.str "__class__" tk],[]⟩) Q E ⟨h,g,d,t,os⟩:=by
 have hT5:(⟨h,g,d,t,os⟩:Shared).TypeIs (.builtin "object.__class__") "getset_descriptor" := KF.type_class
 have f6:=F.slot_gs_get.lookup
 have f7:=F.slot_gs_set.lookup
 have lc:=λA (Q:Option Value->Shared->Prop) E (q:Q (some (.builtin "object.__class__")) ⟨h,g,d,t,os⟩)=>looks_findIn (M:=model prog w) X Z.cl A Q E ⟨h,g,d,t,os⟩ (λ_ _ z=>z) q
 repeat(any_goals (first|assumption|(with_reducible refine wpAny_loadPart_at hx ?_; rw[hc])|with_reducible refine lc _ _ _ ?_|wp_step))
 refine adN X Z hx hc ?_
 repeat(any_goals (first|assumption|wp_step))
theorem adP(X:K.In h)(Z:pq K C)(hx:h.get? a=some o)(hc:o.cls=.ref C)(hq:Q () ⟨h,g,d,t,os⟩) :
  wpAny (model prog w) A (checkBuiltinCall "BaseException.__getattribute__" ⟨[.ref a,nameV],[]⟩) Q E ⟨h,g,d,t,os⟩:=by
 have b1:builtinKind "BaseException.__getattribute__" = some .slot:=by decide +kernel
 have b2:splitId "BaseException.__getattribute__" = some ("BaseException", "__getattribute__"):=by decide +kernel
 have ha:=F.args_bexc_ga (.ref a) nameV
 have lc:=λA (Q:Bool->Shared->Prop) E (q:Q true ⟨h,g,d,t,os⟩)=>looks_mroIn (M:=model prog w) X Z.be A Q E ⟨h,g,d,t,os⟩ (λ_ _ z=>z) q
 simp only[checkBuiltinCall,b1,b2]
 refine wpAny_bind ?_
 unfold isInstance
 repeat(first|(with_reducible refine wpAny_loadPart_at hx ?_; rw[hc])|with_reducible refine lc _ _ _ ?_|wp_step)
 exact hq
theorem adQ(X:K.In h)(Z:pq K C)(hx:h.get? a=some o)(hc:o.cls=.ref C)(hq:R (.ok (.ret (.ref C))) ⟨h,g,d,t,os⟩) :
  codeAny (model prog w) A (.call (.builtin "BaseException.__getattribute__") ⟨[.ref a,.str "__class__" tk],[]⟩) R ⟨h,g,d,t,os⟩ :=
 codeAny_call_builtin PySem.F.attr_ValueError.ga.plain F.entry_bexc_ga (adP X Z hx hc (adO X Z hx hc hq))
theorem adR(X:K.In h)(Z:pq K C)(hx:h.get? a=some o)(hc:o.cls=.ref C)(hq:Q (.ref C) ⟨h,g,d,t,os⟩) :
  wpAny (model prog w) A (getAttrBy (.ref a) (.str "__class__" tk) false) Q E ⟨h,g,d,t,os⟩:=by
 have f3:=PySem.F.attr_ValueError.ga.bind (.ref a)
 have hx2:(Value.builtin "BaseException.__getattribute__" == Value.builtin "object.__getattribute__")=false:=by decide +kernel
 have hx1:(onTheHeap (Value.ref C)&&Value.builtin "BaseException.__getattribute__" == Value.builtin "object.__getattribute__")=false:=by rw[hx2]; rfl
 have l1:=λA (Q:Option Value->Shared->Prop) E (q:Q (some (.builtin "BaseException.__getattribute__")) ⟨h,g,d,t,os⟩)=>looks_findIn (M:=model prog w) X Z.ga A Q E ⟨h,g,d,t,os⟩ (λ_ _ z=>z) q
 have l2:=λA (Q:Option Value->Shared->Prop) E (q:Q none ⟨h,g,d,t,os⟩)=>looks_findIn (M:=model prog w) X Z.gn A Q E ⟨h,g,d,t,os⟩ (λ_ _ z=>z) q
 repeat(any_goals (first|assumption|(with_reducible refine wpAny_loadPart_at hx ?_; rw[hc])|with_reducible refine l1 _ _ _ ?_|with_reducible refine l2 _ _ _ ?_|wp_step))
 refine adQ X Z hx hc ?_
 repeat(any_goals (first|assumption|wp_step))
theorem adS(X:K.In h)(Z:pq K C)(hx:h.get? a=some o)(hc:o.cls=.ref C)(hq:Q (some (.ref C)) ⟨h,g,d,t+1,os⟩) :
  wpAny (model prog w) A (getAttr? (.ref a) "__class__") Q E ⟨h,g,d,t,os⟩:=by
 repeat(any_goals (first|assumption|with_reducible apply adR X Z hx hc|wp_step))
theorem adT(Z:pq K C):KitX K (.ref a) (.ref C) (Fx a C) where
 ty:=λ_ _ _ ⟨o,_,h1,h2,_⟩=>h2▸(Looks.ld h1).andThen .now
 it:=λ_ _ X _=>by
  obtain⟨cd,e⟩:=Option.isSome_iff_exists.mp Z.is
  unfold clsIn at e
  split at e
  .rename_i ho
   intro A' Q' E' s' k q
   unfold isType loadHead
   exact wpAny_bind (wpAny_loadPart (k _ _ (X _ _ ho)) (wpAny_pure q))
  .cases e
 ne:=λh tp dd its n sl X htp=>by
  obtain⟨cd,e⟩:=Option.isSome_iff_exists.mp Z.is
  refine Bool.eq_false_iff.mpr λq=>?_
  have q':C=tp:=Value.ref.inj (beq_iff_eq.mp q)
  subst q'
  unfold clsIn at e
  split at e
  .rename_i ho
   have z:=(X _ _ ho).symm.trans htp
   cases z
  .cases e
 ca:=λ{_ _ _ _ _ s} X p k=>by
  obtain⟨h,g,d,t,os⟩:=s
  obtain⟨o,_,h1,h2,_⟩:=p
  exact adS X Z h1 h2 k
end
open PySem
theorem adU(a b:Int):a=b*a.fdiv b+a.fmod b:=by
 have:=Int.mul_fdiv_add_fmod a b
 omega
theorem Rr(a b:Int)(h:b≠0):(a.fmod b).natAbs<b.natAbs:=by
 have h1:=Int.emod_nonneg a h
 have h2:=Int.emod_lt a h
 rw[Int.fmod_eq_emod]
 split
 .omega
 .rename_i hn
  have hb:¬0<=b:=λz=>hn (.inl z)
  have hd:¬b∣a:=λz=>hn (.inr z)
  have h3:a%b≠0:=λz=>hd (Int.dvd_of_emod_eq_zero z)
  omega
theorem Rw(a b:Int):Int.gcd b (a.fmod b)=Int.gcd a b:=by
 have e:=adU a b
 apply Nat.dvd_antisymm
 .refine Int.dvd_gcd ?_ ?_
  .have h1:(Int.gcd b (a.fmod b):Int)∣b:=Int.gcd_dvd_left ..
   have h2:(Int.gcd b (a.fmod b):Int)∣a.fmod b:=Int.gcd_dvd_right ..
   have h3:=Int.dvd_add (Int.dvd_mul_of_dvd_left (c:=a.fdiv b) h1) h2
   rw[<-e]at h3
   exact h3
  .exact Int.gcd_dvd_left ..
 .refine Int.dvd_gcd ?_ ?_
  .exact Int.gcd_dvd_right ..
  .have h1:(Int.gcd a b:Int)∣a:=Int.gcd_dvd_left ..
   have h2:(Int.gcd a b:Int)∣b:=Int.gcd_dvd_right ..
   have e2:a.fmod b=a-b*a.fdiv b:=by omega
   rw[e2]
   exact Int.dvd_sub h1 (Int.dvd_mul_of_dvd_left h2)
theorem adV(a:Int):(if a<0 then -a else a)=((Int.gcd a 0:Nat):Int):=by
 rw[Int.gcd_zero_right]
 split <;> omega
theorem sS(hb:0<b):0<((Int.gcd a b:Nat):Int)/\((Int.gcd a b:Nat):Int)<=b/\1<=b / (Int.gcd a b:Nat)/\Int.gcd (a / (Int.gcd a b:Nat)) (b / (Int.gcd a b:Nat))=1/\(0<=a->0<=a / (Int.gcd a b:Nat)) /\
  a=(a / (Int.gcd a b:Nat))*(Int.gcd a b:Nat)/\b=(b / (Int.gcd a b:Nat))*(Int.gcd a b:Nat):=by
 have hg:0<Int.gcd a b:=Int.gcd_pos_of_ne_zero_right a (by omega)
 have hgi:0<((Int.gcd a b:Nat):Int):=by omega
 have d1:(Int.gcd a b:Int)∣a:=Int.gcd_dvd_left ..
 have d2:(Int.gcd a b:Int)∣b:=Int.gcd_dvd_right ..
 have e1:=Int.ediv_mul_cancel d1
 have e2:=Int.ediv_mul_cancel d2
 refine⟨hgi,Int.le_of_dvd hb d2,?_,Int.gcd_ediv_gcd_ediv_gcd hg,λh=>Int.ediv_nonneg h (by omega),e1.symm,e2.symm⟩
 have:0<b / (Int.gcd a b:Nat):=Int.ediv_pos_of_pos_of_dvd hb (by omega) d2
 omega
open PySem.Spec PyProof.Rows
theorem adW(h1:1<=q)(h2:1<=q')(g1:Int.gcd p q=1)(g2:Int.gcd p' q'=1)(e:p*q'=p'*q):p=p'/\q=q':=by
 have en:p.natAbs*q'.natAbs=p'.natAbs*q.natAbs:=by rw[<-Int.natAbs_mul,<-Int.natAbs_mul,e]
 have c1:Nat.Coprime q.natAbs p.natAbs:=by rw[Nat.coprime_comm]; exact g1
 have c2:Nat.Coprime q'.natAbs p'.natAbs:=by rw[Nat.coprime_comm]; exact g2
 have d1:q.natAbs∣q'.natAbs:=c1.dvd_of_dvd_mul_left ⟨p'.natAbs,by rw[en,Nat.mul_comm]⟩
 have d2:q'.natAbs∣q.natAbs:=c2.dvd_of_dvd_mul_left ⟨p.natAbs,by rw[<-en,Nat.mul_comm]⟩
 have ea:=Nat.dvd_antisymm d1 d2
 have eq:q=q':=by lia
 refine⟨?_,eq⟩
 rw[<-eq]at e
 exact Int.eq_of_mul_eq_mul_right (by lia) e
open PySem.W
theorem adX{K:Frag}{h:Heap}{mg:Str->Option Value}{x:Str}{C:Addr}{bmB:List Value}{newId:String}(X:K.In h)(G:h.Ns mainGlobals mg)(e:nsIn K mainGlobals x=some (some (.ref C)))(q:excIn K C bmB newId=true):OwnCls x C bmB newId mg h:=by
 constructor
 .exact mg_of X G e
 unfold excIn at q
 split at q
 case h_2=>cases q
 rename_i dd cd sl lk
 split at q
 case h_2=>cases q
 rename_i c0 bm y0 y1 y2 y3 nid y5 hm hl
 rw[Bool.and_eq_true,Bool.and_eq_true,Bool.and_eq_true,Bool.and_eq_true,Bool.and_eq_true]at q
 obtain⟨⟨⟨⟨⟨q1,q2⟩,q3⟩,q4⟩,q5⟩,q6⟩:=q
 have r1:=beq_iff_eq.mp q1
 have r2:=beq_iff_eq.mp q2
 have r6:=beq_iff_eq.mp q6
 have r3:cd.hasDel=false:=by simpa using q3
 subst r1 r2
 have hsl:sl = #[y0,y1,y2,y3,some (.builtin nid),y5]:=by
  cases sl with
  |mk l=>exact congrArg Array.mk hl
 subst hsl
 cases cd with
 |mk nm bs mro ns qn hd sn sub ab col del =>
  subst hm r3
  exact⟨bm,ns,nm,qn,bs,hd,sn,sub,ab,col,dd,y0,y1,y2,y3,y5,_,X _ _ lk,.of_isNs (isNs_of_in X q5),nsMap_none_of_in X q5 r6,tail_of_in X q4⟩
section
variable {P:Program}{w:World}{K:Frag}{mg:Str->Option Value}{base:Heap}
theorem qy.okX{x qual:Str}{st:Stmt}{f:Addr}{fd:FuncData}{N ps:List Str}{k:Nat}{sp:Sp}(F:qy K x qual st f fd)(S:rT N ps (bU st))(len:∀vs H Q E,sp vs H Q E->vs.length=ps.length)
  (hbody:∀(cdv:Value) (A:Around) (outer:List Env) (s:Shared) (H:Hp) (vs:List V) (Q:VK) (E:XK),dW k (A.deeper (envOfC qual (bU st) s.heap.objs.size f cdv))->sp vs H Q E ->
   ∃t,eE (iB (gD P w) P w K mg base N qual (bU st) f cdv A outer s H E) (gC st) t/\t {nx:=λ_ H'=>Q .non H',rt:=Q } (start N vs) H):jf P w K mg base (gD P w) (k+1) f fd ps sp:=by
 obtain⟨oc,od,kV,doc,pm,an,cdv,ct,osl,rfl,lk,hcd⟩:=F.ex
 exact Qx lk hcd S len λA outer s H vs Q E hr h=>hbody cdv A outer s H vs Q E hr h
def jC(P:Program)(w:World)(K:Frag)(mg:Str->Option Value)(base:Heap)(k:Nat)(x:Str)(ps:List Str)(sp:Sp):Prop :=
 ∃f fd,jf P w K mg base (gD P w) k f fd ps sp/\Binds K fd ps []/\keepIn K (.ref f)=true/\mg x=some (.ref f)
theorem jC.mono(D:jC P w K mg base j x ps sp)(h:j<=k):jC P w K mg base k x ps sp:=by
 obtain⟨f,fd,h1,h2⟩:=D
 exact⟨f,fd,h1.mono h,h2⟩
theorem At.Gd{k:Nat}{x:Str}{st:Stmt}{N ps:List Str}{sp:Sp}(a:At K mg x st)(S:rT N ps (bU st))
  (hb:∀(kV doc pm:Value) (an:Option Addr) (cdv ct:Value) (us:List Value),us.length=ps.length->bindArgs (fnOf x x (jX st) (gC st) (bU st) .none kV doc pm an cdv ct) ⟨us,[]⟩=pure (ps.zip us))
  (len:∀vs H Q E,sp vs H Q E->vs.length=ps.length)
  (hbody:∀(f:Addr) (cdv:Value) (A:Around) (outer:List Env) (s:Shared) (H:Hp) (vs:List V) (Q:VK) (E:XK),dW k (A.deeper (envOfC x (bU st) s.heap.objs.size f cdv))->sp vs H Q E ->
   ∃t,eE (iB (gD P w) P w K mg base N x (bU st) f cdv A outer s H E) (gC st) t/\t {nx:=λ_ H'=>Q .non H',rt:=Q } (start N vs) H):jC P w K mg base (k+1) x ps sp:=by
 obtain⟨f,fd,F,m⟩:=a
 exact⟨f,fd,F.okX S len λcdv A outer s H vs Q E hr h=>hbody f cdv A outer s H vs Q E hr h,F.binds hb,F.kp,m⟩
end
section
variable {X:Cx}{k:Nat}{x:Str}{ps:List Str}{sp:Sp}{p pos:Pos}{e:Expr}{es:List Expr}{t:TA}
theorem Rx:Passes (gD P w) X E0:=λ_ _ _ _ _ _ _ h=>by
 obtain⟨_,_,_,_,_,_,q,_⟩:=h
 exact q.elim
end
end L2
end
section
namespace L2
open PySem PySem.Spec PyProof.Rows
noncomputable def Ry(K:FZ)(l1 l2:Addr):It where
 go:=λi H=>∃xs ys x y,aG K H l1 xs/\aG K H l2 ys/\xs[i]?=some x/\ys[i]?=some y
 jV:=λi H v H'=>∃T x y,v=.ref T/\H T=none/\H'=upd H T (.tup [x,y])/\∀xs ys,aG K H l1 xs->aG K H l2 ys->xs[i]?=some x/\ys[i]?=some y
 stop:=λi H=>∃xs ys,aG K H l1 xs/\aG K H l2 ys/\i=min xs.length ys.length
def adY(l1 l2 z TI TO i1 i2:Addr)(i:Nat)(h:Heap):Prop:=IsZip h z TI TO .none/\IsPair h TI (.ref i1) (.ref i2)/\(∃a b,IsPair h TO a b)/\h.IsListIter i1 l1 i/\h.IsListIter i2 l2 i
section
variable {P:Program}{w:World}{K:FZ}
theorem Inv.Ge{pins:LO}{tk:Nat}{fp:List Addr}{xs:List V}{its:List Value}(I:Inv X pins σ H s)(hf:∀b∈fp,bT X pins H b)(k:∀b o,b∉fp->s.heap.get? b=some o->h'.get? b=some o)
  (th:∀b∈fp,∃o,h'.get? b=some o) (hT:s.heap.objs.size<=T) (ht:IsTup h' T its.toArray) (rv:Vals xs its) (hz:xs.length<=sizeLine):Inv X pins σ (upd H T (.tup xs)) {s with heap:=h',toks:=tk }:=by
 have fT:H T=none:=I.hok.fresh hT
 have neT:∀b o,s.heap.get? b=some o->b≠T:=λb o e z=>by rw[z]at e; exact absurd (Heap.lt_size e) (Nat.not_lt.mpr hT)
 have vq:∀b o,H b=some o->b≠T:=λb o e z=>by rw[z,fT]at e; cases e
 refine I.step (g':=s.gens) (d':=s.drawn) (ch:=fp) (λb hb=>?_) (λb o _ _ hc e _=>k b o hc e) (λb o _ _ hc e _=>⟨o.slots,k b o hc e⟩) (λb o _ e n=>by rw[aL (neT b o e)]; exact n) (λb o hc e=>⟨o,k b o hc e⟩)
  (λb ys e=>by rw[aL (vq b _ e)]; exact e) (λb o u e=>by rw[aL (vq b _ e)]; exact e) (λb ps e=>⟨#[],by rw[aL (vq b _ e)]; simpa using e⟩) (λm hm=>?_) (λb u e=>?_) I.bare
 .obtain⟨f0,f1,f2,f3,f4,f5⟩:=hf b hb
  exact⟨f3,f1,f4,f5⟩
 .obtain⟨o,es,ep,ho,r⟩:=hm
  exact⟨o,es,ep,k _ o (λz=>(hf _ z).2.1 rfl) ho,r⟩
 .by_cases z:b=T
  .subst z
   rw[bN]at e
   cases e
   exact⟨hz,its,rv,ht⟩
  .rw[aL z]at e
   refine(I.hok b u e).stay (λc o hc q=>k c o (λzc=>?_) q) (λc q=>by rw[aL (vq c _ q)]; exact q) λc ys q=>by rw[aL (vq c _ q)]; exact q
   have:=(hf c zc).1
   rcases hc with rfl|hc
   .rw[this]at e; cases e
   .rw[this]at hc; cases hc
theorem Inv.Gf{pins:LO}{tk:Nat}{fp:List Addr}(I:Inv X pins σ H s)(hf:∀b∈fp,bT X pins H b)(k:∀b o,b∉fp->s.heap.get? b=some o->h'.get? b=some o):Inv X pins σ H {s with heap:=h',toks:=tk }:=by
 refine I.step (g':=s.gens) (d':=s.drawn) (ch:=fp) (λb hb=>?_) (λb o _ _ hc e _=>k b o hc e) (λb o _ _ hc e _=>⟨o.slots,k b o hc e⟩) (λb o _ e n=>n) (λb o hc e=>⟨o,k b o hc e⟩)
  (λb ys e=>e) (λb o u e=>e) (λb ps e=>⟨#[],by simpa using e⟩) (λm hm=>?_) (λb u e=>?_) I.bare
 .obtain⟨f0,f1,f2,f3,f4,f5⟩:=hf b hb
  exact⟨f3,f1,f4,f5⟩
 .obtain⟨o,es,ep,ho,r⟩:=hm
  exact⟨o,es,ep,k _ o (λz=>(hf _ z).2.1 rfl) ho,r⟩
 .refine(I.hok b u e).stay (λc o hc q=>k c o (λzc=>?_) q) (λc q=>q) λc ys q=>q
  have:=(hf c zc).1
  rcases hc with rfl|hc
  .rw[this]at e; cases e
  .rw[this]at hc; cases hc
theorem adZ{elts:List Expr}{k:Nat}(l1 l2 z TI TO i1 i2:Addr)(D:ZipApart z TI TO i1 i2 l1 l2):Turn P w K (.Tuple elts k pos) (Ry K l1 l2) [z,TI,TO,i1,i2] z (adY l1 l2 z TI TO i1 i2) where
 mem:=by simp
 obj:=λi h st b hb=>by
  obtain⟨hz,hTI,⟨a,c,hTO⟩,⟨o1,e1,_,d1⟩,⟨o2,e2,_,d2⟩⟩:=st
  have hb':b=z\/b=TI\/b=TO\/b=i1\/b=i2:=by simpa using hb
  rcases hb' with rfl|rfl|rfl|rfl|rfl
  .exact⟨_,hz,λv q=>nomatch q⟩
  .exact⟨_,hTI,λv q=>nomatch q⟩
  .exact⟨_,hTO,λv q=>nomatch q⟩
  .exact⟨o1,e1,λv q=>by rw[d1]at q; cases q⟩
  .exact⟨o2,e2,λv q=>by rw[d2]at q; cases q⟩
 keep:=λi h h' st kp=>by
  obtain⟨hz,hTI,⟨a,c,hTO⟩,h1,h2⟩:=st
  exact⟨kp z (by simp) _ hz,kp TI (by simp) _ hTI,⟨a,c,kp TO (by simp) _ hTO⟩,h1.at λo e=>kp i1 (by simp) o e,h2.at λo e=>kp i2 (by simp) o e⟩
 item:=by
  intro X hP hw hK hc i pins s σ H E I hf st hg
  subst hP hw hK
  obtain⟨xs,ys,x,y,q1,q2,hx,hy⟩:=hg
  obtain⟨gG,mY,p1,_⟩:=I.list q1
  obtain⟨its2,fW,p2,_⟩:=I.list q2
  obtain⟨u,hu,ru⟩:=mY.get hx
  obtain⟨v,hv,rv⟩:=fW.get hy
  have W:=WalksT.zip2 (prog:=X.prog) (w:=X.w) (A:=X.A) (I.ok.hd hc) z TI TO i1 i2 l1 l2 D gG.toArray its2.toArray
  have lt1:i<gG.length:=(List.getElem?_eq_some_iff.mp hu).1
  have aM:i<its2.length:=(List.getElem?_eq_some_iff.mp hv).1
  refine W.item i s _ E (by simp; lia) ⟨st.1,st.2.1,st.2.2.1,st.2.2.2.1,st.2.2.2.2,p1.isList,p2.isList⟩ λT vals h' tk hp hT ht mid kk=>?_
  obtain⟨u',v',e1,e2,rfl⟩:=hp
  have eu:u'=u:=by
   have:gG[i]?=some u':=by simpa using e1
   rw[hu]at this; cases this; rfl
  have ev:v'=v:=by
   have:its2[i]?=some v':=by simpa using e2
   rw[hv]at this; cases this; rfl
  subst eu ev
  refine⟨.ref T,rfl,?_⟩
  refine W.go elts k pos i T _ _ E mid λh'' st' vA=>?_
  have nT:=W.apart i T _ mid
  have ob:=(λb hb=>(by
   obtain⟨hz,hTI,⟨a,c,hTO⟩,⟨o1,e1,_,d1⟩,⟨o2,e2,_,d2⟩⟩:=st
   have hb':b=z\/b=TI\/b=TO\/b=i1\/b=i2:=by simpa using hb
   rcases hb' with rfl|rfl|rfl|rfl|rfl
   .exact Heap.lt_size hz
   .exact Heap.lt_size hTI
   .exact Heap.lt_size hTO
   .exact Heap.lt_size e1
   .exact Heap.lt_size e2:b<s.heap.objs.size):∀b∈[z,TI,TO,i1,i2],b<s.heap.objs.size)
  have Gg:T∉[z,TI,TO,i1,i2]:=λm=>absurd (ob T m) (Nat.not_lt.mpr hT)
  have sub:∀b,b∉[z,TI,TO,i1,i2]->b∉[z,TO,i1,i2]:=λb n m=>n (by simp at m ⊢; rcases m with rfl|rfl|rfl|rfl <;> simp)
  have Gh:IsTup h'' T #[u',v']:=by
   obtain⟨o,e,r⟩:=ht
   exact⟨o,vA T o nT e,r⟩
  have th:∀b∈[z,TI,TO,i1,i2],∃o,h''.get? b=some o:=λb hb=>by
   obtain⟨hz,hTI,⟨a,c,hTO⟩,⟨o1,e1,_,d1⟩,⟨o2,e2,_,d2⟩,_⟩:=st'
   have hb':b=z\/b=TI\/b=TO\/b=i1\/b=i2:=by simpa using hb
   rcases hb' with rfl|rfl|rfl|rfl|rfl
   .exact⟨_,hz⟩
   .exact⟨_,hTI⟩
   .exact⟨_,hTO⟩
   .exact⟨_,e1⟩
   .exact⟨_,e2⟩
  have I':Inv X pins σ (upd H T (.tup [x,y])) {s with heap:=h'',toks:=tk }:=I.Ge (its:=[u',v']) hf (λb o n e=>vA b o (sub b n) (kk b o (sub b n) e)) th hT Gh (.cons ru (.cons rv .nil)) (by show 2<=sizeLine; decide)
  refine⟨.ref T,_,I',rfl,⟨T,x,y,rfl,I.hok.fresh hT,rfl,λxs' ys' a1 a2=>?_⟩,⟨st'.1,st'.2.1,st'.2.2.1,st'.2.2.2.1,st'.2.2.2.2.1⟩,λb hb=>?_⟩
  .rw[I.oR a1 q1,I.oR a2 q2]
   exact⟨hx,hy⟩
  .have nb:b≠T:=by
    intro e0
    rw[e0]at hb
    exact Gg hb
   rw[aL nb]
   exact(hf b hb).1
 done:=by
  intro X hP hw hK hc i pins s σ H E I hf st hg
  subst hP hw hK
  obtain⟨xs,ys,q1,q2,e⟩:=hg
  obtain⟨gG,mY,p1,_⟩:=I.list q1
  obtain⟨its2,fW,p2,_⟩:=I.list q2
  have W:=WalksT.zip2 (prog:=X.prog) (w:=X.w) (A:=X.A) (I.ok.hd hc) z TI TO i1 i2 l1 l2 D gG.toArray its2.toArray
  have ei:i=min gG.toArray.size its2.toArray.size:=by simp[e,mY.length,fW.length]
  subst ei
  have sub:∀b,b∉[z,TI,TO,i1,i2]->b∉[z,TO,i1,i2]:=λb n m=>n (by simp at m ⊢; rcases m with rfl|rfl|rfl|rfl <;> simp)
  exact W.done s _ E ⟨st.1,st.2.1,st.2.2.1,st.2.2.2.1,st.2.2.2.2,p1.isList,p2.isList⟩ λh' tk kk=>⟨rfl,I.Gf hf λb o n e=>kk b o (sub b n) e⟩
 self:=λA i s Q E st h=>wpAny_pyIter_zip st.1 h
end
section
variable {X:Cx}
def ad0(K:FZ)(ta:TA):TI:=λσ H R=>ta σ H λvs H1=>∃l1 l2,vs=[.ref l1,.ref l2]/\(∃xs,aG K H1 l1 xs)/\(∃ys,aG K H1 l2 ys)/\R (Ry K l1 l2) H1
theorem ad1(hm:X.mg "zip" = none) (ha:PA X [a,b] ta) (hg:Gl X "zip" := by rfl) (hs:starEach [a,b] X.env=[(false,eval a X.env),(false,eval b X.env)]:=by rfl) (hs2:starEach [b] X.env=[(false,eval b X.env)]:=by rfl) :
  PI X (.Tuple elts k tpos) (.Call (.Name "zip" p) [a,b] [] pos) (ad0 X.K ta):=by
 intro pins s σ H R I h
 refine Call_ (jT I hg hm (show bootBuiltins "zip" = some (.type "zip") by decide +kernel) (PyProof.Rows.callWith_type1 (aD (ha pos pins s σ H _ I h) λus s1 ⟨vs,H1,I1,r1,q1⟩=>?_) (by rw[hs,hs2]) (by rw[hs2]; rfl)))
 obtain⟨l1,l2,e,⟨xs,h1⟩,⟨ys,h2⟩,q⟩:=q1
 subst e
 cases r1 with
 |cons r rr =>
  cases rr with
  |cons r' rr =>
   cases rr
   cases r
   cases r'
   obtain⟨gG,mY,p1,_⟩:=I1.list h1
   obtain⟨its2,fW,p2,_⟩:=I1.list h2
   obtain⟨o1,e1,_⟩:=p1.isList
   obtain⟨o2,e2,_⟩:=p2.isList
   refine call_zip_2 p1.isList p2.isList λh' hz hTI hTO hi1 hi2 hsz hk=>?_
   refine wpAny_pyIter_zip hz ?_
   refine⟨_,[_,_,_,_,_],_,_,H1,rfl,I1.kept (t':=s1.toks) hk,adZ l1 l2 _ _ _ _ _ (PySem.W.ktu_apart _ _ _ (Heap.lt_size e1) (Heap.lt_size e2)),⟨hz,hTI,⟨_,_,hTO⟩,hi1,hi2⟩,λc hc=>?_,q⟩
   have hc':c=s1.heap.objs.size+4\/c=s1.heap.objs.size+2\/c=s1.heap.objs.size+3\/c=s1.heap.objs.size\/c=s1.heap.objs.size+1:=by simpa using hc
   have hge:s1.heap.objs.size<=c:=by rcases hc' with rfl|rfl|rfl|rfl|rfl <;> lia
   exact I1.jW hge (I1.hok.fresh hge)
end
end L2
end
section
namespace L2
open PySem
theorem den_pos(r:Rat):1<=(r.den:Int):=by have:=r.den_pos; omega
theorem zN(r:Rat):Rat.divInt r.num (r.den:Int)=r:=Rat.num_divInt_den r
theorem add_eq(r s:Rat):Rat.divInt (r.num*s.den+s.num*r.den) (r.den*s.den)=r+s:=by
 have h:=Rat.divInt_add_divInt r.num s.num (d₁ := r.den) (d₂ := s.den) (by have:=den_pos r; omega) (by have:=den_pos s; omega)
 rw[zN,zN]at h
 exact h.symm
theorem mul_eq(r s:Rat):Rat.divInt (r.num*s.num) (r.den*s.den)=r*s:=by
 have h:=Rat.divInt_mul_divInt r.num s.num (d₁ := r.den) (d₂ := s.den)
 rw[zN,zN]at h
 exact h.symm
open PySem.Spec PyProof.Rows
section
variable {X:Cx}
def Gi(K:FZ):R2:=λx y H Q=>∃t ts p xs,Rep K H x t/\y=.ref p/\(aG K H p xs\/bw K H p xs)/\aA K H xs ts/\deps ts<=40/\dep t<=40/\Q (.bl (!lB t ts)) H
open Classical in
theorem ad2(hu:X.A.units+64<cLine):bA X (compareOp .NotIn) (Gi X.K):=by
 intro pins s σ H x y v u Q I rx ry h
 obtain⟨t,ts,p,xs,q1,rfl,hq,qs,hd,hd2,q⟩:=h
 cases ry
 have hu1:X.A.in1.units+40<cLine:=by
  have:=in1_units X.A
  lia
 -- what == tells of an item,by the item itself
 let e:Value->Bool:=λw'=>if h:∃z tz,z∈xs/\RelV z w'/\Rep X.K H z tz/\tz∈ts then eqT (Classical.choose (Classical.choose_spec h)) t else false
 have ee:∀z w' tz,z∈xs->RelV z w'->Rep X.K H z tz->tz∈ts->e w'=eqT tz t:=λz w' tz h1 h2 h3 h4=>by
  have hx:∃z tz,z∈xs/\RelV z w'/\Rep X.K H z tz/\tz∈ts:=⟨z,tz,h1,h2,h3,h4⟩
  show(if h:_ then _ else _)=_
  rw[dif_pos hx]
  have sp:=Classical.choose_spec (Classical.choose_spec hx)
  have key:∀z z' t1 t2,RelV z w'->RelV z' w'->dep t1<=99->Rep X.K H z t1->Rep X.K H z' t2->t1=t2:=λz z' t1 t2 a1 a2 d9 a3 a4=>by
   obtain rfl:=RelV.inj a1 a2
   exact Rep.inj I d9 a3 a4
  rw[key _ _ _ _ sp.2.1 h2 (by have:=sE sp.2.2.2; lia) sp.2.2.1 h3]
 have mem:∀{its:List Value},Vals xs its->∀w'∈its,SeqAt.EqAt X.A.in1 s w' v (e w'):=by
  intro its r w' hw
  obtain⟨j,hj,ej⟩:=List.mem_iff_getElem.mp hw
  have hjx:j<xs.length:=by rw[r.length]; exact hj
  obtain⟨u',h1,h2⟩:=r.get (List.getElem?_eq_getElem hjx)
  rw[List.getElem?_eq_getElem hj,ej]at h1
  cases h1
  obtain⟨tz,h3,h4⟩:=qs.get (List.getElem?_eq_getElem hjx)
  have hm:=List.mem_of_getElem? h3
  rw[ee _ _ tz (List.getElem_mem hjx) h2 h4 hm]
  exact(zL I 40 X.A.in1 tz t _ x _ v hu1 (Nat.le_trans (sE hm) hd) (by have:=sE hm; lia) (by lia) h4 q1 h2 rx).2
 rcases hq with hq|hq
 .obtain⟨its,r,pl,hz⟩:=I.list hq
  refine SeqAt.notIn_listAt e pl.isList (λw hw=>mem r w (by simpa using hw)) ⟨.bl _,H,I,rfl,?_⟩
  rw[show its.toArray.any e=its.any e by simp,zM (λz=>eqT z t) e r qs λz w' tz h1 h2 h3 h4=>ee z w' tz h1 h2 h3 h4]
  exact q
 .obtain⟨its,r,pl,hz⟩:=I.tuple hq
  refine SeqAt.notIn_tupleAt e pl (λw hw=>mem r w (by simpa using hw)) ⟨.bl _,H,I,rfl,?_⟩
  rw[show its.toArray.any e=its.any e by simp,zM (λz=>eqT z t) e r qs λz w' tz h1 h2 h3 h4=>ee z w' tz h1 h2 h3 h4]
  exact q
end
section
variable {X:Cx}
def Gj(K:FZ):R2:=λx y H Q=>∃t u,Rep K H x t/\Rep K H y u/\dep t<=40/\dep u<=40/\Q (.bl (!eqT t u)) H
theorem ad3(hu:X.A.units+64<cLine):bA X (compareOp .NotEq) (Gj X.K):=by
 intro pins s σ H x y v u Q I vx vy h
 obtain⟨t,t',rx,ry,hd,du,q⟩:=h
 have hu0:X.A.units<cLine:=by lia
 have hu1:X.A.in1.units+40<cLine:=by
  have:=in1_units X.A
  lia
 have fin:SeqAt.RcNeAt X.A s v u (!eqT t t')->wpAny (model X.prog X.w) X.A (compareOp .NotEq v u) (EP X pins σ Q) X.xe s:=λh=>h _ _ _ _ ⟨.bl _,H,I,rfl,q⟩
 have items:∀{xs ys:List V} {ts us:List Tr} {its its2:List Value},Vals xs its->Vals ys its2->aA X.K H xs ts->aA X.K H ys us->deps ts<=40->deps us<=40->∀j (h1:j<its.toArray.size) (h2:j<its2.toArray.size),SeqAt.EqAt X.A.in1 s its.toArray[j] its2.toArray[j] (mW ts us j):=by
  intro xs ys ts us its its2 r1 r2 q1 q2 hde Rm j h1 h2
  obtain⟨a,ea,ra⟩:=zK r1 h1
  obtain⟨b,eb,rb⟩:=zK r2 h2
  obtain⟨ta,eta,qa⟩:=q1.get ea
  obtain⟨tb,vp,qb⟩:=q2.get eb
  rw[Rk eta vp]
  exact(zL I 40 X.A.in1 ta tb a b _ _ hu1 (Nat.le_trans (o9 eta) hde) (by have:=o9 eta; lia) (by have:=o9 vp; lia) qa qb ra rb).2
 cases rx with
 |bQ h m n=>unfold dep at hd; lia
 |non =>
  cases vx
  cases ry with
  |non=>cases vy; exact fin .none_none
  |bl b2=>cases vy; exact fin (.none_bool _)
  |int i2=>obtain⟨_,rfl⟩:=vy; exact fin (.none_int _ _)
  |str z2=>obtain⟨_,rfl⟩:=vy; exact fin (.none_str _ _)
  |tup h r=>cases vy; obtain⟨_,_,p,_⟩:=I.tuple h; exact fin (.none_tuple p hu0)
  |lst h r=>cases vy; obtain⟨_,_,p,_⟩:=I.list h; exact fin (.none_list p.isList hu0)
  |bQ h m n=>unfold dep at du; lia
 |bl b =>
  cases vx
  cases ry with
  |non=>cases vy; exact fin (.bool_none _)
  |bl b2=>cases vy; exact fin (.bool_bool _ _)
  |int i2=>obtain⟨_,rfl⟩:=vy; exact fin (.bool_int _ _ _)
  |str z2=>obtain⟨_,rfl⟩:=vy; exact fin (.bool_str _ _ _)
  |tup h r=>cases vy; obtain⟨_,_,p,_⟩:=I.tuple h; exact fin (.bool_tuple _ p hu0)
  |lst h r=>cases vy; obtain⟨_,_,p,_⟩:=I.list h; exact fin (.bool_list _ p.isList hu0)
  |bQ h m n=>unfold dep at du; lia
 |int i =>
  obtain⟨_,rfl⟩:=vx
  cases ry with
  |non=>cases vy; exact fin (.int_none _ _)
  |bl b2=>cases vy; exact fin (.int_bool _ _ _)
  |int i2=>obtain⟨_,rfl⟩:=vy; exact fin (.int_int _ _ _ _)
  |str z2=>obtain⟨_,rfl⟩:=vy; exact fin (.int_str _ _ _ _)
  |tup h r=>cases vy; obtain⟨_,_,p,_⟩:=I.tuple h; exact fin (.int_tuple _ _ p hu0)
  |lst h r=>cases vy; obtain⟨_,_,p,_⟩:=I.list h; exact fin (.int_list _ _ p.isList hu0)
  |bQ h m n=>unfold dep at du; lia
 |str z =>
  obtain⟨_,rfl⟩:=vx
  cases ry with
  |non=>cases vy; exact fin (.str_none _ _)
  |bl b2=>cases vy; exact fin (.str_bool _ _ _)
  |int i2=>obtain⟨_,rfl⟩:=vy; exact fin (.str_int _ _ _ _)
  |str z2=>obtain⟨_,rfl⟩:=vy; exact fin (.str_str _ _ _ _)
  |tup h r=>cases vy; obtain⟨_,_,p,_⟩:=I.tuple h; exact fin (.str_tuple _ _ p hu0)
  |lst h r=>cases vy; obtain⟨_,_,p,_⟩:=I.list h; exact fin (.str_list _ _ p.isList hu0)
  |bQ h m n=>unfold dep at du; lia
 | @tup a1 xs1 ts h1 r1 =>
  cases vx
  obtain⟨its,rv,p,_⟩:=I.tuple h1
  have hd':deps ts<=40:=by unfold dep at hd; lia
  cases ry with
  |non=>cases vy; exact fin (.tuple_none p hu0)
  |bl b2=>cases vy; exact fin (.tuple_bool _ p hu0)
  |int i2=>obtain⟨_,rfl⟩:=vy; exact fin (.tuple_int _ _ p hu0)
  |str z2=>obtain⟨_,rfl⟩:=vy; exact fin (.tuple_str _ _ p hu0)
  |lst h r=>cases vy; obtain⟨_,_,p2,_⟩:=I.list h; exact fin (.tuple_list p p2.isList hu0)
  |bQ h m n=>unfold dep at du; lia
  | @tup a2 xs2 us h2 r2 =>
   cases vy
   obtain⟨its2,fW,p2,_⟩:=I.tuple h2
   have R:=SeqAt.RcNeAt.tuples (A:=X.A) (e:=mW ts us) p p2 (by lia) λj k1 k2=>items rv fW r1 r2 hd' (by unfold dep at du; lia) j k1 k2
   have el:its.toArray.size=ts.length:=by simpa using(rv.length.symm.trans r1.length)
   have el2:its2.toArray.size=us.length:=by simpa using(fW.length.symm.trans r2.length)
   rw[el,el2]at R
   have eb:((List.range (min ts.length us.length)).all (mW ts us)&&ts.length == us.length)=eqT (.tup ts) (.tup us):=by
    show _=jg ts us
    by_cases e:ts.length=us.length
    .rw[e,Nat.min_self,<-e,vm e,beq_self_eq_true,Bool.and_true]
    .rw[beq_false_of_ne e,Bool.and_false,vh e]
   rw[eb]at R
   exact fin R
 | @lst a1 xs1 ts h1 r1 =>
  cases vx
  obtain⟨its,rv,p,_⟩:=I.list h1
  have hd':deps ts<=40:=by unfold dep at hd; lia
  cases ry with
  |non=>cases vy; exact fin (.list_none p.isList hu0)
  |bl b2=>cases vy; exact fin (.list_bool _ p.isList hu0)
  |int i2=>obtain⟨_,rfl⟩:=vy; exact fin (.list_int _ _ p.isList hu0)
  |str z2=>obtain⟨_,rfl⟩:=vy; exact fin (.list_str _ _ p.isList hu0)
  |bQ h m n=>unfold dep at du; lia
  |tup h r=>cases vy; obtain⟨_,_,p2,_⟩:=I.tuple h; exact fin (.list_tuple p.isList p2 hu0)
  | @lst a2 xs2 us h2 r2 =>
   cases vy
   obtain⟨its2,fW,p2,_⟩:=I.list h2
   have el:its.toArray.size=ts.length:=by simpa using(rv.length.symm.trans r1.length)
   have el2:its2.toArray.size=us.length:=by simpa using(fW.length.symm.trans r2.length)
   by_cases e:ts.length=us.length
   .have R:=SeqAt.RcNeAt.lists (A:=X.A) (e:=mW ts us) p.isList p2.isList (by lia) (by lia) λj k1 k2=>items rv fW r1 r2 hd' (by unfold dep at du; lia) j k1 k2
    rw[el]at R
    rw[vm e]at R
    exact fin R
   .have R:=SeqAt.RcNeAt.lists_lengths (A:=X.A) p.isList p2.isList (by rw[el,el2]; simpa using e) (by lia)
    exact fin (show SeqAt.RcNeAt X.A s (.ref a1) (.ref a2) (!jg ts us)from(vh e).symm▸R)
end
open Classical in
noncomputable def cg(o:Obj):Obj:=if o.cls=.type "list" ∧ ¬(∃its n,o={cls:=.type "list",data:=.seq its n })then{cls:=.none,data:=.fields #[] }else o
noncomputable def au(K:FZ):FZ:=K.map λp=>(p.1,cg p.2)
theorem jD:∀(K:FZ) (a:Addr),(au K).lookup a=(K.lookup a).map cg
 | [],a=>rfl
 |(c,q)::r,a=>by
  show((c,cg q)::au r).lookup a=_
  rw[List.lookup_cons,List.lookup_cons]
  cases a == c with
  |true=>rfl
  |false=>exact jD r a
theorem ad4{K:FZ}{a:Addr}{o:Obj}(h:(au K).lookup a=some o)(c:o.cls=.type "tuple"):K.lookup a=some o:=by
 rw[jD]at h
 cases e:K.lookup a with
 |none=>rw[e]at h; cases h
 |some q =>
  rw[e]at h
  have h:cg q=o:=Option.some.inj h
  unfold cg at h
  split at h
  .subst h; cases c
  .rw[h]
theorem ad5{K:FZ}{a:Addr}{o:Obj}(h:(au K).lookup a=some o)(c:o.cls=.type "list"):K.lookup a=some o∧∃its n,o={cls:=.type "list",data:=.seq its n }:=by
 rw[jD]at h
 cases e:K.lookup a with
 |none=>rw[e]at h; cases h
 |some q =>
  rw[e]at h
  have h:cg q=o:=Option.some.inj h
  unfold cg at h
  split at h
  .subst h; cases c
  .rename_i n
   subst h
   refine⟨rfl,?_⟩
   by_cases z:∃its n,q={cls:=.type "list",data:=.seq its n }
   .exact z
   .exact(n ⟨c,z⟩).elim
theorem ad6{K:FZ}{a:Addr}{o:Obj}(h:K.lookup a=some o)(c:o.cls=.type "tuple"):(au K).lookup a=some o:=by
 rw[jD,h]
 show some (cg o)=some o
 unfold cg
 rw[if_neg (by rintro⟨z,_⟩; rw[c]at z; injection z with z; exact absurd z (by decide))]
theorem bw.toK{K:FZ}{H:Hp}{a:Addr}{xs:List V}(h:bw (au K) H a xs):bw K H a xs:=by
 rcases h with h|⟨o,its,n,e,c,r⟩
 .exact .inl h
 .exact .inr ⟨o,its,n,ad4 e c,c,r⟩
def iG(K:FZ)(H:Hp)(a:Addr)(xs:List V):Prop:=Rd H a (.lst xs)\/∃(its:Array Value) (n:Nat),K.lookup a=some {cls:=.type "list",data:=.seq its n }/\its.size<=sizeLine/\Vals xs its.toList
theorem aG.zP{K:FZ}{H:Hp}{a:Addr}{xs:List V}(h:aG (au K) H a xs):iG K H a xs:=by
 rcases h with h|⟨o,its,n,e,c,_,d,r⟩
 .exact .inl h
 .obtain⟨e2,its',n',rfl⟩:=ad5 e c
  injection d with d1 d2
  subst d1 d2
  exact .inr ⟨its',n',e2,r⟩
theorem iG.toK{K:FZ}{H:Hp}{a:Addr}{xs:List V}(h:iG K H a xs):aG K H a xs:=by
 rcases h with h|⟨its,n,e,r⟩
 .exact .inl h
 .exact .inr ⟨_,its,n,e,rfl,rfl,rfl,r⟩
theorem iG.toN{K:FZ}{H:Hp}{a:Addr}{xs:List V}(h:iG K H a xs):aG (au K) H a xs:=by
 rcases h with h|⟨its,n,e,r⟩
 .exact .inl h
 .refine .inr ⟨{cls:=.type "list",data:=.seq its n },its,n,?_,rfl,rfl,rfl,r⟩
  rw[jD,e]
  show some (cg _)=_
  unfold cg
  rw[if_neg λz=>z.2 ⟨its,n,rfl⟩]
theorem aG.toK{K:FZ}{H:Hp}{a:Addr}{xs:List V}(h:aG (au K) H a xs):aG K H a xs:=h.zP.toK
theorem ad7{K:FZ}{N:Addr}{c:Str}{v:Value}(h:PySem.W.nsIn (au K) N c=some (some v)):PySem.W.nsIn K N c=some (some v):=by
 unfold PySem.W.nsIn at h ⊢
 rw[jD]at h
 cases e:K.lookup N with
 |none=>rw[e]at h; cases h
 |some q =>
  rw[e]at h
  by_cases z:q.cls=.type "list" ∧ ¬(∃its n,q={cls:=.type "list",data:=.seq its n })
  .have:cg q={cls:=.none,data:=.fields #[] }:=by unfold cg; rw[if_pos z]
   rw[show(some q).map cg=some (cg q)from rfl,this]at h
   cases h
  .have:cg q=q:=by unfold cg; rw[if_neg z]
   rw[show(some q).map cg=some (cg q)from rfl,this]at h
   exact h
theorem Rz{K:FZ}{H:Hp}:(∀{v t},Rep (au K) H v t->Rep K H v t)/\∀{vs ts},aA (au K) H vs ts->aA K H vs ts:=Rep.both .non .bl .int .str (λ_ _ _ h q=>.tup h.toK q) (λ_ _ _ h q=>.lst h.toK q) (λ_ _ _ h m n=>.bQ h m (ad7 n)) .nil λ_ _ _ _ p q=>.cons p q
theorem Rep.toK{K:FZ}{H:Hp}{v:V}{t:Tr}(h:Rep (au K) H v t):Rep K H v t:=Rz.1 h
theorem aA.toK{K:FZ}{H:Hp}{v:List V}{t:List Tr}(h:aA (au K) H v t):aA K H v t:=Rz.2 h
section
variable {X:Cx}
theorem Inv.Gm(I:Inv X pins σ H s)(hH:iG X.K H l xs):xs.length<=sizeLine/\∃(its:List Value) (n:Nat),Vals xs its/\xs.length=its.length/\s.heap.get? l=some {cls:=.type "list",data:=.seq its.toArray n }:=by
 rcases hH with hH|⟨its,n,e,z,r⟩
 .obtain⟨z,its,n,r,e⟩:=hH.ok I.hok
  exact⟨z,its,n,r,r.length,e⟩
 .have l':=r.length.trans Array.length_toList
  exact⟨by rw[l']; exact z,its.toList,n,r,r.length,I.iy _ _ e⟩
def RB(K:FZ):R2:=λx y H Q=>∃l b xs zs,x=.ref l/\y=.ref b/\iG K H l xs/\iG K H b zs/\xs.length+zs.length<=sizeLine/\∀p,H p=none->Q (.ref p) (upd H p (.lst (xs++zs)))
theorem ad8:bA X (binaryOp .Add) (RB X.K):=by
 intro pins s σ H x y v u Q I rx ry h
 obtain⟨l,b,xs,zs,rfl,rfl,hH,hB,hz,q⟩:=h
 cases rx
 cases ry
 obtain⟨z,its,n,r,hl,e⟩:=I.Gm hH
 obtain⟨z2,its2,n2,r2,hl2,e2⟩:=I.Gm hB
 refine PySem.P.add_list e e2 ?_ (by rw[List.size_toArray,List.size_toArray]; lia)
 have ea:its.toArray++its2.toArray=(its++its2).toArray:=by simp
 rw[ea]
 exact⟨.ref _,_,I.zB (t':=s.toks) (r.append r2) (by rw[List.length_append]; lia),rfl,q _ I.fresh⟩
end
def RD(K:FZ):R2:=λx y H Q=>∃l k xs,x=.ref l/\y=.int k/\iG K H l xs /\ -(2 ^ 63)<=k/\k<2 ^ 63/\xs.length*k.toNat<=sizeLine/\∀p,H p=none->Q (.ref p) (upd H p (.lst (List.replicate k.toNat xs).flatten))
theorem ad9{X:Cx}:bA X (binaryOp .Mult) (RD X.K):=by
 intro pins s σ H x y v u Q I rx ry h
 obtain⟨l,k,xs,rfl,rfl,hH,h1,h2,hz,q⟩:=h
 cases rx
 obtain⟨t,rfl⟩:=ry
 obtain⟨z,its,n,r,hl,e⟩:=I.Gm hH
 have hlen:its.toArray.size*k.toNat<=sizeLine:=by rw[List.size_toArray,<-hl]; exact hz
 have hcap:¬its.toArray.size*k.toNat > (2 ^ 63-1) / 8:=by
  have:(sizeLine:Nat)<=(2 ^ 63-1) / 8:=by decide
  lia
 have hfit:¬(!Builtin.List.listFitsIndex k)=true:=by
  rw[fitsIndex_both h1 h2]
  exact Bool.false_ne_true
 have aea:¬Builtin.List.listTooLong (its.toArray.size*k.toNat)=true:=by
  rw[adq hlen]
  exact Bool.false_ne_true
 have hnew:List.foldl (λx1 x2=>x1++x2) #[] (List.replicate (if its.toArray.isEmpty=true then 0 else k.toNat) its.toArray)=(List.replicate k.toNat its).flatten.toArray:=by
  have f0:∀m:Nat,List.foldl (λx1 x2=>x1++x2) #[] (List.replicate m its.toArray)=(List.replicate m its).flatten.toArray:=λm=>by
   have:=foldl_rep its m []
   rw[List.nil_append]at this
   exact this
  rw[f0]
  cases its with
  |nil=>simp
  |cons a r'=>rw[if_neg (by simp)]
 refine wpAny_binaryOp_repeat_ref (T := "list") (U := "int") (by decide) ⟨_,e,rfl⟩ (λs'=>typeIs_int s' k t) noFill_list_mul F.fills_int_mul F.slot_int_rmul repeat_list F.slot_int_index.lookup
  (call_meets F.slot_int_rmul (typeIs_int s k t) F.entry_int_rmul (F.args_int_rmul_2 _ _) (int___rmul___int_list k t l its.toArray n)
   ⟨e,rfl,⟨_,e,rfl⟩,call_meets F.slot_list_mul ⟨_,e,rfl⟩ F.entry_list_mul (F.args_list_mul_2 _ _) (AutoListH.list___mul___list_int_3 l its.toArray n k t hfit hcap aea) ⟨e,?_⟩⟩)
 rw[hnew]
 exact⟨.ref _,_,I.zB (t':=s.toks) (r.rep k.toNat) (by rw[len_rep,Nat.mul_comm]; exact hz),rfl,q _ I.fresh⟩
inductive Rs(α : Type) where
 |bad|ex (c:Str)|ok (a : α)
noncomputable def Rs.bind{α β : Type}:Rs α -> (α -> Rs β)->Rs β
 |.bad,_=>.bad
 |.ex c,_=>.ex c
 |.ok a,f=>f a
noncomputable instance:Monad Rs where
 pure:=.ok
 bind:=Rs.bind
inductive Sl where
 |un|sh (t:Tr)|ow (ts:List Tr)|rf (ts:List Tr)|dp (ts:List Tr)
abbrev En:=List Sl
inductive Rv where
 |v (T:Tr) (fr:Bool)|s (i:Nat)
abbrev EF:=En->Rs (Rv × En)
abbrev BF:=En->Rs (Bool × En)
abbrev AF:=En->Rs (List Rv × En)
abbrev OF:=En->Rs (Option Int × En)
abbrev IF:=En->Rs (List Tr × En)
abbrev GF:=Tr->En->Rs En
abbrev sU:=List Tr->En->Rs En
inductive Fl where
 |nx|rt (T:Tr) (fr:Bool)|bk|ct
abbrev SF:=En->Rs (Fl × En)
noncomputable def qD:Tr->Bool
 |.lst _=>true
 |_=>false
noncomputable def eZ:List Str:=["falling_places", "order_of_bounds"]
def Tb(K:FZ)(b:Addr):Prop:=∃x∈eZ,∃c,PySem.W.tabIn K x=some (c,b)
def RG(o:Obj)(q:Str):Prop:=∃vs t,o.data=.fields vs/\vs[1]?=some (.str q t)
noncomputable def zQ(x:Str):Str:=x++(".<locals>." : Str)++("<lambda>" : Str)
def zR(H:Hp)(q:Str)(ps:Array Value):Prop:=TriplesOk ps.toList/\∀pos v,codeAmong pos ps.toList=some v->∃c o,v=.ref c/\H c=some (.cQ o (.own 0))/\RG o q
def bK(K:FZ)(H:Hp):Prop:=∀x∈eZ,∀c b,PySem.W.tabIn K x=some (c,b)->∃ps,H b=some (.cJ ps)/\zR H (zQ x) ps
theorem bK.cJ{K:FZ}{H:Hp}(h:bK K H){b:Addr}(t:Tb K b):∃ps,H b=some (.cJ ps):=by
 obtain⟨x,hx,c,e⟩:=t
 obtain⟨ps,q,_⟩:=h x hx c b e
 exact⟨ps,q⟩
theorem bK.nt{K:FZ}{H:Hp}(h:bK K H){b:Addr}{xs:List V}(e:H b=some (.lst xs)):¬Tb K b:=λt=>by
 obtain⟨ps,q⟩:=h.cJ t
 rw[e]at q
 cases q
theorem bK.fr{K:FZ}{H H':Hp}(h:bK K H)(s:∀b o,(∀xs,o ≠ .lst xs)->H b=some o->H' b=some o):bK K H':=λx hx c b e=>by
 obtain⟨ps,q,t1,t2⟩:=h x hx c b e
 refine⟨ps,s _ _ (λ_ z=>by cases z) q,t1,λpos v k=>?_⟩
 obtain⟨c,o,e1,e2,e3⟩:=t2 pos v k
 exact⟨c,o,e1,s _ _ (λ_ z=>by cases z) e2,e3⟩
theorem bK.upd{K:FZ}{H:Hp}(h:bK K H){a:Addr}{xs:List V}{o:HO}(e:H a=some (.lst xs)):bK K (L2.upd H a o):=h.fr λb u n q=>by
 rw[aL]
 .exact q
 .rintro rfl
  rw[e]at q
  cases q
  exact n _ rfl
mutual
noncomputable def bh:Tr->Bool
 |.tup ts=>bD ts
 |.lst _=>false
 |_=>true
noncomputable def bD:List Tr->Bool
 | []=>true
 |t::r=>bh t&&bD r
end
inductive DR(K:FZ)(G H:Hp):List V->List Tr->List Addr->Prop
 |nil:DR K G H [] [] []
 |cl {x:V} {u:Tr} {xs:List V} {ts:List Tr} {bs:List Addr} (n:bh u=true) (h:Rep K G x u) (r:DR K G H xs ts bs):DR K G H (x::xs) (u::ts) bs
 |rw {b:Addr} {ys:List V} {us:List Tr} {cs:List Addr} {xs:List V} {ts:List Tr} {bs:List Addr} (h:H b=some (.lst ys)) (q:DR K G H ys us cs) (r:DR K G H xs ts bs):DR K G H (.ref b::xs) (.lst us::ts) (b::(cs++bs))
 |tp {b:Addr} {ys:List V} {us:List Tr} {cs:List Addr} {xs:List V} {ts:List Tr} {bs:List Addr} (h:bw K G b ys) (q:DR K G H ys us cs) (r:DR K G H xs ts bs):DR K G H (.ref b::xs) (.tup us::ts) (cs++bs)
theorem DR.mono{K:FZ}{G G' H H':Hp}(m:Same G G'){xs:List V}{ts:List Tr}{bs:List Addr}(h:DR K G H xs ts bs):(∀b∈bs,∀o,H b=some o->H' b=some o)->DR K G' H' xs ts bs:=by
 induction h with
 |nil=>exact λ_=>.nil
 |cl n h _ ih=>exact λk=>.cl n (h.mono m) (ih k)
 |rw h _ _ i1 i2=>exact λk=>.rw (k _ (List.mem_cons_self ..) _ h) (i1 λb hb=>k b (List.mem_cons_of_mem _ (List.mem_append_left _ hb))) (i2 λb hb=>k b (List.mem_cons_of_mem _ (List.mem_append_right _ hb)))
 |tp h _ _ i1 i2=>exact λk=>.tp (m.iC h) (i1 λb hb=>k b (List.mem_append_left _ hb)) (i2 λb hb=>k b (List.mem_append_right _ hb))
theorem DR.lst{K:FZ}{G H:Hp}{xs:List V}{ts:List Tr}{bs:List Addr}(h:DR K G H xs ts bs):∀b∈bs,∃ys,H b=some (.lst ys):=by
 induction h with
 |nil=>exact λ_ h=>by cases h
 |cl _ _ _ ih=>exact ih
 |rw q _ _ i1 i2 =>
  intro b h
  rcases List.mem_cons.mp h with rfl|h
  .exact⟨_,q⟩
  .exact(List.mem_append.mp h).elim (i1 b) (i2 b)
 |tp _ _ _ i1 i2=>exact λb h=>(List.mem_append.mp h).elim (i1 b) (i2 b)
theorem DR.flat{K:FZ}{G H:Hp}:∀{ts:List Tr} {xs:List V},aA K G xs ts->bD ts=true->DR K G H xs ts []
 | [],_,h,_=>by cases h; exact .nil
 |t::ts,_,h,n=>by
  cases h with
  |cons h r =>
   have n:(bh t&&bD ts)=true:=n
   rw[Bool.and_eq_true]at n
   exact .cl n.1 h (DR.flat r n.2)
theorem DR.nil_of{K:FZ}{G H:Hp}{xs:List V}{ts:List Tr}{bs:List Addr}(h:DR K G H xs ts bs):bD ts=true->bs=[]:=by
 induction h with
 |nil=>exact λ_=>rfl
 | @cl _ u _ ts _ _ _ _ ih =>
  intro n
  have n:(bh u&&bD ts)=true:=n
  rw[Bool.and_eq_true]at n
  exact ih n.2
 |rw=>exact λn=>(by cases n)
 | @tp _ _ us _ _ ts _ _ _ _ i1 i2 =>
  intro n
  have n:(bD us&&bD ts)=true:=n
  rw[Bool.and_eq_true]at n
  rw[i1 n.1,i2 n.2]
  rfl
theorem sV:∀{ts:List Tr},(∀t∈ts,bh t=true)->bD ts=true
 | [],_=>rfl
 |t::ts,h=>by
  show(bh t&&bD ts)=true
  rw[h t (List.mem_cons_self ..),sV λx hx=>h x (List.mem_cons_of_mem _ hx)]
  rfl
theorem DR.app{K:FZ}{G H:Hp}{xs ys:List V}{ts us:List Tr}{as bs:List Addr}(h:DR K G H xs ts as)(r:DR K G H ys us bs):DR K G H (xs++ys) (ts++us) (as++bs):=by
 induction h with
 |nil=>exact r
 |cl n h _ ih=>exact .cl n h ih
 |rw h q _ _ ih=>have:=DR.rw h q ih; rw[<-List.append_assoc]at this; exact this
 |tp h q _ _ ih=>have:=DR.tp h q ih; rw[<-List.append_assoc]at this; exact this
theorem DR.reps{K:FZ}{G G' H:Hp}(m:Same G G'){xs:List V}{ts:List Tr}{bs:List Addr}(h:DR K G H xs ts bs):(∀b∈bs,G' b=H b)->aA K G' xs ts:=by
 induction h with
 |nil=>exact λ_=>.nil
 |cl n h _ ih=>exact λk=>.cons (h.mono m) (ih k)
 |rw h _ _ i1 i2=>exact λk=>.cons (.lst (aG.of ((k _ (List.mem_cons_self ..)).trans h)) (i1 λb hb=>k b (List.mem_cons_of_mem _ (List.mem_append_left _ hb)))) (i2 λb hb=>k b (List.mem_cons_of_mem _ (List.mem_append_right _ hb)))
 |tp h _ _ i1 i2=>exact λk=>.cons (.tup (m.iC h) (i1 λb hb=>k b (List.mem_append_left _ hb))) (i2 λb hb=>k b (List.mem_append_right _ hb))
theorem DR.length{K:FZ}{G H:Hp}{xs:List V}{ts:List Tr}{bs:List Addr}(h:DR K G H xs ts bs):xs.length=ts.length:=by
 induction h with
 |nil=>rfl
 |cl _ _ _ ih=>rw[List.length_cons,List.length_cons,ih]
 |rw _ _ _ _ ih=>rw[List.length_cons,List.length_cons,ih]
 |tp _ _ _ _ ih=>rw[List.length_cons,List.length_cons,ih]
theorem DR.split{K:FZ}{G H:Hp}{xs:List V}{t:Tr}{ts:List Tr}{bs:List Addr}(h:DR K G H xs (t::ts) bs):∃v ys c b,xs=v::ys/\bs=c++b/\DR K G H [v] [t] c/\DR K G H ys ts b:=by
 cases h with
 |cl n h r=>exact⟨_,_,[],_,rfl,rfl,.cl n h .nil,r⟩
 | @rw b _ _ cs _ _ bs h q r=>exact⟨_,_,b::cs,bs,rfl,rfl,by have:=DR.rw h q .nil; rwa[List.append_nil]at this,r⟩
 | @tp b _ _ cs _ _ bs h q r=>exact⟨_,_,cs,bs,rfl,rfl,by have:=DR.tp h q .nil; rwa[List.append_nil]at this,r⟩
theorem DR.at{K:FZ}{G H:Hp}:∀{ts:List Tr} {xs:List V} {bs:List Addr} {m:Nat} {T:Tr},DR K G H xs ts bs->bs.Nodup->ts[m]?=some T->∃v cs,xs[m]?=some v/\DR K G H [v] [T] cs/\cs.Nodup/\(∀c∈cs,c∈bs)/\∀G' H' T',Same G G'->(∀b∈bs,b∉cs->∀o,H b=some o->H' b=some o)->DR K G' H' [v] [T'] cs->DR K G' H' xs (ts.set m T') bs
 | [],_,_,_,_,_,_,h=>by simp at h
 |t::ts,_,_,m,T,d,n,h=>by
  obtain⟨v,ys,c,b,rfl,rfl,d1,d2⟩:=d.split
  obtain⟨n1,n2,n3⟩:=List.nodup_append.mp n
  cases m with
  |zero =>
   obtain rfl:t=T:=by simpa using h
   exact⟨v,c,rfl,d1,n1,λx hx=>List.mem_append_left _ hx,λG' H' T' g k q=>q.app (d2.mono g λx hx=>k x (List.mem_append_right _ hx) λz=>n3 x z x hx rfl)⟩
  |succ m =>
   obtain⟨w,cs,h1,h2,h3,h4,h5⟩:=DR.at d2 n2 (by simpa using h)
   exact⟨w,cs,by simpa using h1,h2,h3,λx hx=>List.mem_append_right _ (h4 x hx),λG' H' T' g k q=>(d1.mono g λx hx=>k x (List.mem_append_left _ hx) λz=>n3 x hx x (h4 x z) rfl).app (h5 G' H' T' g (λx hx=>k x (List.mem_append_right _ hx)) q)⟩
noncomputable abbrev Fp:=Nat->List Addr
noncomputable def Fn(F:Fp)(b:Addr):Prop:=∃i,b∈F i
noncomputable def RJ(K:FZ)(G H:Hp)(v:Option (Option V))(f:List Addr)(ts:List Tr)(P:Addr->Prop):Prop:=∃a xs,v=some (some (.ref a))/\f=[a]/\P a/\H a=some (.lst xs)/\aA K G xs ts
noncomputable def mZ(K:FZ)(R:Addr->Prop)(G H:Hp)(v:Option (Option V))(f:List Addr):Option Sl->Prop
 |some (.sh T)=>f=[]/\∃u,v=some (some u)/\Rep K G u T
 |some (.ow ts)=>RJ K G H v f ts λa=>¬R a
 |some (.rf ts)=>RJ K G H v f ts R
 |some (.dp ts)=>∃a xs bs,v=some (some (.ref a))/\f=a::bs/\f.Nodup/\(∀b∈f,¬R b)/\H a=some (.lst xs)/\DR K G H xs ts bs
 |_=>f=[]
theorem mZ.lst{K:FZ}{R:Addr->Prop}{G H:Hp}{v:Option (Option V)}{f:List Addr}{s:Option Sl}(h:mZ K R G H v f s):∀b∈f,∃ys,H b=some (.lst ys):=λb hb=>by
 unfold mZ at h
 split at h
 .rw[h.1]at hb; cases hb
 .obtain⟨a,xs,_,rfl,_,q,_⟩:=h; cases List.mem_singleton.mp hb; exact⟨_,q⟩
 .obtain⟨a,xs,_,rfl,_,q,_⟩:=h; cases List.mem_singleton.mp hb; exact⟨_,q⟩
 .obtain⟨a,xs,bs,_,rfl,_,_,q,d⟩:=h
  rcases List.mem_cons.mp hb with rfl|hb
  .exact⟨_,q⟩
  .exact d.lst b hb
 .rw[h]at hb; cases hb
theorem mZ.mono{K:FZ}{R:Addr->Prop}{G G' H H':Hp}{v:Option (Option V)}{f:List Addr}{s:Option Sl}(h:mZ K R G H v f s)(m:Same G G')(k:∀b∈f,∀o,H b=some o->H' b=some o):mZ K R G' H' v f s:=by
 unfold mZ at h ⊢
 split at h
 .obtain⟨h1,u,h2,h3⟩:=h; exact⟨h1,u,h2,h3.mono m⟩
 .obtain⟨a,xs,h1,rfl,n,q,r⟩:=h; exact⟨a,xs,h1,rfl,n,k _ (List.mem_singleton.mpr rfl) _ q,r.mono m⟩
 .obtain⟨a,xs,h1,rfl,n,q,r⟩:=h; exact⟨a,xs,h1,rfl,n,k _ (List.mem_singleton.mpr rfl) _ q,r.mono m⟩
 .obtain⟨a,xs,bs,h1,rfl,nd,n,q,d⟩:=h; exact⟨a,xs,bs,h1,rfl,nd,n,k _ (List.mem_cons_self ..) _ q,d.mono m λb hb=>k b (List.mem_cons_of_mem _ hb)⟩
 .exact h
structure Ok(K:FZ)(R:Addr->Prop)(ρ : En)(σ : St)(G H:Hp)(F:Fp):Prop where
 len : ρ.length = σ.length
 sub:Same G H
 tb:bK K H
 tg:∀b,Tb K b->G b=none
 hid:∀b,Fn F b->G b=none
 rg:∀b,R b->G b=none/\H b≠none
 di:∀i j b,b∈F i->b∈F j->i=j
 sl:∀i,mZ K R G H σ[i]? (F i) ρ[i]?
structure Fr(K:FZ)(H:Hp)(F:Fp)(H':Hp):Prop where
 fr:∀b o,H b=some o->¬Fn F b->¬Tb K b->H' b=some o
 tb:bK K H'
structure aC(K:FZ)(G H:Hp)(F:Fp)(G' H':Hp)(F':Fp):Prop where
 gg:Same G G'
 fr:∀b o,H b=some o->¬Fn F b->¬Tb K b->H' b=some o
 nw:∀b,G' b≠none->G b≠none\/H b=none\/Fn F b
 nf:∀b,Fn F' b->H b=none\/Fn F b
 dm:∀b,H' b=none->H b=none
section
variable {K:FZ}{R:Addr->Prop}{ρ : En}{σ : St}{G H G' H':Hp}{F F':Fp}
theorem aC.refl:aC K G H F G H F:=⟨Same.refl _,λ_ _ h _ _=>h,λ_ h=>.inl h,λ_ h=>.inr h,λ_ h=>h⟩
theorem aC.out(s:aC K G H F G' H' F')(h:H b=some o)(n:¬Fn F b):¬Fn F' b:=λz=>(s.nf b z).elim (λq=>by rw[h]at q; cases q) n
theorem aC.trans(s:aC K G H F G1 H1 F1)(u:aC K G1 H1 F1 G' H' F'):aC K G H F G' H' F' where
 gg:=s.gg.trans u.gg
 fr b o h n t:=u.fr b o (s.fr b o h n t) (s.out h n) t
 nw b h:=(u.nw b h).elim (s.nw b) λh=>.inr (h.elim (λh=>.inl (s.dm b h)) (s.nf b))
 nf b h:=(u.nf b h).elim (λh=>.inl (s.dm b h)) (s.nf b)
 dm b h:=s.dm b (u.dm b h)
theorem aC.back(s:aC K G H F G1 H1 F1)(f:Fr K H1 F1 H'):Fr K H F H':=⟨λb o h n t=>f.fr b o (s.fr b o h n t) (s.out h n) t,f.tb⟩
theorem Ok.fl(e:Ok K R ρ σ G H F)(h:Fn F b):∃ys,H b=some (.lst ys):=h.elim λi h=>(e.sl i).lst b h
theorem Ok.fs(e:Ok K R ρ σ G H F)(h:H b=none):¬Fn F b:=λz=>by
 obtain⟨ys,q⟩:=e.fl z
 rw[h]at q
 cases q
theorem Ok.rn(e:Ok K R ρ σ G H F)(h:H b=none):¬R b:=λz=>(e.rg b z).2 h
structure Gw(K:FZ)(G H G' H':Hp):Prop where
 gg:Same G G'
 hh:∀b o,H b=some o->¬Tb K b->H' b=some o
 sub:Same G' H'
 tb:bK K H->bK K H'
 nw:∀b,G' b≠none->G b≠none\/H b=none
theorem bK.new(h:bK K H)(q:H p=none):bK K (L2.upd H p o):=h.fr λb u _ z=>iD q _ b u z
theorem Gw.refl(s:Same G H):Gw K G H G H:=⟨Same.refl _,λ_ _ h _=>h,s,id,λ_ h=>.inl h⟩
theorem Gw.flt(s:Same G H)(h:H p=none):Gw K G H G (upd H p o):=⟨Same.refl _,λb u q _=>iD h o b u q,s.trans (iD h o),λt=>t.new h,λ_ h=>.inl h⟩
theorem Gw.new(s:Same G H)(h:H p=none):Gw K G H (upd G p o) (upd H p o):=⟨iD (s.free h) o,λb u q _=>iD h o b u q,λb u q=>by
 by_cases e:b=p
 .subst e; rw[bN]at q ⊢; exact q
 .rw[aL e]at q ⊢; exact s b u q,λt=>t.new h,λb q=>by
 by_cases e:b=p
 .subst e; exact .inr h
 .rw[aL e]at q; exact .inl q⟩
structure Gs(K:FZ)(G H G' H':Hp):Prop where
 gw:Gw K G H G' H'
 sm:Same H H'
theorem Gs.refl(s:Same G H):Gs K G H G H:=⟨.refl s,Same.refl _⟩
theorem Gs.flt(s:Same G H)(h:H p=none):Gs K G H G (upd H p o):=⟨.flt s h,iD h o⟩
theorem Gs.new(s:Same G H)(h:H p=none):Gs K G H (upd G p o) (upd H p o):=⟨.new s h,iD h o⟩
theorem Ok.grow(e:Ok K R ρ σ G H F)(w:Gw K G H G' H'):Ok K R ρ σ G' H' F/\aC K G H F G' H' F:=by
 have tb:=w.tb e.tb
 have dm:∀b,H' b=none->H b=none:=λb h=>by
  cases q:H b with
  |none=>rfl
  |some o =>
   by_cases t:Tb K b
   .obtain⟨ps,z⟩:=tb.cJ t; rw[h]at z; cases z
   .rw[w.hh b o q t]at h; cases h
 have no:∀b,G b=none->H b≠none->G' b=none:=λb h n=>by
  cases q:G' b with
  |none=>rfl
  |some o=>exact((w.nw b (by rw[q]; exact λz=>by cases z)).elim (λz=>z h) n).elim
 refine⟨⟨e.len,w.sub,tb,λb t=>no b (e.tg b t) λz=>?_,λb h=>no b (e.hid b h) λz=>e.fs z h,λb h=>⟨no b (e.rg b h).1 (e.rg b h).2,λz=>(e.rg b h).2 (dm b z)⟩,e.di,λi=>(e.sl i).mono w.gg λb hb o q=>w.hh b o q ?_⟩,w.gg,λb o h _ t=>w.hh b o h t,λb h=>(w.nw b h).imp id .inl,λb h=>.inr h,dm⟩
 .obtain⟨ps,q⟩:=e.tb.cJ t; rw[z]at q; cases q
 .obtain⟨ys,z⟩:=e.fl ⟨i,hb⟩
  exact e.tb.nt z
theorem Ok.show(e:Ok K R ρ σ G H F)(h:H a=some (.lst xs))(n:¬Fn F a)(r:¬R a):Ok K R ρ σ (upd G a (.lst xs)) H F/\Same G (upd G a (.lst xs)):=by
 have m:Same G (upd G a (.lst xs)):=λb o q=>by
  by_cases z:b=a
  .subst z; rw[bN,<-h]; exact(e.sub b o q)
  .rw[aL z]; exact q
 have no:∀b,b≠a->G b=none->upd G a (.lst xs) b=none:=λb z q=>by rw[aL z]; exact q
 refine⟨⟨e.len,λb o q=>?_,e.tb,λb t=>no b (λz=>e.tb.nt h (z▸t)) (e.tg b t),λb z=>no b (λq=>n (q▸z)) (e.hid b z),λb z=>⟨no b (λq=>r (q▸z)) (e.rg b z).1,(e.rg b z).2⟩,e.di,λi=>(e.sl i).mono m λ_ _ _ q=>q⟩,m⟩
 by_cases z:b=a
 .subst z; rw[bN]at q; rw[h]; exact q
 .rw[aL z]at q; exact e.sub b o q
noncomputable def VN(K:FZ)(Hs G H:Hp)(v:V)(T:Tr):Bool->Prop
 |false=>Rep K G v T
 |true=>∃a xs ts,v=.ref a/\T=.lst ts/\Hs a=none/\G a=none/\H a=some (.lst xs)/\aA K G xs ts
noncomputable def fB(K:FZ)(σ : St)(Hs G H:Hp)(F:Fp)(v:V):Rv->Prop
 |.v T fr=>VN K Hs G H v T fr/\(fr=true->∀a,v=.ref a->¬Fn F a)
 |.s i=>σ[i]?=some (some v)
theorem VN.ok(h:VN K H G' H' v T fr)(e:Ok K R ρ σ G H F):fB K τ H G' H' F v (.v T fr):=⟨h,λz a q=>by
 subst z; subst q
 obtain⟨b,_,_,z,_,n,_⟩:=h
 cases z
 exact e.fs n⟩
theorem fB.low(h:Rep K G v T):fB K σ Hs G H F v (.v T false):=⟨h,λz=>by cases z⟩
theorem fB.step(h:fB K σ Hs G H F v r)(tb:bK K H)(s:aC K G H F G' H' F'):fB K σ Hs G' H' F' v r:=by
 match r,h with
 |.s i,h=>exact h
 |.v T false,h=>exact .low (Rep.mono s.gg h.1)
 |.v T true,⟨⟨a,xs,ts,e1,e2,n,g,q,r⟩,f⟩ =>
  have na:=f rfl a e1
  refine⟨⟨a,xs,ts,e1,e2,n,?_,s.fr a _ q na (tb.nt q),r.mono s.gg⟩,λ_ b z=>?_⟩
  .cases k:G' a with
   |none=>rfl
   |some o=>exact((s.nw a (by rw[k]; exact λz=>by cases z)).elim (λz=>z g) λz=>z.elim (λz=>by rw[q]at z; cases z) na).elim
  .rw[e1]at z; cases z
   exact s.out q na
theorem fB.back(h:fB K σ H1 G' H' F' v r)(d:∀b,H1 b=none->H b=none):fB K σ H G' H' F' v r:=by
 match r,h with
 |.s i,h=>exact h
 |.v T false,h=>exact .low h.1
 |.v T true,⟨⟨a,xs,ts,e1,e2,n,q⟩,f⟩=>exact⟨⟨a,xs,ts,e1,e2,d a n,q⟩,f⟩
noncomputable def Rp(K:FZ)(G H:Hp)(v:V)(T:Tr):Prop:=Rep K G v T\/∃a xs ts,v=.ref a/\T=.lst ts/\H a=some (.lst xs)/\aA K G xs ts
theorem Rp.rep(s:Same G H)(h:Rp K G H v T):Rep K H v T:=by
 rcases h with h|⟨a,xs,ts,rfl,rfl,e,r⟩
 .exact h.mono s
 .exact .lst (aG.of e) (r.mono s)
theorem Rp.lst(s:Same G H)(h:Rp K G H v (.lst ts)):∃a xs,v=.ref a/\aG K H a xs/\aA K G xs ts:=by
 rcases h with h|⟨a,xs,us,rfl,e0,e,r⟩
 .cases h with
  |lst h r=>exact⟨_,_,rfl,s.seq h,r⟩
 .cases e0
  exact⟨a,xs,rfl,aG.of e,r⟩
theorem Rp.low(h:Rp K G H v T)(n:qD T=false):Rep K G v T:=by
 rcases h with h|⟨a,xs,us,rfl,rfl,_⟩
 .exact h
 .cases n
theorem Rp.tup(s:Same G H)(h:Rp K G H v (.tup ts)):∃a xs,v=.ref a/\bw K H a xs/\aA K G xs ts:=by
 have q:=h.low rfl
 cases q with
 |tup q r=>exact⟨_,_,rfl,s.iC q,r⟩
theorem Rp.int(h:Rp K G H v (.int i)):v=.int i:=by cases h.low rfl; rfl
theorem Rp.bl(h:Rp K G H v (.bl i)):v=.bl i:=by cases h.low rfl; rfl
theorem Rp.str(h:Rp K G H v (.str i)):v=.str i:=by cases h.low rfl; rfl
theorem Rp.non(h:Rp K G H v .non):v=.non:=by cases h.low rfl; rfl
noncomputable def dr(ρ : En):Rv->Rs Tr
 |.v T _=>.ok T
 |.s i=>match ρ[i]? with
  |some (Sl.ow ts)=>.ok (.lst ts)
  |some (Sl.rf ts)=>.ok (.lst ts)
  |_=>.bad
theorem gH(ρ : En)(r:Rv)(c:Str):dr ρ r ≠ .ex c:=by
 cases r with
 |v T fr=>intro z; cases z
 |s i=>dsimp only[dr]; split <;> (intro z; cases z)
theorem fX(e:Ok K R ρ σ G H F)(h:fB K σ Hs G H F v r)(q:dr ρ r=.ok T):Rp K G H v T:=by
 match r,h with
 |.v U false,h=>cases q; exact .inl h.1
 |.v U true,⟨⟨a,xs,ts,e1,e2,_,_,z,r⟩,_⟩=>cases q; exact .inr ⟨a,xs,ts,e1,e2,z,r⟩
 |.s i,h =>
  dsimp only[dr]at q
  have z:=e.sl i
  split at q <;> rename_i k <;> (first|cases q; done|skip) <;> (rw[k]at z; obtain⟨a,xs,h1,_,_,h4,h5⟩:=z; rw[h]at h1; cases h1; cases q; exact .inr ⟨a,xs,_,rfl,rfl,h4,h5⟩)
end
structure Tx where
 K:FZ
 xe:Str->Hp->Prop
noncomputable def bH{α : Type}(t:Tx)(H:Hp)(F:Fp)(r:Rs α)(P : α -> Prop):Prop:=match r with
 |.bad=>False
 |.ex c=>∀H',Fr t.K H F H'->t.xe c H'
 |.ok a=>P a
theorem bx{C:Prop}{A B:(Addr->Prop)->En->Hp->Fp->Prop}(k:∀R ρ G F,A R ρ G F->B R ρ G F->C):(∃R ρ G F,A R ρ G F/\B R ρ G F)->C:=λz=>by
 obtain⟨R,ρ,G,F,e,h⟩:=z
 exact k R ρ G F e h
noncomputable def Te(t:Tx)(f:EF):TE:=λσ H Q=>∃R ρ G F,Ok t.K R ρ σ G H F/\bH t H F (f ρ) λp=>∀v G' H' F',Ok t.K R p.2 σ G' H' F'->aC t.K G H F G' H' F'->fB t.K σ H G' H' F' v p.1->Q v H'
noncomputable def Tt(t:Tx)(f:BF):TT:=λσ H Q=>∃R ρ G F,Ok t.K R ρ σ G H F/\bH t H F (f ρ) λp=>∀G' H' F',Ok t.K R p.2 σ G' H' F'->aC t.K G H F G' H' F'->Q p.1 H'
noncomputable def To(t:Tx)(f:OF):TO:=λσ H Q=>∃R ρ G F,Ok t.K R ρ σ G H F/\bH t H F (f ρ) λp=>∀G' H' F',Ok t.K R p.2 σ G' H' F'->aC t.K G H F G' H' F'->Q p.1 H'
inductive dH(K:FZ)(σ : St)(Hs G H:Hp)(F:Fp):List V->List Rv->Prop
 |nil:dH K σ Hs G H F [] []
 |cons {v:V} {r:Rv} {vs:List V} {rs:List Rv} (h:fB K σ Hs G H F v r) (q:dH K σ Hs G H F vs rs):dH K σ Hs G H F (v::vs) (r::rs)
noncomputable def Ta(t:Tx)(f:AF):TA:=λσ H Q=>∃R ρ G F,Ok t.K R ρ σ G H F/\bH t H F (f ρ) λp=>∀vs G' H' F',Ok t.K R p.2 σ G' H' F'->aC t.K G H F G' H' F'->dH t.K σ H G' H' F' vs p.1->Q vs H'
section
variable {t:Tx}{R:Addr->Prop}{ρ : En}{σ : St}{G H G0 H0:Hp}{F F0:Fp}
theorem bH.run{α β : Type}{r:Rs α}{g : α -> Rs β}{P : β -> Prop}{P' : α -> Prop}(s:aC t.K G0 H0 F0 G H F)(h:bH t H0 F0 (r.bind g) P)(k:∀a,bH t H0 F0 (g a) P->P' a):bH t H F r P':=by
 cases r with
 |bad=>exact h
 |ex c=>exact λH' f=>h H' (s.back f)
 |ok a=>exact k a h
theorem bH.okb{α β : Type}{r:Rs α}{g : α -> Rs β}{P : β -> Prop}(h:bH t H F (r.bind g) P)(n:∀c,r ≠ .ex c):∃a,r=.ok a/\bH t H F (g a) P:=by
 cases r with
 |bad=>exact h.elim
 |ex c=>exact(n c rfl).elim
 |ok a=>exact⟨a,rfl,h⟩
theorem dJ{β : Type}{g:Rv × En->Rs β}{P : β -> Prop}(e:Ok t.K R ρ σ G H F)(s:aC t.K G0 H0 F0 G H F)(h:bH t H0 F0 ((f ρ).bind g) P)(k:∀p,bH t H0 F0 (g p) P->∀v G' H' F',Ok t.K R p.2 σ G' H' F'->aC t.K G H F G' H' F'->fB t.K σ H G' H' F' v p.1->Q v H'):Te t f σ H Q:=⟨R,ρ,G,F,e,h.run s k⟩
theorem jE{β : Type}{g:List Rv × En->Rs β}{P : β -> Prop}(e:Ok t.K R ρ σ G H F)(s:aC t.K G0 H0 F0 G H F)(h:bH t H0 F0 ((f ρ).bind g) P)(k:∀p,bH t H0 F0 (g p) P->∀v G' H' F',Ok t.K R p.2 σ G' H' F'->aC t.K G H F G' H' F'->dH t.K σ H G' H' F' v p.1->Q v H'):Ta t f σ H Q:=⟨R,ρ,G,F,e,h.run s k⟩
theorem m5{β : Type}{g:Bool × En->Rs β}{P : β -> Prop}(e:Ok t.K R ρ σ G H F)(s:aC t.K G0 H0 F0 G H F)(h:bH t H0 F0 ((f ρ).bind g) P)(k:∀p,bH t H0 F0 (g p) P->∀G' H' F',Ok t.K R p.2 σ G' H' F'->aC t.K G H F G' H' F'->Q p.1 H'):Tt t f σ H Q:=⟨R,ρ,G,F,e,h.run s k⟩
theorem RK{β : Type}{g:Option Int × En->Rs β}{P : β -> Prop}(e:Ok t.K R ρ σ G H F)(s:aC t.K G0 H0 F0 G H F)(h:bH t H0 F0 ((f ρ).bind g) P)(k:∀p,bH t H0 F0 (g p) P->∀G' H' F',Ok t.K R p.2 σ G' H' F'->aC t.K G H F G' H' F'->Q p.1 H'):To t f σ H Q:=⟨R,ρ,G,F,e,h.run s k⟩
end
local macro_rules | `(tactic| walk_at "x")=>`(tactic| ((repeat' split) <;> (intro z; cases z)))
def Pz{α : Type}(r:Rs α)(P : α -> Prop):Prop:=match r with
 |.ok a=>P a
 |_=>False
abbrev G1:=Tr->Rs (Tr × Bool)
abbrev G2:=Tr->Tr->Rs (Tr × Bool)
abbrev GN:=List Tr->Rs (Tr × Bool)
structure cU(K:FZ)(r:R2)(g:G2):Prop where
 nx:∀a b c,g a b ≠ .ex c
 ok:∀G H x y a b Q,Same G H->Rp K G H x a->Rp K G H y b->Pz (g a b) (λp=>∀v G' H',Gs K G H G' H'->VN K H G' H' v p.1 p.2->Q v H')->r x y H Q
inductive m7(K:FZ)(G H:Hp):List V->List Tr->Prop
 |nil:m7 K G H [] []
 |cons {x:V} {t:Tr} {xs:List V} {ts:List Tr} (h:Rp K G H x t) (r:m7 K G H xs ts):m7 K G H (x::xs) (t::ts)
structure Gn(K:FZ)(r:List V->Hp->VK->Prop)(g:GN):Prop where
 nx:∀as c,g as ≠ .ex c
 ok:∀G H xs as Q,Same G H->m7 K G H xs as->Pz (g as) (λp=>∀v G' H',Gs K G H G' H'->VN K H G' H' v p.1 p.2->Q v H')->r xs H Q
section
variable {K:FZ}
theorem VN.flt(s:Same G H)(hz:H z=none)(r:aA K G xs ts):VN K H G (upd H z (.lst xs)) (.ref z) (.lst ts) true:=⟨z,xs,ts,rfl,rfl,hz,s.free hz,bN,r⟩
theorem VN.newT(s:Same G H)(hz:H z=none)(r:aA K G xs ts):VN K H (upd G z (.tup xs)) (upd H z (.tup xs)) (.ref z) (.tup ts) false:=Rep.tup (bw.of bN) (r.mono (iD (s.free hz) _))
theorem aA.jh:∀{v:List V} {t:List Tr} {i:Nat} {u:Tr},aA K H v t->t[i]?=some u->∃x,v[i]?=some x/\Rep K H x u
 |_,_,_,_,.nil,e=>by simp at e
 |_,_,0,_,.cons h _,e=>by simp at e; subst e; exact⟨_,rfl,h⟩
 |_,_,i+1,_,.cons _ r,e=>by
  obtain⟨x,a,b⟩:=aA.jh (i:=i) r (by simpa using e)
  exact⟨x,by simpa using a,b⟩
theorem aA.cR(r:aA K H xs ts)(h:cR ts i=some t):∃x,L2.cR xs i=some x/\Rep K H x t:=by
 unfold L2.cR at h ⊢
 rw[r.length]
 cases e:fM ts.length i with
 |none=>rw[e]at h; cases h
 |some j =>
  rw[e]at h
  exact r.jh h
theorem big(h:n<=100000):n<=sizeLine:=Nat.le_trans h (by decide)
noncomputable def gI(p:Int->Int->Int):G2
 |.int i,.int j=>.ok (.int (p i j),false)
 |_,_=>.bad
theorem aeb:cU K (dU λi j=>.int (p i j)) (gI p):=⟨λa b c=>by unfold gI; walk_at "x",λG H x y a b Q s rx ry h=>by
 cases a <;> try exact h.elim
 cases b <;> try exact h.elim
 rw[rx.int,ry.int]
 exact⟨_,_,rfl,rfl,h _ G H (.refl s) (.int _)⟩⟩
noncomputable def pA(c:Int->Int->Bool)(p:Int->Int->Int):G2
 |.int i,.int j=>if c i j=true then .ok (.int (p i j),false)else .bad
 |_,_=>.bad
theorem Gp(hc:∀i j,c i j=true->C i j):cU K (rI C λi j=>.int (p i j)) (pA c p):=⟨λa b c=>by unfold pA; walk_at "x",λG H x y a b Q s rx ry h=>by
 cases a <;> try exact h.elim
 cases b <;> try exact h.elim
 rw[rx.int,ry.int]
 dsimp only[pA]at h
 split at h
 .rename_i e
  exact⟨_,_,rfl,rfl,hc _ _ e,h _ G H (.refl s) (.int _)⟩
 .exact h.elim⟩
noncomputable def gB(p:Int->Int->Bool):G2
 |.int i,.int j=>.ok (.bl (p i j),false)
 |_,_=>.bad
theorem Gq:cU K (dU λi j=>.bl (p i j)) (gB p):=⟨λa b c=>by unfold gB; walk_at "x",λG H x y a b Q s rx ry h=>by
 cases a <;> try exact h.elim
 cases b <;> try exact h.elim
 rw[rx.int,ry.int]
 exact⟨_,_,rfl,rfl,h _ G H (.refl s) (.bl _)⟩⟩
noncomputable def ji:G2:=λt u=>if dep t<=40/\dep u<=40 then .ok (.bl (eqT t u),false)else .bad
theorem aec:cU (au K) (Fz K) ji:=⟨λa b c=>by unfold ji; walk_at "x",λG H x y a b Q s rx ry h=>by
 unfold ji at h
 split at h
 .rename_i e
  exact⟨a,b,(rx.rep s).toK,(ry.rep s).toK,e.1,e.2,h _ G H (.refl s) (.bl _)⟩
 .exact h.elim⟩
noncomputable def gJ:G2:=λt u=>if dep t<=40/\dep u<=40 then .ok (.bl (!eqT t u),false)else .bad
theorem aed:cU (au K) (Gj K) gJ:=⟨λa b c=>by unfold gJ; walk_at "x",λG H x y a b Q s rx ry h=>by
 unfold gJ at h
 split at h
 .rename_i e
  exact⟨a,b,(rx.rep s).toK,(ry.rep s).toK,e.1,e.2,h _ G H (.refl s) (.bl _)⟩
 .exact h.elim⟩
noncomputable def jY(f:Bool->Bool):G2:=λt u=>match u with
 |.lst us=>if deps us<=40/\dep t<=40 then .ok (.bl (f (lB t us)),false)else .bad
 |.tup us=>if deps us<=40/\dep t<=40 then .ok (.bl (f (lB t us)),false)else .bad
 |_=>.bad
theorem RL(hr:∀x y H Q,(∃t ts p xs,Rep K H x t/\y=.ref p/\(aG K H p xs\/bw K H p xs)/\aA K H xs ts/\deps ts<=40/\dep t<=40/\Q (.bl (f (lB t ts))) H)->r x y H Q):cU (au K) r (jY f):=⟨λa b c=>by unfold jY; walk_at "x",λG H x y a b Q s rx ry h=>hr x y H Q (by
 cases b <;> try exact h.elim
 all_goals
  rename_i us
  dsimp only[jY]at h
  split at h
  case isFalse=>exact h.elim
  rename_i e
 .obtain⟨p,xs,rfl,q,r⟩:=ry.tup s
  exact⟨a,us,p,xs,(rx.rep s).toK,rfl,.inr q.toK,(r.mono s).toK,e.1,e.2,h _ G H (.refl s) (.bl _)⟩
 .obtain⟨p,xs,rfl,q,r⟩:=ry.lst s
  exact⟨a,us,p,xs,(rx.rep s).toK,rfl,.inl q.toK,(r.mono s).toK,e.1,e.2,h _ G H (.refl s) (.bl _)⟩)⟩
theorem aee:cU (au K) (FJ K) (jY id):=RL λ_ _ _ _ h=>h
theorem aef:cU (au K) (Gi K) (jY not):=RL λ_ _ _ _ h=>h
noncomputable def zT:Tr->Bool
 |.non=>true
 |_=>false
noncomputable def qg(f:Bool->Bool):G2:=λt u=>match u with
 |.non=>.ok (.bl (f (zT t)),false)
 |_=>.bad
theorem RM(f:Bool->Bool):cU K (λx y H Q=>y=.non/\Q (.bl (f (decide (x=.non)))) H) (qg f):=⟨λa b c=>by unfold qg; walk_at "x",λG H x y a b Q s rx ry h=>by
 cases b <;> try exact h.elim
 have z:decide (x=.non)=zT a:=by cases rx.rep s <;> rfl
 rw[ry.non,z]
 exact⟨rfl,h _ G H (.refl s) (.bl _)⟩⟩
def Gu(K:FZ):R2:=λx y H Q=>(dU λi j=>.int (i+j)) x y H Q\/RB K x y H Q\/(∃i j,x=.str i/\y=.str j/\i.length+j.length<=sizeLine/\Q (.str (i++j)) H)\/QH K x y H Q
theorem aeg:bA X (binaryOp .Add) (Gu X.K):=bA.or Qi (bA.or ad8 (bA.or acC ac9))
noncomputable def m8:G2
 |.int i,.int j=>.ok (.int (i+j),false)
 |.lst a,.lst b=>if a.length+b.length<=100000 then .ok (.lst (a++b),true)else .bad
 |.str a,.str b=>if a.length+b.length<=100000 then .ok (.str (a++b),false)else .bad
 |.tup a,.tup b=>if 0<a.length/\a.length+b.length<=100000 then .ok (.tup (a++b),false)else .bad
 |_,_=>.bad
theorem aeh:cU (au K) (Gu K) m8:=⟨λa b c=>by unfold m8; walk_at "x",λG H x y a b Q s rx ry h=>by
 cases a <;> cases b <;> try exact h.elim
 .rw[rx.int,ry.int]
  exact .inl ⟨_,_,rfl,rfl,h _ G H (.refl s) (.int _)⟩
 all_goals
  rename_i us ws
  dsimp only[m8]at h
  split at h
  case isFalse=>exact h.elim
  rename_i e
 .rw[rx.str,ry.str]
  exact .inr (.inr (.inl ⟨us,ws,rfl,rfl,big e,h _ G H (.refl s) (.str _)⟩))
 .have rt:=rx.low rfl
  obtain⟨p,xs,rfl,q,r⟩:=rx.tup s
  obtain⟨p',ys,rfl,q',r'⟩:=ry.tup s
  have l1:=r.length
  have l2:=r'.length
  refine .inr (.inr (.inr ⟨p,p',xs,ys,rfl,rfl,q.toK,q'.toK,?_,by rw[l1,l2]; exact big e.2,λz=>h _ G H (.refl s) ?_,λ_ z hz=>h _ _ _ (.new s hz) (.newT s hz (r.app r'))⟩))
  .rintro rfl
   have e1:=e.1
   rw[<-l1]at e1
   cases e1
  .subst z
   cases r'
   rw[List.append_nil]
   exact rt
 .obtain⟨p,xs,rfl,q,r⟩:=rx.lst s
  obtain⟨p',ys,rfl,q',r'⟩:=ry.lst s
  exact .inr (.inl ⟨p,p',xs,ys,rfl,rfl,q.zP,q'.zP,by rw[r.length,r'.length]; exact big e,λz hz=>h _ _ _ (.flt s hz) (.flt s hz (r.app r'))⟩)⟩
noncomputable def fit(i:Int):Bool:=decide (i.natAbs.log2<1048575)
theorem RN(h:fit i=true):Builtin.Int.intBits i<=2 ^ 20:=by
 have h:=of_decide_eq_true h
 unfold Builtin.Int.intBits
 split
 .decide
 .omega
noncomputable def tiny(i:Int):Bool:=decide (-18446744073709551616<i)&&decide (i<18446744073709551616)
noncomputable def dG(i j:Int):Bool:=(fit i&&fit j) || tiny i || tiny j
def zU(i j:Int):Prop:=dG i j=true
theorem zU.ok(h:zU i j):IntMulOk i j:=by
 unfold zU dG at h
 rw[Bool.or_eq_true,Bool.or_eq_true,Bool.and_eq_true]at h
 have tn:∀{k:Int},tiny k=true -> -(2 ^ 64)<k/\k<2 ^ 64:=λ{k} h=>by
  unfold tiny at h
  rw[Bool.and_eq_true]at h
  have h1:=of_decide_eq_true h.1
  have h2:=of_decide_eq_true h.2
  omega
 rcases h with(⟨h1,h2⟩|h)|h
 .exact .of_bits (RN h1) (RN h2)
 .exact .of_left (intBits_le_64 (tn h).1 (tn h).2)
 .exact .of_right (intBits_le_64 (tn h).1 (tn h).2)
def Gv(K:FZ):R2:=λx y H Q=>(rI zU λi j=>.int (i*j)) x y H Q\/RD K x y H Q
theorem aei:bA X (binaryOp .Mult) (Gv X.K):=bA.or (yU λ_ _ _ _ _ _ _ hc q=>mul_int q hc.ok) ad9
noncomputable def lC:G2
 |.int i,.int j=>if dG i j=true then .ok (.int (i*j),false)else .bad
 |.lst a,.int k=>if(-1000<=k/\k<=1000)/\a.length<=100 then .ok (.lst (List.replicate k.toNat a).flatten,true)else .bad
 |_,_=>.bad
noncomputable def jd(_ j:Int):Bool:=decide (j≠0)&&decide (j.natAbs.log2<9000)
def zV(i j:Int):Prop:=jd i j=true
theorem aej:bA X (binaryOp .FloorDiv) (rI zV λi j=>.int (i.fdiv j)):=yU λi j _ _ _ _ _ hc q=>by
 unfold zV jd at hc
 rw[Bool.and_eq_true]at hc
 exact floordiv_int (of_decide_eq_true hc.1) q (.inl (PyProof.noPylong_of_log2 (of_decide_eq_true hc.2)))
noncomputable def zW:G2:=pA jd Int.fdiv
noncomputable def Gy:G2:=pA (λ_ j=>decide (j≠0)) Int.fmod
noncomputable def Gz(i j:Int):Bool:=decide (0<=j)&&decide (j<=1000)&&tiny i
noncomputable def uT:G2:=pA Gz λi j=>i ^ j.toNat
noncomputable def sX:G2:=gI λi j=>i-j
section
variable {K:FZ}
theorem aA.rep(r:aA K H xs ts):∀n,aA K H (List.replicate n xs).flatten (List.replicate n ts).flatten
 | 0=>.nil
 |n+1=>by
  exact r.app (aA.rep r n)
theorem aek:cU (au K) (Gv K) lC:=⟨λa b c=>by unfold lC; walk_at "x",λG H x y a b Q s rx ry h=>by
 cases a <;> cases b <;> try exact h.elim
 all_goals
  rename_i us k
  rw[ry.int]
  dsimp only[lC]at h
  split at h
  case isFalse=>exact h.elim
  rename_i e
 .rw[rx.int]
  exact .inl ⟨_,_,rfl,rfl,e,h _ G H (.refl s) (.int _)⟩
 .obtain⟨p,xs,rfl,q,r⟩:=rx.lst s
  refine .inr ⟨p,k,xs,rfl,rfl,q.zP,by omega,by omega,?_,λz hz=>h _ _ _ (.flt s hz) (.flt s hz (r.rep _))⟩
  rw[r.length]
  exact Nat.le_trans (Nat.mul_le_mul e.2 (show k.toNat<=1000 by omega)) (by decide)⟩
theorem ael:cU K (rI zV λi j=>.int (i.fdiv j)) zW:=Gp λ_ _ h=>h
theorem aem:cU K (rI (λ_ j=>j≠0) λi j=>.int (i.fmod j)) Gy:=Gp λ_ _ h=>of_decide_eq_true h
theorem aen(i j:Int)(h:Gz i j=true):yW i j:=by
 simp only[Gz,tiny,Bool.and_eq_true,decide_eq_true_eq]at h
 exact⟨h.1.1,by omega,by omega⟩
theorem aeo:cU K (rI yW λi j=>.int (i ^ j.toNat)) uT:=Gp aen
theorem aep:cU K (dU λi j=>.int (i-j)) sX:=aeb
noncomputable def GC:G2:=gB λi j=>decide (j<i)
noncomputable def GD:G2:=gB λi j=>decide (i<=j)
noncomputable def GJ:G2:=gB λi j=>decide (j<=i)
theorem aer:cU K (dU λi j=>.bl (decide (j<i))) GC:=Gq
theorem aes:cU K (dU λi j=>.bl (decide (i<=j))) GD:=Gq
theorem aeu:cU K (dU λi j=>.bl (decide (j<=i))) GJ:=Gq
noncomputable def intsOf:List Tr->Option (List Int)
 | []=>some []
 |.int i::r=>(intsOf r).map (i :: ·)
 |_::_=>none
theorem ints_of:∀{ts:List Tr} {ns:List Int} {xs:List V},intsOf ts=some ns->aA K H xs ts->xs=ns.map V.int
 | [],ns,xs,h,r=>by cases h; cases r; rfl
 |.int i::q,ns,xs,h,r=>by
  obtain⟨ms,e,rfl⟩:=Option.map_eq_some_iff.mp h
  cases r with
  |cons h1 r1 =>
   cases h1
   rw[ints_of e r1]
   rfl
def GK(K:FZ):R2:=λx y H Q=>(dU λi j=>.bl (decide (i<j))) x y H Q\/QG K x y H Q
theorem aev(hu:X.A.units+64<cLine):bA X (compareOp .Lt) (GK X.K):=bA.or aco (ac8 (by omega))
noncomputable def vD:G2
 |.int i,.int j=>.ok (.bl (decide (i<j)),false)
 |.tup a,.tup b=>match intsOf a,intsOf b with
  |some ns,some ms=>.ok (.bl (HT.lexLt ns ms),false)
  |_,_=>.bad
 |_,_=>.bad
theorem aew:cU (au K) (GK K) vD:=⟨λa b c=>by unfold vD; walk_at "x",λG H x y a b Q s rx ry h=>by
 cases a <;> cases b <;> try exact h.elim
 .rw[rx.int,ry.int]
  exact .inl ⟨_,_,rfl,rfl,h _ G H (.refl s) (.bl _)⟩
 .dsimp only[vD]at h
  split at h
  case h_2=>exact h.elim
  rename_i ns ms e1 e2
  obtain⟨p,xs,rfl,q,r⟩:=rx.tup s
  obtain⟨p',ys,rfl,q',r'⟩:=ry.tup s
  have z1:=ints_of e1 r
  have z2:=ints_of e2 r'
  subst z1 z2
  exact .inr ⟨p,p',ns,ms,rfl,rfl,q.toK,q'.toK,h _ G H (.refl s) (.bl _)⟩⟩
noncomputable def aW:G2
 |.lst ts,.int i=>match cR ts i with
  |some t=>.ok (t,false)
  |none=>.bad
 |.tup ts,.int i=>match cR ts i with
  |some t=>.ok (t,false)
  |none=>.bad
 | .str z,.int i=>if z.length<=100000 then (match cR z.cps.toList i with
  |some c=>.ok (.str ⟨#[c]⟩,false)
  |none=>.bad)else .bad
 |_,_=>.bad
theorem RP:cU (au K) (QV K) aW:=⟨λa b c=>by unfold aW; walk_at "x",λG H x y a b Q s rx ry h=>by
 cases a <;> cases b <;> try exact h.elim
 all_goals
  rename_i z i
  rw[ry.int]
  dsimp only[aW]at h
  split at h
  rotate_left
  exact h.elim
 .rename_i e
  rw[rx.str]
  split at h
  .rename_i c ec
   exact .inr (.inr ⟨z,i,c,rfl,rfl,big e,ec,h _ G H (.refl s) (.str _)⟩)
  .exact h.elim
 .rename_i t e
  obtain⟨p,xs,rfl,q,r⟩:=rx.tup s
  obtain⟨v,ev,rv⟩:=r.cR e
  exact .inr (.inl ⟨p,xs,i,v,rfl,rfl,q.toK,ev,h _ G H (.refl s) rv⟩)
 .rename_i t e
  obtain⟨p,xs,rfl,q,r⟩:=rx.lst s
  obtain⟨v,ev,rv⟩:=r.cR e
  exact .inl ⟨p,xs,i,v,rfl,rfl,q.toK,ev,h _ G H (.refl s) rv⟩⟩
structure lD(K:FZ)(r:V->Hp->VK->Prop)(g:G1):Prop where
 nx:∀a c,g a ≠ .ex c
 ok:∀G H x a Q,Same G H->Rp K G H x a->Pz (g a) (λp=>∀v G' H',Gs K G H G' H'->VN K H G' H' v p.1 p.2->Q v H')->r x H Q
noncomputable def g1(g:G1):GN
 | [a]=>g a
 |_=>.bad
theorem sY{r:List V->Hp->VK->Prop}{g:G1}(h:lD K (λx=>r [x]) g):Gn K r (g1 g):=⟨λas c=>(by
 unfold g1
 split
 .exact h.nx _ c
 .intro z; cases z),λG H xs as Q s rs q=>by
 cases rs with
 |nil=>exact q.elim
 |cons h1 r1 =>
  cases r1 with
  |nil=>exact h.ok G H _ _ Q s h1 q
  |cons _ _=>exact q.elim⟩
noncomputable def g2(g:G2):GN
 | [a,b]=>g a b
 |_=>.bad
noncomputable def oG:G1
 |.int i=>.ok (.int (-i),false)
 |_=>.bad
theorem RQ:lD K (rU λi=>.int (-i)) oG:=⟨λa c=>by unfold oG; walk_at "x",λG H x a Q s rx h=>by
 cases a <;> try exact h.elim
 rw[rx.int]
 exact⟨_,rfl,h _ G H (.refl s) (.int _)⟩⟩
def GP(K:FZ):List V->Hp->VK->Prop:=λxs H Q=>(∃p ys,xs=[.ref p]/\(aG K H p ys\/bw K H p ys)/\Q (.int ys.length) H)\/(∃z,xs=[.str z]/\z.length<=sizeLine/\Q (.int z.length) H)
theorem aex:fL X (.builtin "len") (GP X.K):=fL.or adn ado
noncomputable def eY:G1
 |.lst ts=>.ok (.int ts.length,false)
 |.tup ts=>.ok (.int ts.length,false)
 |.str z=>if z.length<=100000 then .ok (.int z.length,false)else .bad
 |_=>.bad
theorem aey:lD (au K) (λx=>GP K [x]) eY:=⟨λa c=>by unfold eY; walk_at "x",λG H x a Q s rx h=>by
 cases a <;> try exact h.elim
 .dsimp only[eY]at h
  split at h
  .rename_i z e
   rw[rx.str]
   exact .inr ⟨z,rfl,big e,h _ G H (.refl s) (.int _)⟩
  .exact h.elim
 .obtain⟨p,xs,rfl,q,r⟩:=rx.tup s
  refine .inl ⟨p,xs,rfl,.inr q.toK,?_⟩
  rw[r.length]
  exact h _ G H (.refl s) (.int _)
 .obtain⟨p,xs,rfl,q,r⟩:=rx.lst s
  refine .inl ⟨p,xs,rfl,.inl q.toK,?_⟩
  rw[r.length]
  exact h _ G H (.refl s) (.int _)⟩
noncomputable def vH:G1
 |.int i=>.ok (.int (if i<0 then -i else i),false)
 |_=>.bad
theorem aez:lD K (λx H Q=>∃i,[x]=[V.int i]/\Q (.int (if i<0 then -i else i)) H) vH:=⟨λa c=>by unfold vH; walk_at "x",λG H x a Q s rx h=>by
 cases a <;> try exact h.elim
 rw[rx.int]
 exact⟨_,rfl,h _ G H (.refl s) (.int _)⟩⟩
noncomputable def yx:G1
 |.int i=>.ok (.int i,false)
 |.bl b=>.ok (.int (if b then 1 else 0),false)
 |_=>.bad
theorem aeA:lD K (λx H Q=>(∃i,[x]=[V.int i]/\Q (.int i) H)\/∃k,[x]=[V.bl k]/\Q (.int (if k then 1 else 0)) H) yx:=⟨λa c=>by unfold yx; walk_at "x",λG H x a Q s rx h=>by
 cases a <;> try exact h.elim
 .rw[rx.bl]
  exact .inr ⟨_,rfl,h _ G H (.refl s) (.int _)⟩
 .rw[rx.int]
  exact .inl ⟨_,rfl,h _ G H (.refl s) (.int _)⟩⟩
noncomputable def yC:G1
 |.lst ts=>.ok (.lst ts,true)
 |.tup ts=>.ok (.lst ts,true)
 |_=>.bad
theorem aeB:lD (au K) (λx H Q=>∃p ys,[x]=[V.ref p]/\(aG K H p ys\/bw K H p ys)/\∀l,H l=none->Q (.ref l) (upd H l (.lst ys))) yC:=⟨λa c=>by unfold yC; walk_at "x",λG H x a Q s rx h=>by
 cases a <;> try exact h.elim
 .obtain⟨p,xs,rfl,q,r⟩:=rx.tup s
  exact⟨p,xs,rfl,.inr q.toK,λz hz=>h _ _ _ (.flt s hz) (.flt s hz r)⟩
 .obtain⟨p,xs,rfl,q,r⟩:=rx.lst s
  exact⟨p,xs,rfl,.inl q.toK,λz hz=>h _ _ _ (.flt s hz) (.flt s hz r)⟩⟩
noncomputable def abf:G2
 |.int i,.int j=>.ok (.int (if j<i then j else i),false)
 |_,_=>.bad
noncomputable def abg:G2
 |.int i,.int j=>.ok (.int (if j > i then j else i),false)
 |_,_=>.bad
noncomputable def vI:List Tr->Option (List Bool)
 | []=>some []
 |.bl i::r=>(vI r).map (i :: ·)
 |_::_=>none
theorem RT:∀{ts:List Tr} {ns:List Bool} {xs:List V},vI ts=some ns->aA K H xs ts->xs=ns.map V.bl
 | [],ns,xs,h,r=>by cases h; cases r; rfl
 |.bl i::q,ns,xs,h,r=>by
  obtain⟨ms,e,rfl⟩:=Option.map_eq_some_iff.mp h
  cases r with
  |cons h1 r1 =>
   cases h1
   rw[RT e r1]
   rfl
noncomputable def tu:G1
 |.lst ts=>match vI ts with
  |some bs=>.ok (.bl (bs.all id),false)
  |none=>.bad
 |_=>.bad
theorem aeC:lD (au K) (λx=>FN K [x]) tu:=⟨λa c=>by unfold tu; walk_at "x",λG H x a Q s rx h=>by
 cases a <;> try exact h.elim
 dsimp only[tu]at h
 split at h
 .rename_i bs e
  obtain⟨p,xs,rfl,q,r⟩:=rx.lst s
  have z:=RT e r
  subst z
  exact⟨p,bs,rfl,q.toK,h _ G H (.refl s) (.bl _)⟩
 .exact h.elim⟩
noncomputable def rO:Tr->Rs Bool
 |.bl b=>.ok b
 |_=>.bad
theorem RV(a:Tr)(c:Str):rO a ≠ .ex c:=by cases a <;> (intro z; cases z)
theorem RW{a:Tr}(h:Rp K G H v a)(q:rO a=.ok b):v=.bl b:=by
 cases a <;> cases q
 exact h.bl
noncomputable def vJ:Tr->Rs Int
 |.int i=>.ok i
 |_=>.bad
theorem GQ(a:Tr)(c:Str):vJ a ≠ .ex c:=by cases a <;> (intro z; cases z)
theorem zX{a:Tr}(h:Rp K G H v a)(q:vJ a=.ok b):v=.int b:=by
 cases a <;> cases q
 exact h.int
noncomputable def oF:Tr->Rs Bool
 |.non=>.ok false
 |.bl b=>.ok b
 |.int i=>.ok (i != 0)
 |.lst ts=>.ok (!ts.isEmpty)
 |.tup ts=>.ok (!ts.isEmpty)
 |.str x=>if x.length<=100000 then .ok ((x.length:Int) != 0)else .bad
 |.bQ _=>.bad
theorem aeD(a:Tr)(c:Str):oF a ≠ .ex c:=by unfold oF; walk_at "x"
theorem RX{α β : Type}{a:List α}{b:List β}(h:a.length=b.length):a.isEmpty=b.isEmpty:=by
 cases a <;> cases b <;> first|rfl|cases h
theorem aeE(s:Same G H)(h:Rp (au K) G H v a)(q:oF a=.ok b):Ew K v H b:=by
 cases a with
 |non=>cases q; rw[h.non]; rfl
 |bl i=>cases q; rw[h.bl]; rfl
 |int i=>cases q; rw[h.int]; rfl
 |str i =>
  dsimp only[oF]at q
  split at q
  .rename_i e
   cases q
   rw[h.str]
   exact⟨big e,rfl⟩
  .cases q
 |tup ts =>
  cases q
  obtain⟨p,xs,rfl,q,r⟩:=h.tup s
  exact .inr (id ⟨xs,q.toK,by rw[RX r.length]⟩)
 |lst ts =>
  cases q
  obtain⟨p,xs,rfl,q,r⟩:=h.lst s
  exact .inl ⟨xs,q.toK,by rw[RX r.length]⟩
 |bQ c=>cases q
end
end
end L2
end
section
namespace L2
open PySem
theorem dI{c P:Prop} [i:Decidable c]{f:c->Bool}(h:(if z:c then f z else false)=true)(k:c->∀z,f z=true->P):P:=by
 cases i with
 |isTrue z=>exact k z z h
 |isFalse z=>cases h
@[irreducible] def atName(e:Expr)(k:Str->Pos->Bool):Bool:=if h:e.ctorIdx=23 then Expr.Name.elim e h k else false
theorem Ml(h:atName e k=true):∃x0 x1,e=.Name x0 x1/\k x0 x1=true:=by unfold atName at h; exact dI h λy=>Expr.Name.elim e y λ_ _ _ h=>⟨_,_,rfl,h⟩
@[elab_as_elim] theorem aay{C:_->Prop}(h:atName e k=true)(f:∀x0 x1,k x0 x1=true->C (.Name x0 x1)):C e:=by obtain⟨_,_,rfl,h'⟩:=Ml h; exact f _ _ h'
@[irreducible] def zY(e:Expr)(k:Expr->Operator->Expr->Pos->Bool):Bool:=if h:e.ctorIdx=2 then Expr.BinOp.elim e h k else false
theorem Mp(h:zY e k=true):∃x0 x1 x2 x3,e=.BinOp x0 x1 x2 x3/\k x0 x1 x2 x3=true:=by unfold zY at h; exact dI h λy=>Expr.BinOp.elim e y λ_ _ _ _ _ h=>⟨_,_,_,_,rfl,h⟩
@[elab_as_elim] theorem aaz{C:_->Prop}(h:zY e k=true)(f:∀x0 x1 x2 x3,k x0 x1 x2 x3=true->C (.BinOp x0 x1 x2 x3)):C e:=by obtain⟨_,_,_,_,rfl,h'⟩:=Mp h; exact f _ _ _ _ h'
@[irreducible] def qF(e:Expr)(k:UnaryOp->Expr->Pos->Bool):Bool:=if h:e.ctorIdx=3 then Expr.UnaryOp.elim e h k else false
theorem Mq(h:qF e k=true):∃x0 x1 x2,e=.UnaryOp x0 x1 x2/\k x0 x1 x2=true:=by unfold qF at h; exact dI h λy=>Expr.UnaryOp.elim e y λ_ _ _ _ h=>⟨_,_,_,rfl,h⟩
@[elab_as_elim] theorem aaA{C:_->Prop}(h:qF e k=true)(f:∀x0 x1 x2,k x0 x1 x2=true->C (.UnaryOp x0 x1 x2)):C e:=by obtain⟨_,_,_,rfl,h'⟩:=Mq h; exact f _ _ _ h'
@[irreducible] def vL(e:Expr)(k:Expr->List CmpOp->List Expr->Pos->Bool):Bool:=if h:e.ctorIdx=15 then Expr.Compare.elim e h k else false
theorem Mr(h:vL e k=true):∃x0 x1 x2 x3,e=.Compare x0 x1 x2 x3/\k x0 x1 x2 x3=true:=by unfold vL at h; exact dI h λy=>Expr.Compare.elim e y λ_ _ _ _ _ h=>⟨_,_,_,_,rfl,h⟩
@[elab_as_elim] theorem aaB{C:_->Prop}(h:vL e k=true)(f:∀x0 x1 x2 x3,k x0 x1 x2 x3=true->C (.Compare x0 x1 x2 x3)):C e:=by obtain⟨_,_,_,_,rfl,h'⟩:=Mr h; exact f _ _ _ _ h'
@[irreducible] def vN(e:Expr)(k:BoolOp->List Expr->Pos->Bool):Bool:=if h:e.ctorIdx=0 then Expr.BoolOp.elim e h k else false
theorem Ms(h:vN e k=true):∃x0 x1 x2,e=.BoolOp x0 x1 x2/\k x0 x1 x2=true:=by unfold vN at h; exact dI h λy=>Expr.BoolOp.elim e y λ_ _ _ _ h=>⟨_,_,_,rfl,h⟩
@[elab_as_elim] theorem aaC{C:_->Prop}(h:vN e k=true)(f:∀x0 x1 x2,k x0 x1 x2=true->C (.BoolOp x0 x1 x2)):C e:=by obtain⟨_,_,_,rfl,h'⟩:=Ms h; exact f _ _ _ h'
@[irreducible] def zZ(e:Expr)(k:Expr->Expr->Expr->Pos->Bool):Bool:=if h:e.ctorIdx=5 then Expr.IfExp.elim e h k else false
theorem Mt(h:zZ e k=true):∃x0 x1 x2 x3,e=.IfExp x0 x1 x2 x3/\k x0 x1 x2 x3=true:=by unfold zZ at h; exact dI h λy=>Expr.IfExp.elim e y λ_ _ _ _ _ h=>⟨_,_,_,_,rfl,h⟩
@[elab_as_elim] theorem aaD{C:_->Prop}(h:zZ e k=true)(f:∀x0 x1 x2 x3,k x0 x1 x2 x3=true->C (.IfExp x0 x1 x2 x3)):C e:=by obtain⟨_,_,_,_,rfl,h'⟩:=Mt h; exact f _ _ _ _ h'
@[irreducible] def lF(e:Expr)(k:Expr->Expr->Pos->Bool):Bool:=if h:e.ctorIdx=21 then Expr.Subscript.elim e h k else false
theorem Mv(h:lF e k=true):∃x0 x1 x2,e=.Subscript x0 x1 x2/\k x0 x1 x2=true:=by unfold lF at h; exact dI h λy=>Expr.Subscript.elim e y λ_ _ _ _ h=>⟨_,_,_,rfl,h⟩
@[elab_as_elim] theorem aaE{C:_->Prop}(h:lF e k=true)(f:∀x0 x1 x2,k x0 x1 x2=true->C (.Subscript x0 x1 x2)):C e:=by obtain⟨_,_,_,rfl,h'⟩:=Mv h; exact f _ _ _ h'
@[irreducible] def iH(e:Expr)(k:List Expr->Nat->Pos->Bool):Bool:=if h:e.ctorIdx=25 then Expr.Tuple.elim e h k else false
theorem Mw(h:iH e k=true):∃x0 x1 x2,e=.Tuple x0 x1 x2/\k x0 x1 x2=true:=by unfold iH at h; exact dI h λy=>Expr.Tuple.elim e y λ_ _ _ _ h=>⟨_,_,_,rfl,h⟩
@[elab_as_elim] theorem aaF{C:_->Prop}(h:iH e k=true)(f:∀x0 x1 x2,k x0 x1 x2=true->C (.Tuple x0 x1 x2)):C e:=by obtain⟨_,_,_,rfl,h'⟩:=Mw h; exact f _ _ _ h'
@[irreducible] def tB(e:Expr)(k:List Expr->Pos->Bool):Bool:=if h:e.ctorIdx=24 then Expr.List.elim e h k else false
theorem Mx(h:tB e k=true):∃x0 x1,e=.List x0 x1/\k x0 x1=true:=by unfold tB at h; exact dI h λy=>Expr.List.elim e y λ_ _ _ h=>⟨_,_,rfl,h⟩
@[elab_as_elim] theorem aaG{C:_->Prop}(h:tB e k=true)(f:∀x0 x1,k x0 x1=true->C (.List x0 x1)):C e:=by obtain⟨_,_,rfl,h'⟩:=Mx h; exact f _ _ h'
@[irreducible] def z6(e:Expr)(k:Option Expr->Option Expr->Option Expr->Pos->Bool):Bool:=if h:e.ctorIdx=26 then Expr.Slice.elim e h k else false
theorem Mz(h:z6 e k=true):∃x0 x1 x2 x3,e=.Slice x0 x1 x2 x3/\k x0 x1 x2 x3=true:=by unfold z6 at h; exact dI h λy=>Expr.Slice.elim e y λ_ _ _ _ _ h=>⟨_,_,_,_,rfl,h⟩
@[elab_as_elim] theorem aaH{C:_->Prop}(h:z6 e k=true)(f:∀x0 x1 x2 x3,k x0 x1 x2 x3=true->C (.Slice x0 x1 x2 x3)):C e:=by obtain⟨_,_,_,_,rfl,h'⟩:=Mz h; exact f _ _ _ _ h'
@[irreducible] def eH(e:Expr)(k:Expr->List Expr->List Keyword->Pos->Bool):Bool:=if h:e.ctorIdx=16 then Expr.Call.elim e h k else false
theorem yu(h:eH e k=true):∃x0 x1 x2 x3,e=.Call x0 x1 x2 x3/\k x0 x1 x2 x3=true:=by unfold eH at h; exact dI h λy=>Expr.Call.elim e y λ_ _ _ _ _ h=>⟨_,_,_,_,rfl,h⟩
@[elab_as_elim] theorem aaI{C:_->Prop}(h:eH e k=true)(f:∀x0 x1 x2 x3,k x0 x1 x2 x3=true->C (.Call x0 x1 x2 x3)):C e:=by obtain⟨_,_,_,_,rfl,h'⟩:=yu h; exact f _ _ _ _ h'
@[irreducible] def qG(e:Expr)(k:Expr->Str->Pos->Bool):Bool:=if h:e.ctorIdx=20 then Expr.Attribute.elim e h k else false
theorem MF(h:qG e k=true):∃x0 x1 x2,e=.Attribute x0 x1 x2/\k x0 x1 x2=true:=by unfold qG at h; exact dI h λy=>Expr.Attribute.elim e y λ_ _ _ _ h=>⟨_,_,_,rfl,h⟩
@[elab_as_elim] theorem aaJ{C:_->Prop}(h:qG e k=true)(f:∀x0 x1 x2,k x0 x1 x2=true->C (.Attribute x0 x1 x2)):C e:=by obtain⟨_,_,_,rfl,h'⟩:=MF h; exact f _ _ _ h'
@[irreducible] def m9(e:Expr)(k:Expr->List Comprehension->Scope->Pos->Bool):Bool:=if h:e.ctorIdx=8 then Expr.ListComp.elim e h k else false
theorem MJ(h:m9 e k=true):∃x0 x1 x2 x3,e=.ListComp x0 x1 x2 x3/\k x0 x1 x2 x3=true:=by unfold m9 at h; exact dI h λy=>Expr.ListComp.elim e y λ_ _ _ _ _ h=>⟨_,_,_,_,rfl,h⟩
@[elab_as_elim] theorem aaK{C:_->Prop}(h:m9 e k=true)(f:∀x0 x1 x2 x3,k x0 x1 x2 x3=true->C (.ListComp x0 x1 x2 x3)):C e:=by obtain⟨_,_,_,_,rfl,h'⟩:=MJ h; exact f _ _ _ _ h'
@[irreducible] def z7(e:Expr)(k:Arguments->Expr->Scope->Pos->Bool):Bool:=if h:e.ctorIdx=4 then Expr.Lambda.elim e h k else false
theorem MK(h:z7 e k=true):∃x0 x1 x2 x3,e=.Lambda x0 x1 x2 x3/\k x0 x1 x2 x3=true:=by unfold z7 at h; exact dI h λy=>Expr.Lambda.elim e y λ_ _ _ _ _ h=>⟨_,_,_,_,rfl,h⟩
@[elab_as_elim] theorem aaL{C:_->Prop}(h:z7 e k=true)(f:∀x0 x1 x2 x3,k x0 x1 x2 x3=true->C (.Lambda x0 x1 x2 x3)):C e:=by obtain⟨_,_,_,_,rfl,h'⟩:=MK h; exact f _ _ _ _ h'
@[irreducible] def pB(e:Stmt)(k:List Expr->Expr->Pos->Bool):Bool:=if h:e.ctorIdx=5 then Stmt.Assign.elim e h k else false
theorem MN(h:pB e k=true):∃x0 x1 x2,e=.Assign x0 x1 x2/\k x0 x1 x2=true:=by unfold pB at h; exact dI h λy=>Stmt.Assign.elim e y λ_ _ _ _ h=>⟨_,_,_,rfl,h⟩
@[elab_as_elim] theorem aaM{C:_->Prop}(h:pB e k=true)(f:∀x0 x1 x2,k x0 x1 x2=true->C (.Assign x0 x1 x2)):C e:=by obtain⟨_,_,_,rfl,h'⟩:=MN h; exact f _ _ _ h'
@[irreducible] def qH(e:Stmt)(k:Expr->Pos->Bool):Bool:=if h:e.ctorIdx=24 then Stmt.Expr.elim e h k else false
theorem MP(h:qH e k=true):∃x0 x1,e=.Expr x0 x1/\k x0 x1=true:=by unfold qH at h; exact dI h λy=>Stmt.Expr.elim e y λ_ _ _ h=>⟨_,_,rfl,h⟩
@[elab_as_elim] theorem aaN{C:_->Prop}(h:qH e k=true)(f:∀x0 x1,k x0 x1=true->C (.Expr x0 x1)):C e:=by obtain⟨_,_,rfl,h'⟩:=MP h; exact f _ _ h'
@[irreducible] def vO(e:Stmt)(k:Option Expr->Pos->Bool):Bool:=if h:e.ctorIdx=3 then Stmt.Return.elim e h k else false
theorem M4(h:vO e k=true):∃x0 x1,e=.Return x0 x1/\k x0 x1=true:=by unfold vO at h; exact dI h λy=>Stmt.Return.elim e y λ_ _ _ h=>⟨_,_,rfl,h⟩
@[elab_as_elim] theorem aaO{C:_->Prop}(h:vO e k=true)(f:∀x0 x1,k x0 x1=true->C (.Return x0 x1)):C e:=by obtain⟨_,_,rfl,h'⟩:=M4 h; exact f _ _ h'
@[irreducible] def z8(e:Stmt)(k:Expr->List Stmt->List Stmt->Pos->Bool):Bool:=if h:e.ctorIdx=12 then Stmt.If.elim e h k else false
theorem M5(h:z8 e k=true):∃x0 x1 x2 x3,e=.If x0 x1 x2 x3/\k x0 x1 x2 x3=true:=by unfold z8 at h; exact dI h λy=>Stmt.If.elim e y λ_ _ _ _ _ h=>⟨_,_,_,_,rfl,h⟩
@[elab_as_elim] theorem aaP{C:_->Prop}(h:z8 e k=true)(f:∀x0 x1 x2 x3,k x0 x1 x2 x3=true->C (.If x0 x1 x2 x3)):C e:=by obtain⟨_,_,_,_,rfl,h'⟩:=M5 h; exact f _ _ _ _ h'
@[irreducible] def z9(e:Stmt)(k:Option Expr->Option Expr->Pos->Bool):Bool:=if h:e.ctorIdx=16 then Stmt.Raise.elim e h k else false
theorem M6(h:z9 e k=true):∃x0 x1 x2,e=.Raise x0 x1 x2/\k x0 x1 x2=true:=by unfold z9 at h; exact dI h λy=>Stmt.Raise.elim e y λ_ _ _ _ h=>⟨_,_,_,rfl,h⟩
@[elab_as_elim] theorem aaQ{C:_->Prop}(h:z9 e k=true)(f:∀x0 x1 x2,k x0 x1 x2=true->C (.Raise x0 x1 x2)):C e:=by obtain⟨_,_,_,rfl,h'⟩:=M6 h; exact f _ _ _ h'
@[irreducible] def Aa(e:Stmt)(k:Expr->List Stmt->List Stmt->Pos->Bool):Bool:=if h:e.ctorIdx=11 then Stmt.While.elim e h k else false
theorem M7(h:Aa e k=true):∃x0 x1 x2 x3,e=.While x0 x1 x2 x3/\k x0 x1 x2 x3=true:=by unfold Aa at h; exact dI h λy=>Stmt.While.elim e y λ_ _ _ _ _ h=>⟨_,_,_,_,rfl,h⟩
@[elab_as_elim] theorem aaR{C:_->Prop}(h:Aa e k=true)(f:∀x0 x1 x2 x3,k x0 x1 x2 x3=true->C (.While x0 x1 x2 x3)):C e:=by obtain⟨_,_,_,_,rfl,h'⟩:=M7 h; exact f _ _ _ _ h'
@[irreducible] def vP(e:Stmt)(k:Expr->Expr->List Stmt->List Stmt->Pos->Bool):Bool:=if h:e.ctorIdx=9 then Stmt.For.elim e h k else false
theorem M8(h:vP e k=true):∃x0 x1 x2 x3 x4,e=.For x0 x1 x2 x3 x4/\k x0 x1 x2 x3 x4=true:=by unfold vP at h; exact dI h λy=>Stmt.For.elim e y λ_ _ _ _ _ _ h=>⟨_,_,_,_,_,rfl,h⟩
@[elab_as_elim] theorem aaS{C:_->Prop}(h:vP e k=true)(f:∀x0 x1 x2 x3 x4,k x0 x1 x2 x3 x4=true->C (.For x0 x1 x2 x3 x4)):C e:=by obtain⟨_,_,_,_,_,rfl,h'⟩:=M8 h; exact f _ _ _ _ _ h'
@[irreducible] def GR(e:Expr)(k:Const->Nat->Pos->Bool):Bool:=if h:e.ctorIdx=19 then Expr.Constant.elim e h k else false
@[elab_as_elim] theorem aa2{C:_->Prop}(h:GR e k=true)(f:∀x0 x1 x2,k x0 x1 x2=true->C (.Constant x0 x1 x2)):C e:=by unfold GR at h; exact dI h λy=>Expr.Constant.elim e y λ_ _ _ _ h=>f _ _ _ h
@[irreducible] def GX(e:Const)(k:Int->Bool):Bool:=if h:e.ctorIdx=2 then Const.int.elim e h k else false
@[elab_as_elim] theorem aa3{C:_->Prop}(h:GX e k=true)(f:∀x0,k x0=true->C (.int x0)):C e:=by unfold GX at h; exact dI h λy=>Const.int.elim e y λ_ _ h=>f _ h
@[irreducible] def GZ(e:Const)(k:Str->Bool):Bool:=if h:e.ctorIdx=5 then Const.str.elim e h k else false
@[elab_as_elim] theorem aa4{C:_->Prop}(h:GZ e k=true)(f:∀x0,k x0=true->C (.str x0)):C e:=by unfold GZ at h; exact dI h λy=>Const.str.elim e y λ_ _ h=>f _ h
@[irreducible] def G8(e:Const)(k:Bool->Bool):Bool:=if h:e.ctorIdx=1 then Const.bool.elim e h k else false
@[elab_as_elim] theorem aa5{C:_->Prop}(h:G8 e k=true)(f:∀x0,k x0=true->C (.bool x0)):C e:=by unfold G8 at h; exact dI h λy=>Const.bool.elim e y λ_ _ h=>f _ h
@[irreducible] def Hf(e:Const):Bool:=decide (e.ctorIdx=0)
@[elab_as_elim] theorem aa6{C:_->Prop}(h:Hf e=true)(f:True->C .none):C e:=by unfold Hf at h; exact Const.none.elim e (of_decide_eq_true h) (f trivial)
@[irreducible] def lG(e:Comprehension)(k:Expr->Expr->List Expr->Int->Bool):Bool:=k e.target e.iter e.ifs e.is_async
theorem M9(h:lG e k=true):∃x0 x1 x2 x3,e=⟨x0,x1,x2,x3⟩/\k x0 x1 x2 x3=true:=by unfold lG at h; cases e; exact⟨_,_,_,_,rfl,h⟩
@[elab_as_elim] theorem aaT{C:_->Prop}(h:lG e k=true)(f:∀x0 x1 x2 x3,k x0 x1 x2 x3=true->C (⟨x0,x1,x2,x3⟩)):C e:=by obtain⟨_,_,_,_,rfl,h'⟩:=M9 h; exact f _ _ _ _ h'
@[irreducible] def Ab(e:Keyword)(k:Option Str->Expr->Pos->Bool):Bool:=k e.arg e.value e.pos
theorem Nb(h:Ab e k=true):∃x0 x1 x2,e=⟨x0,x1,x2⟩/\k x0 x1 x2=true:=by unfold Ab at h; cases e; exact⟨_,_,_,rfl,h⟩
@[elab_as_elim] theorem aaU{C:_->Prop}(h:Ab e k=true)(f:∀x0 x1 x2,k x0 x1 x2=true->C (⟨x0,x1,x2⟩)):C e:=by obtain⟨_,_,_,rfl,h'⟩:=Nb h; exact f _ _ _ h'
@[irreducible] def Ac(e:Arg)(k:Str->Option Expr->Pos->Bool):Bool:=k e.arg e.annotation e.pos
theorem Nf(h:Ac e k=true):∃x0 x1 x2,e=⟨x0,x1,x2⟩/\k x0 x1 x2=true:=by unfold Ac at h; cases e; exact⟨_,_,_,rfl,h⟩
@[elab_as_elim] theorem aaV{C:_->Prop}(h:Ac e k=true)(f:∀x0 x1 x2,k x0 x1 x2=true->C (⟨x0,x1,x2⟩)):C e:=by obtain⟨_,_,_,rfl,h'⟩:=Nf h; exact f _ _ _ h'
@[irreducible] def Ad(e:Arguments)(k:List Arg->List Arg->Option Arg->List Arg->List (Option Expr)->Option Arg->List Expr->Bool):Bool:=k e.posonlyargs e.args e.vararg e.kwonlyargs e.kw_defaults e.kwarg e.defaults
theorem Ng(h:Ad e k=true):∃x0 x1 x2 x3 x4 x5 x6,e=⟨x0,x1,x2,x3,x4,x5,x6⟩/\k x0 x1 x2 x3 x4 x5 x6=true:=by unfold Ad at h; cases e; exact⟨_,_,_,_,_,_,_,rfl,h⟩
@[elab_as_elim] theorem aaW{C:_->Prop}(h:Ad e k=true)(f:∀x0 x1 x2 x3 x4 x5 x6,k x0 x1 x2 x3 x4 x5 x6=true->C (⟨x0,x1,x2,x3,x4,x5,x6⟩)):C e:=by obtain⟨_,_,_,_,_,_,_,rfl,h'⟩:=Ng h; exact f _ _ _ _ _ _ _ h'
@[irreducible] def aN{α : Type}(l:List α)(k : α -> List α -> Bool):Bool:=match l with
 |x::y=>k x y
 |_=>false
theorem Mi{α : Type}{l:List α}{k : α -> List α -> Bool}(h:aN l k=true):∃x y,l=x::y/\k x y=true:=by unfold aN at h; cases l <;> first|exact⟨_,_,rfl,h⟩|cases h
@[elab_as_elim] theorem aaX{α : Type}{l:List α}{k : α -> List α -> Bool}{C:_->Prop}(h:aN l k=true)(f:∀x y,k x y=true->C (x::y)):C l:=by obtain⟨_,_,rfl,h'⟩:=Mi h; exact f _ _ h'
@[irreducible] def aO{α : Type}(l:List α)(k:Bool):Bool:=l.isEmpty&&k
theorem Mj{α : Type}{l:List α}{k:Bool}(h:aO l k=true):l=[]/\k=true:=by unfold aO at h; cases l <;> first|exact⟨rfl,h⟩|cases h
@[elab_as_elim] theorem aaY{α : Type}{l:List α}{k:Bool}{C:_->Prop}(h:aO l k=true)(f:k=true->C ([])):C l:=by obtain⟨rfl,h'⟩:=Mj h; exact f h'
@[irreducible] def pC{α : Type}(l:Option α)(k : α -> Bool):Bool:=match l with
 |some x=>k x
 |_=>false
theorem Nh{α : Type}{l:Option α}{k : α -> Bool}(h:pC l k=true):∃x,l=some x/\k x=true:=by unfold pC at h; cases l <;> first|exact⟨_,rfl,h⟩|cases h
@[elab_as_elim] theorem aaZ{α : Type}{l:Option α}{k : α -> Bool}{C:_->Prop}(h:pC l k=true)(f:∀x,k x=true->C (some x)):C l:=by obtain⟨_,rfl,h'⟩:=Nh h; exact f _ h'
@[irreducible] def qI{α : Type}(l:Option α)(k:Bool):Bool:=l.isNone&&k
theorem Ni{α : Type}{l:Option α}{k:Bool}(h:qI l k=true):l=none/\k=true:=by unfold qI at h; cases l <;> first|exact⟨rfl,h⟩|cases h
@[elab_as_elim] theorem aa0{α : Type}{l:Option α}{k:Bool}{C:_->Prop}(h:qI l k=true)(f:k=true->C (none)):C l:=by obtain⟨rfl,h'⟩:=Ni h; exact f h'
@[irreducible] def iI{α : Type} [DecidableEq α](a b : α)(k:Bool):Bool:=decide (a=b)&&k
theorem Nj{α : Type} [DecidableEq α]{a b : α}{k:Bool}(h:iI a b k=true):a=b/\k=true:=by simpa[iI]using h
@[elab_as_elim] theorem aa1{α : Type} [DecidableEq α]{a b : α}{k:Bool}{C : α -> Prop}(h:iI a b k=true)(f:k=true->C b):C a:=by obtain⟨e,q⟩:=Nj h; subst e; exact f q
open PySem.Spec PyProof.Rows
def qJ(i:Int):TE:=λ_ H Q=>Q (.int i) H
noncomputable def kI:Const->Option Int
 |.int i=>some i
 |_=>none
noncomputable def bI(o:Operator)(i j:Int):Option Int:=match o with
 |.Sub=>some (i-j)
 |.Add=>some (i+j)
 |.Pow=>if 0<=j/\j<=100/\i.natAbs<=1000 then some (i ^ j.toNat)else none
 |_=>none
noncomputable def uI(o:UnaryOp)(i:Int):Option Int:=match o with
 |.USub=>some (-i)
 |_=>none
noncomputable def cI:Expr->Option Int
 |.Constant c _ _=>kI c
 |.UnaryOp o e _=>(cI e).bind (uI o)
 |.BinOp a o b _=>(cI a).bind λi=>(cI b).bind λj=>bI o i j
 |_=>none
theorem aeF(h:kI c=some i):PE X (.Constant c k p) (qJ i):=by
 cases c <;> first|(cases h; exact rR)|cases h
theorem aeG(h:uI o i=some k)(he:PE X e (qJ i)):PE X (.UnaryOp o e p) (qJ k):=by
 cases o <;> first|(cases h; exact(Es Et he).imp λσ H Q q=>⟨i,rfl,q⟩)|cases h
theorem aeH(h:bI o i j=some k)(ha:PE X a (qJ i))(hb:PE X b (qJ j)):PE X (.BinOp a o b p) (qJ k):=by
 cases o <;> try cases h
 .exact(yS Qi ha hb).imp λσ H Q q=>⟨i,j,rfl,rfl,q⟩
 .exact(yS Qj ha hb).imp λσ H Q q=>⟨i,j,rfl,rfl,q⟩
 .dsimp only[bI]at h
  split at h
  .rename_i c
   cases h
   exact(yS Qk ha hb).imp λσ H Q q=>⟨i,j,rfl,rfl,⟨c.1,by lia,by lia⟩,q⟩
  .cases h
theorem Ae(e:Expr)(k:Int)(h:cI e=some k):PE X e (qJ k):=by
 cases e with
 |Constant c _ _=>exact aeF h
 |UnaryOp o a _ =>
  have h:(cI a).bind (uI o)=some k:=h
  cases e1:cI a with
  |none=>rw[e1]at h; cases h
  |some i=>rw[e1]at h; exact aeG h (Ae a i e1)
 |BinOp a o b _ =>
  have h:((cI a).bind λi=>(cI b).bind λj=>bI o i j)=some k:=h
  cases e1:cI a with
  |none=>rw[e1]at h; cases h
  |some i =>
   cases e2:cI b with
   |none=>rw[e1,e2]at h; cases h
   |some j=>rw[e1,e2]at h; exact aeH h (Ae a i e1) (Ae b j e2)
 |_=>cases h
noncomputable def kT:Const->Option Tr
 |.none=>some .non
 |.bool b=>some (.bl b)
 |.str x=>some (.str x)
 |.int i=>some (.int i)
 |_=>none
mutual
noncomputable def cT:Expr->Option Tr
 |.Constant c _ _=>kT c
 |.Tuple es _ _=>(fY es).map .tup
 |.List es _=>(fY es).map .lst
 |.UnaryOp o a p=>(cI (.UnaryOp o a p)).map .int
 |.BinOp a o b p=>(cI (.BinOp a o b p)).map .int
 |_=>none
noncomputable def fY:List Expr->Option (List Tr)
 | []=>some []
 |e::r=>match cT e,fY r with
  |some T,some Ts=>if Ts.length<1000 then some (T::Ts)else none
  |_,_=>none
end
theorem Af:∀{es:List Expr} {Ts:List Tr},fY es=some Ts->Ts.length<=1000
 | [],Ts,h=>by
  cases h
  decide
 |e::r,Ts,h=>by
  unfold fY at h
  split at h
  .split at h
   .cases h
    rename_i h1
    rw[List.length_cons]
    lia
   .cases h
  .cases h
section
variable {X:Cx}{e:Expr}{es:List Expr}{T:Tr}{Ts:List Tr}{pos:Pos}{k:Nat}{G:FZ}
theorem aeI:PA X [] (sH G []):=qx.imp λσ H Q q=>q [] H (Same.refl _) λ_ _=>.nil
theorem aeJ(h:PE X e (qC G T))(r:PA X es (sH G Ts))(hs:starEach (e::es) X.env=(false,eval e X.env)::starEach es X.env):PA X (e::es) (sH G (T::Ts)) :=
 (mQ h r hs).imp λσ H Q q v H1 s1 rv vs H2 s2 rs=>q (v::vs) H2 (s1.trans s2) λPr p=>.cons ((rv Pr p).mono (p.mono s2)) (rs Pr (p.le s1))
theorem RZ(h:PA X es (sH G Ts))(hl:Ts.length<=1000):PE X (.Tuple es k pos) (qC G (.tup Ts)) :=
 (yX h).imp λσ H Q q vs H1 s1 rs=>by
  by_cases hv:vs.length<=sizeLine
  .exact⟨hv,λa ha=>q (.ref a) _ (s1.trans (iD ha _)) λPr p=>.tup (bw.of ((p.le s1).new (Same.refl _) ha)) ((rs Pr p).mono (p.mono (iD ha _)))⟩
  .exact absurd (Nat.le_of_lt (Ft (by rw[(rs _ (Pj.id H)).length]; exact hl))) hv
theorem R0(h:PA X es (sH G Ts))(hl:Ts.length<=1000):PE X (.List es pos) (FQ G Ts) :=
 (EY h).imp λσ H Q q vs H1 s1 rs=>by
  have e:=(rs _ (Pj.id H)).length
  exact⟨Nat.le_of_lt (Ft (by rw[e]; exact hl)),λa ha=>q a vs H1 s1 ha rs e⟩
theorem aeK(h:PE X e (FQ G Ts)):PE X e (qC G (.lst Ts)) :=
 h.imp λσ H Q q a xs H1 s1 ha rs _=>q (.ref a) _ (s1.trans (iD ha _)) λPr p=>.lst (aG.of ((p.le s1).new (Same.refl _) ha)) ((rs Pr p).mono (p.mono (iD ha _)))
theorem R3(h:(cI e).map Tr.int=some T):PE X e (qC G T):=by
 cases e1:cI e with
 |none=>rw[e1]at h; cases h
 |some i =>
  rw[e1]at h; cases h
  exact(Ae e i e1).imp λσ H Q q=>q _ H (Same.refl _) λ_ _=>.int i
end
theorem aeL(h:cT e=some T):starEach (e::es) env=(false,eval e env)::starEach es env:=by
 cases e <;> first|rfl|(unfold cT at h; cases h)
theorem aeM(h:kT c=some T):PE X (.Constant c k p) (qC G T):=by
 cases c <;> try cases h
 .exact O9.imp λσ H Q q=>q _ H (Same.refl _) λ_ _=>.non
 .exact O8.imp λσ H Q q=>q _ H (Same.refl _) λ_ _=>.bl _
 .exact rR.imp λσ H Q q=>q _ H (Same.refl _) λ_ _=>.int _
 .exact Pa.imp λσ H Q q=>q _ H (Same.refl _) λ_ _=>.str _
mutual
theorem aeN(e:Expr)(T:Tr)(h:cT e=some T):PE X e (qC G T):=by
 cases e with
 |Constant c _ _=>exact aeM (by unfold cT at h; exact h)
 |Tuple es _ _ =>
  unfold cT at h
  cases e:fY es with
  |none=>rw[e]at h; cases h
  |some Ts =>
   rw[e]at h
   cases h
   exact RZ (vQ es Ts e) (Af e)
 |List es _ =>
  unfold cT at h
  cases e:fY es with
  |none=>rw[e]at h; cases h
  |some Ts =>
   rw[e]at h
   cases h
   exact aeK (R0 (vQ es Ts e) (Af e))
 |UnaryOp o a p=>exact R3 (by unfold cT at h; exact h)
 |BinOp a o b p=>exact R3 (by unfold cT at h; exact h)
 |_=>unfold cT at h; cases h
theorem vQ:∀(es:List Expr) (Ts:List Tr),fY es=some Ts->PA X es (sH G Ts)
 | [],Ts,h=>by
  unfold fY at h; cases h
  exact aeI
 |e::r,Ts,h=>by
  unfold fY at h
  cases e1:cT e with
  |none=>rw[e1]at h; cases h
  |some T =>
   cases e2:fY r with
   |none=>rw[e1,e2]at h; cases h
   |some Us =>
    rw[e1,e2]at h
    dsimp only at h
    split at h
    .cases h
     exact aeJ (aeN e T e1) (vQ r Us e2) (aeL e1)
    .cases h
end
theorem aeO(h:fY es=some Ts):PE X (.List es pos) (FQ G Ts):=R0 (vQ es Ts h) (Af h)
theorem R4(h:fY es=some Ts):PE X (.Tuple es k pos) (qC G (.tup Ts)):=RZ (vQ es Ts h) (Af h)
class NF where
 f:Value->Int
section
variable [NF]{kf:Value->Int × Int}
noncomputable def q1(kf:Value->Int × Int)(xs:Array Keyed)(i:Nat):Int:=match xs[i]? with|some p=>(kf p.1).1|none=>0
noncomputable def q2(kf:Value->Int × Int)(xs:Array Keyed)(i:Nat):Int:=match xs[i]? with|some p=>(kf p.1).2|none=>0
noncomputable def qr(xs:Array Keyed)(i:Nat):Int:=match xs[i]? with|some p=>NF.f p.2|none=>0
def Kl(kf:Value->Int × Int)(xs:Array Keyed)(i j:Nat):Prop:=q1 kf xs i<q1 kf xs j\/(q1 kf xs i=q1 kf xs j/\q2 kf xs i<q2 kf xs j)
noncomputable instance {kf:Value->Int × Int}{xs:Array Keyed}{i j:Nat}:Decidable (Kl kf xs i j):=by unfold Kl; infer_instance
def Ke(kf:Value->Int × Int)(xs:Array Keyed)(i j:Nat):Prop:=q1 kf xs i=q1 kf xs j/\q2 kf xs i=q2 kf xs j
def Lq(kf:Value->Int × Int)(xs:Array Keyed)(i j:Nat):Prop:=Kl kf xs i j\/(Ke kf xs i j/\qr xs i<qr xs j)
def fC(kf:Value->Int × Int)(xs:Array Keyed)(m:Nat):Prop:=∀i j,i<j->j<m->Lq kf xs i j
def dg(kf:Value->Int × Int)(xs:Array Keyed)(m:Nat):Prop:=∀i j,i<j->j<m->Lq kf xs j i
def lH(kf:Value->Int × Int)(xs:Array Keyed)(m q:Nat):Prop:=(∀i j,i<j->j<m->i<q->Lq kf xs j i/\(q<=j->Kl kf xs j i))/\∀i j,q<=i->i<j->j<m->Ke kf xs i j/\qr xs i<qr xs j
def Pre(N:Nat)(xs:Array Keyed)(m:Nat):Prop:=(∀k:Nat,k<m->qr xs k<m)/\∀k:Nat,m<=k->k<N->qr xs k=k
theorem nj(h:xs[i]?=ys[j]?):qr xs i=qr ys j:=by unfold qr; rw[h]
theorem Ag(h:xs[i]?=ys[j]?):q1 kf xs i=q1 kf ys j:=by unfold q1; rw[h]
theorem Ah(h:xs[i]?=ys[j]?):q2 kf xs i=q2 kf ys j:=by unfold q2; rw[h]
theorem gK(hj:j<=xs.size)(k:Nat):(i<=k/\k<j/\(mirror xs i j ((j-i) / 2))[k]?=xs[i+j-1-k]?)\/(¬(i<=k/\k<j)/\(mirror xs i j ((j-i) / 2))[k]?=xs[k]?):=by
 have e:=getElem?_mirror_all (i:=i) hj k
 by_cases h:i<=k/\k<j
 .rw[if_pos h]at e; exact .inl ⟨h.1,h.2,e⟩
 .rw[if_neg h]at e; exact .inr ⟨h,e⟩
theorem nq(h1:xs[i]?=ys[i']?)(h2:xs[j]?=ys[j']?):Lq kf xs i j↔Lq kf ys i' j':=by
 unfold Lq Kl Ke; rw[nj h1,nj h2,Ag h1,Ag h2,Ah h1,Ah h2]
theorem Ai(h1:xs[i]?=ys[i']?)(h2:xs[j]?=ys[j']?):Kl kf xs i j↔Kl kf ys i' j':=by
 unfold Kl; rw[Ag h1,Ag h2,Ah h1,Ah h2]
theorem Kl.tr(a:Kl kf xs i j)(b:Kl kf xs j k):Kl kf xs i k:=by
 unfold Kl at *
 generalize q1 kf xs i=a1,q2 kf xs i=a2,q1 kf xs j=b1,q2 kf xs j=b2,q1 kf xs k=c1,q2 kf xs k=c2 at *
 lia
theorem Kl.no(a:¬Kl kf xs i j)(b:¬Kl kf xs j i):Ke kf xs i j:=by
 unfold Kl at *
 unfold Ke
 generalize q1 kf xs i=a1,q2 kf xs i=a2,q1 kf xs j=b1,q2 kf xs j=b2 at *
 lia
theorem Ke.s(a:Ke kf xs i j):Ke kf xs j i:=⟨a.1.symm,a.2.symm⟩
theorem Ke.t(a:Ke kf xs i j)(b:Ke kf xs j k):Ke kf xs i k:=⟨a.1.trans b.1,a.2.trans b.2⟩
theorem Ke.l(a:Ke kf xs i j)(b:Kl kf xs j k):Kl kf xs i k:=by
 unfold Kl at *
 rw[a.1,a.2]
 exact b
theorem Ke.r(a:Kl kf xs i j)(b:Ke kf xs j k):Kl kf xs i k:=by
 unfold Kl at *
 rw[<-b.1,<-b.2]
 exact a
theorem Kl.tq(a:Kl kf xs i j)(b:Lq kf xs j k):Kl kf xs i k:=b.elim a.tr λz=>Ke.r a z.1
theorem Kl.qt(a:Lq kf xs i j)(b:Kl kf xs j k):Kl kf xs i k:=a.elim (λz=>z.tr b) λz=>z.1.l b
theorem Lq.mk(a:¬Kl kf xs j i)(b:qr xs i<qr xs j):Lq kf xs i j:=by
 by_cases h:Kl kf xs i j
 .exact .inl h
 .exact .inr ⟨Kl.no h a,b⟩
theorem Pre.gK(h:Pre N xs m)(hj:j<=xs.size)(hm:j<=m):Pre N (mirror xs i j ((j-i) / 2)) m:=by
 refine⟨λk hk=>?_,λk hk hN=>?_⟩
 .rcases L2.gK hj k with⟨a,b,e⟩|⟨n,e⟩
  .rw[nj e]; exact h.1 _ (by lia)
  .rw[nj e]; exact h.1 _ hk
 .rcases L2.gK hj k with⟨a,b,e⟩|⟨n,e⟩
  .lia
  .rw[nj e]; exact h.2 _ hk hN
theorem dg.turn(h:dg kf xs m)(hm:m<=xs.size):fC kf (mirror xs 0 m ((m-0) / 2)) m:=λi j hij hj=>by
 rcases gK (i:=0) hm i with⟨_,_,e1⟩|⟨n,_⟩
 .rcases gK (i:=0) hm j with⟨_,_,e2⟩|⟨n,_⟩
  .rw[nq e1 e2]; exact h _ _ (by lia) (by lia)
  .lia
 .lia
theorem lH.turn(h:lH kf xs m q)(hm:m<=xs.size)(hq:q<m):dg kf (mirror xs q m ((m-q) / 2)) m:=λi j hij hj=>by
 rcases gK (i:=q) hm i with⟨a,b,e1⟩|⟨n,e1⟩ <;> rcases gK (i:=q) hm j with⟨a',b',e2⟩|⟨n',e2⟩
 .rw[nq e2 e1]
  have z:=h.2 (q+m-1-j) (q+m-1-i) (by lia) (by lia) (by lia)
  exact .inr z
 .lia
 .rw[nq e2 e1]
  exact(h.1 i (q+m-1-j) (by lia) (by lia) (by lia)).1
 .rw[nq e2 e1]
  exact(h.1 i j hij hj (by lia)).1
theorem lH.one(h:lH kf xs m q)(hq:m<=q+1):dg kf xs m:=λi j hij hj=>(h.1 i j hij hj (by lia)).1
end
section
variable [NF]{prog:Program}{w:World}{A:Around}{E:Value->Shared->Prop}{s:Shared}{N:Nat}{kd:SortKind}{kf:Value->Int × Int}
structure SB(a₀ : Array Keyed)(kd:SortKind)(st:SortSt):Prop where
 pm:(arrOf st).Perm a₀
 kn:kindOf st=kd
 fl:failedOf st=none
 pd:pendingOf st = #[]
theorem SB.sz{st:SortSt}(h:SB a₀ kd st):(arrOf st).size=a₀.size:=h.pm.size_eq
theorem SB.put{st:SortSt}(h:SB a₀ kd st)(p:xs.Perm (arrOf st)):SB a₀ kd (setArr st xs):=⟨p.trans h.pm,h.kn,h.fl,h.pd⟩
def Asks(prog:Program)(w:World)(A:Around)(E:Value->Shared->Prop)(s:Shared)(a₀ : Array Keyed)(kd:SortKind)(kf:Value->Int × Int):Prop :=
 ∀(st:SortSt) (i j:Nat) (Q:Option Bool->SortSt->Prop),SB a₀ kd st->i<a₀.size->j<a₀.size->Q (some (decide (Kl kf (arrOf st) i j))) st->wpS (model prog w) A E s (ltAt' i j) Q st
variable {a₀ : Array Keyed}(ask:Asks prog w A E s a₀ kd kf)
include ask
theorem R5{st:SortSt}(hn:n<=a₀.size)(ha:1<=a)(han:a<=n)(B:SB a₀ kd st)(p:Pre a₀.size (arrOf st) a)(h0:fC kf (arrOf st) a)
  (h:∀m,a<=m->m<=n->fC kf (arrOf st) m->Pre a₀.size (arrOf st) m->(m=n\/(m<n/\Kl kf (arrOf st) m (m-1)))->Q (none,m) st):wpS (model prog w) A E s (ascLoop a n) Q st:=by
 have up:∀x,a<=x->x<=n->Pre a₀.size (arrOf st) x:=λx h1 h2=>⟨λk hk=>by
  by_cases z:k<a
  .have:=p.1 k z; lia
  .rw[p.2 k (by lia) (by lia)]; lia,λk h3 h4=>p.2 k (by lia) h4⟩
 refine wpS_forRange (I:=λx c t=>t=st/\c=(none,x)/\x<=n/\fC kf (arrOf st) x) ?_ ?_ ⟨rfl,rfl,han,h0⟩
 .rintro x c t h1 h2 ⟨rfl,rfl,_,hs⟩
  refine wpS_bind (ask _ _ _ _ B (by lia) (by lia) ?_)
  by_cases l:Kl kf (arrOf t) x (x-1)
  .rw[decide_eq_true l]
   exact wpS_pure (h x h1 (by lia) hs (up x h1 (by lia)) (.inr ⟨h2,l⟩))
  .rw[decide_eq_false l]
   refine wpS_pure ⟨rfl,rfl,h2,λi j hij hj=>?_⟩
   by_cases z:j<x
   .exact hs i j hij z
   .have ej:j=x:=by lia
    subst ej
    have r1:=(up j h1 (by lia)).1 i hij
    have r2:=(up j h1 (by lia)).2 j (Nat.le_refl _) (by lia)
    by_cases z:i=j-1
    .subst z
     exact Lq.mk l (by rw[r2]; exact r1)
    .have y:=hs i (j-1) (by lia) (by lia)
     exact Lq.mk (λz=>l (z.tq y)) (by rw[r2]; exact r1)
 .rintro c t ⟨rfl,rfl,_,hs⟩
  rw[show max a n=n by lia]at hs ⊢
  exact h n han (Nat.le_refl _) hs (up n han (Nat.le_refl _)) (.inl rfl)
theorem R6{st:SortSt}(hn:n<=a₀.size)(h1:1<=m)(hm:m<=n)(B:SB a₀ kd st)(p:Pre a₀.size (arrOf st) m)(d:dg kf (arrOf st) m)
  (h:∀m t,SB a₀ kd t->1<=m->m<=n->fC kf (arrOf t) m->Pre a₀.size (arrOf t) m->Q (some m) t):wpS (model prog w) A E s (tail3 m n) Q st:=by
 unfold tail3
 have z:m<=(arrOf st).size:=by rw[B.sz]; lia
 refine wpS_bind (wpS_reverse ?_)
 have B':SB a₀ kd (setArr st (mirror (arrOf st) 0 m ((m-0) / 2))):=B.put (mirror_perm _ _ _ _)
 exact wpS_bind (R5 ask hn h1 hm B' (p.gK z (Nat.le_refl _)) (d.turn z) λk k1 k2 k3 k4 _=>wpS_pure (h k _ B' (by lia) k2 k3 k4))
theorem aeP{st:SortSt}(hn:n<=a₀.size)(h1:1<=m)(hm:m<=n)(B:SB a₀ kd st)(p:Pre a₀.size (arrOf st) m)(d:lH kf (arrOf st) m (m-1))
  (h:∀x e t,SB a₀ kd t->m<=x->x<=n->e+1<=x->lH kf (arrOf t) x (x-(e+1))->Pre a₀.size (arrOf t) x->Q (none,x,e) t):wpS (model prog w) A E s (descLoop m n) Q st:=by
 unfold descLoop
 refine wpS_forRange (I:=λx c t=>∃e,c=(none,x,e)/\SB a₀ kd t/\x<=n/\e+1<=x/\lH kf (arrOf t) x (x-(e+1))/\Pre a₀.size (arrOf t) x) ?_ ?_ ⟨0,rfl,B,hm,by lia,d,p⟩
 .rintro x c t k1 k2 ⟨e,rfl,B',_,ke,d',p'⟩
  dsimp only
  have z:x<=(arrOf t).size:=by rw[B'.sz]; lia
  have pu:∀ys:Array Keyed,Pre a₀.size ys x->Pre a₀.size ys (x+1):=λys q=>⟨λk hk=>by
   by_cases y:k<x
   .have:=q.1 k y; lia
   .rw[q.2 k (by lia) (by lia)]; lia,λk h3 h4=>q.2 k (by lia) h4⟩
  refine wpS_bind (ask _ _ _ _ B' (by lia) (by lia) ?_)
  by_cases l:Kl kf (arrOf t) x (x-1)
  .rw[decide_eq_true l]
   have next:∀ys:Array Keyed,dg kf ys x->(∀i,i<x->Kl kf ys x i)->lH kf ys (x+1) x:=λys y1 y2=>⟨λi j hij hj hi=>by
    by_cases y:j<x
    .exact⟨y1 i j hij y,λz=>by lia⟩
    .have:j=x:=by lia
     subst this
     exact⟨.inl (y2 i hi),λ_=>y2 i hi⟩,λi j h1 h2 h3=>by lia⟩
   have low:∀i,i<x->Kl kf (arrOf t) x i:=λi hi=>by
    by_cases y:i=x-1
    .rw[y]; exact l
    .by_cases y2:i<x-(e+1)
     .exact l.tq (d'.1 i (x-1) (by lia) (by lia) y2).1
     .exact Ke.r l (d'.2 i (x-1) (by lia) (by lia) (by lia)).1.s
   by_cases g:e > 0
   .rw[if_pos g]
    refine wpS_bind (wpS_reverse (wpS_pure ⟨0,rfl,B'.put (mirror_perm _ _ _ _),k2,by lia,?_,pu _ (p'.gK z (Nat.le_refl _))⟩))
    rw[show x+1-(0+1)=x by lia]
    refine next _ (d'.turn z (by lia)) λi hi=>?_
    rcases gK (i:=x-(e+1)) z x with⟨_,b,_⟩|⟨_,e1⟩
    .lia
    .rcases gK (i:=x-(e+1)) z i with⟨_,_,e2⟩|⟨_,e2⟩
     .rw[Ai e1 e2]; exact low _ (by lia)
     .rw[Ai e1 e2]; exact low _ hi
   .rw[if_neg g]
    refine wpS_pure ⟨0,rfl,B',k2,by lia,?_,pu _ p'⟩
    rw[show x+1-(0+1)=x by lia]
    exact next _ (d'.one (by lia)) low
  .rw[decide_eq_false l]
   refine wpS_bind (ask _ _ _ _ B' (by lia) (by lia) ?_)
   by_cases g:Kl kf (arrOf t) (x-1) x
   .rw[decide_eq_true g]
    exact wpS_pure (h x e t B' k1 (by lia) ke d' p')
   .rw[decide_eq_false g]
    have eq:Ke kf (arrOf t) (x-1) x:=Kl.no g l
    refine wpS_pure ⟨e+1,rfl,B',k2,by lia,?_,pu _ p'⟩
    rw[show x+1-(e+1+1)=x-(e+1) by lia]
    refine⟨λi j hij hj hi=>?_,λi j hi hij hj=>?_⟩
    .by_cases y:j<x
     .exact d'.1 i j hij y hi
     .have:j=x:=by lia
      subst this
      have y:=(d'.1 i (j-1) (by lia) (by lia) hi).2 (by lia)
      have y':Kl kf (arrOf t) j i:=eq.s.l y
      exact⟨.inl y',λ_=>y'⟩
    .by_cases y:j<x
     .exact d'.2 i j hi hij y
     .have:j=x:=by lia
      subst this
      have r1:=p'.1 i hij
      have r2:=p'.2 j (Nat.le_refl _) (by lia)
      refine⟨?_,by lia⟩
      by_cases y:i=j-1
      .rw[y]; exact eq
      .exact(d'.2 i (j-1) hi (by lia) (by lia)).1.t eq
 .rintro c t ⟨e,rfl,B',_,ke,d',p'⟩
  rw[show max m n=n by lia]at ke d' p' ⊢
  exact h n e t B' hm (Nat.le_refl _) ke d' p'
theorem R7{st:SortSt}(hn:n<=a₀.size)(hm:m+1<=n)(B:SB a₀ kd st)(p:Pre a₀.size (arrOf st) (m+1))(d:lH kf (arrOf st) (m+1) m)
  (h:∀m t,SB a₀ kd t->1<=m->m<=n->fC kf (arrOf t) m->Pre a₀.size (arrOf t) m->Q (some m) t):wpS (model prog w) A E s (descPart m n) Q st:=by
 refine wpS_bind (wpS_lift (wpAny_rule ⟨rfl,?_⟩))
 refine wpS_bind (aeP ask hn (by lia) hm B p (by rw[show m+1-1=m by lia]; exact d) λx e t B' k1 k2 ke d' p'=>?_)
 have z:x<=(arrOf t).size:=by rw[B'.sz]; lia
 show wpS _ _ _ _ (if e > 0 then(reverseSlice' (x-(e+1)) x >>= λ_=>tail3 x n)else tail3 x n) _ _
 by_cases g:e > 0
 .rw[if_pos g]
  exact wpS_bind (wpS_reverse (R6 ask hn (by lia) k2 (B'.put (mirror_perm _ _ _ _)) (p'.gK z (Nat.le_refl _)) (d'.turn z (by lia)) h))
 .rw[if_neg g]
  exact R6 ask hn (by lia) k2 B' p' (d'.one (by lia)) h
theorem aeQ{st:SortSt}(hn:n<=a₀.size)(h1:1<=n)(B:SB a₀ kd st)(p:Pre a₀.size (arrOf st) 0)
  (h:∀m t,SB a₀ kd t->1<=m->m<=n->fC kf (arrOf t) m->Pre a₀.size (arrOf t) m->Q (some m) t):wpS (model prog w) A E s (countRun' 0 n) Q st:=by
 rw[countRun0_eq]
 have p1:Pre a₀.size (arrOf st) 1:=⟨λk hk=>by rw[p.2 k (by lia) (by lia)]; lia,λk h3 h4=>p.2 k (by lia) h4⟩
 refine wpS_bind (R5 ask hn (Nat.le_refl 1) h1 B p1 (λi j _ _=>by lia) λm m1 m2 hs hp ho=>?_)
 by_cases e:m=n
 .rw[if_pos (by simpa using e)]
  exact wpS_pure (h m st B m1 m2 hs hp)
 .rw[if_neg (by simpa using e)]
  obtain⟨ml,l⟩:=ho.resolve_left e
  have pn:∀ys:Array Keyed,Pre a₀.size ys m->Pre a₀.size ys (m+1):=λys q=>⟨λk hk=>by
   by_cases y:k<m
   .have:=q.1 k y; lia
   .rw[q.2 k (by lia) (by lia)]; lia,λk h3 h4=>q.2 k (by lia) h4⟩
  by_cases g:m > 1
  .rw[if_pos g]
   refine wpS_bind (ask _ _ _ _ B (by lia) (by lia) ?_)
   by_cases r:Kl kf (arrOf st) 0 (m-1)
   .rw[decide_eq_true r]
    exact wpS_pure (h m st B m1 m2 hs hp)
   .rw[decide_eq_false r]
    have z:m<=(arrOf st).size:=by rw[B.sz]; lia
    have all:∀i j,i<j->j<m->Ke kf (arrOf st) i j/\qr (arrOf st) i<qr (arrOf st) j:=λi j hij hj=>by
     have a1:=hs i j hij hj
     have a2:i=0\/Lq kf (arrOf st) 0 i:=by
      by_cases y:i=0
      .exact .inl y
      .exact .inr (hs 0 i (by lia) (by lia))
     have a3:j=m-1\/Lq kf (arrOf st) j (m-1):=by
      by_cases y:j=m-1
      .exact .inl y
      .exact .inr (hs j (m-1) (by lia) (by lia))
     rcases a1 with k1|k1
     .have k2:Kl kf (arrOf st) 0 j:=by
       rcases a2 with y|y
       .rw[y]at k1; exact k1
       .exact Kl.qt y k1
      refine absurd ?_ r
      rcases a3 with y|y
      .rw[y]at k2; exact k2
      .exact k2.tq y
     .exact k1
    have ds:lH kf (arrOf st) m 0:=⟨λi j _ _ hi=>by lia,λi j _ hij hj=>all i j hij hj⟩
    refine wpS_bind (wpS_reverse (R7 ask hn (by lia) (B.put (mirror_perm _ _ _ _)) (pn _ (hp.gK z (Nat.le_refl _))) ?_ h))
    have dd:=ds.turn z (by lia)
    have low:∀i,i<m->Kl kf (arrOf st) m i:=λi hi=>by
     by_cases y:i=m-1
     .rw[y]; exact l
     .exact Ke.r l (all i (m-1) (by lia) (by lia)).1.s
    have R8:∀i,i<m->Kl kf (mirror (arrOf st) 0 m ((m-0) / 2)) m i:=λi hi=>by
     rcases gK (i:=0) z m with⟨_,b,_⟩|⟨_,e1⟩
     .lia
     .rcases gK (i:=0) z i with⟨_,_,e2⟩|⟨_,e2⟩
      .rw[Ai e1 e2]; exact low _ (by lia)
      .rw[Ai e1 e2]; exact low _ hi
    refine⟨λi j hij hj hi=>?_,λi j _ _ _=>by lia⟩
    by_cases y:j<m
    .exact⟨dd i j hij y,λz=>by lia⟩
    .have:j=m:=by lia
     subst this
     exact⟨.inl (R8 i hi),λ_=>R8 i hi⟩
  .rw[if_neg g]
   have e1:m=1:=by lia
   subst e1
   refine R7 ask hn (by lia) B (pn _ hp) ⟨λi j hij hj hi=>?_,λi j _ _ _=>by lia⟩ h
   have i0:i=0:=by lia
   have j1:j=1:=by lia
   subst i0 j1
   exact⟨.inl l,λ_=>l⟩
theorem aeR{st:SortSt}(hn:n<=a₀.size)(h1:1<=ok)(hok:ok<=n)(B:SB a₀ kd st)(p:Pre a₀.size (arrOf st) ok)(d:fC kf (arrOf st) ok)
  (h:∀t,SB a₀ kd t->fC kf (arrOf t) n->Q true t):wpS (model prog w) A E s (binarySort' 0 n ok) Q st:=by
 rw[binarySort'_eq]
 simp only[Nat.zero_add]
 refine wpS_bind (wpS_mono (wpS_forRange (I:=λk c t=>c=(none,())/\SB a₀ kd t/\k<=n/\fC kf (arrOf t) k/\Pre a₀.size (arrOf t) k) (Q:=λc t=>c=(none,())/\SB a₀ kd t/\fC kf (arrOf t) n) ?_ ?_ ?_) ?_)
 .rintro k c t k1 k2 ⟨rfl,B',_,d',p'⟩
  have hk:k<a₀.size:=by lia
  have rk:=p'.2 k (Nat.le_refl _) hk
  refine wpS_bind (wpS_mono (wpS_forRange (I:=λx c u=>u=t/\∃l r,c=(none,l,r)/\l<=r/\r<=k/\r-l<=k-x/\(∀i,i<l->¬Kl kf (arrOf t) k i)/\∀i,r<=i->i<k->Kl kf (arrOf t) k i)
   (Q:=λc u=>u=t/\∃l r,c=(none,l,r)/\l<=k/\(∀i,i<l->¬Kl kf (arrOf t) k i)/\∀i,l<=i->i<k->Kl kf (arrOf t) k i) ?_ ?_ ?_) ?_)
  .rintro x c u _ hx ⟨rfl,l,r,rfl,g1,g2,g3,lo,hi⟩
   dsimp only
   by_cases g:l >= r
   .rw[if_pos g]
    have:l=r:=by lia
    subst this
    exact wpS_pure ⟨rfl,l,l,rfl,g2,lo,hi⟩
   .rw[if_neg g]
    refine wpS_bind (ask _ _ _ _ B' hk (by lia) ?_)
    by_cases le:Kl kf (arrOf u) k ((l+r) / 2)
    .rw[decide_eq_true le]
     refine wpS_pure ⟨rfl,l,(l+r) / 2,rfl,by lia,by lia,by lia,lo,λi h1 h2=>?_⟩
     by_cases y:i=(l+r) / 2
     .rw[y]; exact le
     .exact le.tq (d' ((l+r) / 2) i (by lia) h2)
    .rw[decide_eq_false le]
     refine wpS_pure ⟨rfl,(l+r) / 2+1,r,rfl,by lia,by lia,by lia,λi h1=>?_,hi⟩
     by_cases y:i=(l+r) / 2
     .rw[y]; exact le
     .exact λz=>le (z.tq (d' i ((l+r) / 2) (by lia) (by lia)))
  .rintro c u ⟨rfl,l,r,rfl,g1,g2,g3,lo,hi⟩
   have:l=r:=by lia
   subst this
   exact⟨rfl,l,l,rfl,g2,lo,hi⟩
  .exact⟨rfl,0,k,rfl,by lia,by lia,by lia,λi hi=>by lia,λi g1 g2=>by lia⟩
  .rintro c u ⟨rfl,l,r,rfl,lk,lo,hi⟩
   rw[moveDown'_eq]
   refine wpS_bind (wpS_modify (wpS_pure ⟨rfl,B'.put (bubble_perm _ _ _),k2,?_,?_⟩))
   all_goals
    have ks:k<(arrOf u).size:=by rw[B'.sz]; exact hk
    have bb:=getElem?_bubble ks (k-l) (by lia)
    rw[show k-(k-l)=l by lia]at bb
    have b1:(bubble (arrOf u) k (k-l))[l]?=(arrOf u)[k]? := by rw[bb,if_pos rfl]
    have b2:∀i,l<i->i<=k->(bubble (arrOf u) k (k-l))[i]?=(arrOf u)[i-1]? := λi g1 g2=>by rw[bb,if_neg (by lia),if_pos ⟨g1,g2⟩]
    have b3:∀i,i<l->(bubble (arrOf u) k (k-l))[i]?=(arrOf u)[i]? := λi g1=>by rw[bb,if_neg (by lia),if_neg (by lia)]
    have b4:∀i,k<i->(bubble (arrOf u) k (k-l))[i]?=(arrOf u)[i]? := λi g1=>by rw[bb,if_neg (by lia),if_neg (by lia)]
   .intro i j hij hj
    show Lq kf (bubble (arrOf u) k (k-l)) i j
    rcases Nat.lt_trichotomy i l with y|y|y <;> rcases Nat.lt_trichotomy j l with y'|y'|y'
    .rw[nq (b3 i y) (b3 j y')]; exact d' i j hij (by lia)
    .subst y'
     rw[nq (b3 i y) b1]
     exact Lq.mk (lo i y) (by rw[rk]; exact p'.1 i (by lia))
    .rw[nq (b3 i y) (b2 j y' (by lia))]; exact d' i (j-1) (by lia) (by lia)
    .lia
    .lia
    .subst y
     rw[nq b1 (b2 j y' (by lia))]
     exact .inl (hi _ (by lia) (by lia))
    .lia
    .lia
    .rw[nq (b2 i y (by lia)) (b2 j y' (by lia))]; exact d' _ _ (by lia) (by lia)
   .refine⟨λi hi'=>?_,λi g1 g2=>?_⟩
    .show qr (bubble (arrOf u) k (k-l)) i<_
     rcases Nat.lt_trichotomy i l with y|y|y
     .rw[nj (b3 i y)]; have:=p'.1 i (by lia); lia
     .subst y; rw[nj b1,rk]; lia
     .rw[nj (b2 i y (by lia))]; have:=p'.1 (i-1) (by lia); lia
    .show qr (bubble (arrOf u) k (k-l)) i=_
     rw[nj (b4 i (by lia))]
     exact p'.2 i (by lia) g2
 .rintro c t ⟨rfl,B',kn,d',p'⟩
  refine⟨rfl,B',?_⟩
  rwa[show max (max ok 1) n=n by lia]at d'
 .rw[show max ok 1=ok by lia]
  exact⟨rfl,B,hok,d,p⟩
 .rintro c t ⟨rfl,B',d'⟩
  exact wpS_pure (h t B' d')
theorem aeS{st:SortSt}(B:SB a₀ kd st)(h2:2<=a₀.size)(h64:a₀.size<64)(p:Pre a₀.size (arrOf st) 0)
  (h:∀t,(arrOf t).Perm a₀ -> failedOf t=none->fC kf (arrOf t) a₀.size->Q () t):wpS (model prog w) A E s sortRuns' Q st:=by
 rw[sortRuns'_eq]
 refine wpS_bind (wpS_get ?_)
 have mr:minRun' (arrOf st).size (arrOf st).size 0=a₀.size:=by
  rw[B.sz]
  obtain⟨f,hf⟩:∃f,a₀.size=f+1:=⟨a₀.size-1,by lia⟩
  have:minRun' (f+1) (f+1) 0=f+1:=by rw[minRun'_succ,if_pos (by lia)]
  rw[hf]; exact this
 dsimp only
 rw[mr,B.sz]
 have fin:∀t,SB a₀ kd t->fC kf (arrOf t) a₀.size->(arrOf (setPending t ((pendingOf t).push (0,a₀.size,0)))).Perm a₀/\failedOf (setPending t ((pendingOf t).push (0,a₀.size,0)))=none/\pendingOf (setPending t ((pendingOf t).push (0,a₀.size,0))) = #[(0,a₀.size,0)]/\fC kf (arrOf (setPending t ((pendingOf t).push (0,a₀.size,0)))) a₀.size :=
  λt B' d'=>⟨B'.pm,B'.fl,by show(pendingOf t).push _=_; rw[B'.pd]; rfl,d'⟩
 refine wpS_bind (wpS_mono (wpS_forRange (I:=λx c t=>(x=0/\c=(none,0)/\SB a₀ kd t/\Pre a₀.size (arrOf t) 0)\/(1<=x/\c=(none,a₀.size)/\(arrOf t).Perm a₀/\failedOf t=none/\pendingOf t = #[(0,a₀.size,0)]/\fC kf (arrOf t) a₀.size))
  (Q:=λc t=>c=(none,a₀.size)/\(arrOf t).Perm a₀/\failedOf t=none/\pendingOf t = #[(0,a₀.size,0)]/\fC kf (arrOf t) a₀.size) ?_ ?_ (.inl ⟨rfl,rfl,B,p⟩)) ?_)
 .rintro x c t _ hx (⟨rfl,rfl,B',p'⟩|⟨hx1,rfl,D⟩)
  .skip
   rw[if_neg (by lia)]
   simp only[Nat.sub_zero,Nat.min_self,Nat.zero_add]
   refine wpS_bind (aeQ ask (Nat.le_refl _) (by lia) B' p' λm u B2 m1 m2 d2 p2=>?_)
   show wpS _ _ _ _ (if m<a₀.size then _ else _) _ _
   by_cases g:m<a₀.size
   .rw[if_pos g]
    refine wpS_bind (wpS_lift (wpAny_rule ⟨rfl,?_⟩))
    refine wpS_bind (aeR ask (Nat.le_refl _) m1 m2 B2 p2 d2 λv B3 d3=>?_)
    refine wpS_bind (wpS_get ?_)
    rw[show(pendingOf v).back? = none by rw[B3.pd]; rfl]
    exact wpS_bind (wpS_modify (wpS_pure (.inr ⟨by lia,rfl,fin v B3 d3⟩)))
   .rw[if_neg g]
    have e:m=a₀.size:=by lia
    subst e
    refine wpS_bind (wpS_get ?_)
    rw[show(pendingOf u).back? = none by rw[B2.pd]; rfl]
    exact wpS_bind (wpS_modify (wpS_pure (.inr ⟨by lia,rfl,fin u B2 d2⟩)))
  .skip
   rw[if_pos (Nat.le_refl _)]
   exact wpS_pure ⟨rfl,D⟩
 .rintro c t (⟨hx,_,_⟩|⟨_,hc,D⟩)
  .lia
  .exact⟨hc,D⟩
 .rintro c t ⟨rfl,D⟩
  refine wpS_bind (wpS_mono (wpS_forRange (I:=λ_ c u=>u=t/\c=(none,())) (Q:=λc u=>u=t/\c=(none,())) ?_ (λ_ _ z=>z) ⟨rfl,rfl⟩) ?_)
  .rintro x c u _ _ ⟨rfl,rfl⟩
   refine wpS_bind (wpS_get ?_)
   rw[if_pos (by rw[D.2.2.1]; exact Nat.le_refl 1)]
   exact wpS_pure ⟨rfl,rfl⟩
  .rintro c u ⟨rfl,rfl⟩
   exact wpS_pure (h _ D.1 D.2.1 D.2.2.2)
end
open PySem.W
section
variable {X:Cx}{pins:LO}{σ : St}{H:Hp}{s:Shared}
theorem Inv.track(I:Inv X pins σ H s)(f:bT X pins H a)(e:s.heap.get? a=some {cls:=.type "list",data:=.seq its.toArray n }) (r:Vals xs its) (hz:xs.length<=sizeLine):Inv X pins σ (upd H a (.lst xs)) s:=by
 obtain⟨f0,f1,f2,f3,f4,f5⟩:=f
 have ok:cL X.prog X.w (upd H a (.lst xs)) s.heap:=λb u q=>by
  by_cases hb:b=a
  .subst hb; rw[bN]at q; cases q; exact⟨hz,its,n,r,e⟩
  .rw[aL hb]at q
   exact(I.hok b u q).stay (λc v _ z=>z) (λc z=>by rw[aL (iw z f0)]; exact z) λc ys z=>by rw[aL (iw z f0)]; exact z
 exact I.step (h':=s.heap) (g':=s.gens) (t':=s.toks) (d':=s.drawn) (ch:=[a]) (λb hb=>by
   have:b=a:=by simpa using hb
   subst this
   exact⟨f3,f1,f4,f5⟩) (λb o _ _ _ q _=>q) (λb o _ _ _ q _=>⟨o.slots,q⟩) (λb o hb _ q=>by rw[aL (by simpa using hb)]; exact q) (λb o _ q=>⟨o,q⟩)
  (λb ys q=>by rw[aL (iw q f0)]; exact q) (λb o u q=>by rw[aL (iw q f0)]; exact q) (λb ps q=>⟨#[],by rw[aL (iw q f0),q]; simp⟩) (λm q=>q) ok I.bare
theorem Inv.sub(I:Inv X pins σ H s)(h:∀p∈oO,p∈pins):Inv X oO σ H s:=I.yK λp hp=>I.pin p (List.mem_append_right _ (h p hp))
theorem Inv.qK(I:Inv X pins σ H s)(f:bT X pins H a)(e:s.heap.get? a=some o)(d:∀v,o.data ≠ .cell v):Inv X ((a,o)::pins) σ H s:=I.yK λp hp=>by
 rcases List.mem_cons.mp hp with rfl|hp
 .exact⟨e,f.1,f.2.1,f.2.2.1,d⟩
 .exact I.pin p (List.mem_append_right _ hp)
theorem bT.qK(f:bT X pins H b)(n:a≠b):bT X ((a,o)::pins) H b:=⟨f.1,f.2.1,f.2.2.1,f.2.2.2.1,f.2.2.2.2.1,λp hp=>by
 rcases List.mem_append.mp hp with hp|hp
 .exact f.2.2.2.2.2 p (List.mem_append_left _ hp)
 .rcases List.mem_cons.mp hp with rfl|hp
  .exact n
  .exact f.2.2.2.2.2 p (List.mem_append_right _ hp)⟩
theorem Inv.wr(I:Inv X pins σ H s)(f:bT X pins H a):Inv X pins σ H {s with heap:=s.heap.update a (Obj.mapSeq g),toks:=t' }:=by
 obtain⟨f0,f1,f2,f3,f4,f5⟩:=f
 exact I.turned (it:=a) (λb o hb e=>((Heap.SameBut.update s.heap a _).2 b hb).trans e) f0 f1 f3 f4 f5
end
noncomputable instance nfI:NF:=⟨numOf⟩
def nu(n:Nat)(kz:Nat->Int × Int)(ys:List Nat):Prop:=ys.Perm (List.range n)/\ys.Pairwise λi j=>((kz i).1<(kz j).1\/((kz i).1=(kz j).1/\(kz i).2<(kz j).2))\/(((kz i).1=(kz j).1/\(kz i).2=(kz j).2)/\i<j)
structure nA(X:Cx)(Kv:Hp->Value->Int × Int->Prop)(kd:SortKind):Prop where
 kind:∀(H:Hp) (keys:Array Value) (kz:Nat->Int × Int),2<=keys.size->(∀i v,keys[i]?=some v->Kv H v (kz i))->∀{pins σ s Q E},Inv X pins σ H s->Q kd s->wpAny (model X.prog X.w) X.A.in1.in1 (keyKind' keys) Q E s
 ask:∀{pins σ H s} {E:Value->Shared->Prop} (a₀ : Array Keyed) (kf:Value->Int × Int),Inv X pins σ H s->(∀p,p∈a₀.toList->Kv H p.1 (kf p.1))->Asks X.prog X.w X.A.in1.in1 E s a₀ kd kf
section
variable {X:Cx}
theorem R9:nA X (λ_ v k=>∃t,v=.int k.1 t/\k.2=0) oneType' where
 kind:=λH keys kz h2 hk pins σ s Q E I q=>by
  have hi:IntsAre keys.toList (keys.toList.map numOf):=by
   refine intsAre_map _ λv hv=>?_
   obtain⟨i,hi,e⟩:=List.getElem_of_mem hv
   obtain⟨t,z,_⟩:=hk i v (by rw[<-e]; simp[Array.getElem?_eq_getElem (show i<keys.size by simpa using hi)])
   exact⟨_,t,z⟩
  rw[ksk_kind hi h2]
  exact wpAny_pure q
 ask:=λa₀ kf I h st i j Q B hi hj q=>by
  have h0:IntKeys a₀ := λp hp=>by
   obtain⟨t,z,_⟩:=h p hp
   exact⟨_,t,z⟩
  have B':SBase a₀ st:=⟨B.pm,B.kn,B.fl,B.pd⟩
  have at_:∀i,i<a₀.size->q1 kf (arrOf st) i=K (arrOf st) i/\q2 kf (arrOf st) i=0:=λi hi=>by
   obtain⟨t,p,e⟩:=B'.at h0 hi
   have hi':i<(arrOf st).size:=by rw[B.sz]; exact hi
   have hm:(arrOf st)[i]∈a₀.toList:=(Array.perm_iff_toList_perm.mp B.pm).mem_iff.mp (by simp)
   obtain⟨t',z,z2⟩:=h _ hm
   have e':(arrOf st)[i]?=some (arrOf st)[i]:=getElem?_pos _ i hi'
   have e2:(arrOf st)[i]=(Value.int (K (arrOf st) i) t,p):=by rw[e']at e; exact Option.some.inj e
   rw[e2]at z z2
   unfold q1 q2
   rw[e]
   refine⟨?_,z2⟩
   injection z with z
   exact z.symm
  refine wpS_ltK B' h0 hi hj ?_
  have:decide (Kl kf (arrOf st) i j)=decide (K (arrOf st) i<K (arrOf st) j):=by
   rw[decide_eq_decide]
   unfold Kl
   rw[(at_ i hi).1,(at_ j hj).1,(at_ i hi).2,(at_ j hj).2]
   lia
  rw[this]at q
  exact q
end
section
variable {X:Cx}{pins:LO}{σ : St}{H:Hp}{s:Shared}{Kv:Hp->Value->Int × Int->Prop}{kd:SortKind}{a kS:Addr}{n:Nat}{kz:Nat->Int × Int}{vs:List Value}
theorem Sd{st:SortSt}(I:Inv X pins σ H s)(fk:bT X pins H kS)(fa:bT X pins H a)(ne:kS≠a)(hk:s.heap.get? kS=some (seqObj "list" keys e)) (ha:s.heap.get? a=some (seqObj "list" #[] e1)) (hks:keys.size<=64) (hst:(arrOf st).size<=64) (fl:failedOf st=none)
  (h:∀s' c,Inv X pins σ H s'->s'.heap.get? a=some (seqObj "list" ((arrOf st).map (·.2)) c)->P (.done (.ret .none)) s'):wpAny (model X.prog X.w) X.A.in1.in1 (ksk_tail a false e1 (.ref kS) st) P E s:=by
 refine wpAny_bind (listUpdate_at hk rfl ?_ (by rw[sizeLine_eq]; lia) (Nat.zero_le _))
 refine wpAny_bind (wpAny_letGo ?_)
 have I1:=I.wr (g:=λ_=>#[]) (t':=s.toks) fk
 have ha1:(s.heap.update kS (Obj.mapSeq λ_=>(#[]:Array Value))).get? a=some (seqObj "list" #[] e1):=((Heap.SameBut.update s.heap kS _).2 a (Ne.symm ne)).trans ha
 refine wpAny_bind (seqEpoch_at ha1 rfl ?_)
 refine wpAny_bind (listUpdate_at ha1 rfl ?_ (Nat.zero_le _) (by simp only[Bool.false_eq_true,if_false,Array.size_map]; rw[sizeLine_eq]; lia))
 rw[fl]
 simp only[bne_self_eq_false,Bool.false_eq_true,if_false]
 exact wpAny_pure (h _ _ (I1.wr (t':=s.toks) fa) (get?_update_seq ha1 _))
theorem aeT(T:nA X Kv kd)(I:Inv X pins σ H s)(fk:bT X pins H kS)(fa:bT X pins H a)(ne:kS≠a)(hk:s.heap.get? kS=some (seqObj "list" keys e)) (ha:s.heap.get? a=some (seqObj "list" #[] e1))
  (hv:∀(i:Nat) (v:Value),vs[i]?=some v->∃t,v=Value.int i t) (hl:vs.length=n) (hkn:keys.size=n) (h64:n<64) (hK:∀i v,keys[i]?=some v->Kv H v (kz i)) (inj:∀v k k',Kv H v k->Kv H v k'->k=k')
  (h:∀s' c out,Inv X pins σ H s'->s'.heap.get? a=some (seqObj "list" out c)->(∃ys,nu n kz ys/\Vals (ys.map λi:Nat=>V.int i) out.toList)->P (.done (.ret .none)) s'):wpAny (model X.prog X.w) X.A.in1.in1 (ksk_end a false vs.toArray e1 (.ref kS) keys) P E s:=by
 have tD:(keys.zip vs.toArray).size=n:=by rw[Array.size_zip,hkn,List.size_toArray,hl,Nat.min_self]
 have vR:∀i,i<n->∃v t,(keys.zip vs.toArray)[i]?=some (v,.int i t)/\Kv H v (kz i):=λi hi=>by
  obtain⟨t,e2⟩:=hv i vs[i] (by simp[hl,hi])
  have e1:keys[i]?=some keys[i]:=getElem?_pos _ _ (by lia)
  refine⟨keys[i],t,?_,hK i _ e1⟩
  rw[<-Array.getElem?_toList,ksk_zip,List.getElem?_zip_eq_some]
  refine⟨by simp[Array.getElem?_toList,e1],?_⟩
  show vs[i]?=some (Value.int i t)
  rw[List.getElem?_eq_getElem (by lia),e2]
 -- what the sorted array says
 have fin:∀(kf:Value->Int × Int) (xs:Array Keyed),(∀(i:Nat) v t,(keys.zip vs.toArray)[i]?=some (v,Value.int i t)->kf v=kz i)->xs.Perm (keys.zip vs.toArray)->fC kf xs n->∃ys,nu n kz ys/\Vals (ys.map λi:Nat=>V.int i) (xs.map (·.2)).toList:=λkf xs hkf hp hs=>by
  have hpl:=Array.perm_iff_toList_perm.mp hp
  have mem:∀p∈xs.toList,∃i t,i<n/\p.2=.int (i:Nat) t/\kf p.1=kz i:=λp hp'=>by
   obtain⟨i,hi,e⟩:=List.getElem_of_mem (hpl.mem_iff.mp hp')
   have hi':i<n:=by rw[Array.length_toList,tD]at hi; exact hi
   obtain⟨v,t,e1,_⟩:=vR i hi'
   have e2:(keys.zip vs.toArray)[i]?=some p:=by rw[<-Array.getElem?_toList,List.getElem?_eq_getElem hi,e]
   rw[e1]at e2
   cases e2
   exact⟨i,t,hi',rfl,hkf i v t e1⟩
  refine⟨xs.toList.map λp=>(numOf p.2).toNat,⟨?_,?_⟩,?_⟩
  .have h1:=hpl.map λp:Keyed=>(numOf p.2).toNat
   refine h1.trans (List.Perm.of_eq ?_)
   refine List.ext_getElem? λi=>?_
   by_cases hi:i<n
   .obtain⟨v,t,e1,_⟩:=vR i hi
    rw[List.getElem?_map,Array.getElem?_toList,e1,List.getElem?_range hi]
    simp[numOf]
   .rw[List.getElem?_eq_none (by simp[tD]; lia),List.getElem?_eq_none (by simp; lia)]
  .rw[List.pairwise_map,List.pairwise_iff_getElem]
   intro i j hi hj hij
   have sz:xs.size=n:=by rw[hp.size_eq,tD]
   have hi':i<xs.size:=by simpa using hi
   have hj':j<xs.size:=by simpa using hj
   have z:=hs i j hij (by lia)
   obtain⟨a1,t1,_,b1,c1⟩:=mem _ (List.getElem_mem hi)
   obtain⟨a2,t2,_,b2,c2⟩:=mem _ (List.getElem_mem hj)
   have x1:xs[i]?=some xs.toList[i]:=by rw[<-Array.getElem?_toList,List.getElem?_eq_getElem hi]
   have x2:xs[j]?=some xs.toList[j]:=by rw[<-Array.getElem?_toList,List.getElem?_eq_getElem hj]
   unfold Lq Kl Ke q1 q2 qr at z
   rw[x1,x2]at z
   dsimp only at z
   rw[b1,b2,c1,c2]at z
   rw[b1,b2]
   simp only[NF.f,nfI,numOf,Int.toNat_natCast]at z ⊢
   lia
  .rw[Array.toList_map,List.map_map]
   have go:∀l:List Keyed,(∀p∈l,∃i t,i<n/\p.2=.int (i:Nat) t/\kf p.1=kz i)->Vals (l.map ((λi:Nat=>V.int i) ∘ λp:Keyed=>(numOf p.2).toNat)) (l.map (·.2)):=λl=>by
    induction l with
    |nil=>intro _; exact .nil
    |cons p r ih =>
     intro hm
     refine .cons ?_ (ih λq hq=>hm q (List.mem_cons_of_mem _ hq))
     obtain⟨i,t,_,e,_⟩:=hm p (List.mem_cons_self ..)
     exact⟨t,by simp[e,numOf]⟩
   exact go _ mem
 -- a function of the keys
 obtain⟨kf,hkf⟩:∃kf:Value->Int × Int,∀v k,Kv H v k->kf v=k:=by
  classical
  refine⟨λv=>if q:∃k,Kv H v k then q.choose else(0,0),λv k hk=>?_⟩
  have q:∃k,Kv H v k:=⟨k,hk⟩
  dsimp only
  rw[dif_pos q]
  exact inj v _ _ q.choose_spec hk
 have Sg:∀(i:Nat) v t,(keys.zip vs.toArray)[i]?=some (v,Value.int i t)->kf v=kz i:=λi v t e=>by
  have hi:i<n:=by
   have:=(Array.getElem?_eq_some_iff.mp e).1
   lia
  obtain⟨v',t',e1,q⟩:=vR i hi
  rw[e1]at e
  cases e
  exact hkf _ _ q
 unfold ksk_end
 simp only[Bool.false_eq_true,if_false]
 rw[List.size_toArray,hl]
 by_cases h2:n<2
 .rw[if_pos h2,if_pos h2]
  refine wpAny_bind (wpAny_pure ?_)
  rw[StateT.run_pure]
  refine wpAny_bind (wpAny_pure ?_)
  refine Sd (st:=SortSt.mk' general' (keys.zip vs.toArray) #[] 7 none) I fk fa ne hk ha (by lia) (by show(keys.zip vs.toArray).size<=64; lia) rfl λs' c I' e'=>h s' c _ I' e' (fin kf _ Sg (Array.Perm.refl _) λi j hij hj=>by lia)
 .rw[if_neg h2,if_neg h2]
  refine wpAny_bind (T.kind H keys kz (by lia) hK I ?_)
  have ask:=T.ask (E:=E) (s:=s) (keys.zip vs.toArray) kf I (λp hp=>by
   obtain⟨i,hi,e⟩:=List.getElem_of_mem hp
   have hi':i<n:=by rw[Array.length_toList,tD]at hi; exact hi
   obtain⟨v,t,e1,q⟩:=vR i hi'
   have e2:(keys.zip vs.toArray)[i]?=some p:=by rw[<-Array.getElem?_toList,List.getElem?_eq_getElem hi,e]
   rw[e1]at e2
   cases e2
   rw[hkf _ _ q]
   exact q)
  have B:SB (keys.zip vs.toArray) kd (SortSt.mk' kd (keys.zip vs.toArray) #[] 7 none):=⟨Array.Perm.refl _,rfl,rfl,rfl⟩
  have p0:Pre (keys.zip vs.toArray).size (arrOf (SortSt.mk' kd (keys.zip vs.toArray) #[] 7 none)) 0:=⟨λk hk=>by lia,λk _ hk=>by
   obtain⟨v,t,e1,_⟩:=vR k (by lia)
   show qr (keys.zip vs.toArray) k=k
   unfold qr
   rw[e1]
   rfl⟩
  refine wpAny_bind (wpAny_mono (aeS (Q:=λ_ t=>(arrOf t).Perm (keys.zip vs.toArray)/\failedOf t=none/\fC kf (arrOf t) (keys.zip vs.toArray).size) ask B (by lia) (by lia) p0 λt a1 a2 a3=>⟨a1,a2,a3⟩) ?_ λ_ _ z=>z)
  rintro⟨⟨⟩,t⟩ s' ⟨rfl,hp,hf,hs⟩
  rw[tD]at hs
  exact Sd I fk fa ne hk ha (by lia) (by rw[hp.size_eq,tD]; lia) hf λs' c I' e'=>h s' c _ I' e' (fin kf _ Sg hp hs)
end
section
variable {X:Cx}{pins:LO}{σ : St}{H:Hp}{s:Shared}{Kv:Hp->Value->Int × Int->Prop}{kd:SortKind}{n:Nat}{kz:Nat->Int × Int}{vs:List Value}{f:Value}
theorem bT.up(h:bT X pins H b)(e:H' b=none):bT X pins H' b:=⟨e,h.2⟩
def Hg(X:Cx)(pins:LO)(σ : St)(H:Hp)(Kv:Hp->Value->Int × Int->Prop)(n:Nat)(kz:Nat->Int × Int)(f:Value):Prop :=
 ∀(oO:LO) (i:Nat) (t:Tok) (s':Shared) (H':Hp),i<n->(∀p∈pins,p∈oO)->Same H H'->Inv X oO σ H' s' ->
  wpAny (model X.prog X.w) X.A.in1.in1 (call f [.int i t]) (λv s''=>∃cj,Same H' cj/\Kv cj v (kz i)/\Inv X oO σ cj s'') (λ_ _=>False) s'
theorem aeU(T:nA X Kv kd)(mono:∀{H H':Hp} {v k},Same H H'->Kv H v k->Kv H' v k)(inj:∀{pins:LO} {σ : St} {H:Hp} {s:Shared},Inv X pins σ H s->∀v k k',Kv H v k->Kv H v k'->k=k')
  (I:Inv X pins σ H s) (fk:bT X pins H kS) (fa:bT X pins H a) (ne:kS≠a) (hk:s.heap.get? kS=some (seqObj "list" #[] 0)) (ha:s.heap.get? a=some (seqObj "list" #[] e1))
  (hv:∀(i:Nat) (v:Value),vs[i]?=some v->∃t,v=Value.int i t) (hl:vs.length=n) (h64:n<64) (key:Hg X pins σ H Kv n kz f)
  (h:∀s' c out H',Same H H'->H' a=none->Inv X pins σ H' s'->s'.heap.get? a=some (seqObj "list" out c)->(∃ys,nu n kz ys/\Vals (ys.map λi:Nat=>V.int i) out.toList)->P (.done (.ret .none)) s') :
  wpAny (model X.prog X.w) X.A.in1.in1 (ksk_rest a f false vs.toArray e1 (.ref kS)) P E s:=by
 unfold ksk_rest
 refine wpAny_bind (wpAny_rule ?_)
 rw[<-Array.forIn_toList]
 refine wpAny_bind (ksk_fold (λi s'=>∃H' kA e,Same H H'∧H' kS=none∧H' a=none∧Inv X pins σ H' s'∧s'.heap.get? kS=some (seqObj "list" kA e)∧s'.heap.get? a=some (seqObj "list" #[] e1)∧kA.size=i∧∀(j:Nat) v,kA[j]?=some v→Kv H' v (kz j)) vs 0 s
  ⟨H,#[],0,Same.refl _,fk.1,fa.1,I,hk,ha,rfl,λj v z=>by simp at z⟩ ?_ ?_)
 .rintro j x s' hx ⟨H',kA,e,sm,nk,na,I',hk',ha',sz,hK⟩
  rw[Nat.zero_add]at sz ⊢
  have hj:j<vs.length:=(List.getElem?_eq_some_iff.mp hx).1
  obtain⟨t,rfl⟩:=hv j x hx
  have fk':=fk.up nk
  have fa':=fa.up na
  have I2:=(I'.qK fa' ha' (λv z=>by cases z)).qK (fk'.qK (Ne.symm ne)) hk' (λv z=>by cases z)
  refine wpAny_bind (wpAny_attempt (wpAny_mono (key _ j t s' H' (by lia) (λp hp=>List.mem_cons_of_mem _ (List.mem_cons_of_mem _ hp)) sm I2) (λv s'' he=>?_) λ_ _ z=>z.elim))
  obtain⟨cj,Sh,kv,I3⟩:=he
  have p1:=I3.pin (kS,seqObj "list" kA e) (List.mem_append_right _ (List.mem_cons_self ..))
  have p2:=I3.pin (a,seqObj "list" #[] e1) (List.mem_append_right _ (List.mem_cons_of_mem _ (List.mem_cons_self ..)))
  have I4:=I3.sub λp hp=>List.mem_cons_of_mem _ (List.mem_cons_of_mem _ hp)
  refine wpAny_bind (listUpdate_at p1.1 rfl ?_ (by rw[sizeLine_eq]; lia) (Nat.le_trans (Nat.le_of_eq (Array.size_push ..)) (by rw[sizeLine_eq]; lia)))
  refine wpAny_pure ⟨rfl,cj,kA.push v,_,sm.trans Sh,p1.2.1,p2.2.1,I4.wr (t':=s''.toks) (fk.up p1.2.1),get?_update_seq p1.1 _,((Heap.SameBut.update s''.heap kS _).2 a (Ne.symm ne)).trans p2.1,by rw[Array.size_push,sz],λi u q=>?_⟩
  rw[Array.getElem?_push]at q
  split at q
  .rename_i z
   cases q
   rw[z,sz]
   exact kv
  .exact mono Sh (hK i u q)
 .rintro s' ⟨H',kA,e,sm,nk,na,I',hk',ha',sz,hK⟩
  refine wpAny_bind (listItems_at hk' rfl ?_)
  exact aeT T I' (fk.up nk) (fa.up na) ne hk' ha' hv hl (by lia) h64 hK (inj I') λs'' c out Hh e'' q=>h s'' c out H' sm na Hh e'' q
theorem aeV(T:nA X Kv kd)(mono:∀{H H':Hp} {v k},Same H H'->Kv H v k->Kv H' v k)(inj:∀{pins:LO} {σ : St} {H:Hp} {s:Shared},Inv X pins σ H s->∀v k k',Kv H v k->Kv H v k'->k=k')
  (I:Inv X pins σ H s) (fa:bT X pins H a) (ha:s.heap.get? a=some (seqObj "list" vs.toArray c0))
  (hv:∀(i:Nat) (v:Value),vs[i]?=some v->∃t,v=Value.int i t) (hl:vs.length=n) (h64:n<64) (key:Hg X pins σ H Kv n kz f)
  (h:∀s' c out H',Same H H'->H' a=none->Inv X pins σ H' s'->s'.heap.get? a=some (seqObj "list" out c)->(∃ys,nu n kz ys/\Vals (ys.map λi:Nat=>V.int i) out.toList)->P (.done (.ret .none)) s') :
  wpAny (model X.prog X.w) X.A.in1.in1 (ksk_tree a f false) P E s:=by
 refine wpAny_bind (listItems_at ha rfl ?_)
 refine wpAny_bind (listUpdate_at ha rfl ?_ (by rw[List.size_toArray,sizeLine_eq]; lia) (Nat.zero_le _))
 have I1:=I.wr (g:=λ_=>#[]) (t':=s.toks) fa
 obtain⟨e1,ha1⟩:∃e1,(s.heap.update a (Obj.mapSeq λ_=>(#[]:Array Value))).get? a=some (seqObj "list" #[] e1):=⟨_,get?_update_seq ha _⟩
 refine wpAny_bind (seqEpoch_at ha1 rfl ?_)
 refine wpAny_bind (wpAny_newTuple ?_ (by show vs.toArray.toList.length<=_; rw[List.toList_toArray,sizeLine_eq]; lia))
 refine wpAny_bind (wpAny_newList ?_ (Nat.zero_le _))
 have I2:Inv X pins σ H {s with heap:=(s.heap.update a (Obj.mapSeq λ_=>(#[]:Array Value))).push {cls:=.type "tuple",data:=.seq vs.toArray.toList.toArray } }:=I1.kept (t':=s.toks) λb o e=>Heap.get?_push_of_some _ e
 have I3:Inv X pins σ H {s with heap:=((s.heap.update a (Obj.mapSeq λ_=>(#[]:Array Value))).push {cls:=.type "tuple",data:=.seq vs.toArray.toList.toArray }).push {cls:=.type "list",data:=.seq ([]:List Value).toArray } }:=I2.kept (t':=s.toks) λb o e=>Heap.get?_push_of_some _ e
 have lt:a<((s.heap.update a (Obj.mapSeq λ_=>(#[]:Array Value))).push {cls:=.type "tuple",data:=.seq vs.toArray.toList.toArray }).objs.size:=by
  rw[size_push',Heap.size_update]
  exact Nat.lt_succ_of_lt (Heap.lt_size ha)
 refine wpAny_holding ?_
 exact aeU T mono inj I3 (I2.jW (Nat.le_refl _) (I2.hok.fresh (Nat.le_refl _))) fa (Nat.ne_of_gt lt) (Heap.get?_push_size _ rfl) (Heap.get?_push_of_some _ (Heap.get?_push_of_some _ ha1)) hv hl h64 key h
theorem aeW(hh:A.handled=none)(hr:IsRange s.heap r 0 n 1 t u v)(hn:n<=1000)
  (h:∀h' tk (vs:List Value),(∀b o,s.heap.get? b=some o->h'.get? b=some o)->vs.length=n->(∀(i:Nat) (v:Value),vs[i]?=some v->∃t,v=Value.int i t)->Q vs {s with heap:=h',toks:=tk }) :
  wpAny (model P w) A (collect (.ref r)) Q E s:=by
 refine wpAny_bind (wpAny_runValue (codeAny_builtin F.entry_proto_collect ?_))
 refine wpAny_bind (wpAny_newList ?_ (Nat.zero_le _))
 refine wpAny_pure ⟨plainId_quiet F.plain_list_iadd _,codeAny_builtin F.entry_list_iadd ?_⟩
 have Hi:Builtin.Range.rangeSize 0 (n:Int) 1=n:=by rw[rangeSize_one]; split <;> lia
 have keep:∀b o,s.heap.get? b=some o->(s.heap.push {cls:=.type "list",data:=.seq ([]:List Value).toArray }).get? b=some o:=λb o e=>Heap.get?_push_of_some _ e
 refine wpAny_extend_range (A:=A) (R:=λr s'=>match r with
  | Except.ok (Flow.ret v)=>wpAny (model P w) A (match v with
   |Value.ref a=>do
    let __do_lift <-load a
    match __do_lift.data with
     |Data.seq xs epoch=>pure xs.toList
     |x=>unsupported "internal:collect"
   |x=>unsupported "internal:collect") Q E s'
  |Except.ok a=>False
  |Except.error e=>E e s') (s:={s with heap:=s.heap.push {cls:=.type "list",data:=.seq ([]:List Value).toArray } }) hh (keep _ _ hr) (small_one (by lia) (by lia) (by lia) (by lia)) Hi (by lia) s.heap.objs.size (.ref s.heap.objs.size) 0 (Heap.get?_push_size _ rfl) λh' tk acc c hk hS hi=>?_
 refine wpAny_bind (wpAny_load hS ?_)
 refine wpAny_pure (h h' tk acc.toList (λb o e=>hk b o (Nat.ne_of_lt (Heap.lt_size e)) (keep b o e)) (by rw[Array.length_toList]; exact hi.1) λi v e=>?_)
 rw[Array.getElem?_toList]at e
 obtain⟨t,z⟩:=hi.2 i v e
 exact⟨t,by rw[z]; simp⟩
theorem aeX(T:nA X Kv kd)(mono:∀{H H':Hp} {v k},Same H H'->Kv H v k->Kv H' v k)(inj:∀{pins:LO} {σ : St} {H:Hp} {s:Shared},Inv X pins σ H s->∀v k k',Kv H v k->Kv H v k'->k=k')
  (I:Inv X pins σ H s) (hh:X.A.handled=none) (hr:IsRange s.heap r 0 n 1 t u v) (h64:n<64) (key:Hg X pins σ H Kv n kz (.ref q))
  (h:∀s' D ys H',Same H H'->H' D=none->Inv X pins σ (upd H' D (.lst (ys.map λi:Nat=>V.int i))) s'->nu n kz ys->Q (.ref D) s') :
  wpAny (model X.prog X.w) X.A (call (.builtin "sorted") [.ref r] [(Str.ofString "key",.ref q)]) Q E s:=by
 refine call_function_entry_kw kind_sorted plain_sorted entry_sorted (ksk_s1 _ _) ?_
 refine wpAny_bind (m:=checkCount "sorted" 1 1 _) (wpAny_pure ?_)
 refine wpAny_bind (aeW (A:=X.A.in1) hh hr (by lia) λh1 tk vs keep hl hv=>?_)
 have I1:Inv X pins σ H {s with heap:=h1,toks:=tk }:=I.kept keep
 refine wpAny_bind (wpAny_newList ?_ (by rw[sizeLine_eq]; lia))
 have I2:Inv X pins σ H {s with heap:=h1.push {cls:=.type "list",data:=.seq vs.toArray },toks:=tk }:=I1.kept (t':=tk) λb o e=>Heap.get?_push_of_some _ e
 have ha:(h1.push {cls:=.type "list",data:=.seq vs.toArray }).get? h1.objs.size=some (seqObj "list" vs.toArray 0):=Heap.get?_push_size _ rfl
 refine wpAny_bind (wpAny_holding (wpAny_call_entry_kw slot_list_sort ⟨_,ha,rfl⟩ entry_list_sort ?_ (ksk_l1 _ _)))
 rw[ksk_t1]
 have fa:=I1.jW (Nat.le_refl _) (I1.hok.fresh (Nat.le_refl _))
 refine aeV T mono inj I2 fa ha hv hl h64 key λs' c out H' sm na I' e' ⟨ys,hs,hv'⟩=>⟨_,rfl,?_⟩
 refine wpAny_pure ⟨_,rfl,h s' _ ys H' sm na (I'.track (its:=out.toList) (n:=c) (fa.up na) e' hv' ?_) hs⟩
 have:=hs.1.length_eq
 rw[List.length_map,this,List.length_range,sizeLine_eq]
 lia
end
noncomputable def Aj(X:Cx)(A:Around)(N:List Str)(qual:Str)(scope:Scope)(f:Addr)(cd:Value)(s:Shared)(H:Hp):Cx where
 prog:=X.prog
 w:=X.w
 K:=X.K
 mg:=X.mg
 base:=X.base
 A:=A.deeper (envX qual scope s.heap.objs.size f cd (bM X.env.cells scope.names []))
 N:=N
 s₀ := s
 H₀ := H
 env:=envX qual scope s.heap.objs.size f cd (bM X.env.cells scope.names [])
 outer:=X.stack
 stack:=envX qual scope s.heap.objs.size f cd (bM X.env.cells scope.names [])::X.stack
 ex:=[]
 fn:=λ_=>false
 calm:=true
 pn:=[]
 xe:=λ_ _=>False
structure Ak(sc:Scope)(No:List Str)(x:Str)(Ns:List Str)(src:List (Option Nat))(scope:Scope):Prop where
 c:o8 sc No (x::Ns) (none::src) scope
 Sq:∀y∈scope.names,y.2 ≠ .cell
 par:scope.names.lookup x=some .local
 co:scope.isCoroutine=false
 gen:scope.isGenerator=false
section
variable {X:Cx}{pins:LO}{σ : St}{H:Hp}{s:Shared}{sc scope:Scope}{No Ns:List Str}{src:List (Option Nat)}{x qual:Str}
theorem aeY(hsc:X.env.scope=sc)(fO:X.N=No)(S:Ak sc No x Ns src scope)(hfr:A.frames=some X.stack)(hhd:A.handled=none)(I:Inv X pins σ H s)(rv:RelV v u)
  (hns:h₁.Ns s.heap.objs.size (λy=>([(x,u)]:List (Str × Value)).reverse.lookup y)) (old:∀b o,s.heap.get? b=some o->h₁.get? b=some o) :
  Inv (Aj X A (x::Ns) qual scope f cd s H) [] (some v::bV src σ) H {s with heap:=h₁,toks:=tk }:=by
 subst hsc
 subst fO
 have vU:∀x c,(bM X.env.cells scope.names []).lookup x=some c->X.env.cells.lookup x=some c:=λx c h=>by
  rcases o7 h with q|q
  .simp at q
  .exact q
 refine⟨⟨I.ok.mod,S.c.kind,rfl,rfl,Nat.le_refl _,λx y c h1 h2=>I.ok.inj x y c (vU _ _ h1) (vU _ _ h2),λy hy=>?_,λx c h=>(Bool.false_ne_true h).elim,λ_=>hhd,Around.frames_deeper hfr,.inr ⟨rfl,rfl⟩,λb hb=>absurd (show b∈([]:List Addr)from hb) (by simp),
   I.bs,Nat.le_trans I.ok.oM I.sz,λb o e=>by intro hb; exact absurd (show b∈([]:List Addr)from hb) (by simp),λb hb=>absurd (show b∈([]:List Addr)from hb) (by simp),I.stack,I.yH⟩,
  rfl,I.bare,Un.kept old,⟨_,hns,λi y w' h1 h2 h3=>?_⟩,λy c e=>?_,I.hok.fresh (Nat.le_refl _),λy c e=>I.jR y c (vU y c e),λp hp=>absurd (show p∈([]:LO)from hp) (by simp),I.hok.kept old,?_⟩
 .skip
  have m:(y,NameKind.free)∈scope.names:=by
   rcases hy with z|z
   .exact absurd rfl (S.Sq _ (PySem.mem_of_lookup z))
   .exact PySem.mem_of_lookup z
  have q:=qz (cells:=X.env.cells) (acc:=[]) (.inr ⟨m,by
   obtain⟨c,e⟩:=I.ok.has y (S.c.free _ m rfl)
   rw[e]; rfl⟩)
  exact Option.isSome_iff_exists.mp q
 .cases i with
  |zero =>
   have h1:some x=some y:=h1
   cases h1
   cases h2
   exact⟨u,rv,.inl ⟨S.par,by show([(x,u)]:List (Str × Value)).reverse.lookup x=some u; simp⟩⟩
  |succ i =>
   have h1:Ns[i]?=some y:=h1
   have h2:(bV src σ)[i]?=some (some w'):=h2
   have hi:i<src.length:=by
    unfold bV at h2
    have:=(List.getElem?_eq_some_iff.mp h2).1
    simpa using this
   have h2':((src[i]).bind λj=>(σ[j]?).join)=some w':=by
    unfold bV at h2
    rw[List.getElem?_map,List.getElem?_eq_getElem hi]at h2
    exact Option.some.inj h2
   cases es:src[i]with
   |none=>rw[es]at h2'; cases h2'
   |some j =>
    rw[es]at h2'
    have hj : σ[j]?=some (some w'):=by
     have z:(σ[j]?).join=some w':=h2'
     cases q : σ[j]? with
     |none=>rw[q]at z; cases z
     |some o=>rw[q]at z; have z':o=some w':=z; rw[z']
    have hz:(y,some j)∈(x::Ns).zip (none::src):=by
     refine List.mem_of_getElem? (i:=i+1) ?_
     rw[List.getElem?_zip_eq_some]
     exact⟨by simpa using h1,by simp[List.getElem?_eq_getElem hi,es]⟩
    obtain⟨u1,u2⟩:=S.c.up _ hz j rfl
    have m:(y,NameKind.free)∈scope.names:=PySem.mem_of_lookup u2
    have kx:=S.c.free _ m rfl
    obtain⟨m0,hn0,hl0⟩:=id I.loc
    obtain⟨u',r,lk⟩:=hl0 j y w' u1 hj (kx.elim (λz=>.inr (.inl z)) λz=>.inr (.inr z))
    refine⟨u',r,?_⟩
    rcases lk with⟨k,_⟩|⟨_,c,e,ic⟩
    .have k':X.env.scope.names.lookup y=some .local:=k
     rcases kx with z|z <;> (rw[z]at k'; cases k')
    .refine .inr ⟨.inr u2,c,?_,?_⟩
     .have q:=qz (cells:=X.env.cells) (acc:=[]) (.inr ⟨m,by rw[e]; rfl⟩)
      obtain⟨c',e'⟩:=Option.isSome_iff_exists.mp q
      have e2:=vU y c' e'
      rw[e]at e2; cases e2
      exact e'
     .obtain⟨o,ho,hd⟩:=ic
      exact⟨o,old _ _ ho,hd⟩
 .obtain⟨v,o,ho,hd⟩:=I.cell y c (vU y c e)
  exact⟨v,o,old _ _ ho,hd⟩
 .have:=S.c.len
  show _=(x::Ns).length
  rw[List.length_cons]at this ⊢
  rw[List.length_cons]
  unfold bV
  rw[List.length_map]
  exact this
theorem aeZ(hsc:X.env.scope=sc)(fO:X.N=No)(S:Ak sc No x Ns src scope)(hfr:A.frames=some X.stack)(hhd:A.handled=none)(hroom:A.depth<recursionLimit)
  (I:Inv X pins σ H s) (ho:s.heap.get? f=some (kla_obj "<lambda>" qual params body scope (bM X.env.cells scope.names []) pm c' ctv)) (hcd:s.heap.CodeRec (.ref c') qual) (rv:RelV v u)
  (hbind:bindArgs (kla_fn "<lambda>" qual params body scope (bM X.env.cells scope.names []) pm (.ref c') ctv) ⟨[u],[]⟩=pure [(x,u)])
  (he:∀s H,PE (Aj X A (x::Ns) qual scope f (.ref c') s H) body te) (hq:te (some v::bV src σ) H Q):wpAny (model X.prog X.w) A (call (.ref f) [u]) (EP X pins σ Q) E s:=by
 refine wpAny_call (kla_callFunE hroom ho rfl S.co S.gen rfl hcd ?_)
 rw[hbind]
 refine wpAny_pure (wpAny_newFunctionEnv S.Sq (λy hy=>?_) (λh₁ hns hsb=>⟨I.nolimit.fresh _ hsb,?_⟩) S.c.kind)
 .have:y=(x,u):=by simpa using hy
  subst this
  exact S.par
 have old:=λb o e=>hsb.extBut b o (Nat.ne_of_lt (Heap.lt_size e)) (Heap.get?_push_of_some _ e)
 have J:=aeY (A:=A) (f:=f) (cd:=.ref c') (qual:=qual) (tk:=s.toks+[(x,u)].length) hsc fO S hfr hhd I rv hns old
 refine kla_codeExpr (wpAny_mono (he s H [] _ _ H Q J hq) (λw' s' hw=>?_) λ_ _ z=>z.elim)
 obtain⟨v',H',J',r',q'⟩:=hw
 exact⟨v',H',I.call' (ch:=[]) J'.os J'.base J'.hok J'.bare (λb hb=>absurd hb (by simp)),r',q'⟩
end
def nC(mg:Str→Option Value)(base:Heap):Prop:=∃bm ob,mg "__builtins__" = some (.ref bm)∧bm≠builtinsNs∧bm≠mainGlobals∧base.get? bm=some ob∧ob.cls=.type "module" ∧ ob.dict=some builtinsNs∧ob.data=.plain
theorem Ss:∀{l:List Value},TriplesOk l->TriplesOk (l++[.int a t,.int b u,c])
 | [],_=>trivial
 |.int _ _ :: .int _ _::_::r,h=>Ss (l:=r) h
theorem Sv:∀{l:List Value},TriplesOk l->codeAmong pos (l++[.int a t,.int b u,c])=some v->codeAmong pos l=some v\/v=c
 | [],_,h=>by
  have h:(if _ then some c else none)=some v:=h
  split at h
  .cases h; exact .inr rfl
  .cases h
 |.int x _ :: .int y _::z::r,o,h=>by
  have h:(if(x == pos.line&&y == pos.col)=true then some z else codeAmong pos (r++[.int a t,.int b u,c]))=some v:=h
  show(if(x == pos.line&&y == pos.col)=true then some z else codeAmong pos r)=some v\/_
  split at h
  .rename_i q
   rw[if_pos q]
   exact .inl h
  .rename_i q
   rw[if_neg q]
   exact Sv (l:=r) o h
section
variable {X:Cx}{pins:LO}{σ : St}{H:Hp}{s:Shared}{sc scope:Scope}{No Ns:List Str}{src:List (Option Nat)}{x:Str}
structure Al(P:Addr)(q:Str)(H H':Hp):Prop where
 kp:∀b o,H b=some o->b≠P->H' b=some o
 tb:∃ps,H' P=some (.cJ ps)/\zR H' q ps
theorem ae0(hsc:X.env.scope=sc)(S:Ak sc No x Ns src scope)(hcode:X.env.code=.ref c)(C:CodeHd X.base c P)(B:nC X.mg X.base)
  (hdef:defaultsOf params X.env=([],[])) (I:Inv X pins σ H s) (hP:H P=some (.cJ ps)) (ok:zR H (X.env.qual++("<lambda>" : Str)) ps)
  (h:∀f c' ctv pm H' s' oc,Al P (X.env.qual++("<lambda>" : Str)) H H'→Inv X ((f,kla_obj "<lambda>" (X.env.qual++("<lambda>" : Str)) params body scope (bM X.env.cells scope.names []) pm c' ctv)::pins) σ H' s'→H' c'=some (.cQ oc (.own 0))→RG oc (X.env.qual++("<lambda>" : Str))→Q (.ref f) s') :
  wpAny (model X.prog X.w) A (eval (.Lambda params body scope pos) X.env) Q E s:=by
 have hcl:closureFor scope X.env=pure (bM X.env.cells scope.names []):=zG λy hy e=>by
  have k:=S.c.free y hy e
  rw[<-hsc]at k
  obtain⟨c,q⟩:=I.ok.has y.1 k
  rw[q]; rfl
 have oP:s.heap.get? P=some (tabObj ps):=I.hok P _ hP
 have nP:mainGlobals≠P:=λz=>by
  obtain⟨o,es,ep,e,hd,_⟩:=I.ok.mod.glob
  have:=(I.bs _ _ e).2
  rw[z,hP]at this
  cases this
 have hg:s.heap.Ns mainGlobals X.mg:=let⟨o,es,ep,e,r⟩:=I.ok.mod.glob; ⟨o,es,ep,I.bk _ _ e,r⟩
 have hB:s.heap.BuiltinsAt X.mg P:=by
  obtain⟨bm,ob,b1,b2,b3,b4,b5,b6,b7⟩:=B
  refine⟨bm,ob,b1,b2,b3,λz=>?_,I.bk _ _ b4,b5,b6,b7⟩
  have:=(I.bs _ _ b4).2
  rw[z,hP]at this
  cases this
 have C':CodeHd s.heap c P:=C.keeps I.bk
 refine kla_eval hdef ?_
 cases hf:codeAmong pos ps.toList with
 |some cv =>
  obtain⟨c',oc,rfl,e1,e2⟩:=ok.2 pos cv hf
  refine kla_makeFunctionHit (mg:=X.mg) hcl I.ok.glob hg hcode C' oP ok.1 hf hB λctv h' tk keep hsz=>?_
  have I1:Inv X pins σ H {s with heap:=h',toks:=tk }:=I.kept keep
  have I2:Inv X pins σ H {s with heap:=h'.push (kla_obj "<lambda>" (X.env.qual++("<lambda>" : Str)) params body scope (bM X.env.cells scope.names []) ((X.mg "__name__").getD .none) c' ctv),toks:=tk }:=I1.kept (t':=tk) λb o e=>Heap.get?_push_of_some _ e
  refine h _ c' ctv _ H _ oc ⟨λ_ _ q _=>q,ps,hP,ok⟩ (I2.qK (I1.jW (Nat.le_refl _) (I1.hok.fresh (Nat.le_refl _))) (Heap.get?_push_size _ rfl) (λv z=>by cases z)) e1 e2
 |none =>
  refine kla_makeFunction (mg:=X.mg) hcl I.ok.glob hg hcode C' oP ok.1 hf nP hB λc' ctv h' tk ext hge hlt hrec htb=>?_
  obtain⟨c2,oc,vs,t,e2,hoc,hd,hv⟩:=hrec
  cases e2
  have nc:H c'=none:=I.hok.fresh hge
  have cP:c'≠P:=λz=>by rw[z,hP]at nc; cases nc
  have ne:∀b u,H b=some u->b≠c':=λb u q=>iw q nc
  have up:∀b u,H b=some u->b≠P->(upd (upd H P (.cJ (ps ++ #[rawInt pos.line,rawInt pos.col,.ref c']))) c' (.cQ oc (.own 0))) b=some u:=λb u q z=>by rw[aL (ne b u q),aL z]; exact q
  have Hj:(upd (upd H P (.cJ (ps ++ #[rawInt pos.line,rawInt pos.col,.ref c']))) c' (.cQ oc (.own 0))) P=some (.cJ (ps ++ #[rawInt pos.line,rawInt pos.col,.ref c'])):=by rw[aL (Ne.symm cP)]; exact bN
  have keep:∀b o,b≠P->s.heap.get? b=some o->h'.get? b=some o:=λb o z e=>ext b o z e
  have hok:cL X.prog X.w (upd (upd H P (.cJ (ps ++ #[rawInt pos.line,rawInt pos.col,.ref c']))) c' (.cQ oc (.own 0))) h':=λb u q=>by
   by_cases z1:b=c'
   .subst z1
    rw[bN]at q
    cases q
    exact⟨hoc,oc,hoc⟩
   .by_cases z2:b=P
    .subst z2
     rw[Hj]at q
     cases q
     exact htb
    .rw[aL z1,aL z2]at q
     refine(I.hok b u q).stay (λd v hd' e=>keep d v ?_ e) (λd z=>up d _ z ?_) λd ys z=>up d _ z ?_
     .rcases hd' with rfl|hd'
      .exact z2
      .rintro rfl
       rw[hP]at hd'
       cases hd'
     .rintro rfl
      rw[hP]at z
      cases z
     .rintro rfl
      rw[hP]at z
      cases z
  have rQ:∀b,H b=none->b≠P:=λb n z=>by rw[z,hP]at n; cases n
  have I1:Inv X pins σ (upd (upd H P (.cJ (ps ++ #[rawInt pos.line,rawInt pos.col,.ref c']))) c' (.cQ oc (.own 0))) {s with heap:=h',toks:=tk } :=
   I.step (h':=h') (g':=s.gens) (d':=s.drawn) (t':=tk) (ch:=[]) (λ_ z=>nomatch z) (λb o _ _ _ e n=>keep b o (rQ b n) e) (λb o _ _ _ e n=>⟨o.slots,keep b o (rQ b n) e⟩)
    (λb o _ e n=>by
     rw[aL (λz=>by rw[z]at e; exact absurd (Heap.lt_size e) (Nat.not_lt.mpr hge)),aL (rQ b n)]; exact n)
    (λb o _ e=>by
     by_cases z:b=P
     .subst z; exact⟨_,htb⟩
     .exact⟨o,keep b o z e⟩)
    (λb ys q=>up b _ q (by rintro rfl; rw[hP]at q; cases q)) (λb o u q=>up b _ q (by rintro rfl; rw[hP]at q; cases q))
    (λb qs q=>by
     by_cases z:b=P
     .subst z
      rw[hP]at q
      cases q
      exact⟨_,Hj⟩
     .exact⟨#[],by rw[up b _ q z]; simp⟩)
    (λm q=>q.extBut ext (rQ _ I.free)) hok I.bare
  have I2:=I1.kept (t':=tk) (h':=h'.push (kla_obj "<lambda>" (X.env.qual++("<lambda>" : Str)) params body scope (bM X.env.cells scope.names []) ((X.mg "__name__").getD .none) c' ctv)) λb o e=>Heap.get?_push_of_some _ e
  refine h _ c' ctv _ _ _ oc ⟨up,_,Hj,?_,λpos' v q=>?_⟩ (I2.qK (I1.jW (Nat.le_refl _) (I1.hok.fresh (Nat.le_refl _))) (Heap.get?_push_size _ rfl) (λv z=>by cases z)) bN ⟨vs,t,hd,hv⟩
  .have:(ps ++ #[rawInt pos.line,rawInt pos.col,.ref c']).toList=ps.toList++[rawInt pos.line,rawInt pos.col,.ref c']:=by simp
   rw[this]
   exact Ss ok.1
  .have:(ps ++ #[rawInt pos.line,rawInt pos.col,.ref c']).toList=ps.toList++[rawInt pos.line,rawInt pos.col,.ref c']:=by simp
   rw[this]at q
   rcases Sv ok.1 q with q|q
   .obtain⟨d,o,z1,z2,z3⟩:=ok.2 pos' v q
    exact⟨d,o,z1,up d _ z2 (by rintro rfl; rw[hP]at z2; cases z2),z3⟩
   .exact⟨c',oc,q,bN,vs,t,hd,hv⟩
end
abbrev KW:=Hp->V->Int × Int->Prop
def Am:KW:=λ_ v k=>v=.int k.1/\k.2=0
def Sw(Kw:KW)(P:Addr)(q:Str)(src:List (Option Nat))(ta:TA)(te:TE):TE:=λσ H Q=>ta σ H λvs H1=>∃(n:Nat) (kz:Nat->Int × Int),vs=[.int n]/\n<64/\(∃ps,H1 P=some (.cJ ps)/\zR H1 q ps)/\∀H2,Al P q H1 H2 ->
 (∀(i:Nat),i<n->∀H3,Same H2 H3->te (some (.int i)::bV src σ) H3 λv H4=>Kw H4 v (kz i)/\Same H3 H4)/\∀D (ys:List Nat) H3,Same H2 H3->H3 D=none->nu n kz ys->Q (.ref D) (upd H3 D (.lst (ys.map λi:Nat=>V.int i)))
section
variable {X:Cx}{sc scope:Scope}{No Ns:List Str}{src:List (Option Nat)}{x:Str}{Kw:KW}{kd:SortKind}
theorem ae1(T:nA X (λH u k=>∃v,RelV v u/\Kw H v k) kd)(mono:∀{H H':Hp} {v k},Same H H'->Kw H v k->Kw H' v k)(inj:∀{pins:LO} {σ : St} {H:Hp} {s:Shared},Inv X pins σ H s->∀u k k',(∃v,RelV v u/\Kw H v k)->(∃v,RelV v u/\Kw H v k')->k=k')
  (hr:dW k X.A) (h1:X.mg "sorted" = none) (h2:X.mg "range" = none) (hsc:X.env.scope=sc) (fO:X.N=No) (S:Ak sc No x Ns src scope) (hcode:X.env.code=.ref c) (C:CodeHd X.base c P) (B:nC X.mg X.base) (hdef:defaultsOf params X.env=([],[]))
  (ha:PA X [e] ta) (hbind:∀(pm cd ctv u:Value),bindArgs (kla_fn "<lambda>" (X.env.qual++("<lambda>" : Str)) params body scope (bM X.env.cells scope.names []) pm cd ctv) ⟨[u],[]⟩=pure [(x,u)])
  (he:∀A f cd s H,PE (Aj X A (x::Ns) (X.env.qual++("<lambda>" : Str)) scope f cd s H) body te)
  (hg:X.env.kindOf "sorted" = some .globalImplicit:=by kernel_rfl) (hg2:X.env.kindOf "range" = some .globalImplicit:=by kernel_rfl) (hs:notStar e=true:=by kernel_rfl) :
  PE X (.Call (.Name "sorted" p) [.Call (.Name "range" p2) [e] [] pos2] [⟨some (Str.ofString "key"),.Lambda params body scope amS,kp⟩] pos) (Sw Kw P (X.env.qual++("<lambda>" : Str)) src ta te):=by
 refine⟨λpins s σ H Q I h=>?_⟩
 refine wpAny_Call_Name_kw (jT I hg h1 (by decide +kernel:bootBuiltins "sorted" = some (.builtin "sorted")) ?_ (by decide +kernel) (by kernel_rfl))
 refine callWith_kw (Calls.spliced_cons (wpAny_Call_Name_kw (jT I hg2 h2 boot_range (PyProof.Rows.callWith_type1 (aD (ha pos2 pins s σ H _ I h) λus s1 ⟨vs,H1,I1,r1,q1⟩=>?_) (eG hs) rfl) (by decide +kernel) (by kernel_rfl))))
 obtain⟨n,kz,rfl,h64,⟨ps,hP,ok⟩,hq⟩:=q1
 obtain⟨u1,rfl,t1,rfl⟩:=vals1 r1
 refine call_range_1 ?_
 have rfp:=I1.jW (Nat.le_refl _) (I1.hok.fresh (Nat.le_refl _))
 have I2:Inv X pins σ H1 {s1 with heap:=s1.heap.push {cls:=.type "range",data:=.fields #[.int 0 s1.toks,.int n t1,.int 1 (s1.toks+1)] },toks:=s1.toks+1+1 }:=I1.kept λb o e=>Heap.get?_push_of_some _ e
 have I3:=I2.qK rfp (Heap.get?_push_size _ rfl) (λv z=>by cases z)
 refine Calls.spliced_nil ?_
 refine kws_cons (ae0 hsc S hcode C B hdef I3 hP ok λf c' ctv pm H2 s2 oc lh I4 e1 e2=>?_)
 refine kws_nil ?_
 have pr:=I4.pin _ (List.mem_append_right _ (List.mem_cons_of_mem _ (List.mem_cons_self ..)))
 obtain⟨key,fin⟩:=hq H2 lh
 refine aeX T (λ{H H' u k} sm ⟨v,a1,a2⟩=>⟨v,a1,mono sm a2⟩) inj I4 hr.hd pr.1 h64 (λoO i t s' H' hi sub sm I'=>?_) λs' D ys H3 sm nD I' hs'=>⟨.ref D,_,I'.sub λp hp=>List.mem_cons_of_mem _ (List.mem_cons_of_mem _ hp),rfl,fin D ys H3 sm nD hs'⟩
 have pf:=I'.pin _ (List.mem_append_right _ (sub _ (List.mem_cons_self ..)))
 have hcd:s'.heap.CodeRec (.ref c') (X.env.qual++("<lambda>" : Str)):=by
  obtain⟨vs,t,a1,a2⟩:=e2
  exact⟨c',oc,vs,t,rfl,(I'.hok c' _ (sm _ _ e1)).1,a1,a2⟩
 refine aD (aeZ (A:=X.A.in1.in1) (v:=.int i) (te:=te) (Q:=λv H4=>Kw H4 v (kz i)/\Same H' H4) hsc fO S I.ok.frames hr.hd hr.depth I' pf.1 hcd ⟨t,rfl⟩ (hbind _ _ _ _) (λs H=>he _ _ _ _ _) (key i hi H' sm)) λu s'' ⟨v,H4,Hh,rv,q1,q2⟩=>⟨H4,q2,⟨v,rv,q1⟩,Hh⟩
theorem ae2:nA X (λH u k=>∃v,RelV v u/\Am H v k) oneType' where
 kind:=λH keys kz h2 hk pins σ s Q E I q=>R9.kind H keys kz h2 (λi v e=>by
  obtain⟨w,r,rfl,z⟩:=hk i v e
  obtain⟨t,rfl⟩:=r
  exact⟨t,rfl,z⟩) I q
 ask:=λa₀ kf I h=>R9.ask a₀ kf I λp hp=>by
  obtain⟨w,r,z1,z⟩:=h p hp
  subst z1
  obtain⟨t,r⟩:=r
  exact⟨t,r,z⟩
theorem ae3(_:Inv X pins σ H s)(u:Value)(k k':Int × Int)(h:∃v,RelV v u/\Am H v k)(h':∃v,RelV v u/\Am H v k'):k=k':=by
 obtain⟨v,r,rfl,z⟩:=h
 obtain⟨v',r',rfl,z'⟩:=h'
 obtain⟨t,rfl⟩:=r
 obtain⟨t',r'⟩:=r'
 injection r' with r' _
 exact Prod.ext r' (z.trans z'.symm)
end
def tE(K:FZ)(mg:Str->Option Value)(x:Str)(st:Stmt)(c:Addr):Prop:=∃f fd,qy K x x st f fd/\mg x=some (.ref f)/\fd.code=.ref c
section
variable {P:Program}{w:World}{K:FZ}{mg:Str->Option Value}{base:Heap}
theorem tE.ae4{c:Addr}{k:Nat}{x:Str}{st:Stmt}{N ps:List Str}{sp:Sp}(a:tE K mg x st c)(S:rT N ps (bU st))
  (hb:∀(kV doc pm:Value) (an:Option Addr) (cdv ct:Value) (us:List Value),us.length=ps.length->bindArgs (fnOf x x (jX st) (gC st) (bU st) .none kV doc pm an cdv ct) ⟨us,[]⟩=pure (ps.zip us))
  (len:∀vs H Q E,sp vs H Q E->vs.length=ps.length)
  (hbody:∀(f:Addr) (A:Around) (outer:List Env) (s:Shared) (H:Hp) (vs:List V) (Q:VK) (E:XK),dW k (A.deeper (envOfC x (bU st) s.heap.objs.size f (.ref c)))->sp vs H Q E ->
   ∃t,eE (iB (gD P w) P w K mg base N x (bU st) f (.ref c) A outer s H E) (gC st) t/\t {nx:=λ_ H'=>Q .non H',rt:=Q } (start N vs) H):jC P w K mg base (k+1) x ps sp:=by
 obtain⟨f,fd,F,m,hc⟩:=a
 refine⟨f,fd,?_,F.binds hb,F.kp,m⟩
 obtain⟨oc,od,kV,doc,pm,an,cdv,ct,osl,rfl,lk,hcd⟩:=F.ex
 have hc:cdv=.ref c:=hc
 subst hc
 exact Qx lk hcd S len λA outer s H vs Q E hr h=>hbody f A outer s H vs Q E hr h
end
theorem Hl{o:Obj}(h:(o.cls == .type "list")=false):cg o=o:=by
 unfold cg
 rw[if_neg]
 rintro⟨z,_⟩
 rw[z]at h
 exact absurd h (by decide +kernel)
theorem ae5{K:FZ}{x:Str}{o:Obj}(h:K.lookup mainGlobals=some o)(n:(o.cls == .type "list")=false):nsIn (au K) mainGlobals x=nsIn K mainGlobals x:=by
 have e:(au K).lookup mainGlobals=K.lookup mainGlobals:=by
  rw[jD,h]
  show some (cg o)=some o
  rw[Hl n]
 unfold nsIn
 rw[e]
theorem Ho{K:FZ}{x:Str}{f c P:Addr}{oc:Value}{od:Option Addr}{fd:FuncData}{sl:Array (Option Value)}{cc:Value}{cd:Option Addr}{vs:Array Value}{cs:Array (Option Value)}(a:nsIn K mainGlobals x=some (some (.ref f)))(l2:K.lookup f=some ⟨oc,od,.func fd,sl⟩)(hc:fd.code=.ref c)(l3:K.lookup c=some ⟨cc,cd,.fields vs,cs⟩)(hv:vs[11]?=some (.ref P)):tabIn K x=some (c,P):=by
 unfold tabIn
 rw[a]
 dsimp only
 rw[l2]
 dsimp only
 rw[hc]
 dsimp only
 rw[l3]
 dsimp only
 rw[hv]
theorem Sx{A B:Prop}(h:A/\B):A/\B:=h
theorem Hq{o:Obj}{d:Data}(h:(cg o).data=d)(n:d ≠ .fields #[]):cg o=o:=by
 unfold cg at h ⊢
 split at h
 .exact(n h.symm).elim
 .rename_i q
  rw[if_neg q]
theorem Sy{K:FZ}{x:Str}{z:Addr × Addr}(h:tabIn (au K) x=some z):tabIn K x=some z:=by
 unfold tabIn at h
 split at h
 .rename_i f hf
  have g1:nsIn K mainGlobals x=some (some (.ref f)):=by
   unfold nsIn at hf
   rw[jD]at hf
   cases e:K.lookup mainGlobals with
   |none=>rw[e]at hf; cases hf
   |some o =>
    rw[e]at hf
    unfold nsIn
    rw[e]
    have q:cg o=o:=by
     dsimp only[Option.map]at hf
     split at hf
     .rename_i a b es ep c eq
      have eq:cg o=⟨a,b,.dict es ep,c⟩:=Option.some.inj eq
      exact Hq (d:=.dict es ep) (by rw[eq]) (by intro z; cases z)
     .cases hf
    dsimp only[Option.map]at hf
    rw[q]at hf
    exact hf
  split at h
  .rename_i a b fd osl hfo
   have g2:K.lookup f=some ⟨a,b,.func fd,osl⟩:=by
    rw[jD]at hfo
    cases e:K.lookup f with
    |none=>rw[e]at hfo; cases hfo
    |some o =>
     rw[e]at hfo
     have eq:cg o=⟨a,b,.func fd,osl⟩:=Option.some.inj hfo
     rw[Hq (d:=.func fd) (by rw[eq]) (by intro z; cases z)]at eq
     rw[eq]
   split at h
   .rename_i c hc
    split at h
    .rename_i a' b' vs SJ hco
     split at h
     .rename_i Pp hv
      cases h
      have g3:K.lookup c=some ⟨a',b',.fields vs,SJ⟩:=by
       rw[jD]at hco
       cases e:K.lookup c with
       |none=>rw[e]at hco; cases hco
       |some o =>
        rw[e]at hco
        have eq:cg o=⟨a',b',.fields vs,SJ⟩:=Option.some.inj hco
        rw[Hq (d:=.fields vs) (by rw[eq]) (by intro z; injection z with z; subst z; simp at hv)]at eq
        rw[eq]
      exact Ho g1 g2 hc g3 hv
     .cases h
    .cases h
   .cases h
  .cases h
 .cases h
structure vW(K:FZ)(mg:Str->Option Value)(base:Heap)(x:Str)(c P:Addr):Prop where
 nm:x∈eZ
 hd:CodeHd base c P
 bm:nC mg base
 tab:tabIn (au K) x=some (c,P)
 un:∀x'∈eZ,∀c',tabIn (au K) x'=some (c',P)->x'=x
theorem Ao{K:FZ}{x:Str}{f c P:Addr}{o1:Obj}{oc:Value}{od:Option Addr}{fd:FuncData}{sl:Array (Option Value)}{cc:Value}{cd:Option Addr}{vs:Array Value}{cs:Array (Option Value)}(a:nsIn K mainGlobals x=some (some (.ref f)))(l1:K.lookup mainGlobals=some o1)(n1:(o1.cls == .type "list")=false)
  (l2:K.lookup f=some ⟨oc,od,.func fd,sl⟩) (n2:(oc == .type "list")=false) (hc:fd.code=.ref c) (l3:K.lookup c=some ⟨cc,cd,.fields vs,cs⟩) (n3:(cc == .type "list")=false) (hv:vs[11]?=some (.ref P)):tabIn K x=some (c,P)/\tabIn (au K) x=some (c,P):=⟨Ho a l2 hc l3 hv,Ho ((ae5 l1 n1).trans a) (by rw[jD,l2,Option.map_some,Hl n2]) hc (by rw[jD,l3,Option.map_some,Hl n3]) hv⟩
theorem ae6{K:FZ}{x:Str}(a:nsIn K mainGlobals x=some none):tabIn K x=none:=by
 unfold tabIn
 rw[a]
theorem SM{K:FZ}{mg:Str->Option Value}{base:Heap}{x:Str}{c P:Addr}(nm:x∈eZ)(hc:∀x∈eZ,∀c b,tabIn K x=some (c,b)->CodeHd base c b)(bm:nC mg base)(q:tabIn K x=some (c,P)/\tabIn (au K) x=some (c,P))(ho:∀x'∈eZ,x'=x\/∀c',tabIn K x'≠some (c',P)):vW K mg base x c P :=
 ⟨nm,hc x nm c P q.1,bm,q.2,λx' hx' c' e=>(ho x' hx').elim id λz=>(z c' (Sy e)).elim⟩
end L2
end
section
namespace L2
open PySem PySem.Spec PyProof.Rows
abbrev FP:=List Tr->Rs (Tr × Bool)
abbrev Aq:List Value:=[.type "ValueError",.type "Exception",.type "BaseException",.type "object"]
noncomputable abbrev tx(cl:Str->Addr)(E:XK)(X:Cx):Tx:=⟨au X.K,λc H'=>E (.ref (cl c)) none H'⟩
def pD(K:FZ)(cl:Str->Addr)(n:Nat)(f:FP):Sp:=λvs H Q E=>∃G ts,vs.length=n/\aA (au K) G vs ts/\Same G H/\bK (au K) H/\(∀b,Tb (au K) b->G b=none) /\
 bH ⟨au K,λc H'=>E (.ref (cl c)) none H'⟩ H (λ_=>[]) (f ts) λp=>∀v G' H',Gw (au K) G H G' H'->VN (au K) H G' H' v p.1 p.2->Q v H'
structure Vw(K:FZ)(R:Addr->Prop)(Hs:Hp)(Fs:Fp)(G H:Hp)(F:Fp)(vs:List V)(Ts:List Tr)(bs:List Addr):Prop where
 nd:bs.Nodup
 al:∀b∈bs,(Hs b=none\/Fn Fs b)/\¬Fn F b/\¬R b/\G b=none
 dr:DR K G H vs Ts bs
def Ar(K:FZ)(cl:Str->Addr)(n:Nat)(f:FP):Sp:=λvs H Q E=>∃G ts,vs.length=n/\aA (au K) G vs ts/\Same G H/\bK (au K) H/\(∀b,Tb (au K) b->G b=none) /\
 bH ⟨au K,λc H'=>E (.ref (cl c)) none H'⟩ H (λ_=>[]) (f ts) λp=>∀v G' H',Gw (au K) G H G' H'->(∃bs,Vw (au K) (λ_=>False) H (λ_=>[]) G' H' (λ_=>[]) [v] [p.1] bs)->Q v H'
def Gk(K:FZ)(mg:Str->Option Value)(x:Str)(v:V)(T:Tr):Prop:=∃u,mg x=some u/\RelV v u/\∀H,Rep (au K) H v T
inductive Ey
 |fn (x:Str) (ps:List Str) (f:FP) (l:Nat)
 |fd (x:Str) (ps:List Str) (f:FP) (l:Nat)
 |gk (x:Str) (T:Tr)
structure Cc where
 P:Program
 w:World
 K:FZ
 mg:Str->Option Value
 base:Heap
 cl:Str->Addr
def Ey.lJ(c:Cc):Ey->Prop
 |.fn x ps f l=>jC c.P c.w c.K c.mg c.base l x ps (pD c.K c.cl ps.length f)
 |.fd x ps f l=>jC c.P c.w c.K c.mg c.base l x ps (Ar c.K c.cl ps.length f)
 |.gk x T=>∃v,Gk c.K c.mg x v T
abbrev Ey.ok(cl:Str->Addr)(X:Cx)(y:Ey):Prop:=y.lJ ⟨X.prog,X.w,X.K,X.mg,X.base,cl⟩
structure Gx where
 N:List Str
 sc:Scope
 fn:Str->Bool
 B:List Str
 R:List Str
 nx:Bool
 k:Nat
 L:List Str
structure Ox(cl:Str->Addr)(Γ : Gx)(E:XK)(X:Cx):Prop where
 N:X.N = Γ.N
 s:X.env.scope = Γ.sc
 d:X.N.Nodup
 l:X.calm=true
 r:dW Γ.k X.A
 e:Passes (gD X.prog X.w) X E
 B:∀x∈Γ.B,X.mg x=none
 R:∀x∈Γ.R,OwnCls x (cl x) Aq "ValueError.__new__" X.mg X.base/\Raises X E
 x:mX X.K
 f:X.fn = Γ.fn
 n : Γ.nx=true->X.xe=λ_ _=>False
 lm:∀x∈Γ.L,∃c P,vW X.K X.mg X.base x c P/\X.env.code=.ref c/\X.env.qual++("<lambda>" : Str)=zQ x
structure Vn{τ : Type}(J:(Str->Addr)->XK->Cx -> τ -> Prop) where
 ck:Gx -> τ -> Bool
 cs:List Ey
 ok:∀{cl E Γ X e},(∀y∈cs,y.ok cl X)->Ox cl Γ E X->ck Γ e=true->J cl E X e
abbrev VE(f:EF):=Vn λcl E X e=>PE X e (Te (tx cl E X) f)
abbrev VT(f:BF):=Vn λcl E X e=>PT X e (Tt (tx cl E X) f)
abbrev VO(f:OF):=Vn λcl E X e=>PO X e (To (tx cl E X) f)
abbrev VA(f:AF):=Vn λcl E X e=>PA X e (Ta (tx cl E X) f)/\(∀ρ p,f ρ=.ok p->p.1.length=e.length)/\∀x∈e,notStar x=true
theorem an{a b:Bool}:(a&&b)=true↔a=true/\b=true:=by simp
theorem ml{P:Ey->Prop}{l m:List Ey}(h:∀y∈l++m,P y):∀y∈l,P y:=λy q=>h y (List.mem_append_left _ q)
theorem mr{P:Ey->Prop}{l m:List Ey}(h:∀y∈l++m,P y):∀y∈m,P y:=λy q=>h y (List.mem_append_right _ q)
theorem PT.imp(h:PT X e t)(i:∀σ H Q,u σ H Q->t σ H Q):PT X e u:=⟨λpins s σ H Q I q=>h pins s σ H Q I (i σ H Q q)⟩
theorem PO.imp(h:PO X e t)(i:∀σ H Q,u σ H Q->t σ H Q):PO X e u:=λpins s σ H Q I q=>h pins s σ H Q I (i σ H Q q)
noncomputable def bZ(i:Nat):EF:=λρ=>match ρ[i]? with
 |some (.sh T)=>.ok (.v T false,ρ)
 |some (.ow _)=>.ok (.s i,ρ)
 |some (.rf _)=>.ok (.s i,ρ)
 |_=>.bad
noncomputable def gM(Γ : Gx)(i:Nat)(x:Str):Bool := Γ.N[i]? == some x&&(Γ.sc.names.lookup x == some .local || Γ.sc.names.lookup x == some .cell || Γ.sc.names.lookup x == some .free) && !(x == ("__debug__" : Str)) && !(x == ("__classdict__" : Str))
theorem jZ(o:Ox cl Γ E X)(h:gM Γ i x=true):PE X (.Name x p) (qp i):=by
 simp only[gM,an]at h
 obtain⟨⟨⟨h1,h2⟩,h3⟩,h4⟩:=h
 exact O7 (by rw[o.N]; exact eq_of_beq h1) (by rw[o.s]; unfold uW; simpa[or_assoc]using h2) (by simpa using h3) (by simpa using h4)
theorem ae7(h:Te t (bZ i) σ H Q):qp i σ H Q:=by
 obtain⟨R,ρ,G,F,e,h⟩:=h
 have z:=e.sl i
 unfold bZ at h
 split at h <;> rename_i k <;> (try exact h.elim) <;> rw[k]at z
 .obtain⟨_,v,h1,h2⟩:=z
  exact⟨v,h1,h v G H F e .refl (.low h2)⟩
 all_goals
  obtain⟨a,xs,h1,_⟩:=z
  exact⟨_,h1,h _ G H F e .refl h1⟩
noncomputable def aj(i:Nat):VE (bZ i) where
 ck Γ e:=atName e λx _=>gM Γ i x
 cs:=[]
 ok _ o h:=by
  walk_at "o"
  exact(jZ o h).imp λ_ _ _=>ae7
noncomputable def eC(T:Tr):EF:=λρ=>.ok (.v T false,ρ)
theorem vX(r:∀H,Rep t.K H v T)(h:Te t (eC T) σ H Q):tC v σ H Q:=by
 obtain⟨R,ρ,G,F,e,h⟩:=h
 exact h v G H F e .refl (.low (r _))
noncomputable def vC(T:Tr):VE (eC T) where
 ck _ e:=GR e λc _ _=>match T with
  |.int j=>GX c λi=>decide (i=j)
  |.str j=>GZ c λi=>i == j
  |.bl j=>G8 c λi=>i == j
  |.non=>Hf c
  |_=>false
 cs:=[]
 ok _ o h:=by
  walk_at "o"
  cases T <;> dsimp only at h
  .walk_at "o"
   exact O9.imp λ_ _ _=>vX λ_=>.non
  .walk_at "o"
   cases eq_of_beq h; exact O8.imp λ_ _ _=>vX λ_=>.bl _
  .walk_at "o"
   cases of_decide_eq_true h; exact rR.imp λ_ _ _=>vX λ_=>.int _
  .walk_at "o"
   cases eq_of_beq h; exact Pa.imp λ_ _ _=>vX λ_=>.str _
  all_goals cases h
theorem ae8(h:(vC (.int m)).ck Γ e=true):∃k p,e=.Constant (.int m) k p:=by
 dsimp only[vC]at h
 walk_at "o"
 cases of_decide_eq_true h
 exact⟨_,_,rfl⟩
noncomputable def jF(Γ : Gx)(x:Str):Bool := Γ.sc.names.lookup x == some .globalImplicit && !(x == ("__debug__" : Str))
theorem dh(o:Ox cl Γ E X)(h:jF Γ x=true):Gl X x/\(x == ("__debug__" : Str))=false:=by
 simp only[jF,an]at h
 exact⟨by show X.env.scope.names.lookup _=_; rw[o.s]; exact eq_of_beq h.1,by simpa using h.2⟩
noncomputable def vG(x:Str)(T:Tr):VE (eC T) where
 ck Γ e:=atName e λy _=>x == y&&jF Γ x
 cs:=[.gk x T]
 ok g o h:=by
  walk_at "o"
  simp only[an]at h
  cases eq_of_beq h.1
  obtain⟨v,u,h1,h2,h3⟩:=g _ (List.mem_singleton.mpr rfl)
  exact(abz (dh o h.2).1 h1 h2 (dh o h.2).2).imp λ_ _ _=>vX h3
section
variable {t:Tx}{R:Addr->Prop}{ρ : En}{σ : St}{G H G0 H0 G' H':Hp}{F F0:Fp}{Q:VK}
theorem Ok.fin(e:Ok t.K R ρ σ G H F)(s:aC t.K G0 H0 F0 G H F)(w:Gw t.K G H G' H')(n:VN t.K H G' H' v T fr)(h:∀v G' H' F',Ok t.K R ρ σ G' H' F'->aC t.K G0 H0 F0 G' H' F'->fB t.K σ H0 G' H' F' v (.v T fr)->Q v H'):Q v H':=by
 obtain⟨e',s'⟩:=e.grow w
 exact h v G' H' F e' (s.trans s') ((n.ok e).back s.dm)
noncomputable def lK(g:G2)(fa fb:EF):EF:=λρ=>(fa ρ).bind λp=>(fb p.2).bind λq=>(dr q.2 p.1).bind λa=>(dr q.2 q.1).bind λb=>(g a b).bind λz=>.ok (.v z.1 z.2,q.2)
theorem Av(o:cU t.K r g)(h:Te t (lK g fa fb) σ H Q):u9 r (Te t fa) (Te t fb) σ H Q:=by
 obtain⟨R,ρ,G,F,e,h⟩:=h
 refine dJ e .refl h λp h x G1 H1 F1 e1 s1 v1=>dJ e1 s1 h λq h y G2 H2 F2 e2 s2 v2=>?_
 obtain⟨a,k1,h⟩:=h.okb (gH _ _)
 obtain⟨b,k2,h⟩:=h.okb (gH _ _)
 obtain⟨z,k3,h⟩:=h.okb (o.nx a b)
 refine o.ok G2 H2 x y a b Q e2.sub (fX e2 (v1.step e1.tb s2) k1) (fX e2 v2 k2) (by rw[k3]; exact λv G' H' w vn=>e2.fin (s1.trans s2) w.gw vn h)
noncomputable def v2(o:Operator)(r:FZ->R2)(g:G2)(hp:∀X,bA X (binaryOp o) (r X.K))(hs:∀K,cU (au K) (r K) g)(a:VE aB)(b:VE bF):VE (lK g aB bF) where
 ck Γ e:=zY e λx p y _=>decide (p=o)&&a.ck Γ x&&b.ck Γ y
 cs:=a.cs++b.cs
 ok q O h:=by
  walk_at "o"
  simp only[an]at h
  cases of_decide_eq_true h.1.1
  exact(yS (hp _) (a.ok (ml q) O h.1.2) (b.ok (mr q) O h.2)).imp λ_ _ _=>Av (hs _)
noncomputable def Hr(g:G1)(fa:EF):EF:=λρ=>(fa ρ).bind λp=>(dr p.2 p.1).bind λa=>(g a).bind λz=>.ok (.v z.1 z.2,p.2)
theorem ae9(o:lD t.K r g)(h:Te t (Hr g fa) σ H Q):Qg r (Te t fa) σ H Q:=by
 obtain⟨R,ρ,G,F,e,h⟩:=h
 refine dJ e .refl h λp h x G1 H1 F1 e1 s1 v1=>?_
 obtain⟨a,k1,h⟩:=h.okb (gH _ _)
 obtain⟨z,k3,h⟩:=h.okb (o.nx a)
 exact o.ok G1 H1 x a Q e1.sub (fX e1 v1 k1) (by rw[k3]; exact λv G' H' w vn=>e1.fin s1 w.gw vn h)
noncomputable def Ht(a:VE aB):VE (Hr oG aB) where
 ck Γ e:=qF e λaK x _=>iI aK .USub (a.ck Γ x)
 cs:=a.cs
 ok q O h:=by
  walk_at "o"
  exact(Es Et (a.ok q O h)).imp λ_ _ _=>ae9 RQ
noncomputable def gO(fa:EF):BF:=λρ=>(fa ρ).bind λp=>(dr p.2 p.1).bind λa=>(rO a).bind λb=>.ok (b,p.2)
theorem vY{Q:Bool->Hp->Prop}(h:Tt t (gO fa) σ H Q):oW (Te t fa) σ H Q:=by
 obtain⟨R,ρ,G,F,e,h⟩:=h
 refine dJ e .refl h λp h x G1 H1 F1 e1 s1 v1=>?_
 obtain⟨a,k1,h⟩:=h.okb (gH _ _)
 obtain⟨b,k2,h⟩:=h.okb (RV _)
 exact⟨b,RW (fX e1 v1 k1) k2,h G1 H1 F1 e1 s1⟩
noncomputable def Aw(fa:EF):BF:=λρ=>(fa ρ).bind λp=>(dr p.2 p.1).bind λa=>(oF a).bind λb=>.ok (b,p.2)
noncomputable def Hu(f g:BF):BF:=λρ=>(f ρ).bind λp=>if p.1=true then g p.2 else .ok (false,p.2)
noncomputable def Hv(f g:BF):BF:=λρ=>(f ρ).bind λp=>if p.1=true then .ok (true,p.2)else g p.2
noncomputable def Ax(f:BF):BF:=λρ=>(f ρ).bind λp=>.ok (!p.1,p.2)
theorem bH.go{α : Type}{r:Rs α}{P P' : α -> Prop}(s:aC t.K G0 H0 F0 G H F)(h:bH t H0 F0 r P)(k:∀a,P a->P' a):bH t H F r P':=by
 cases r with
 |bad=>exact h
 |ex c=>exact λH' f=>h H' (s.back f)
 |ok a=>exact k a h
theorem Ay(e:Ok t.K R ρ σ G H F)(s:aC t.K G0 H0 F0 G H F)(h:bH t H0 F0 (f ρ) λp=>∀v G' H' F',Ok t.K R p.2 σ G' H' F'->aC t.K G0 H0 F0 G' H' F'->fB t.K σ H0 G' H' F' v p.1->Q v H'):Te t f σ H Q :=
 ⟨R,ρ,G,F,e,h.go s λp h v G' H' F' e' s' v'=>h v G' H' F' e' (s.trans s') (v'.back s.dm)⟩
theorem SN{Q:Bool->Hp->Prop}(e:Ok t.K R ρ σ G H F)(s:aC t.K G0 H0 F0 G H F)(h:bH t H0 F0 (f ρ) λp=>∀G' H' F',Ok t.K R p.2 σ G' H' F'->aC t.K G0 H0 F0 G' H' F'->Q p.1 H'):Tt t f σ H Q :=
 ⟨R,ρ,G,F,e,h.go s λp h G' H' F' e' s'=>h G' H' F' e' (s.trans s')⟩
theorem afa{Q:Bool->Hp->Prop}(h:Tt t (Ax f) σ H Q):Ph (Tt t f) σ H Q:=by
 obtain⟨R,ρ,G,F,e,h⟩:=h
 exact m5 e .refl h λp h G1 H1 F1 e1 s1=>h G1 H1 F1 e1 s1
theorem afb{Q:Bool->Hp->Prop}(h:Tt t (Hu f g) σ H Q):Pb (Tt t f) (Tt t g) σ H Q:=by
 obtain⟨R,ρ,G,F,e,h⟩:=h
 refine m5 e .refl h λp h G1 H1 F1 e1 s1=>?_
 split at h <;> rename_i c
 .rw[if_pos c]; exact SN e1 s1 h
 .rw[if_neg c]; exact h G1 H1 F1 e1 s1
theorem afc{Q:Bool->Hp->Prop}(h:Tt t (Hv f g) σ H Q):Pg (Tt t f) (Tt t g) σ H Q:=by
 obtain⟨R,ρ,G,F,e,h⟩:=h
 refine m5 e .refl h λp h G1 H1 F1 e1 s1=>?_
 split at h <;> rename_i c
 .rw[if_pos c]; exact h G1 H1 F1 e1 s1
 .rw[if_neg c]; exact SN e1 s1 h
noncomputable def eB(b:Bool):Rv:=.v (.bl b) false
noncomputable def Hw(f g:EF):EF:=λρ=>(gO f ρ).bind λp=>if p.1=true then g p.2 else .ok (eB false,p.2)
noncomputable def Hx(f g:EF):EF:=λρ=>(gO f ρ).bind λp=>if p.1=true then .ok (eB true,p.2)else g p.2
noncomputable def Hy(f:EF):EF:=λρ=>(gO f ρ).bind λp=>.ok (eB (!p.1),p.2)
noncomputable def vZ(c:BF)(f g:EF):EF:=λρ=>(c ρ).bind λp=>if p.1=true then f p.2 else g p.2
theorem afd(h:Te t (vZ c f g) σ H Q):Pu (Tt t c) (Te t f) (Te t g) σ H Q:=by
 obtain⟨R,ρ,G,F,e,h⟩:=h
 refine m5 e .refl h λp h G1 H1 F1 e1 s1=>?_
 split at h <;> rename_i c
 .rw[if_pos c]; exact Ay e1 s1 h
 .rw[if_neg c]; exact Ay e1 s1 h
theorem afe(h:Te t (Hw f g) σ H Q):Pk (Te t f) (Te t g) σ H Q:=by
 obtain⟨R,ρ,G,F,e,h⟩:=h
 refine vY (m5 (f:=gO f) e .refl h λp h G1 H1 F1 e1 s1=>?_)
 split at h <;> rename_i c
 .rw[if_pos c]; exact Ay e1 s1 h
 .rw[if_neg c]; exact h _ G1 H1 F1 e1 s1 (.low (.bl _))
theorem afg(h:Te t (Hx f g) σ H Q):Pn (Te t f) (Te t g) σ H Q:=by
 obtain⟨R,ρ,G,F,e,h⟩:=h
 refine vY (m5 (f:=gO f) e .refl h λp h G1 H1 F1 e1 s1=>?_)
 split at h <;> rename_i c
 .rw[if_pos c]; exact h _ G1 H1 F1 e1 s1 (.low (.bl _))
 .rw[if_neg c]; exact Ay e1 s1 h
theorem afh(h:Te t (Hy f) σ H Q):Pq (Te t f) σ H Q:=by
 obtain⟨R,ρ,G,F,e,h⟩:=h
 exact vY (m5 (f:=gO f) e .refl h λp h G1 H1 F1 e1 s1=>h _ G1 H1 F1 e1 s1 (.low (.bl _)))
end
noncomputable def SQ(a:VE aB):VE (Hy aB) where
 ck Γ e:=qF e λaK x _=>iI aK .Not (a.ck Γ x)
 cs:=a.cs
 ok q O h:=by
  walk_at "o"
  exact(abJ (a.ok q O h)).imp λ_ _ _=>afh
abbrev VQ(f:EF):=Vn λcl E X e=>PE X e (Te (tx cl E X) f)/\PT X e (Tt (tx cl E X) (gO f))
noncomputable def vK(a:VQ f):VE f:=⟨a.ck,a.cs,λq O h=>(a.ok q O h).1⟩
noncomputable def tK(a:VQ f):VT (gO f):=⟨a.ck,a.cs,λq O h=>(a.ok q O h).2⟩
theorem oW.imp{a b:TE}(i:∀Q,a σ H Q->b σ H Q)(h:oW a σ H Q):oW b σ H Q:=i _ h
structure Cq(g:G2) where
 o:CmpOp
 r:FZ->R2
 p:∀X:Cx,X.A.units+64<cLine->bA X (compareOp o) (r X.K)
 s:∀K,cU (au K) (r K) g
theorem tG(o:Ox cl Γ E X):X.A.units+64<cLine:=by have:=o.r.un; lia
noncomputable def aQ(z:Cq g)(a:VE aB)(b:VE bF):VQ (lK g aB bF) where
 ck Γ e:=vL e λx aK aX _=>aN aK λp bB=>aO bB (aN aX λy bL=>aO bL (decide (p=z.o)&&a.ck Γ x&&b.ck Γ y && !behindInMarks p y))
 cs:=a.cs++b.cs
 ok q O h:=by
  walk_at "o"
  simp only[an]at h
  obtain⟨⟨⟨h1,h2⟩,h3⟩,h4⟩:=h
  cases of_decide_eq_true h1
  have pa:=a.ok (ml q) O h2
  have pb:=b.ok (mr q) O h3
  have h4:=(Bool.not_eq_true' _).mp h4
  exact⟨(acv (z.p _ (tG O)) pa pb h4).imp λ_ _ _=>Av (z.s _),(acw (z.p _ (tG O)) pa pb h4).imp λ_ _ _ h=>oW.imp (λ_=>Av (z.s _)) (vY h)⟩
noncomputable def Hz(g g':G2)(fa fb fc:EF):EF:=λρ=>(fa ρ).bind λp=>(fb p.2).bind λq=>(dr q.2 p.1).bind λa=>(dr q.2 q.1).bind λb=>(g a b).bind λz=>(rO z.1).bind λk =>
 if k=true then(fc q.2).bind λs=>(dr s.2 q.1).bind λb=>(dr s.2 s.1).bind λc=>(g' b c).bind λz=>.ok (.v z.1 z.2,s.2)else .ok (eB false,q.2)
theorem SX(o:cU t.K r g)(o':cU t.K r' g')(h:Te t (Hz g g' fa fb fc) σ H Q):Eu r r' (Te t fa) (Te t fb) (Te t fc) σ H Q:=by
 obtain⟨R,ρ,G,F,e,h⟩:=h
 refine dJ e .refl h λp h x G1 H1 F1 e1 s1 v1=>dJ e1 s1 h λq h y G2 H2 F2 e2 s2 v2=>?_
 obtain⟨a,k1,h⟩:=h.okb (gH _ _)
 obtain⟨b,k2,h⟩:=h.okb (gH _ _)
 obtain⟨z,k3,h⟩:=h.okb (o.nx a b)
 obtain⟨k,k4,h⟩:=h.okb (RV _)
 refine o.ok G2 H2 x y a b _ e2.sub (fX e2 (v1.step e1.tb s2) k1) (fX e2 v2 k2) (by
  rw[k3]
  refine λv G3 H3 w vn=>?_
  obtain⟨e3,s3⟩:=e2.grow w.gw
  have HB:=(s1.trans s2).trans s3
  refine⟨k,RW (K:=t.K) (G:=G3) (H:=H3) (.inl ?_) k4,?_⟩
  .obtain⟨T,fr⟩:=z
   cases fr
   .exact vn
   .obtain⟨_,_,_,_,rfl,_⟩:=vn; cases k4
  split at h <;> rename_i c
  .rw[if_pos c]
   refine dJ e3 HB h λu h w G4 H4 F4 e4 s4 v4=>?_
   obtain⟨b',k5,h⟩:=h.okb (gH _ _)
   obtain⟨c',k6,h⟩:=h.okb (gH _ _)
   obtain⟨z',k7,h⟩:=h.okb (o'.nx b' c')
   exact o'.ok G4 H4 y w b' c' Q e4.sub (fX e4 ((v2.step e2.tb s3).step e3.tb s4) k5) (fX e4 v4 k6) (by rw[k7]; exact λv G' H' w vn=>e4.fin (HB.trans s4) w.gw vn h)
  .rw[if_neg c]
   exact h _ G3 H3 F2 e3 HB (.low (.bl _)))
noncomputable def tH(z:Cq g)(z':Cq g')(a:VE aB)(b:VE bF)(d:VE d_f):VQ (Hz g g' aB bF d_f) where
 ck Γ e:=vL e λx aK aX _=>aN aK λp bB=>aN bB λp' bL=>aO bL (aN aX λy cV=>aN cV λw dK=>aO dK (decide (p=z.o)&&decide (p'=z'.o)&&a.ck Γ x&&b.ck Γ y&&d.ck Γ w && !lastMarks [p,p'] [y,w]))
 cs:=a.cs++(b.cs++d.cs)
 ok q O h:=by
  walk_at "o"
  simp only[an]at h
  obtain⟨⟨⟨⟨⟨h1,h2⟩,h3⟩,h4⟩,h5⟩,h6⟩:=h
  cases of_decide_eq_true h1
  cases of_decide_eq_true h2
  have pa:=a.ok (ml q) O h3
  have pb:=b.ok (ml (mr q)) O h4
  have pd:=d.ok (mr (mr q)) O h5
  have h6:=(Bool.not_eq_true' _).mp h6
  exact⟨(acy (z.p _ (tG O)) (z'.p _ (tG O)) pa pb pd h6).imp λ_ _ _=>SX (z.s _) (z'.s _),(acz (z.p _ (tG O)) (z'.p _ (tG O)) pa pb pd h6).imp λ_ _ _ h=>oW.imp (λ_=>SX (z.s _) (z'.s _)) (vY h)⟩
noncomputable def dX(a:VT aB):VT (Ax aB) where
 ck Γ e:=qF e λaK x _=>iI aK .Not (a.ck Γ x)
 cs:=a.cs
 ok q O h:=by
  walk_at "o"
  exact(abF (a.ok q O h)).imp λ_ _ _=>afa
noncomputable def S5:Expr->Bool
 |.UnaryOp .Not _ _=>false
 |.BoolOp .. => false
 |.IfExp .. => false
 |.Compare .. => false
 |_=>true
theorem afi(h:S5 e=true):∀whole,isTrue e env whole=(do let v <-whole; standAt e.pos; holding [v] (truthy v)):=by
 intro w
 cases e <;> try cases h
 all_goals first|rfl|skip
 next o _ _=>cases o <;> first|rfl|cases h
noncomputable def cW(a:VE aB):VT (Aw aB) where
 ck Γ e:=S5 e&&a.ck Γ e
 cs:=a.cs
 ok q O h:=by
  simp only[an]at h
  refine(acB (a.ok q O h.2) (afi h.1)).imp λσ H Q=>bx λR ρ G F e h=>dJ e .refl h λp h x G1 H1 F1 e1 s1 v1=>?_
  obtain⟨a,k1,h⟩:=h.okb (gH _ _)
  obtain⟨b,k2,h⟩:=h.okb (aeD _)
  exact⟨b,aeE e1.sub (fX e1 v1 k1) k2,h G1 H1 F1 e1 s1⟩
theorem PW.imp(h:PW X e t)(i:∀σ H Q,u σ H Q->t σ H Q):PW X e u:=⟨λwh pins s σ H Q I q=>h.run wh pins s σ H Q I (i σ H Q q)⟩
abbrev VW(b:BoolOp)(f:BF):=Vn λcl E X e=>∀p,PW X (.BoolOp b e p) (Tt (tx cl E X) f)
noncomputable def w1(b:BoolOp)(a:VT aB):VW b (aB) where
 ck Γ e:=aN e λx aK=>aO aK (a.ck Γ x)
 cs:=a.cs
 ok q O h:=by
  walk_at "o"
  exact λp=>by cases b <;> first|exact abB (a.ok q O h)|exact abC (a.ok q O h)
noncomputable def wA(a:VT aB)(r:VW .And cX):VW .And (Hu aB cX) where
 ck Γ e:=aN e λx aK=>aN aK λy l=>a.ck Γ x&&r.ck Γ (y::l)
 cs:=a.cs++r.cs
 ok q O h:=by
  walk_at "o"
  simp only[an]at h
  exact λp=>(abD (a.ok (ml q) O h.1) (r.ok (mr q) O h.2 p)).imp λ_ _ _=>afb
noncomputable def wO(a:VT aB)(r:VW .Or cX):VW .Or (Hv aB cX) where
 ck Γ e:=aN e λx aK=>aN aK λy l=>a.ck Γ x&&r.ck Γ (y::l)
 cs:=a.cs++r.cs
 ok q O h:=by
  walk_at "o"
  simp only[an]at h
  exact λp=>(abE (a.ok (ml q) O h.1) (r.ok (mr q) O h.2 p)).imp λ_ _ _=>afc
noncomputable def tW(b:BoolOp)(r:VW b cX):VT (cX) where
 ck Γ e:=vN e λp l _=>decide (p=b)&&r.ck Γ l
 cs:=r.cs
 ok q O h:=by
  walk_at "o"
  simp only[an]at h
  cases of_decide_eq_true h.1
  exact(r.ok q O h.2 _).pt
abbrev VV(b:BoolOp)(f:EF):=Vn λcl E X e=>∀p,PE X (.BoolOp b e p) (Te (tx cl E X) f)
noncomputable def u1(b:BoolOp)(a:VE aB):VV b (aB) where
 ck Γ e:=aN e λx aK=>aO aK (a.ck Γ x)
 cs:=a.cs
 ok q O h:=by
  walk_at "o"
  exact λp=>abG (a.ok q O h)
noncomputable def uA(a:VE aB)(r:VV .And cX):VV .And (Hw aB cX) where
 ck Γ e:=aN e λx aK=>aN aK λy l=>a.ck Γ x&&r.ck Γ (y::l)
 cs:=a.cs++r.cs
 ok q O h:=by
  walk_at "o"
  simp only[an]at h
  exact λp=>(abH (a.ok (ml q) O h.1) (r.ok (mr q) O h.2 p)).imp λ_ _ _=>afe
noncomputable def uO(a:VE aB)(r:VV .Or cX):VV .Or (Hx aB cX) where
 ck Γ e:=aN e λx aK=>aN aK λy l=>a.ck Γ x&&r.ck Γ (y::l)
 cs:=a.cs++r.cs
 ok q O h:=by
  walk_at "o"
  simp only[an]at h
  exact λp=>(abI (a.ok (ml q) O h.1) (r.ok (mr q) O h.2 p)).imp λ_ _ _=>afg
noncomputable def vV(b:BoolOp)(r:VV b cX):VE (cX) where
 ck Γ e:=vN e λp l _=>decide (p=b)&&r.ck Γ l
 cs:=r.cs
 ok q O h:=by
  walk_at "o"
  simp only[an]at h
  cases of_decide_eq_true h.1
  exact r.ok q O h.2 _
noncomputable def Az(t:VT HD)(a:VE aB)(b:VE bF):VE (vZ HD aB bF) where
 ck Γ e:=zZ e λz x y _=>t.ck Γ z&&a.ck Γ x&&b.ck Γ y
 cs:=t.cs++(a.cs++b.cs)
 ok q O h:=by
  walk_at "o"
  simp only[an]at h
  exact(abK (t.ok (ml q) O h.1.1) (a.ok (ml (mr q)) O h.1.2) (b.ok (mr (mr q)) O h.2)).imp λ_ _ _=>afd
noncomputable def tL:Expr->Bool
 |.Slice .. => false
 |_=>true
theorem Ba(h:tL b=true):QK b:=λo i=>by
 cases b <;> first|rfl|cases h
noncomputable def aq(a:VE aB)(b:VE bF):VE (lK aW aB bF) where
 ck Γ e:=lF e λx y _=>tL y&&a.ck Γ x&&b.ck Γ y
 cs:=a.cs++b.cs
 ok q O h:=by
  walk_at "o"
  simp only[an]at h
  exact(zq zx (a.ok (ml q) O h.1.2) (b.ok (mr q) O h.2) (Ba h.1.1)).imp λ_ _ _=>Av RP
section
variable {t:Tx}{K:FZ}{R:Addr->Prop}{ρ : En}{σ : St}{G H G0 H0 G' H':Hp}{F F0:Fp}{Q:VK}
theorem dH.step(tb:bK K H)(s:aC K G H F G' H' F'):∀{vs:List V} {rs:List Rv},dH K σ Hs G H F vs rs->dH K σ Hs G' H' F' vs rs
 |_,_,.nil=>.nil
 |_,_,.cons h r=>.cons (h.step tb s) (dH.step tb s r)
theorem dH.back(d:∀b,H1 b=none->H b=none):∀{vs:List V} {rs:List Rv},dH K σ H1 G' H' F' vs rs->dH K σ H G' H' F' vs rs
 |_,_,.nil=>.nil
 |_,_,.cons h r=>.cons (h.back d) (dH.back d r)
theorem dH.length:∀{vs:List V} {rs:List Rv},dH K σ Hs G H F vs rs->vs.length=rs.length
 |_,_,.nil=>rfl
 |_,_,.cons _ r=>by rw[List.length_cons,List.length_cons,dH.length r]
noncomputable def drs(ρ : En):List Rv->Rs (List Tr)
 | []=>.ok []
 |r::rs=>(dr ρ r).bind λt=>(drs ρ rs).bind λts=>.ok (t::ts)
theorem Bb{α β : Type}{r:Rs α}{f : α -> Rs β}(h1:∀c,r ≠ .ex c)(h2:∀a c,f a ≠ .ex c)(c:Str):r.bind f ≠ .ex c:=by
 cases r with
 |bad=>intro z; cases z
 |ex d=>exact(h1 d rfl).elim
 |ok a=>exact h2 a c
theorem cu{α β : Type}{r:Rs α}{f : α -> Rs β}{b : β}(h:r.bind f=.ok b):∃a,r=.ok a/\f a=.ok b:=by
 cases r with
 |bad=>cases h
 |ex c=>cases h
 |ok a=>exact⟨a,rfl,h⟩
theorem v5(ρ : En):∀(rs:List Rv) (c:Str),drs ρ rs ≠ .ex c
 | [],c=>by intro z; cases z
 |r::rs,c=>Bb (gH ρ r) (λ_=>Bb (v5 ρ rs) λ_ _ z=>by cases z) c
theorem v7(e:Ok K R ρ σ G H F):∀{vs:List V} {rs:List Rv} {ts:List Tr},dH K σ Hs G H F vs rs->drs ρ rs=.ok ts->m7 K G H vs ts
 |_,_,_,.nil,q=>by cases q; exact .nil
 |_,_,_,.cons h r,q=>by
  obtain⟨t,q1,q⟩:=cu q
  obtain⟨ts,q2,q⟩:=cu q
  cases q
  exact .cons (fX e h q1) (v7 e r q2)
noncomputable def cls:List Rv->Rs (List Tr)
 | []=>.ok []
 |.v t _::rs=>(cls rs).bind λts=>.ok (t::ts)
 |.s _::_=>.bad
theorem v8:∀(rs:List Rv) (c:Str),cls rs ≠ .ex c
 | [],c=>by intro z; cases z
 |.s _::_,c=>by intro z; cases z
 |.v t _::rs,c=>Bb (v8 rs) (λ_ _ z=>by cases z) c
theorem dH.vis(nR:∀b,Hs b=none->¬R b){rs:List Rv}:∀{vs:List V} {ts:List Tr} {G1:Hp},dH K σ Hs G H F vs rs->cls rs=.ok ts->Same G G1->Ok K R ρ σ G1 H F->(∀b,G1 b≠none->G b≠none\/Hs b=none) ->
  ∃G2,Same G1 G2/\Ok K R ρ σ G2 H F/\(∀b,G2 b≠none->G b≠none\/Hs b=none)/\aA K G2 vs ts:=by
 induction rs with
 |nil =>
  intro vs ts G1 h q _ e n
  cases h
  cases q
  exact⟨G1,Same.refl _,e,n,.nil⟩
 |cons r0 rs ih =>
  intro vs ts G1 h q m e n
  cases h with
  |cons h r =>
   cases r0 with
   |s _=>cases q
   |v T fr =>
    obtain⟨ts,q1,q⟩:=cu q
    cases q
    cases fr with
    |false =>
     obtain⟨G2,m2,e2,n2,r2⟩:=ih r q1 m e n
     exact⟨G2,m2,e2,n2,.cons (Rep.mono (m.trans m2) h.1) r2⟩
    |true =>
     obtain⟨⟨a,xs,us,e1,e2,hs,_,ha,ra⟩,f⟩:=h
     obtain⟨e',m'⟩:=e.show ha (f rfl a e1) (nR a hs)
     obtain⟨G2,m2,e3,n2,r2⟩:=ih r q1 (m.trans m') e' λb z=>by
      by_cases y:b=a
      .subst y; exact .inr hs
      .rw[aL y]at z; exact n b z
     subst e1; subst e2
     exact⟨G2,m'.trans m2,e3,n2,.cons (.lst (aG.of (m2 a _ bN)) (ra.mono (m.trans (m'.trans m2)))) r2⟩
theorem Ok.vis(e:Ok K R ρ σ G H F)(e0:Ok K R ρ0 σ0 G0 H0 F0)(s:aC K G0 H0 F0 G H F)(h:dH K σ H0 G H F vs rs)(q:cls rs=.ok ts):∃G2,Ok K R ρ σ G2 H F/\aC K G0 H0 F0 G2 H F/\Same G G2/\aA K G2 vs ts:=by
 obtain⟨G2,m,e2,n,r⟩:=h.vis (λb=>e0.rn) q (Same.refl _) e λb z=>.inl z
 exact⟨G2,e2,⟨s.gg.trans m,s.fr,λb z=>(n b z).elim (s.nw b) λz=>.inr (.inl z),s.nf,s.dm⟩,m,r⟩
noncomputable def tM:Rv->Rs Tr
 |.v T _=>.ok T
 |.s _=>.bad
theorem S6(r:Rv)(c:Str):tM r ≠ .ex c:=by cases r <;> (intro z; cases z)
theorem Ok.tO(e:Ok K R ρ σ G H F)(e0:Ok K R ρ0 σ0 G0 H0 F0)(s:aC K G0 H0 F0 G H F)(h:fB K σ H0 G H F v r)(q:tM r=.ok T):∃G2,Ok K R ρ σ G2 H F/\aC K G0 H0 F0 G2 H F/\Same G G2/\Rep K G2 v T:=by
 cases r with
 |s i=>cases q
 |v U fr =>
  cases q
  obtain⟨G2,e2,s2,m,r⟩:=e.vis (vs:=[v]) e0 s (.cons h .nil) rfl
  cases r with
  |cons r _=>exact⟨G2,e2,s2,m,r⟩
noncomputable def eX:AF:=λρ=>.ok ([],ρ)
noncomputable def dM(f:EF)(g:AF):AF:=λρ=>(f ρ).bind λp=>(g p.2).bind λq=>.ok (p.1::q.1,q.2)
end
noncomputable def ao:VA eX where
 ck _ e:=e.isEmpty
 cs:=[]
 ok:=@λ_ _ _ X e _ _ h=>by
  cases e <;> try cases h
  exact⟨qx.imp λσ H Q=>bx λR ρ G F e h=>h [] G H F e .refl .nil,λρ p h=>(by cases h; rfl),λ_ z=>nomatch z⟩
noncomputable def ak(a:VE aB)(r:VA cX):VA (dM aB cX) where
 ck Γ e:=aN e λx y=>notStar x&&a.ck Γ x&&r.ck Γ y
 cs:=a.cs++r.cs
 ok q O h:=by
  walk_at "o"
  simp only[an]at h
  obtain⟨pb,lb,nb⟩:=r.ok (mr q) O h.2
  exact⟨(mQ (a.ok (ml q) O h.1.2) pb (eG h.1.1)).imp λσ H Q=>bx λR ρ G F e h=>dJ e .refl h λp h x G1 H1 F1 e1 s1 v1=>jE e1 s1 h λq h xs G2 H2 F2 e2 s2 v2=>h (x::xs) G2 H2 F2 e2 (s1.trans s2) (.cons (v1.step e1.tb s2) (v2.back s1.dm)),λρ p q=>(by
   obtain⟨a,q1,q⟩:=cu q
   obtain⟨b,q2,q⟩:=cu q
   cases q
   rw[List.length_cons,lb _ _ q2,List.length_cons]),List.forall_mem_cons.mpr ⟨h.1.1,nb⟩⟩
theorem pG:∀{es:List Expr},(∀x∈es,notStar x=true)->∀env,(backTo pos (starEach es env)).any (·.1)=false
 | [],_,_=>rfl
 |e::es,h,env=>by
  rw[eG (h e (List.mem_cons_self ..))]
  exact pG (λx q=>h x (List.mem_cons_of_mem _ q)) env
noncomputable def S7(g:AF):EF:=λρ=>(g ρ).bind λp=>(cls p.1).bind λts=>if ts.length<=1000 then .ok (.v (.lst ts) true,p.2)else .bad
noncomputable def S8(g:AF):EF:=λρ=>(g ρ).bind λp=>(cls p.1).bind λts=>if ts.length<=1000 then .ok (.v (.tup ts) false,p.2)else .bad
noncomputable def dN(a:VA aB):VE (S8 aB) where
 ck Γ e:=iH e λl _ _=>a.ck Γ l
 cs:=a.cs
 ok q O h:=by
  walk_at "o"
  refine(yX (a.ok q O h).1).imp λσ H Q=>bx λR ρ G F e h=>jE e .refl h λp h vs G1 H1 F1 e1 s1 v1=>?_
  obtain⟨ts,k1,h⟩:=h.okb (v8 _)
  obtain⟨G2,e2,s2,_,r⟩:=e1.vis e s1 v1 k1
  split at h
  .exact⟨by rw[r.length]; exact Nat.le_trans ‹_› (by decide),λp hp=>e2.fin s2 (.new e2.sub hp) (.newT e2.sub hp r) h⟩
  .exact h.elim
noncomputable def cA(a:VA aB):VE (S7 aB) where
 ck Γ e:=tB e λl _=>a.ck Γ l
 cs:=a.cs
 ok q O h:=by
  walk_at "o"
  refine(EY (a.ok q O h).1).imp λσ H Q=>bx λR ρ G F e h=>jE e .refl h λp h vs G1 H1 F1 e1 s1 v1=>?_
  obtain⟨ts,k1,h⟩:=h.okb (v8 _)
  obtain⟨G2,e2,s2,_,r⟩:=e1.vis e s1 v1 k1
  split at h
  .exact⟨by rw[r.length]; exact Nat.le_trans ‹_› (by decide),λp hp=>e2.fin s2 (.flt e2.sub hp) (.flt e2.sub hp r) h⟩
  .exact h.elim
open Classical in
noncomputable def qL(G H0:Hp):Hp->Hp:=λH b=>if H0 b=none then H b else if H b=G b then G b else none
theorem Bc(G H0:Hp):Pj (qL G H0) H0:=⟨λs b o h=>(by
  unfold qL at h ⊢
  split at h
  .rw[if_pos ‹_›]; exact s b o h
  .rw[if_neg ‹_›]
   split at h
   .rename_i e
    rw[h]at e ⊢
    rw[if_pos (s b o e)]
   .cases h),λH b o h=>(by
  unfold qL at h
  split at h
  .exact h
  .split at h
   .rw[‹H b=G b›]; exact h
   .cases h),λs h=>by
  unfold qL
  rw[if_pos (s.free h),bN]⟩
theorem HF{K:FZ}(g:Same G H)(s:Same H H'):Gw K G H (qL G H H') H':=⟨λb o h=>by
  have q:=s b o (g b o h)
  unfold qL
  rw[if_neg (by rw[g b o h]; exact λz=>by cases z),q,h]
  exact if_pos rfl,λb o h _=>s b o h,(Bc G H).sub H',λt=>t.fr λb o _ h=>s b o h,λb h=>by
  unfold qL at h
  split at h
  .exact .inr ‹_›
  .split at h
   .exact .inl h
   .exact(h rfl).elim⟩
noncomputable def Nk(Ts:List Tr):EF:=λρ=>.ok (.v (.lst Ts) true,ρ)
mutual
noncomputable def S9:Tr->Tr->Bool
 |.non,.non=>true
 |.bl a,.bl b=>a == b
 |.int a,.int b=>decide (a=b)
 |.str a,.str b=>a == b
 |.tup a,.tup b=>wg a b
 |.lst a,.lst b=>wg a b
 |_,_=>false
noncomputable def wg:List Tr->List Tr->Bool
 | [],[]=>true
 |a::l,b::m=>S9 a b&&wg l m
 |_,_=>false
end
mutual
theorem afj:∀{a b:Tr},S9 a b=true->a=b
 |.non,b,h=>by cases b <;> first|rfl|cases h
 |.bl a,b,h=>by cases b <;> first|cases h; done|rw[eq_of_beq h]
 |.int a,b,h=>by cases b <;> first|cases h; done|rw[of_decide_eq_true h]
 |.str a,b,h=>by cases b <;> first|cases h; done|rw[eq_of_beq h]
 |.tup a,b,h=>by cases b <;> first|cases h; done|rw[Bf h]
 |.lst a,b,h=>by cases b <;> first|cases h; done|rw[Bf h]
 |.bQ a,b,h=>by cases h
theorem Bf:∀{a b:List Tr},wg a b=true->a=b
 | [],[],_=>rfl
 |a::l,b::m,h=>by
  obtain⟨h1,h2⟩:=an.mp h
  rw[afj h1,Bf h2]
end
noncomputable def Bg:Option (List Tr)->List Tr->Bool
 |some Us,Ts=>wg Us Ts
 |none,_=>false
theorem HJ(h:Bg o Ts=true):o=some Ts:=by
 cases o <;> first|cases h; done|rw[Bf h]
noncomputable def lM(Ts:List Tr):VE (eC (.tup Ts)) where
 ck _ e:=iH e λl _ _=>Bg (fY l) Ts
 cs:=[]
 ok:=@λ_ _ _ X e _ _ h=>by
  walk_at "o"
  refine(R4 (G:=au X.K) (HJ h)).imp λσ H Q ⟨R,ρ,G,F,e,h⟩ v H' s r=>?_
  exact e.fin .refl (HF e.sub s) (show VN _ _ _ _ _ _ false from r _ (Bc _ _)) h
noncomputable def wk(Ts:List Tr):VE (Nk Ts) where
 ck _ e:=tB e λl _=>Bg (fY l) Ts
 cs:=[]
 ok:=@λ_ _ _ X e _ _ h=>by
  walk_at "o"
  refine(aeO (G:=au X.K) (HJ h)).imp λσ H Q ⟨R,ρ,G,F,e,h⟩ a xs H1 s ha r _=>?_
  obtain⟨e1,s1⟩:=e.grow (HF e.sub s)
  exact e1.fin s1 (.flt e1.sub ha) (.flt e1.sub ha (r _ (Bc _ _))) h
noncomputable def yw:OF:=λρ=>.ok (none,ρ)
noncomputable def Bh(fa:EF):OF:=λρ=>(fa ρ).bind λp=>(dr p.2 p.1).bind λa=>(vJ a).bind λb=>.ok (some b,p.2)
noncomputable def oN:VO yw where
 ck _ e:=e.isNone
 cs:=[]
 ok:=@λ_ _ _ X e _ _ h=>by
  cases e <;> try cases h
  exact ac4.imp λσ H Q=>bx λR ρ G F e h=>h G H F e .refl
noncomputable def oS(a:VE aB):VO (Bh aB) where
 ck Γ e:=pC e λx=>a.ck Γ x
 cs:=a.cs
 ok q O h:=by
  walk_at "o"
  refine(ac5 (a.ok q O h)).imp λσ H Q=>bx λR ρ G F e h=>dJ e .refl h λp h x G1 H1 F1 e1 s1 v1=>?_
  obtain⟨a,k1,h⟩:=h.okb (gH _ _)
  obtain⟨b,k2,h⟩:=h.okb (GQ _)
  exact⟨b,zX (fX e1 v1 k1) k2,h G1 H1 F1 e1 s1⟩
noncomputable def cut{α : Type}(xs:List α)(lo hi:Option Int):List α := (xs.drop (HT.aR xs.length 0 lo)).take (HT.aR xs.length xs.length hi-HT.aR xs.length 0 lo)
theorem aA.cut{K:FZ}{H:Hp}{xs:List V}{ts:List Tr}(r:aA K H xs ts)(lo hi:Option Int):aA K H (oZ xs lo hi) (L2.cut ts lo hi):=by
 unfold oZ L2.cut
 rw[r.length]
 exact(r.drop _).take _
noncomputable def Tc(K:FZ):V->Option Int->Option Int->Hp->VK->Prop:=λx lo hi H Q=>QW K x lo hi H Q\/QD K x lo hi H Q
theorem afk:mR X (Tc X.K):=mR.or adl ac7
noncomputable def mJ(lo hi:Option Int):G1
 |.lst ts=>.ok (.lst (cut ts lo hi),true)
 |.tup ts=>if ¬(HT.aR ts.length 0 lo=0/\HT.aR ts.length ts.length hi=ts.length)then .ok (.tup (cut ts lo hi),false)else .bad
 |_=>.bad
theorem Td{K:FZ}(lo hi:Option Int):lD (au K) (λx H Q=>Tc K x lo hi H Q) (mJ lo hi):=⟨λa c=>by unfold mJ; (repeat' split) <;> (intro z; cases z),λG H x a Q s rx h=>by
 cases a <;> try exact h.elim
 .dsimp only[mJ]at h
  split at h
  .obtain⟨b,xs,rfl,q,r⟩:=rx.tup s
   exact .inr ⟨b,xs,rfl,q.toK,by rw[r.length]; assumption,λy hy=>h _ _ _ (.new s hy) (.newT s hy (r.cut _ _))⟩
  .exact h.elim
 .obtain⟨b,xs,rfl,q,r⟩:=rx.lst s
  exact .inl ⟨b,xs,rfl,q.toK,λy hy=>h _ _ _ (.flt s hy) (.flt s hy (r.cut _ _))⟩⟩
noncomputable def Bj(fa:EF)(fl fh:OF):EF:=λρ=>(fa ρ).bind λp=>(fl p.2).bind λl=>(fh l.2).bind λh=>(dr h.2 p.1).bind λa=>(mJ l.1 h.1 a).bind λz=>.ok (.v z.1 z.2,h.2)
noncomputable def tQ(a:VE aB)(l:VO l_f)(r:VO cX):VE (Bj aB l_f cX) where
 ck Γ e:=lF e λx aK _=>z6 aK λy z aX _=>qI aX (a.ck Γ x&&l.ck Γ y&&r.ck Γ z)
 cs:=a.cs++(l.cs++r.cs)
 ok q O h:=by
  walk_at "o"
  simp only[an]at h
  refine(ac6 afk (a.ok (ml q) O h.1.1) (l.ok (ml (mr q)) O h.1.2) (r.ok (mr (mr q)) O h.2)).imp λσ H Q=>bx λR ρ G F e h=>dJ e .refl h λp h x G1 H1 F1 e1 s1 v1=>RK e1 s1 h λl h G2 H2 F2 e2 s2=>RK e2 (s1.trans s2) h λu h G3 H3 F3 e3 s3=>?_
  obtain⟨a,k1,h⟩:=h.okb (gH _ _)
  obtain⟨z,k2,h⟩:=h.okb ((Td (K:=[]) _ _).nx _)
  exact(Td l.1 u.1).ok G3 H3 x a Q e3.sub (fX e3 (v1.step e1.tb (s2.trans s3)) k1) (by rw[k2]; exact λv G' H' w vn=>e3.fin ((s1.trans s2).trans s3) w.gw vn h)
noncomputable def nF(Γ : Gx)(x:Str)(as:VA jG):Expr->Bool
 |.Call (.Name y _) (e::es) [] _=>y == x&&jF Γ x&&as.ck Γ (e::es)
 |_=>false
theorem qN(h:nF Γ x as e=true):∃p a es q,e=.Call (.Name x p) (a::es) [] q/\jF Γ x=true/\as.ck Γ (a::es)=true:=by
 unfold nF at h
 split at h
 case h_2=>cases h
 simp only[an]at h
 cases eq_of_beq h.1.1
 exact⟨_,_,_,_,rfl,h.1.2,h.2⟩
noncomputable def nH(g:GN)(fa:AF):EF:=λρ=>(fa ρ).bind λp=>(drs p.2 p.1).bind λas=>(g as).bind λz=>.ok (.v z.1 z.2,p.2)
theorem Tf{t:Tx}(o:Gn t.K r g)(h:Te t (nH g fa) σ H Q):zf r (Ta t fa) σ H Q:=by
 obtain⟨R,ρ,G,F,e,h⟩:=h
 refine jE e .refl h λp h xs G1 H1 F1 e1 s1 v1=>?_
 obtain⟨as,k1,h⟩:=h.okb (v5 _ _)
 obtain⟨z,k3,h⟩:=h.okb (o.nx as)
 exact o.ok G1 H1 xs as Q e1.sub (v7 e1 v1 k1) (by rw[k3]; exact λv G' H' w vn=>e1.fin s1 w.gw vn h)
noncomputable def vB(x:Str)(u:Value)(r:FZ->List V->Hp->VK->Prop)(g:List Tr->Rs (Tr × Bool))(hv:bootBuiltins x=some u/\x ≠ "__name__" /\ ((∃i,u=.builtin i)\/∃i,u=.type i)) (hp:∀{cl Γ E X},Ox cl Γ E X->fL X u (r X.K)) (hs:∀K,Gn (au K) (r K) g) (as:VA jG):VE (nH g jG) where
 ck Γ e := Γ.B.contains x&&nF Γ x as e
 cs:=as.cs
 ok q o h:=by
  obtain⟨h1,h⟩:=an.mp h
  obtain⟨p,a,es,p',rfl,h2,h3⟩:=qN h
  obtain⟨pa,la,na⟩:=as.ok q o h3
  obtain⟨hv1,hv2,⟨i,rfl⟩|⟨i,rfl⟩⟩:=hv
  .exact(Qy (hp o) (dh o h2).1 (o.B x (by simpa using h1)) hv1 pa hv2 (dh o h2).2 (eG (na _ (List.mem_cons_self ..))) (pG (λy m=>na y (List.mem_cons_of_mem _ m)) _)).imp λ_ _ _=>Tf (hs _)
  .exact(acK (hp o) (dh o h2).1 (o.B x (by simpa using h1)) hv1 pa hv2 (dh o h2).2 (eG (na _ (List.mem_cons_self ..))) (pG (λy m=>na y (List.mem_cons_of_mem _ m)) _)).imp λ_ _ _=>Tf (hs _)
noncomputable def Tj(c:Ty)(fa:EF):EF:=λρ=>(fa ρ).bind λp=>(dr p.2 p.1).bind λa=>.ok (eB (sG a c),p.2)
noncomputable def Bl(x:Str)(ty:Ty)(hb:bootBuiltins x=some (.type ty.name)/\x ≠ "__name__") (a:VE aB):VE (Tj ty aB) where
 ck Γ e:=eH e λaK aX bB _=>atName aK λy _=>aN aX λb bL=>aN bL λcV dK=>atName cV λz _=>aO dK (aO bB (y == ("isinstance" : Str)&&jF Γ y&&z == x&&jF Γ z&&Γ.B.contains y&&Γ.B.contains z&&a.ck Γ b&&notStar b))
 cs:=a.cs
 ok q o h:=by
  walk_at "o"
  simp only[an]at h
  obtain⟨⟨⟨⟨⟨⟨⟨h1,h2⟩,h3⟩,h4⟩,h5⟩,h6⟩,h7⟩,h8⟩:=h
  cases eq_of_beq h1
  cases eq_of_beq h3
  refine(adH o.x ty (a.ok q o h7) (o.B _ (by simpa using h5)) (o.B _ (by simpa using h6)) hb.1 (dh o h2).1 (dh o h4).1 hb.2 (dh o h4).2 (eG h8)).imp λσ H Q=>bx λR ρ G F e h=>dJ e .refl h λp h x G1 H1 F1 e1 s1 v1=>?_
  obtain⟨a,k1,h⟩:=h.okb (gH _ _)
  exact⟨x,a,ty,rfl,((fX e1 v1 k1).rep e1.sub).toK,h _ G1 H1 F1 e1 s1 (.low (.bl _))⟩
def qP(G G':Hp):Prop:=∀b o,(∀xs,o ≠ .lst xs)->G b=some o->G' b=some o
theorem qP.iC{K:FZ}{G G':Hp}(m:qP G G')(h:bw K G a xs):bw K G' a xs:=by
 rcases h with(h|⟨o,h⟩)|h
 .exact .inl (.inl (m _ _ (λ_ z=>by cases z) h))
 .exact .inl (.inr ⟨o,m _ _ (λ_ z=>by cases z) h⟩)
 .exact .inr h
theorem Tn{K:FZ}{G G':Hp}(m:qP G G'):(∀{v T},Rep K G v T->bh T=true->Rep K G' v T)/\∀{vs Ts},aA K G vs Ts->bD Ts=true->aA K G' vs Ts:=by
 refine Rep.both (λ_=>.non) (λb _=>.bl b) (λi _=>.int i) (λx _=>.str x) (λa xs ts h q n=>?_) (λa xs ts h q n=>?_) (λa C c h k n _=>.bQ (m _ _ (λ_ z=>by cases z) h) k n) (λ_=>.nil) λx t xs ts p q n=>?_
 .exact .tup (m.iC h) (q (by unfold bh at n; exact n))
 .unfold bh at n; cases n
 .unfold bD at n
  obtain⟨n1,n2⟩:=an.mp n
  exact .cons (p n1) (q n2)
theorem Rep.flat{K:FZ}{G G':Hp}(m:qP G G'){v:V}{T:Tr}(h:Rep K G v T)(n:bh T=true):Rep K G' v T:=(Tn m).1 h n
theorem aA.flat{K:FZ}{G G':Hp}(m:qP G G'){v:List V}{T:List Tr}(h:aA K G v T)(n:bD T=true):aA K G' v T:=(Tn m).2 h n
noncomputable def wL(G H:Hp):Hp:=λb=>match G b with
 |some o=>some o
 |none=>match H b with
  |some (.lst xs)=>some (.lst xs)
  |_=>none
theorem tR(h:G b=some o):wL G H b=some o:=by unfold wL; rw[h]
theorem qQ(h:wL G H b=some o):G b=some o\/G b=none/\H b=some o/\∃xs,o=.lst xs:=by
 unfold wL at h
 split at h
 .exact .inl (by rw[<-h]; assumption)
 .split at h <;> cases h
  exact .inr ⟨‹_›,‹_›,_,rfl⟩
theorem Tp(h:H b=some (.lst xs))(n:G b=none):wL G H b=some (.lst xs):=by unfold wL; rw[n,h]
noncomputable def wB(G H G':Hp):Hp:=λb=>match wL G H b with
 |some _=>G b
 |none=>G' b
noncomputable def pH:Rv->Bool
 |.s _=>true
 |_=>false
noncomputable def fK(z:Tr × Bool):Bool:=bh z.1 || (z.2&&(match z.1 with
 |.lst us=>bD us
 |_=>false))
section
variable {K:FZ}{G H G' H':Hp}
theorem HN(s:Same G H)(w:Gw K (wL G H) H G' H'):Gw K G H (wB G H G') H':=by
 have low:Same (wB G H G') G':=λb o h=>by
  unfold wB at h
  split at h
  .exact w.gg b o (tR h)
  .exact h
 refine⟨λb o h=>by unfold wB; rw[tR h]; exact h,w.hh,low.trans w.sub,w.tb,λb h=>?_⟩
 cases q:G b with
 |some o=>exact .inl λz=>by cases z
 |none =>
  unfold wB at h
  split at h
  .exact(h q).elim
  .rename_i z
   exact .inr ((w.nw b h).elim (λy=>(y z).elim) id)
theorem Bm(w:Gw K (wL G H) H G' H'):qP G' (wB G H G'):=λb o n h=>by
 unfold wB
 split
 .rename_i u z
  have y:=w.gg b _ z
  rw[h]at y
  cases y
  rcases qQ z with z|⟨_,_,xs,z⟩
  .exact z
  .exact(n xs z).elim
 .exact h
theorem VN.flat(s:Same G H)(w:Gw K (wL G H) H G' H')(h:VN K H G' H' v T fr)(f:fK (T,fr)=true):VN K H (wB G H G') H' v T fr:=by
 cases fr with
 |false=>exact Rep.flat (Bm w) h (by simpa[fK]using f)
 |true =>
  obtain⟨a,xs,ts,e1,rfl,e3,e4,e5,r⟩:=h
  refine⟨a,xs,ts,e1,rfl,e3,?_,e5,r.flat (Bm w) (by simpa[fK,bh]using f)⟩
  unfold wB
  split
  .exact s.free e3
  .exact e4
theorem m7.reps(s:Same G H):∀{vs:List V} {ts:List Tr},m7 K G H vs ts->aA K (wL G H) vs ts
 |_,_,.nil=>.nil
 |_,_,.cons (.inl h) r=>.cons (h.mono λ_ _=>tR) (m7.reps s r)
 |_,_,.cons (.inr ⟨a,xs,ts,e1,e2,q,r0⟩) r=>by
  subst e1 e2
  refine .cons (.lst (aG.of ?_) (r0.mono λ_ _=>tR)) (m7.reps s r)
  cases z:G a with
  |none=>exact Tp q z
  |some o=>have y:=s a o z; rw[q]at y; cases y; exact tR z
end
theorem Tz:∀{rs:List Rv} {ts:List Tr},drs ρ rs=.ok ts->rs.any pH=false->cls rs=.ok ts
 | [],_,h,_=>h
 |.s _::_,_,_,n=>by simp[pH]at n
 |.v T fr::rs,_,h,n=>by
  obtain⟨ts,q2,q⟩:=cu (show((drs ρ rs).bind _)=_ from h)
  cases q
  unfold cls
  rw[Tz q2 (by simpa[pH]using n)]
  rfl
noncomputable def jH(f:FP)(fa:AF):EF:=λρ=>(fa ρ).bind λp=>(drs p.2 p.1).bind λas=>(f as).bind λz=>if p.1.any pH=true/\fK z=false then .bad else .ok (.v z.1 z.2,p.2)
theorem Fr.none{K:FZ}(h:Fr K H (λ_=>[]) H'):Fr K H F H':=⟨λb o q _=>h.fr b o q λ⟨_,z⟩=>(by cases z),h.tb⟩
theorem afl(hn:∀ρ p,fa ρ=.ok p->p.1.length=n)(h:Te (tx cl E X) (jH f fa) σ H Q):Fb (pD X.K cl n f) [] E (Ta (tx cl E X) fa) σ H Q:=by
 obtain⟨R,ρ,G,F,e,h⟩:=h
 cases ek:fa ρ with
 |bad=>rw[jH,ek]at h; exact h.elim
 |ex c=>exact⟨R,ρ,G,F,e,by rw[jH,ek]at h; rw[ek]; exact h⟩
 |ok p =>
 refine⟨R,ρ,G,F,e,?_⟩
 simp only[jH,ek,Rs.bind]at h
 rw[ek]
 intro vs G1 H1 F1 e1 s1 v1
 obtain⟨as,k1,h⟩:=h.okb (v5 _ _)
 show pD X.K cl n f (vs++[]) H1 Q E
 rw[List.append_nil]
 have fin:∀Gc,aA (au X.K) Gc vs as->Same Gc H1->(∀b,Tb (au X.K) b->Gc b=none)->(∀z,f as=.ok z->∀v G' H',Gw (au X.K) Gc H1 G' H'->VN (au X.K) H1 G' H' v z.1 z.2->Q v H')->pD X.K cl n f vs H1 Q E:=λGc r s tg k=>by
  refine⟨Gc,as,by rw[v1.length,hn ρ p ek],r,s,e1.tb,tg,?_⟩
  cases ef:f as with
  |bad=>rw[ef]at h; exact h.elim
  |ex c=>rw[ef]at h; exact λH' q=>h H' (s1.back q.none)
  |ok z=>exact k z ef
 by_cases a:p.1.any pH=true
 .refine fin (wL G1 H1) ((v7 e1 v1 k1).reps e1.sub) (λb o q=>(qQ q).elim (e1.sub b o) λq=>q.2.1) (λb t=>?_) λz ef v G' H' w vn=>?_
  .cases q:wL G1 H1 b with
   |none=>rfl
   |some o =>
    rcases qQ q with q|⟨_,q,xs,rfl⟩
    .rw[e1.tg b t]at q; cases q
    .exact(e1.tb.nt q t).elim
  .simp only[ef,Rs.bind]at h
   split at h
   .exact h.elim
   .rename_i c
    exact e1.fin s1 (HN e1.sub w) (vn.flat e1.sub w (by cases q:fK z with|true=>rfl|false=>exact(c ⟨a,q⟩).elim)) h
 .obtain⟨G2,e2,s2,_,r⟩:=e1.vis e s1 v1 (Tz k1 (by simpa using a))
  refine fin G2 r e2.sub e2.tg λz ef v G' H' w vn=>?_
  simp only[ef,Rs.bind]at h
  rw[if_neg λy=>a y.1]at h
  exact e2.fin s2 w vn h
noncomputable def vF(x:Str)(ps:List Str)(f:FP)(l:Nat)(as:VA jG):VE (jH f jG) where
 ck Γ e:=eH e λ_ m _ _=>m.length == ps.length&&decide (l <= Γ.k)&&nF Γ x as e
 cs:=.fn x ps f l::as.cs
 ok q o h:=by
  obtain⟨_,_,_,_,e0,h⟩:=yu h
  subst e0
  simp only[an]at h
  obtain⟨⟨h1,h0⟩,h⟩:=h
  obtain⟨p,a,es,p',e',h2,h3⟩:=qN h
  cases e'
  obtain⟨D,q⟩:=List.forall_mem_cons.mp q
  obtain⟨pa,la,na⟩:=as.ok q o h3
  rw[eq_of_beq h1]at la
  obtain⟨d,fd,d1,d2,d3,d4⟩:=jC.mono D (of_decide_eq_true h0)
  exact(Qp d1 o.r (dh o h2).1 d4 d3 d2 .nil o.e pa (dh o h2).2 (eG (na _ (List.mem_cons_self ..))) (pG (λy m=>na y (List.mem_cons_of_mem _ m)) _)).imp λ_ _ _=>afl la
noncomputable def dz(F:Fp)(i:Nat)(f:List Addr):Fp:=λj=>if j=i then f else F j
theorem pI(h:Fn (dz F i f) b):b∈f\/∃j,j≠i/\b∈F j:=by
 obtain⟨j,h⟩:=h
 unfold dz at h
 split at h
 .exact .inl h
 .exact .inr ⟨j,‹_›,h⟩
section
variable {t:Tx}{K:FZ}{R:Addr->Prop}{ρ ρ':En}{σ σ':St}{G H G0 H0 G' H':Hp}{F F0 F':Fp}{Q:VK}
theorem Ok.one(e:Ok K R ρ σ G H F)(i:Nat)(f:List Addr)(len : ρ'.length = σ'.length)(ne:∀j,j≠i -> ρ'[j]?=ρ[j]? /\ σ'[j]?=σ[j]?)(gg:Same G G')(sub:Same G' H')(tb:bK K H')(hG:∀b,G' b≠none->G b≠none\/(∀j,j≠i->b∉F j)/\¬Tb K b/\¬R b)
  (hh:∀j,j≠i->∀b∈F j,∀o,H b=some o->H' b=some o) (hr:∀b,R b->H' b≠none) (hf:∀b∈f,G' b=none/\∀j,j≠i->b∉F j) (si:mZ K R G' H' σ'[i]? f ρ'[i]?):Ok K R ρ' σ' G' H' (dz F i f):=by
 have no:∀b,G b=none->(∃j,j≠i/\b∈F j)\/Tb K b\/R b->G' b=none:=λb q c=>by
  cases z:G' b with
  |none=>rfl
  |some o =>
   rcases hG b (by rw[z]; exact λz=>by cases z)with y|⟨y1,y2,y3⟩
   .exact(y q).elim
   .rcases c with⟨j,c1,c2⟩|c|c
    .exact(y1 j c1 c2).elim
    .exact(y2 c).elim
    .exact(y3 c).elim
 refine⟨len,sub,tb,λb t=>no b (e.tg b t) (.inr (.inl t)),λb h=>?_,λb h=>⟨no b (e.rg b h).1 (.inr (.inr h)),hr b h⟩,λj k b h1 h2=>?_,λj=>?_⟩
 .rcases pI h with h|⟨j,n,h⟩
  .exact(hf b h).1
  .exact no b (e.hid b ⟨j,h⟩) (.inl ⟨j,n,h⟩)
 .unfold dz at h1 h2
  split at h1 <;> split at h2
  .rw[‹j=i›,‹k=i›]
  .exact((hf b h1).2 k ‹_› h2).elim
  .exact((hf b h2).2 j ‹_› h1).elim
  .exact e.di j k b h1 h2
 .unfold dz
  split
  .rw[‹j=i›]; exact si
  .rw[(ne j ‹_›).1,(ne j ‹_›).2]
   exact(e.sl j).mono gg (hh j ‹_›)
theorem eN{α : Type}{l:List α}{a : α}(h:j≠i):(l.set i a)[j]?=l[j]? := List.getElem?_set_ne (Ne.symm h)
theorem dY{α : Type}{l:List α}{a : α}(h:i<l.length):(l.set i a)[i]?=some a:=by
 rw[List.getElem?_set_self',List.getElem?_eq_getElem h]
 rfl
theorem tU{α : Type}{l:List α}{a : α}(h:¬i<l.length):l.set i a=l:=List.set_eq_of_length_le (Nat.le_of_not_lt h)
theorem aC.sub(h:∀b,Fn F' b->Fn F b):aC K G H F G H F':=⟨Same.refl _,λ_ _ h _ _=>h,λ_ h=>.inl h,λb z=>.inr (h b z),λ_ h=>h⟩
theorem Ok.wu(e:Ok K R ρ σ G H F)(i:Nat)(r:Rep K G v T):∃F',Ok K R (ρ.set i (.sh T)) (σ.set i (some v)) G H F'/\∀b,Fn F' b->Fn F b:=by
 by_cases l:i < ρ.length
 .refine⟨dz F i [],e.one i [] (by rw[List.length_set,List.length_set,e.len]) (λj n=>⟨eN n,eN n⟩) (Same.refl _) e.sub e.tb (λb h=>.inl h) (λ_ _ _ _ _ h=>h) (λb h=>(e.rg b h).2) (λb h=>by cases h) ?_,λb h=>?_⟩
  .rw[dY l,dY (e.len▸l)]
   exact⟨rfl,v,rfl,r⟩
  .rcases pI h with h|⟨j,_,h⟩
   .cases h
   .exact⟨j,h⟩
 .rw[tU l,tU (e.len▸l)]
  exact⟨F,e,λb h=>h⟩
theorem Ok.afm(e:Ok K R ρ σ G H F)(i:Nat)(h:H a=some (.lst xs))(g:G a=none)(n:¬Fn F a)(nR:¬R a)(r:aA K G xs ts):∃F',Ok K R (ρ.set i (.ow ts)) (σ.set i (some (.ref a))) G H F'/\∀b,Fn F' b->b=a\/Fn F b:=by
 by_cases l:i < ρ.length
 .refine⟨dz F i [a],e.one i [a] (by rw[List.length_set,List.length_set,e.len]) (λj n=>⟨eN n,eN n⟩) (Same.refl _) e.sub e.tb (λb h=>.inl h) (λ_ _ _ _ _ h=>h) (λb h=>(e.rg b h).2) (λb h=>?_) ?_,λb h=>?_⟩
  .cases List.mem_singleton.mp h
   exact⟨g,λj _ z=>n ⟨j,z⟩⟩
  .rw[dY l,dY (e.len▸l)]
   exact⟨a,xs,rfl,rfl,nR,h,r⟩
  .rcases pI h with h|⟨j,_,h⟩
   .exact .inl (List.mem_singleton.mp h)
   .exact .inr ⟨j,h⟩
 .rw[tU l,tU (e.len▸l)]
  exact⟨F,e,λb h=>.inr h⟩
noncomputable def con(ρ : En)(i:Nat):Rs (List Tr):=match ρ[i]? with
 |some (.ow ts)=>.ok ts
 |some (.rf ts)=>.ok ts
 |_=>.bad
theorem wz(ρ : En)(i:Nat)(c:Str):con ρ i ≠ .ex c:=by
 unfold con
 split <;> (intro z; cases z)
noncomputable def cM(i:Nat)(us:List Tr)(ρ : En):En:=match ρ[i]? with
 |some (.ow _)=>ρ.set i (.ow us)
 |some (.rf _)=>ρ.set i (.rf us)
 |_=>ρ
theorem Ok.con(e:Ok K R ρ σ G H F)(q:con ρ i=.ok ts):∃a xs,σ[i]?=some (some (.ref a))/\F i=[a]/\H a=some (.lst xs)/\aA K G xs ts:=by
 have z:=e.sl i
 unfold L2.con at q
 split at q <;> rename_i k <;> cases q <;> (rw[k]at z; obtain⟨a,xs,h1,h2,_,h3,h4⟩:=z; exact⟨a,xs,h1,h2,h3,h4⟩)
theorem HS(h:j≠i):(cM i ts ρ)[j]?=ρ[j]? := by
 unfold cM
 split
 .exact eN h
 .exact eN h
 .rfl
theorem HW:(cM i us ρ).length = ρ.length:=by
 unfold cM
 split
 .rw[List.length_set]
 .rw[List.length_set]
 .rfl
theorem Ok.mov(e:Ok K R ρ σ G H F)(q:L2.con ρ i=.ok ts)(f:F i=[a])(g:Gw K G (upd H a (.lst ys)) G' H')(hx:H' a=some (.lst xs))(r:aA K G' xs us):Ok K R (cM i us ρ) σ G' H' F/\aC K G H F G' H' F:=by
 have ha:Fn F a:=⟨i,by rw[f]; exact List.mem_singleton.mpr rfl⟩
 obtain⟨zs,hz⟩:=e.fl ha
 have ne:∀b o,H b=some o->b≠a->¬Tb K b->H' b=some o:=λb o h n t=>g.hh b o (by rw[aL n]; exact h) t
 have nn:∀b,upd H a (.lst ys) b=none->H b=none:=λb h=>by
  by_cases z:b=a
  .subst z; rw[bN]at h; cases h
  .rw[aL z]at h; exact h
 have tb:=g.tb (e.tb.upd hz)
 have dm:∀b,H' b=none->H b=none:=λb h=>by
  cases q:H b with
  |none=>rfl
  |some o =>
   by_cases z:b=a
   .subst z; rw[hx]at h; cases h
   .by_cases t:Tb K b
    .obtain⟨ps,y⟩:=tb.cJ t; rw[h]at y; cases y
    .rw[ne b o q z t]at h; cases h
 have nw:∀b,G' b≠none->G b≠none\/H b=none:=λb h=>(g.nw b h).imp id (nn b)
 have eF:dz F i [a]=F:=by funext j; unfold dz; split <;> first|rfl|rw[‹j=i›,f]
 refine⟨eF▸e.one i [a] (by rw[HW,e.len]) (λj n=>⟨HS n,rfl⟩) g.gg g.sub tb (λb h=>(nw b h).imp id λz=>⟨λj _ y=>e.fs z ⟨j,y⟩,λt=>?_,e.rn z⟩) (λj n b hb o h=>?_) (λb h z=>(e.rg b h).2 (dm b z)) (λb h=>?_) ?_,g.gg,λb o h n t=>ne b o h (λz=>n (z▸ha)) t,λb h=>(nw b h).imp id .inl,λb h=>.inr h,dm⟩
 .obtain⟨ps,y⟩:=e.tb.cJ t; rw[z]at y; cases y
 .obtain⟨us,q⟩:=e.fl ⟨j,hb⟩
  exact ne b o h (λz=>n (e.di j i b hb (by rw[f,z]; exact List.mem_singleton.mpr rfl))) (e.tb.nt q)
 .cases List.mem_singleton.mp h
  refine⟨?_,λj n z=>n (e.di j i a z (by rw[f]; exact List.mem_singleton.mpr rfl))⟩
  cases q:G' a with
  |none=>rfl
  |some o=>exact((nw a (by rw[q]; exact λz=>by cases z)).elim (λz=>z (e.hid a ha)) λz=>by rw[hz]at z; cases z).elim
 .have z:=e.sl i
  unfold L2.con at q
  unfold cM
  split at q <;> rename_i k <;> cases q <;>
  .rw[k]at z
   obtain⟨b,_,h1,h2,h3,_⟩:=z
   rw[f]at h2
   cases h2
   rw[dY (List.getElem?_eq_some_iff.mp k).1]
   exact⟨a,xs,h1,rfl,h3,hx,r⟩
theorem Ok.put(e:Ok K R ρ σ G H F)(q:L2.con ρ i=.ok ts)(f:F i=[a])(r:aA K G xs us):Ok K R (cM i us ρ) σ G (upd H a (.lst xs)) F/\aC K G H F G (upd H a (.lst xs)) F:=by
 refine e.mov q f (ys:=xs) (.refl λb o h=>?_) bN r
 rw[aL λz=>?_]
 .exact e.sub b o h
 .rw[z,e.hid a ⟨i,by rw[f]; exact List.mem_singleton.mpr rfl⟩]at h
  cases h
end
abbrev GM:=List Tr->List Tr->Rs (List Tr × Tr)
structure HX(r:V->List V->Hp->VK->Prop)(m:GM):Prop where
 nx:∀ts as c,m ts as ≠ .ex c
 ok:∀(K:FZ) (G:Hp) a xs ts vs as H Q ts' T,H a=some (.lst xs)->aA K G xs ts->aA K G vs as->m ts as=.ok (ts',T)->(∀xs' v,aA K G xs' ts'->Rep K G v T->Q v (upd H a (.lst xs')))->r (.ref a) vs H Q
noncomputable def Bo(i:Nat)(m:GM)(fa:AF):EF:=λρ=>(con ρ i).bind λ_=>(fa ρ).bind λp=>(cls p.1).bind λas=>(con p.2 i).bind λts=>(m ts as).bind λz=>.ok (.v z.2 false,cM i z.1 p.2)
theorem TF(h:∀x∈e::es,notStar x=true)(l:(e::es).length<30):((backTo p (starEach (e::es) env)).all (λx=>!x.1)&&(backToKw p (keywordEach [] env)).all (λx=>x.1.isSome)&&decide ((e::es).length+([]:List Keyword).length+(if([]:List Keyword).isEmpty then 0 else 1)<30))=true:=by
 have:(backTo p (starEach (e::es) env)).all (λx=>!x.1)=true:=by
  have:=pG (pos:=p) h env
  rw[List.all_eq_not_any_not]
  simpa using this
 rw[this]
 simpa[keywordEach,backToKw]using l
noncomputable def vM(nm:Str)(id:String)(r:V→List V→Hp→VK→Prop)(m:GM)(hp:Slot "list" nm id∧typeOf (.builtin id)=pure (.type "method_descriptor")∧∀X,vf X id r) (hs:HX r m) (i:Nat) (as:VA jG):VE (Bo i m jG) where
 ck Γ e:=eH e λaK aX bB q=>qG aK λbL a p=>atName bL λx _=>aN aX λy l=>aO bB (a == nm&&gM Γ i x&&decide ((y::l).length<30)&&p.endLine == q.line&&as.ck Γ (y::l))
 cs:=as.cs
 ok q o h:=by
  walk_at "o"
  simp only[an]at h
  obtain⟨⟨⟨⟨h1,h2⟩,h3⟩,h4⟩,h5⟩:=h
  cases eq_of_beq h1
  obtain⟨pa,la,na⟩:=as.ok q o h5
  refine(Q6 PySem.F.plainAttrs_list hp.1 hp.2.1 (hp.2.2 _) (jZ o h2) pa rfl (TF na (of_decide_eq_true h3)) h4 (eG (na _ (List.mem_cons_self ..))) (pG (λy m=>na y (List.mem_cons_of_mem _ m)) _)).imp λσ H Q=>bx λR ρ G F e h=>?_
  obtain⟨us,k0,h⟩:=h.okb (wz _ _)
  obtain⟨a,xs,hi,_,hx,_⟩:=e.con k0
  refine⟨_,hi,.inl ⟨rfl,xs,aG.of hx⟩,jE e .refl h λp h vs G1 H1 F1 e1 s1 v1=>?_⟩
  obtain⟨as,k1,h⟩:=h.okb (v8 _)
  obtain⟨ts,k2,h⟩:=h.okb (wz _ _)
  obtain⟨⟨ts',T⟩,k3,h⟩:=h.okb (hs.nx _ _)
  obtain⟨G2,e2,s2,_,r⟩:=e1.vis e s1 v1 k1
  obtain⟨a',ys,hi',hf,hy,ry⟩:=e2.con k2
  rw[hi]at hi'
  cases hi'
  refine hs.ok _ G2 a ys ts vs as H1 Q ts' T hy ry r k3 λxs' v r' rv=>?_
  obtain⟨e3,s3⟩:=e2.put k2 hf r'
  exact h v G2 _ F1 e3 (s2.trans s3) (.low rv)
noncomputable def qR:GM:=λts as=>match as with
 | [T]=>if ts.length<=100000 then .ok (ts++[T],.non)else .bad
 |_=>.bad
theorem afn:HX Fj qR:=⟨λts as c=>by unfold qR; (repeat' split) <;> (intro z; cases z),λK G a xs ts vs as H Q ts' T hx r ra q h=>by
 unfold qR at q
 (repeat' split at q) <;> cases q
 cases ra with
 |cons h1 r1 =>
  cases r1
  exact⟨a,xs,_,rfl,rfl,hx,Nat.lt_of_le_of_lt (by rw[r.length]; assumption) (by decide),h _ _ (r.app (.cons h1 .nil)) .non⟩⟩
structure Rt(K:FZ)(R:Addr->Prop)(G H:Hp)(F:Fp)(G' H':Hp)(v:V)(T:Tr)(fr:Bool):Prop where
 gg:Same G G'
 fm:Fr K H F H'
 sub:Same G' H'
 nw:∀b,G' b≠none->G b≠none\/H b=none\/Fn F b
 rg:∀b,R b->G' b=none
 vl:match fr with
  |false=>Rep K G' v T
  |true=>∃a xs ts,v=.ref a/\T=.lst ts/\(H a=none\/Fn F a)/\¬R a/\G' a=none/\H' a=some (.lst xs)/\aA K G' xs ts
def pJ(t:Tx)(R:Addr->Prop)(G H:Hp)(F:Fp)(D:Ends)(p:Fl × En):Prop:=match p.1 with
 |.nx=>∀σ' G' H' F',Ok t.K R p.2 σ' G' H' F'->aC t.K G H F G' H' F'->D.nx σ' H'
 |.bk=>∀σ' G' H' F',Ok t.K R p.2 σ' G' H' F'->aC t.K G H F G' H' F'->D.bk σ' H'
 |.ct=>∀σ' G' H' F',Ok t.K R p.2 σ' G' H' F'->aC t.K G H F G' H' F'->D.ct σ' H'
 |.rt T fr=>∀v G' H',Rt t.K R G H F G' H' v T fr->D.rt v H'
def Ts(t:Tx)(f:SF):TS:=λD σ H=>∃R ρ G F,Ok t.K R ρ σ G H F/\bH t H F (f ρ) (pJ t R G H F D)
theorem Te.imp{t:Tx}(h:Te t f σ H Q)(k:∀v H',Q v H'->Q' v H'):Te t f σ H Q':=by
 obtain⟨R,ρ,G,F,e,h⟩:=h
 exact⟨R,ρ,G,F,e,h.go (aC.refl (G:=G)) λp h v G' H' F' e' s' v'=>k v H' (h v G' H' F' e' s' v')⟩
theorem PS.imp(h:PS X e t)(i:∀D σ H,u D σ H->t D σ H):PS X e u:=⟨λpins s σ H D I q=>h pins s σ H D I (i D σ H q)⟩
theorem eE.imp(h:eE X e t)(i:∀D σ H,u D σ H->t D σ H):eE X e u:=⟨λpins s σ H D I q=>h pins s σ H D I (i D σ H q)⟩
abbrev VS(f:SF):=Vn λcl E X e=>PS X e (Ts (tx cl E X) f)
abbrev VB(f:SF):=Vn λcl E X e=>eE X e (Ts (tx cl E X) f)
section
variable {t:Tx}{K:FZ}{R:Addr->Prop}{ρ : En}{σ : St}{G H G0 H0 G' H':Hp}{F F0 F':Fp}{D:Ends}
theorem Rt.back(s:aC K G0 H0 F0 G H F)(h:Rt K R G H F G' H' v T fr):Rt K R G0 H0 F0 G' H' v T fr:=by
 have ff:∀b,H b=none\/Fn F b->H0 b=none\/Fn F0 b:=λb=>λz=>z.elim (λz=>.inl (s.dm b z)) (s.nf b)
 refine⟨s.gg.trans h.gg,s.back h.fm,h.sub,λb z=>(h.nw b z).elim (s.nw b) λz=>.inr (ff b z),h.rg,?_⟩
 cases fr with
 |false=>exact h.vl
 |true =>
  obtain⟨a,xs,ts,e1,e2,e3,q⟩:=h.vl
  exact⟨a,xs,ts,e1,e2,ff a e3,q⟩
theorem pJ.back(s:aC t.K G0 H0 F0 G H F)(h:pJ t R G0 H0 F0 D p):pJ t R G H F D p:=by
 obtain⟨fl,ρ⟩:=p
 cases fl with
 |nx=>exact λσ' G' H' F' e u=>h σ' G' H' F' e (s.trans u)
 |bk=>exact λσ' G' H' F' e u=>h σ' G' H' F' e (s.trans u)
 |ct=>exact λσ' G' H' F' e u=>h σ' G' H' F' e (s.trans u)
 |rt T fr=>exact λv G' H' r=>h v G' H' (r.back s)
theorem wC(e:Ok t.K R ρ σ G H F)(s:aC t.K G0 H0 F0 G H F)(h:bH t H0 F0 (f ρ) (pJ t R G0 H0 F0 D)):Ts t f D σ H:=⟨R,ρ,G,F,e,h.go s λ_=>pJ.back s⟩
end
noncomputable def TJ:SF:=λρ=>.ok (.nx,ρ)
noncomputable def b0:VB TJ where
 ck _ e:=e.isEmpty
 cs:=[]
 ok:=@λ_ _ _ X e _ _ h=>by
  cases e <;> try cases h
  exact abN.imp λD σ H=>bx λR ρ G F e h=>h σ G H F e .refl
noncomputable def b1(a:VS aB):VB aB where
 ck Γ e:=aN e λx aK=>aO aK (a.ck Γ x)
 cs:=a.cs
 ok q O h:=by
  walk_at "o"
  exact Eb (a.ok q O h)
noncomputable def Bp(f g:SF):SF:=λρ=>(f ρ).bind λp=>match p.1 with
 |.nx=>g p.2
 |fl=>.ok (fl,p.2)
theorem afo{t:Tx}(h:Ts t (Bp f g) D σ H):Py (Ts t f) (Ts t g) D σ H:=by
 obtain⟨R,ρ,G,F,e,h⟩:=h
 refine⟨R,ρ,G,F,e,h.run (aC.refl (G:=G)) λp h=>?_⟩
 obtain⟨fl,ρ1⟩:=p
 cases fl with
 |nx=>exact λσ1 G1 H1 F1 e1 s1=>wC e1 s1 h
 |rt T fr=>exact h
 |bk=>exact h
 |ct=>exact h
noncomputable def bC(a:VS aB)(r:VB cX):VB (Bp aB cX) where
 ck Γ e:=aN e λx l=>a.ck Γ x&&r.ck Γ l
 cs:=a.cs++r.cs
 ok q O h:=by
  walk_at "o"
  simp only[an]at h
  exact(PB (a.ok (ml q) O h.1) (r.ok (mr q) O h.2)).imp λ_ _ _=>afo
def j4(K:FZ)(g:GF)(js:List Nat):TG:=λv σ H Q=>∃R ρ G F T,Ok K R ρ σ G H F/\Rep K G v T/\Pz (g T ρ) λρ'=>∀σ' F',Ok K R ρ' σ' G H F'->(∀b,Fn F' b->Fn F b)->(∀k,k∉js -> σ'[k]?=σ[k]?)->Q σ' H
def afp(K:FZ)(g:sU)(js:List Nat):qu:=λvs σ H Q=>∃R ρ G F Ts,Ok K R ρ σ G H F/\aA K G vs Ts/\Pz (g Ts ρ) λρ'=>∀σ' F',Ok K R ρ' σ' G H F'->(∀b,Fn F' b->Fn F b)->(∀k,k∉js -> σ'[k]?=σ[k]?)->Q σ' H
theorem PG.imp(h:PG X e t)(i:∀v σ H Q,u v σ H Q->t v σ H Q):PG X e u:=λpins s σ H v w Q I r q=>h pins s σ H v w Q I r (i _ σ H Q q)
theorem oV.imp(h:oV X e t)(i:∀v σ H Q,u v σ H Q->t v σ H Q):oV X e u:=λpins s σ H v w Q I r q=>h pins s σ H v w Q I r (i _ σ H Q q)
theorem Pz.ok{α : Type}{r:Rs α}{P : α -> Prop}(h:Pz r P):∃a,r=.ok a/\P a:=by
 cases r with
 |ok a=>exact⟨a,rfl,h⟩
 |_=>exact h.elim
abbrev VG(f:GF)(js:List Nat):=Vn λcl E X e=>PG X e (j4 (au X.K) f js)/\(∀T ρ y,f T ρ ≠ .ex y)/\notStar e=true
abbrev Bq(f:sU)(js:List Nat):=Vn λcl E X e=>oV X e (afp (au X.K) f js)/\(∀T ρ y,f T ρ ≠ .ex y)/\∀env,(assignEach e env).length=e.length/\(assignEach e env).findIdx? (·.1)=none
noncomputable def qT(Γ : Gx)(i:Nat)(x:Str):Bool := Γ.N[i]? == some x&&(Γ.sc.names.lookup x == some .local || Γ.sc.names.lookup x == some .cell&&Γ.fn x)
def Wr(X:Cx)(i:Nat)(x:Str):Prop:=X.N[i]?=some x/\Loc X.env.scope x/\(X.fn x=true\/X.env.scope.names.lookup x=some .local)
theorem tV(o:Ox cl Γ E X)(h:qT Γ i x=true):Wr X i x:=by
 obtain⟨h1,h2⟩:=an.mp h
 refine⟨by rw[o.N]; exact eq_of_beq h1,?_⟩
 unfold Loc
 rw[o.s,o.f]
 rcases(Bool.or_eq_true _ _).mp h2 with h|h
 .exact⟨.inl (eq_of_beq h),.inr (eq_of_beq h)⟩
 .exact⟨.inr (eq_of_beq (an.mp h).1),.inl (an.mp h).2⟩
noncomputable def gN(i:Nat):GF:=λT ρ=>.ok (ρ.set i (.sh T))
theorem TQ(T:Tr)(ρ : En)(c:Str):gN i T ρ ≠ .ex c:=by intro z; cases z
theorem TV{K:FZ}(h:j4 K (gN i) [i] v σ H Q):lq i v σ H Q:=by
 obtain⟨R,ρ,G,F,T,e,r,h⟩:=h
 obtain⟨F',e',s⟩:=e.wu i r
 exact h _ F' e' s λk n=>eN λz=>n (by rw[z]; exact List.mem_singleton.mpr rfl)
noncomputable def gV(i:Nat):VG (gN i) [i] where
 ck Γ e:=atName e λx _=>qT Γ i x
 cs:=[]
 ok q o h:=by
  walk_at "o"
  obtain⟨w1,w2,w3⟩:=tV o h
  exact⟨(PL o.d w1 w2 w3).imp λ_ _ _ _=>TV,TQ,rfl⟩
noncomputable def wD:sU:=λTs ρ=>match Ts with
 | []=>.ok ρ
 |_=>.bad
noncomputable def lN(f:GF)(g:sU):sU:=λTs ρ=>match Ts with
 |T::r=>(f T ρ).bind λρ'=>g r ρ'
 | []=>.bad
noncomputable def iJ:Bq wD [] where
 ck _ e:=e.isEmpty
 cs:=[]
 ok:=@λ_ _ _ X e _ _ h=>by
  cases e <;> try cases h
  refine⟨abT.imp λvs σ H Q ⟨R,ρ,G,F,Ts,e,r,h⟩=>?_,λT _ _=>by cases T <;> (intro z; cases z),λ_=>⟨rfl,rfl⟩⟩
  cases r with
  |nil=>exact⟨rfl,h σ F e (λ_ z=>z) λ_ _=>rfl⟩
  |cons _ _=>exact h.elim
theorem HY(h:notStar e=true):assignEach (e::es) env=(false,assign e env)::assignEach es env:=by
 cases e <;> first|rfl|cases h
noncomputable def bW(a:VG aB a_j)(r:Bq cX Ia):Bq (lN aB cX) (a_j++Ia) where
 ck Γ e:=aN e λx y=>a.ck Γ x&&r.ck Γ y
 cs:=a.cs++r.cs
 ok q O h:=by
  walk_at "o"
  simp only[an]at h
  obtain⟨pa,na,ea⟩:=a.ok (ml q) O h.1
  obtain⟨pb,nb,eb⟩:=r.ok (mr q) O h.2
  refine⟨(abU pa pb (by rw[HY ea]; rfl)).imp λvs σ H Q ⟨R,ρ,G,F,Ts,e,r,h⟩=>?_,λTs ρ c=>?_,λenv=>?_⟩
  .cases r with
   |nil=>exact h.elim
   | @cons x T xs Ts r1 r2 =>
    obtain⟨ρ2,k,h⟩:=h.ok
    obtain⟨ρ1,k1,k2⟩:=cu k
    refine⟨x,xs,rfl,R,ρ,G,F,T,e,r1,?_⟩
    rw[k1]
    intro σ1 F1 e1 f1 n1
    refine⟨R,ρ1,G,F1,Ts,e1,r2,?_⟩
    rw[k2]
    refine λσ2 F2 e2 f2 n2=>h σ2 F2 e2 (λb z=>f1 b (f2 b z)) λk n=>?_
    rw[List.mem_append,not_or]at n
    rw[n2 k n.2,n1 k n.1]
  .cases Ts with
   |nil=>intro z; cases z
   |cons T r=>exact Bb (na T ρ) (λρ'=>nb r ρ') c
  .rw[HY ea]
   obtain⟨e1,e2⟩:=eb env
   exact⟨by rw[List.length_cons,e1,List.length_cons],by rw[List.findIdx?_cons,e2]; rfl⟩
noncomputable def gT(n:Nat)(f:sU):GF:=λT ρ=>match T with
 |.tup Ts=>if Ts.length=n then f Ts ρ else .bad
 |_=>.bad
noncomputable def iK(n:Nat)(r:Bq cX Ia):VG (gT n cX) Ia where
 ck Γ e:=iH e λl _ _=>l.length == n&&r.ck Γ l
 cs:=r.cs
 ok q o h:=by
  walk_at "o"
  simp only[an]at h
  obtain⟨pb,nb,eb⟩:=r.ok q o h.2
  refine⟨(abW o.l pb ((eb _).1.trans (eq_of_beq h.1)) (eb _).2).imp λv σ H Q ⟨R,ρ,G,F,T,e,r,h⟩=>?_,λT ρ y=>?_,rfl⟩
  .cases T <;> try exact h.elim
   dsimp only[gT]at h
   split at h
   case isFalse=>exact h.elim
   cases r with
   | @tup a xs _ q r=>exact⟨a,xs,rfl,(e.sub.iC q).toK,by rw[r.length]; assumption,R,ρ,G,F,_,e,r,h⟩
  .cases T <;> first|(intro z; cases z; done)|(dsimp only[gT]; split <;> first|exact nb _ _ _|(intro z; cases z))
noncomputable def qU:Expr->Bool
 |.ListComp .. => false
 |.SetComp .. => false
 |.DictComp .. => false
 |_=>true
theorem wH(h:qU e=true):swapsWith e t l env=pure false:=by
 cases e <;> first|rfl|(unfold qU at h; cases h)
abbrev VC(f:EF):=Vn λcl E X e=>PE X e (Te (tx cl E X) f)/\∀i y p sp,Wr X i y->PS X (.Assign [.Name y p] e sp) (mO (Te (tx cl E X) f) (lq i))
noncomputable def jk(a:VC f):VE f:=⟨a.ck,a.cs,λq O h=>(a.ok q O h).1⟩
noncomputable def aE(a:VE aB):VC aB where
 ck Γ e:=qU e&&a.ck Γ e
 cs:=a.cs
 ok q o h:=by
  simp only[an]at h
  have pa:=a.ok q o h.2
  exact⟨pa,λi y p sp w=>Ef o.d w.1 w.2.1 pa (wH h.1) w.2.2⟩
noncomputable def Br(Γ : Gx)(i:Nat)(a:VC f):Stmt->Bool
 |.Assign [.Name x _] v _=>qT Γ i x&&a.ck Γ v
 |_=>false
theorem TY{a:VC f}(q:∀y∈a.cs,y.ok cl X)(o:Ox cl Γ E X)(h:Br Γ i a e=true):PS X e (mO (Te (tx cl E X) f) (lq i)):=by
 unfold Br at h
 split at h
 case h_2=>cases h
 simp only[an]at h
 exact(a.ok q o h.2).2 _ _ _ _ (tV o h.1)
noncomputable def wI(f:EF)(g:GF):SF:=λρ=>(f ρ).bind λp=>match p.1 with
 |.v T _=>(g T p.2).bind λρ'=>.ok (.nx,ρ')
 |.s _=>.bad
theorem T3{t:Tx}(nx:∀T ρ y,g T ρ ≠ .ex y)(h:Ts t (wI f g) D σ H):mO (Te t f) (j4 t.K g js) D σ H:=by
 obtain⟨R,ρ,G,F,e,h⟩:=h
 refine dJ e .refl h λp h v G1 H1 F1 e1 s1 v1=>?_
 obtain⟨r,ρ1⟩:=p
 cases r with
 |s i=>exact h.elim
 |v T fr =>
  obtain⟨G2,e2,s2,_,r⟩:=e1.tO e s1 v1 rfl
  obtain⟨ρ',k,h⟩:=h.okb (nx T ρ1)
  exact⟨R,ρ1,G2,F1,T,e2,r,by rw[k]; exact λσ' F' e' hf _=>h σ' G2 H1 F' e' (s2.trans (.sub hf))⟩
noncomputable def sA(i:Nat)(a:VC aB):VS (wI aB (gN i)) where
 ck Γ e:=Br Γ i a e
 cs:=a.cs
 ok q o h:=(TY q o h).imp λ_ _ _ h=>Te.imp (T3 (js:=[i]) TQ h) λ_ _=>TV
noncomputable def Ib(i:Nat)(f:EF):SF:=λρ=>(f ρ).bind λp=>match p.1 with
 |.v (.lst ts) true=>.ok (.nx,p.2.set i (.ow ts))
 |_=>.bad
noncomputable def sO(i:Nat)(a:VC aB):VS (Ib i aB) where
 ck Γ e:=Br Γ i a e
 cs:=a.cs
 ok q o h:=by
  refine(TY q o h).imp λD σ H=>bx λR ρ G F e h=>dJ e .refl h λp h v G1 H1 F1 e1 s1 v1=>?_
  obtain⟨r,ρ1⟩:=p
  dsimp only at h
  split at h
  case h_2=>exact h.elim
  obtain⟨⟨a,xs,us,rfl,z,n,g,hx,r⟩,f⟩:=v1
  cases z
  obtain⟨F',e',hf⟩:=e1.afm i hx g (f rfl a rfl) (e.rn n) r
  exact h _ G1 H1 F' e' ⟨s1.gg,s1.fr,s1.nw,λb z=>(hf b z).elim (λz=>.inl (z▸n)) (s1.nf b),s1.dm⟩
noncomputable def T4:Expr->Bool
 |.Tuple .. => false
 |_=>true
theorem afq(h:T4 v=true):swappedStores [.Tuple l k p] v env=pure none:=by
 cases v <;> first|rfl|cases h
noncomputable def wJ(a:VE aB)(g:VG fP iM):VS (wI aB fP) where
 ck Γ e:=pB e λaK v _=>aN aK λaX bB=>iH aX λl k p=>aO bB (qU v&&T4 v&&a.ck Γ v&&g.ck Γ (.Tuple l k p))
 cs:=a.cs++g.cs
 ok q o h:=by
  walk_at "o"
  simp only[an]at h
  obtain⟨⟨⟨h1,h2⟩,h3⟩,h4⟩:=h
  obtain⟨pg,ng,eg⟩:=g.ok (mr q) o h4
  exact(PN (a.ok (ml q) o h3) pg (by unfold swapsWithSole; exact wH h1) (afq h2) (by rw[HY eg]; rfl)).imp λ_ _ _=>T3 ng
noncomputable def Ie(Γ : Gx)(i:Nat)(x:Str):Bool := Γ.N[i]? == some x&&Γ.sc.names.lookup x == some .local
theorem tX(o:Ox cl Γ E X)(h:Ie Γ i x=true):X.N[i]?=some x/\X.env.scope.names.lookup x=some .local:=by
 obtain⟨h1,h2⟩:=an.mp h
 exact⟨by rw[o.N]; exact eq_of_beq h1,by rw[o.s]; exact eq_of_beq h2⟩
theorem afr{env:Env}(n1:notStar u=true)(n2:notStar v=true)(k1:env.scope.names.lookup x=some .local)(k2:env.scope.names.lookup y=some .local)(h4:p.line=p'.line)(e1:(foldedForSure 8 u&&foldedForSure 8 v)=false)(e2:(constantsAlone 8 u&&constantsAlone 8 v)=false)(h8:x≠y)(h9:env.scope.kind=.function):swappedStores [.Tuple [.Name x p,.Name y p'] k q] (.Tuple [u,v] k' q') env=pure (some [x,y]):=by
 have kx:env.kindOf x=some .local:=k1
 have ky:env.kindOf y=some .local:=k2
 have hb:env.blockKind=.function:=by unfold Env.blockKind; rw[h9]; rfl
 unfold swappedStores
 have hy:(y == x)=false:=by simpa using λz=>h8 (z.symm)
 have hx:(x == y)=false:=by simpa using h8
 have ep:∀(z:Str) (p:Pos),(Expr.Name z p).pos=p:=λ_ _=>rfl
 simp[hb,kx,ky,h4,List.eraseDups,List.filterMap_cons,ep,List.eraseDupsBy,List.eraseDupsBy.loop,hx,hy]
 rw[if_neg]
 .rw[if_neg λh=>(by rw[h.1,h.2]at e1; cases e1),if_neg λh=>(by rw[h.1,h.2]at e2; cases e2)]
 .rintro(h|h)
  .cases u <;> first|cases h; done|cases n1
  .cases v <;> first|cases h; done|cases n2
noncomputable def T5(i j:Nat)(fa:AF):SF:=λρ=>(fa ρ).bind λp=>(cls p.1).bind λTs=>match Ts with
 | [T,U]=>.ok (.nx,(p.2.set i (.sh T)).set j (.sh U))
 |_=>.bad
noncomputable def T6(i j:Nat)(a:VA aB):VS (T5 i j aB) where
 ck Γ e:=pB e λaK aX _=>aN aK λbB bL=>iH bB λcV _ _=>aN cV λdK gP=>atName dK λx p=>aN gP λnJ nO=>atName nJ λy p'=>aO nO (aO bL (iH aX λIg _ _=>aN Ig λu Ih=>aN Ih λv Ii=>aO Ii (Ie Γ i x&&Ie Γ j y&&decide (i≠j)&&decide (p.line=p'.line)&&a.ck Γ [u,v] && !(foldedForSure 8 u&&foldedForSure 8 v) && !(constantsAlone 8 u&&constantsAlone 8 v)&&decide (x≠y)&&decide (Γ.sc.kind=.function))))
 cs:=a.cs
 ok q o h:=by
  walk_at "o"
  simp only[an]at h
  obtain⟨⟨⟨⟨⟨⟨⟨⟨h1,h2⟩,h3⟩,h4⟩,h5⟩,h6⟩,h7⟩,h8⟩,h9⟩:=h
  obtain⟨pa,_,na⟩:=a.ok q o h5
  refine(ab0 o.l o.d (tX o h1).1 (tX o h2).1 (of_decide_eq_true h3) (tX o h1).2 (tX o h2).2 pa (afr (na _ (List.mem_cons_self ..)) (na _ (List.mem_cons_of_mem _ (List.mem_cons_self ..))) (tX o h1).2 (tX o h2).2 (of_decide_eq_true h4) ((Bool.not_eq_true' _).mp h6) ((Bool.not_eq_true' _).mp h7) (of_decide_eq_true h8) (by rw[o.s]; exact of_decide_eq_true h9)) rfl).imp λD σ H=>bx λR ρ G F e h=>jE e .refl h λp h vs G1 H1 F1 e1 s1 v1=>?_
  obtain⟨Ts,k1,h⟩:=h.okb (v8 _)
  obtain⟨G2,e2,s2,_,r⟩:=e1.vis e s1 v1 k1
  split at h
  case h_2=>exact h.elim
  cases r with
  |cons r1 r =>
   cases r with
   |cons r2 r =>
    cases r
    obtain⟨F3,e3,f3⟩:=e2.wu i r1
    obtain⟨F4,e4,f4⟩:=e3.wu j r2
    exact⟨_,_,rfl,h _ G2 H1 F4 e4 (s2.trans (.sub λb z=>f3 b (f4 b z)))⟩
noncomputable def Ij(f:EF):SF:=λρ=>(f ρ).bind λp=>.ok (.nx,p.2)
noncomputable def eO(a:VE aB):VS (Ij aB) where
 ck Γ e:=qH e λx _=>qU x&&a.ck Γ x
 cs:=a.cs
 ok q o h:=by
  walk_at "o"
  simp only[an]at h
  exact(yM (a.ok q o h.2) (wH h.1)).imp λD σ H=>bx λR ρ G F e h=>dJ e .refl h λp h v G1 H1 F1 e1 s1 v1=>h σ G1 H1 F1 e1 s1
noncomputable def Ik(f:EF):SF:=λρ=>(f ρ).bind λp=>match p.1 with
 |.v T fr=>.ok (.rt T fr,p.2)
 |.s i=>match p.2[i]? with
  |some (.ow ts)=>.ok (.rt (.lst ts) true,p.2)
  |_=>.bad
noncomputable def aH(a:VE aB):VS (Ik aB) where
 ck Γ e:=vO e λaK _=>pC aK λx=>a.ck Γ x
 cs:=a.cs
 ok q o h:=by
  walk_at "o"
  refine(PK (a.ok q o h)).imp λD σ H=>bx λR ρ G F e h=>dJ e .refl h λp h v G1 H1 F1 e1 s1 v1=>?_
  obtain⟨r,ρ1⟩:=p
  have rg:=λb z=>(e1.rg b z).1
  match r,h,v1 with
  |.v T false,h,v1=>exact h v G1 H1 ⟨s1.gg,⟨s1.fr,e1.tb⟩,e1.sub,s1.nw,rg,v1.1⟩
  |.v T true,h,⟨⟨a,xs,ts,q1,q2,n,g,q3,q4⟩,_⟩=>exact h v G1 H1 ⟨s1.gg,⟨s1.fr,e1.tb⟩,e1.sub,s1.nw,rg,a,xs,ts,q1,q2,.inl n,e.rn n,g,q3,q4⟩
  |.s i,h,v1 =>
   dsimp only at h
   split at h
   case h_2=>exact h.elim
   rename_i ts k
   have z:=e1.sl i
   rw[k]at z
   obtain⟨a,xs,h1,h2,h3,h4,h5⟩:=z
   have f:Fn F1 a:=⟨i,by rw[h2]; exact List.mem_singleton.mpr rfl⟩
   have v1 : σ[i]?=some (some v):=v1
   rw[h1]at v1
   cases v1
   exact h _ G1 H1 ⟨s1.gg,⟨s1.fr,e1.tb⟩,e1.sub,s1.nw,rg,a,xs,ts,rfl,rfl,s1.nf a f,h3,e1.hid a f,h4,h5⟩
noncomputable def Il(c:BF)(f g:SF):SF:=λρ=>(c ρ).bind λp=>if p.1=true then f p.2 else g p.2
noncomputable def sI(t:VT HD)(a:VB aB)(b:VB bF):VS (Il HD aB bF) where
 ck Γ e:=z8 e λz x y _=>t.ck Γ z&&a.ck Γ x&&b.ck Γ y
 cs:=t.cs++(a.cs++b.cs)
 ok q o h:=by
  walk_at "o"
  simp only[an]at h
  refine(abQ (t.ok (ml q) o h.1.1) (a.ok (ml (mr q)) o h.1.2) (b.ok (mr (mr q)) o h.2)).imp λD σ H=>bx λR ρ G F e h=>m5 e .refl h λp h G1 H1 F1 e1 s1=>?_
  split at h <;> rename_i c
  .rw[if_pos c]; exact wC e1 s1 h
  .rw[if_neg c]; exact wC e1 s1 h
noncomputable def cQ(i:Nat)(ρ : En):En:=match ρ[i]? with
 |some (.ow ts)=>ρ.set i (.sh (.lst ts))
 |_=>ρ
theorem Ok.cQ{K:FZ}(e:Ok K R ρ σ G H F)(i:Nat):∃G' F',Ok K R (L2.cQ i ρ) σ G' H F'/\aC K G H F G' H F':=by
 unfold L2.cQ
 split
 case h_2=>exact⟨G,F,e,.refl⟩
 rename_i ts k
 have z:=e.sl i
 rw[k]at z
 obtain⟨a,xs,h1,h2,h3,h4,h5⟩:=z
 have f:Fn F a:=⟨i,by rw[h2]; exact List.mem_singleton.mpr rfl⟩
 have g:=e.hid a f
 have m:Same G (upd G a (.lst xs)):=iD g _
 have l:=(List.getElem?_eq_some_iff.mp k).1
 refine⟨_,dz F i [],e.one (G':=upd G a (.lst xs)) i [] (by rw[List.length_set,e.len]) (λj n=>⟨eN n,rfl⟩) m (λb o q=>?_) e.tb (λb q=>?_) (λ_ _ _ _ _ h=>h) (λb h=>(e.rg b h).2) (λb h=>by cases h) ?_,m,λ_ _ h _ _=>h,λb q=>?_,λb z=>?_,λ_ h=>h⟩
 .by_cases z:b=a
  .subst z; rw[bN]at q; rw[h4]; exact q
  .rw[aL z]at q; exact e.sub b o q
 .by_cases z:b=a
  .subst z; exact .inr ⟨λj n z=>n (e.di j i b z (by rw[h2]; exact List.mem_singleton.mpr rfl)),e.tb.nt h4,h3⟩
  .rw[aL z]at q; exact .inl q
 .rw[dY l]
  exact⟨rfl,.ref a,h1,.lst (aG.of bN) (h5.mono m)⟩
 .by_cases z:b=a
  .subst z; exact .inr (.inr f)
  .rw[aL z]at q; exact .inl q
 .rcases pI z with z|⟨j,_,z⟩
  .cases z
  .exact .inr ⟨j,z⟩
noncomputable def T7(i:Nat)(f:SF):SF:=λρ=>f (cQ i ρ)
noncomputable def sZ(i:Nat)(a:VS aB):VS (T7 i aB) where
 ck:=a.ck
 cs:=a.cs
 ok q o h:=(a.ok q o h).imp λD σ H=>bx λR ρ G F e h=>by
  obtain⟨G',F',e',s'⟩:=e.cQ i
  exact wC e' s' h
noncomputable def afs(c:Str)(f:EF):SF:=λρ=>(f ρ).bind λ_=>.ex c
noncomputable def wK(x:Str)(a:VE aB):VS (afs x aB) where
 ck Γ e:=z9 e λaK aX _=>pC aK λbB=>eH bB λbL cV dK _=>atName bL λy _=>aN cV λv gP=>aO gP (aO dK (qI aX (y == x&&Γ.R.contains y&&jF Γ y&&notStar v&&a.ck Γ v)))
 cs:=a.cs
 ok q o h:=by
  walk_at "o"
  simp only[an]at h
  obtain⟨⟨⟨⟨h1,h2⟩,h3⟩,h4⟩,h5⟩:=h
  cases eq_of_beq h1
  exact(adM (o.R _ (by simpa using h2)).2 (o.R _ (by simpa using h2)).1 PySem.F.excBase_ValueError o.l (a.ok q o h5) (dh o h3).1 (dh o h3).2 (eG h4)).imp λD σ H=>bx λR ρ G F e h=>dJ e .refl h λp h v G1 H1 F1 e1 s1 v1=>⟨rfl,h H1 ⟨s1.fr,e1.tb⟩⟩
noncomputable def dD{α : Type}:Rs α -> Rs α
 |.bad=>.bad
 |.ex _=>.bad
 |.ok a=>.ok a
theorem PS.u6{X:Cx}{st:Stmt}{t:TS}(h:PS X.u6 st t):PS X st t:=⟨λpins s σ H D I hw =>
 wpAny_mono (h pins s σ H D (I.wish _) hw) (λ_ _ q=>q.oU) λ_ _ z=>False.elim z⟩
noncomputable def wN(f:SF):SF:=λρ=>dD (f ρ)
noncomputable def nG(Γ : Gx):Gx:={Γ with R:=[],nx:=true,L:=[] }
theorem aft(o:Ox cl Γ E X):Ox cl (nG Γ) E0 X.u6:=⟨o.N,o.s,o.d,o.l,o.r,Rx,o.B,(λ_ z=>nomatch z),o.x,o.f,(λ_=>rfl),λ_ z=>nomatch z⟩
noncomputable def sN(a:VS aB):VS (wN aB) where
 ck Γ e:=a.ck (nG Γ) e
 cs:=a.cs
 ok:=@λcl E Γ X e q o h=>(PS.u6 (a.ok (X:=X.u6) q (aft o) h)).imp λD σ H=>bx λR ρ G F e h=>⟨R,ρ,G,F,e,by
  unfold wN at h
  cases k:aB ρ <;> rw[k]at h <;> first|exact h|exact h.elim⟩
theorem Im(o:Ox cl Γ E X)(h : Γ.nx=true):PassesOwn (model X.prog X.w) X.A X.env X.xe:=by
 rw[o.n h]; exact .never
noncomputable def wQ(c:BF)(b:SF):Nat->SF
 | 0=>λ_=>.bad
 | n + 1=>λρ => (c ρ).bind λp=>if p.1=true then (b p.2).bind λq=>(match q.1 with
  |.nx=>wQ c b n q.2
  |.ct=>wQ c b n q.2
  |.bk=>.ok (.nx,q.2)
  |.rt T fr=>.ok (.rt T fr,q.2))else .ok (.nx,p.2)
noncomputable def T8(fu:En->Nat)(c:BF)(b:SF):SF:=λρ=>wQ c b (fu ρ) ρ
noncomputable def sW(fu:En->Nat)(k:VT pK)(b:VB bF):VS (T8 fu pK bF) where
 ck Γ e:=Aa e λt l aK _=>aO aK (Γ.nx&&k.ck Γ t&&b.ck Γ l)
 cs:=k.cs++b.cs
 ok:=@λcl E Γ X e q o h=>by
  walk_at "o"
  simp only[an]at h
  refine(ab6 (Im o h.1.1) (k.ok (ml q) o h.1.2) (b.ok (mr q) o h.2)).imp λD σ H=>bx λR ρ G F e h=>?_
  refine⟨λm σ' H'=>∃ρ' G' F',Ok (au X.K) R ρ' σ' G' H' F'/\aC (au X.K) G H F G' H' F'/\bH (tx cl E X) H F (wQ pK bF m ρ') (pJ (tx cl E X) R G H F D),⟨fu ρ,ρ,G,F,e,.refl,h⟩,?_⟩
  rintro m σ1 H1 ⟨ρ1,G1,F1,e1,s1,h1⟩
  cases m with
  |zero=>exact h1.elim
  |succ n =>
   refine m5 e1 s1 h1 λp h G2 H2 F2 e2 s2=>?_
   split at h <;> rename_i d
   .rw[if_pos d]
    refine⟨_,λσ' H' q=>⟨n,Nat.lt_succ_self n,q⟩,R,p.2,G2,F2,e2,h.run (s1.trans s2) λq h=>?_⟩
    obtain⟨fl,ρ3⟩:=q
    cases fl with
    |nx=>exact λσ3 G3 H3 F3 e3 s3=>⟨ρ3,G3,F3,e3,(s1.trans s2).trans s3,h⟩
    |ct=>exact λσ3 G3 H3 F3 e3 s3=>⟨ρ3,G3,F3,e3,(s1.trans s2).trans s3,h⟩
    |bk=>exact λσ3 G3 H3 F3 e3 s3=>h σ3 G3 H3 F3 e3 ((s1.trans s2).trans s3)
    |rt T fr=>exact λv G' H' r=>h v G' H' (r.back (s1.trans s2))
   .rw[if_neg d]
    exact h σ1 G2 H2 F2 e2 (s1.trans s2)
def Bs(K:FZ)(G:Hp)(J:It)(us:List Tr):Prop:=∀G' H',Same G G'->Same G' H'->∀i,(i=us.length->J.stop i H')/\∀u,us[i]?=some u->J.go i H'/\∀x cj,J.jV i H' x cj->∃G'',Gw K G' H' G'' cj/\Rep K G'' x u
def Ti(t:Tx)(f:IF):TI:=λσ H Q=>∃R ρ G F,Ok t.K R ρ σ G H F/\bH t H F (f ρ) λp=>∀J G' H' F',Ok t.K R p.2 σ G' H' F'->aC t.K G H F G' H' F'->Bs t.K G' J p.1->Q J H'
theorem PI.imp(h:PI X tg e t)(i:∀σ H Q,u σ H Q->t σ H Q):PI X tg e u:=λpins s σ H Q I q=>h pins s σ H Q I (i σ H Q q)
noncomputable def Io:Expr->Bool
 |.Set .. => false
 |_=>true
theorem jm(h:Io e=true)(x:Value):foldedSetIterable e env x=pure x:=by
 cases e <;> first|rfl|cases h
abbrev VI(f:IF):=Vn (τ := Expr × Expr) λcl E X e=>PI X e.1 e.2 (Ti (tx cl E X) f)/\Io e.2=true
noncomputable def j5(g:GF)(b:SF):List Tr->SF
 | []=>λρ=>.ok (.nx,ρ)
 | u :: us=>λρ => (g u ρ).bind λρ1=>(b ρ1).bind λq=>(match q.1 with
  |.nx=>j5 g b us q.2
  |.ct=>j5 g b us q.2
  |.bk=>.ok (.nx,q.2)
  |.rt T fr=>.ok (.rt T fr,q.2))
noncomputable def T9(fi:IF)(g:GF)(b:SF):SF:=λρ=>(fi ρ).bind λp=>j5 g b p.1 p.2
noncomputable def sF(i:VI j6)(g:VG fP iM)(b:VB bF):VS (T9 j6 fP bF) where
 ck Γ e:=vP e λt y l aK _=>aO aK (Γ.nx&&i.ck Γ (t,y)&&g.ck Γ t&&b.ck Γ l)
 cs:=i.cs++(g.cs++b.cs)
 ok:=@λcl E Γ X e q o h=>by
  walk_at "o"
  simp only[an]at h
  obtain⟨⟨⟨h1,h2⟩,h3⟩,h4⟩:=h
  obtain⟨pi,ni⟩:=i.ok (ml q) o h2
  obtain⟨pg,ng,_⟩:=g.ok (ml (mr q)) o h3
  refine(Qe (Im o h1) o.l pi pg (b.ok (mr (mr q)) o h4) (jm ni)).imp λD σ H=>bx λR ρ G F e h=>⟨R,ρ,G,F,e,h.run (aC.refl (G:=G)) λp h J G1 H1 F1 e1 s1 it=>?_⟩
  obtain⟨us,ρ1⟩:=p
  refine⟨λi m σ' H'=>m=us.length-i/\i<=us.length/\∃ρ' G' F',Ok (au X.K) R ρ' σ' G' H' F'/\aC (au X.K) G H F G' H' F'/\Same G1 G'/\bH (tx cl E X) H F (j5 fP bF (us.drop i) ρ') (pJ (tx cl E X) R G H F D),⟨us.length,by simp,Nat.zero_le _,ρ1,G1,F1,e1,s1,Same.refl _,h⟩,?_⟩
  rintro i m σ2 H2 ⟨rfl,hi,ρ2,G2,F2,e2,s2,m2,h2⟩
  have q:=it G2 H2 m2 e2.sub i
  by_cases hlt:i<us.length
  .rw[List.drop_eq_getElem_cons hlt]at h2
   obtain⟨go,y⟩:=q.2 us[i] (by simp[hlt])
   refine .inr ⟨go,_,λσ' H' z=>⟨us.length-(i+1),by omega,rfl,hlt,z⟩,λx H3 yl=>?_⟩
   obtain⟨G3,w3,r3⟩:=y x H3 yl
   obtain⟨e3,s3⟩:=e2.grow w3
   obtain⟨ρ4,k4,h⟩:=h2.okb (ng _ _)
   refine⟨R,ρ2,G3,F2,_,e3,r3,?_⟩
   rw[k4]
   intro σ4 F4 e4 f4 _
   have s4:=s3.trans (aC.sub f4)
   refine⟨R,ρ4,G3,F4,e4,h.run (s2.trans s4) λr h=>?_⟩
   obtain⟨fl,ρ5⟩:=r
   cases fl with
   |nx=>exact λσ5 G5 H5 F5 e5 s5=>⟨ρ5,G5,F5,e5,(s2.trans s4).trans s5,m2.trans (s4.gg.trans s5.gg),h⟩
   |ct=>exact λσ5 G5 H5 F5 e5 s5=>⟨ρ5,G5,F5,e5,(s2.trans s4).trans s5,m2.trans (s4.gg.trans s5.gg),h⟩
   |bk=>exact λσ5 G5 H5 F5 e5 s5=>h σ5 G5 H5 F5 e5 ((s2.trans s4).trans s5)
   |rt T fr=>exact λv G' H' r=>h v G' H' (r.back (s2.trans s4))
  .have z:i=us.length:=by omega
   subst z
   rw[List.drop_length]at h2
   exact .inl ⟨q.1 rfl,h2 σ2 G2 H2 F2 e2 s2⟩
noncomputable def Ite(K:FZ)(l:Addr):It where
 go:=λi H=>∃xs x,aG K H l xs/\xs[i]?=some x
 jV:=λi H v H'=>∃(T:Addr) (x:V),v=.ref T/\H T=none/\H'=upd H T (.tup [.int (i:Int),x])/\∀xs,aG K H l xs->xs[i]?=some x
 stop:=λi H=>∃xs,aG K H l xs/\i=xs.length
def afu(l e it:Addr)(i:Nat)(h:Heap):Prop:=(∃old,IsEnum h e it i old)/\h.IsListIter it l i
section
variable {P:Program}{w:World}{K:FZ}
theorem afv(l e it:Addr)(hei:e≠it)(hle:l≠e)(hli:l≠it):Turn P w K (.Tuple elts k pos) (Ite K l) [e,it] e (afu l e it) where
 mem:=by simp
 obj:=λi h st b hb=>by
  obtain⟨⟨old,he⟩,⟨o1,e1,_,d1⟩⟩:=st
  have hb':b=e\/b=it:=by simpa using hb
  rcases hb' with rfl|rfl
  .exact⟨_,he,λv q=>nomatch q⟩
  .exact⟨o1,e1,λv q=>by rw[d1]at q; cases q⟩
 keep:=λi h h' st kp=>by
  obtain⟨⟨old,he⟩,h1⟩:=st
  exact⟨⟨old,kp e (by simp) _ he⟩,h1.at λo q=>kp it (by simp) o q⟩
 item:=by
  intro X hP hw hK hc i pins s σ H E I hf st hg
  subst hP hw hK
  obtain⟨xs,x,q1,hx⟩:=hg
  obtain⟨gG,mY,p1,_⟩:=I.list q1
  obtain⟨u,hu,ru⟩:=mY.get hx
  have W:=WalksT.enumerate (prog:=X.prog) (w:=X.w) (A:=X.A) (I.ok.hd hc) e it l hei hle hli gG.toArray
  have lt1:i<gG.length:=(List.getElem?_eq_some_iff.mp hu).1
  refine W.item i s _ E (by simp; lia) ⟨st.1,st.2,p1.isList⟩ λT vals h' tk hp hT ht mid kk=>?_
  obtain⟨t0,u',e1,rfl⟩:=hp
  have eu:u'=u:=by
   have:gG[i]?=some u':=by simpa using e1
   rw[hu]at this; cases this; rfl
  subst eu
  refine⟨.ref T,rfl,?_⟩
  refine W.go elts k pos i T _ _ E mid λh'' st' vA=>?_
  have nT:=W.apart i T _ mid
  have ob:∀b∈[e,it],b<s.heap.objs.size:=λb hb=>by
   obtain⟨⟨old,he⟩,⟨o1,e1,_,d1⟩⟩:=st
   have hb':b=e\/b=it:=by simpa using hb
   rcases hb' with rfl|rfl
   .exact Heap.lt_size he
   .exact Heap.lt_size e1
  have Gg:T∉[e,it]:=λm=>absurd (ob T m) (Nat.not_lt.mpr hT)
  have Gh:IsTup h'' T #[.int i t0,u']:=by
   obtain⟨o,e',r⟩:=ht
   exact⟨o,vA T o nT e',r⟩
  have th:∀b∈[e,it],∃o,h''.get? b=some o:=λb hb=>by
   obtain⟨⟨old,he⟩,⟨o1,e1,_,d1⟩,_⟩:=st'
   have hb':b=e\/b=it:=by simpa using hb
   rcases hb' with rfl|rfl
   .exact⟨_,he⟩
   .exact⟨_,e1⟩
  have I':Inv X pins σ (upd H T (.tup [.int (i:Int),x])) {s with heap:=h'',toks:=tk }:=I.Ge (its:=[.int i t0,u']) hf (λb o n e=>vA b o n (kk b o n e)) th hT Gh (.cons ⟨_,rfl⟩ (.cons ru .nil)) (by show 2<=sizeLine; decide)
  refine⟨.ref T,_,I',rfl,⟨T,x,rfl,I.hok.fresh hT,rfl,λxs' a1=>?_⟩,⟨st'.1,st'.2.1⟩,λb hb=>?_⟩
  .rw[I.oR a1 q1]
   exact hx
  .have nb:b≠T:=by
    intro e0
    rw[e0]at hb
    exact Gg hb
   rw[aL nb]
   exact(hf b hb).1
 done:=by
  intro X hP hw hK hc i pins s σ H E I hf st hg
  subst hP hw hK
  obtain⟨xs,q1,e1⟩:=hg
  obtain⟨gG,mY,p1,_⟩:=I.list q1
  have W:=WalksT.enumerate (prog:=X.prog) (w:=X.w) (A:=X.A) (I.ok.hd hc) e it l hei hle hli gG.toArray
  have ei:i=gG.toArray.size:=by simp[e1,mY.length]
  subst ei
  exact W.done s _ E ⟨st.1,st.2,p1.isList⟩ λh' tk kk=>⟨rfl,I.Gf hf λb o n e=>kk b o n e⟩
 self:=λA i s Q E st h=>by
  obtain⟨⟨old,he⟩,_⟩:=st
  exact wpAny_pyIter_enum he h
end
section
variable {X:Cx}
def afw(K:FZ)(ta:TA):TI:=λσ H R=>ta σ H λvs H1=>∃l,vs=[.ref l]/\(∃xs,aG K H1 l xs)/\R (Ite K l) H1
theorem afx(hm:X.mg "enumerate" = none) (ha:PA X [a] ta) (hg:X.env.kindOf "enumerate" = some .globalImplicit:=by kernel_rfl) (hs:notStar a=true:=by kernel_rfl) :
  PI X (.Tuple elts k tpos) (.Call (.Name "enumerate" p) [a] [] pos) (afw X.K ta):=by
 intro pins s σ H R I h
 refine Call_ (jT I hg hm (show bootBuiltins "enumerate" = some (.type "enumerate") by decide +kernel) (PyProof.Rows.callWith_type1 (aD (ha pos pins s σ H _ I h) λus s1 ⟨vs,H1,I1,r1,q1⟩=>?_) (eG hs) rfl) (by decide +kernel) (by kernel_rfl))
 obtain⟨l,e,⟨xs,h1⟩,q⟩:=q1
 subst e
 cases r1 with
 |cons r rr =>
  cases rr
  cases r
  obtain⟨gG,mY,p1,_⟩:=I1.list h1
  obtain⟨o1,e1,_⟩:=p1.isList
  have lt:=Heap.lt_size e1
  refine call_enumerate_list p1.isList λh' he hit hsz hk=>?_
  refine wpAny_pyIter_enum he ?_
  refine⟨_,[_,_],_,_,H1,rfl,I1.kept (t':=s1.toks) hk,afv l _ _ (Nat.succ_ne_self _) (Nat.ne_of_lt (Nat.lt_succ_of_lt lt)) (Nat.ne_of_lt lt),⟨⟨_,he⟩,hit⟩,λc hc=>?_,q⟩
  have hc':c=s1.heap.objs.size+1\/c=s1.heap.objs.size:=by simpa using hc
  have hge:s1.heap.objs.size<=c:=by rcases hc' with rfl|rfl <;> lia
  exact I1.jW hge (I1.hok.fresh hge)
end
abbrev dw(h:Heap)(T:Addr)(a b c:Value):Prop:=h.get? T=some {cls:=.type "tuple",data:=.seq #[a,b,c] }
structure Bt(y I O j1 j2 j3 m1 m2 m3:Addr):Prop where
 nd : [y,I,O,j1,j2,j3].Nodup
 l1:m1∉[y,O,j1,j2,j3]
 l2:m2∉[y,O,j1,j2,j3]
 l3:m3∉[y,O,j1,j2,j3]
section
variable {prog:Program}{w:World}{s:Shared}{A:Around}{E:Value->Shared->Prop}
theorem Ip(t:dw s.heap T a b c)
  (q:∀g,g.get? T=some {cls:=.type "tuple",data:=.seq ((#[a,b,c]:Array Value).setIfInBounds k x) }->Heap.SameBut T s.heap g->Q () {s with heap:=g }):wpAny (model prog w) A (updateSeq T (·.setIfInBounds k x)) Q E s:=by
 refine wpAny_updateSeq t rfl (q _ ?_ (.update ..))
 rw[Heap.get?_update_self _ t rfl]
 simp[Obj.mapSeq]
def Ua(y O j1 j2 j3:Addr)(h g:Heap):Prop:=∀c o,c∉[y,O,j1,j2,j3]->h.get? c=some o->g.get? c=some o
theorem afy{n:Nat}{as bs cs:Array Value}{Q:Value->Shared->Prop}(D:Bt y I O j1 j2 j3 m1 m2 m3)
  (hy:IsZip s.heap y I O .none) (hI:dw s.heap I (.ref j1) (.ref j2) (.ref j3)) (hO:dw s.heap O p q r) (k1:s.heap.IsListIter j1 m1 n) (k2:s.heap.IsListIter j2 m2 n) (k3:s.heap.IsListIter j3 m3 n)
  (e1:s.heap.IsList m1 as) (e2:s.heap.IsList m2 bs) (e3:s.heap.IsList m3 cs) (ga:as[n]?=some a) (gb:bs[n]?=some b) (gc:cs[n]?=some c)
  (fin:∀g,IsZip g y I O (rawInt s.heap.objs.size)->dw g O a b c->g.IsListIter j1 m1 (n+1)->g.IsListIter j2 m2 (n+1)->g.IsListIter j3 m3 (n+1)->dw g s.heap.objs.size a b c->Ua y O j1 j2 j3 s.heap g->Q (.ref s.heap.objs.size) {s with heap:=g }) :
  wpAny (model prog w) A (Builtin.«zip.__next__» ⟨[.ref y],[]⟩) (λf u=>∃v,f=.done (.ret v)/\Q v u) E s:=by
 have nd:=D.nd
 have d1:=D.l1
 have d2:=D.l2
 have d3:=D.l3
 simp only[List.nodup_cons,List.mem_cons,List.not_mem_nil,or_false,not_or,List.nodup_nil,and_true,not_false_eq_true]at nd d1 d2 d3
 obtain⟨⟨zI,zO,z1,z2,z3⟩,⟨IO,I1,I2,I3⟩,⟨O1,O2,O3⟩,⟨n12,n13⟩,n23⟩:=nd
 obtain⟨x1z,x1O,x11,x12,x13⟩:=d1
 obtain⟨x2z,x2O,x21,x22,x23⟩:=d2
 obtain⟨x3z,Ub,x31,x32,x33⟩:=d3
 show wpAny _ _ (field (.ref y) 2 >>= _) _ _ _
 refine wpAny_bind (wpAny_field hy rfl (x:=.bool false) rfl ?_)
 show wpAny _ _ (field (.ref y) 3 >>= _) _ _ _
 refine wpAny_bind (wpAny_field hy rfl (x:=.ref I) rfl ?_)
 refine wpAny_bind (wpAny_seqItems hI rfl ?_)
 show wpAny _ _ (Builtin.SmallTypes.ownedTupleIsFree (.ref y) >>= _) _ _ _
 refine wpAny_bind ?_; unfold Builtin.SmallTypes.ownedTupleIsFree
 refine wpAny_bind (wpAny_field hy rfl (x:=.none) rfl (wpAny_pure ?_))
 simp only[if_true]
 refine wpAny_bind <| wpAny_rule ?_
 refine wpAny_bind (wpAny_field hy rfl (x:=.ref O) rfl ?_)
 refine wpAny_bind (wpAny_setField_rec hy (by simp) λha za sa=>?_)
 replace za:IsZip ha y I O .ellipsis:=za
 refine wpAny_bind ?_
 simp only[List.forIn_cons,List.forIn_nil,List.zipIdx_nil,List.zipIdx_cons]
 refine wpAny_bind <| wpAny_bind <| wpAny_onRaise ?_
 show wpAny _ _ (Builtin.SmallTypes.nextOf (.ref j1) >>= _) _ _ _
 refine wpAny_bind (wpAny_nextOf_list_item (k1.extBut sa.extBut (Ne.symm z1)) (e1.extBut sa.extBut x1z) ga λhb kb sb=>wpAny_pure ?_)
 have Ob:dw hb O p q r:=sb.extBut _ _ O1 (sa.extBut _ _ (Ne.symm zO) hO)
 refine wpAny_bind (wpAny_seqItems Ob rfl ?_)
 refine wpAny_bind (Ip Ob λhc Oc sc=>?_)
 replace Oc:dw hc O a q r:=Oc
 refine wpAny_bind <| wpAny_letGo <| wpAny_pure ?_
 refine wpAny_bind <| wpAny_bind <| wpAny_onRaise ?_
 show wpAny _ _ (Builtin.SmallTypes.nextOf (.ref j2) >>= _) _ _ _
 refine wpAny_bind (wpAny_nextOf_list_item (((k2.extBut sa.extBut (Ne.symm z2)).extBut sb.extBut (Ne.symm n12)).extBut sc.extBut (Ne.symm O2)) (((e2.extBut sa.extBut x2z).extBut sb.extBut x21).extBut sc.extBut x2O) gb λhd kd sd=>wpAny_pure ?_)
 have Od:dw hd O a q r:=sd.extBut _ _ O2 Oc
 refine wpAny_bind (wpAny_seqItems Od rfl ?_)
 refine wpAny_bind (Ip Od λhe Oe se=>?_)
 replace Oe:dw he O a b r:=Oe
 refine wpAny_bind <| wpAny_letGo <| wpAny_pure ?_
 refine wpAny_bind <| wpAny_bind <| wpAny_onRaise ?_
 show wpAny _ _ (Builtin.SmallTypes.nextOf (.ref j3) >>= _) _ _ _
 refine wpAny_bind (wpAny_nextOf_list_item (((((k3.extBut sa.extBut (Ne.symm z3)).extBut sb.extBut (Ne.symm n13)).extBut sc.extBut (Ne.symm O3)).extBut sd.extBut (Ne.symm n23)).extBut se.extBut (Ne.symm O3)) (((((e3.extBut sa.extBut x3z).extBut sb.extBut x31).extBut sc.extBut Ub).extBut sd.extBut x32).extBut se.extBut Ub) gc λhf kf sf=>wpAny_pure ?_)
 have Of:dw hf O a b r:=sf.extBut _ _ O3 Oe
 refine wpAny_bind (wpAny_seqItems Of rfl ?_)
 refine wpAny_bind (Ip Of λhg Og sg=>?_)
 replace Og:dw hg O a b c:=Og
 refine wpAny_bind <| wpAny_letGo <| wpAny_pure <| wpAny_pure ?_
 refine wpAny_bind (wpAny_seqItems Og rfl ?_)
 refine wpAny_bind <| wpAny_newTuple ?_
 have size:hg.objs.size=s.heap.objs.size:=by rw[sg.1,sf.1,se.1,sd.1,sc.1,sb.1,sa.1]
 have up:∀x o,x∉[y,O,j1,j2,j3]->s.heap.get? x=some o->hg.get? x=some o:=λx o h t=>by
  simp only[List.mem_cons,List.not_mem_nil,or_false,not_or]at h
  obtain⟨u1,u2,u3,u4,u5⟩:=h
  exact sg.extBut _ _ u2 (sf.extBut _ _ u5 (se.extBut _ _ u2 (sd.extBut _ _ u4 (sc.extBut _ _ u2 (sb.extBut _ _ u3 (sa.extBut _ _ u1 t))))))
 have zg:IsZip hg y I O .ellipsis:=sg.extBut _ _ zO (sf.extBut _ _ z3 (se.extBut _ _ zO (sd.extBut _ _ z2 (sc.extBut _ _ zO (sb.extBut _ _ z1 za)))))
 have Ir:hg.IsListIter j1 m1 (n+1):=((((kb.extBut sc.extBut (Ne.symm O1)).extBut sd.extBut n12).extBut se.extBut (Ne.symm O1)).extBut sf.extBut n13).extBut sg.extBut (Ne.symm O1)
 have Iu:hg.IsListIter j2 m2 (n+1):=((kd.extBut se.extBut (Ne.symm O2)).extBut sf.extBut n23).extBut sg.extBut (Ne.symm O2)
 have Iw:hg.IsListIter j3 m3 (n+1):=kf.extBut sg.extBut (Ne.symm O3)
 have zl:y<hg.objs.size:=Heap.lt_size zg
 show wpAny _ _ (Builtin.SmallTypes.ownedTupleHandOut (.ref y) (.ref hg.objs.size) >>= _) _ _ _
 refine wpAny_bind ?_; unfold Builtin.SmallTypes.ownedTupleHandOut
 have zp:IsZip (hg.push {cls:=.type "tuple",data:=.seq #[a,b,c] }) y I O .ellipsis:=Heap.get?_push_of_some _ zg
 refine wpAny_bind (wpAny_setField_rec zp (by simp) λhu zu su=>?_)
 replace zu:IsZip hu y I O (rawInt hg.objs.size):=zu
 refine wpAny_setField_rec zu (by simp) λhv zv sv=>?_
 replace zv:IsZip hv y I O (rawInt hg.objs.size):=zv
 have top:∀x o,x≠y->hg.get? x=some o->hv.get? x=some o:=λx o v t=>sv.extBut _ _ v (su.extBut _ _ v (Heap.get?_push_of_some _ t))
 have Tv:dw hv hg.objs.size a b c:=sv.extBut _ _ (Nat.ne_of_gt zl) (su.extBut _ _ (Nat.ne_of_gt zl) (Heap.get?_push_size _ rfl))
 rw[size]at zv Tv
 apply wpAny_pure; refine⟨_,rfl,?_⟩
 show Q (.ref hg.objs.size) _
 rw[size]
 exact fin hv zv (top _ _ (Ne.symm zO) Og) (Ir.at λo t=>top _ o (Ne.symm z1) t) (Iu.at λo t=>top _ o (Ne.symm z2) t) (Iw.at λo t=>top _ o (Ne.symm z3) t) Tv λx o h t=>top x o (λv=>h (by simp[v])) (up x o h t)
end
section
variable {prog:Program}{w:World}{s:Shared}{A:Around}{E:Value->Shared->Prop}
theorem afz(hh:A.handled=none)(y1:j1≠y)(Iz:m1≠y)(hy:IsZip s.heap y I O .none)(hI:dw s.heap I (.ref j1) (.ref j2) (.ref j3))(k1:s.heap.IsListIter j1 m1 n)(e1:s.heap.IsList m1 as)(ga:as[n]?=none)
  (fin:∀g x,(∀c o,c≠y->c≠j1->s.heap.get? c=some o->g.get? c=some o)->(∃o,g.get? x=some o/\o.cls=.type "StopIteration")->E (.ref x) {s with heap:=g }):wpAny (model prog w) A (Builtin.«zip.__next__» ⟨[.ref y],[]⟩) Q E s:=by
 show wpAny _ _ (field (.ref y) 2 >>= _) _ _ _
 refine wpAny_bind (wpAny_field hy rfl (x:=.bool false) rfl ?_)
 show wpAny _ _ (field (.ref y) 3 >>= _) _ _ _
 refine wpAny_bind (wpAny_field hy rfl (x:=.ref I) rfl ?_)
 refine wpAny_bind (wpAny_seqItems hI rfl ?_)
 show wpAny _ _ (Builtin.SmallTypes.ownedTupleIsFree (.ref y) >>= _) _ _ _
 refine wpAny_bind ?_; unfold Builtin.SmallTypes.ownedTupleIsFree
 refine wpAny_bind (wpAny_field hy rfl (x:=.none) rfl (wpAny_pure ?_))
 simp only[if_true]
 refine wpAny_bind <| wpAny_rule ?_
 refine wpAny_bind (wpAny_field hy rfl (x:=.ref O) rfl ?_)
 refine wpAny_bind (wpAny_setField_rec hy (by simp) λha za sa=>?_)
 replace za:IsZip ha y I O .ellipsis:=za
 refine wpAny_bind ?_
 simp only[List.forIn_cons,List.forIn_nil,List.zipIdx_nil,List.zipIdx_cons]
 refine wpAny_bind <| wpAny_bind <| wpAny_onRaise ?_
 show wpAny _ _ (Builtin.SmallTypes.nextOf (.ref j1) >>= _) _ _ _
 refine wpAny_bind (wpAny_nextOf_list_end hh (k1.extBut sa.extBut y1) (e1.extBut sa.extBut Iz) ga λhb x sb hx=>?_)
 obtain⟨o,ho,hc⟩:=hx
 have zb:IsZip hb y I O .ellipsis:=sb _ _ (Ne.symm y1) za
 have xy:x≠y:=λv=>by subst v; rw[zb]at ho; cases ho; simp at hc
 exact wpAny_setField_rec zb (by simp) λhd _ sd=>fin hd x (λc o c1 c2 t=>sd.extBut _ _ c1 (sb _ _ c2 (sa.extBut _ _ c1 t))) ⟨o,sd.extBut _ _ xy ho,hc⟩
theorem afA(D:Bt y I O j1 j2 j3 m1 m2 m3)
  (hy:IsZip s.heap y I O .none) (hI:dw s.heap I (.ref j1) (.ref j2) (.ref j3)) (hO:dw s.heap O p q r) (k1:s.heap.IsListIter j1 m1 n) (k2:s.heap.IsListIter j2 m2 n) (k3:s.heap.IsListIter j3 m3 n)
  (e1:s.heap.IsList m1 as) (e2:s.heap.IsList m2 bs) (e3:s.heap.IsList m3 cs) (ga:as[n]?=some a) (gb:bs[n]?=some b) (gc:cs[n]?=some c)
  (fin:∀g,IsZip g y I O (rawInt s.heap.objs.size)->dw g O a b c->g.IsListIter j1 m1 (n+1)->g.IsListIter j2 m2 (n+1)->g.IsListIter j3 m3 (n+1)->dw g s.heap.objs.size a b c->Ua y O j1 j2 j3 s.heap g->Q (some (.ref s.heap.objs.size)) {s with heap:=g }) :
  wpAny (model prog w) A (pyNext (.ref y)) Q E s:=by
 have ty:s.TypeIs (.ref y) "zip" := ⟨_,hy,rfl⟩
 unfold pyNext
 exact wpAny_bind (wpAny_attempt (wpAny_callSpecial?_slot (name:=Str.ofString "__next__") ty F.slot_zip_next (wpAny_call_entry F.slot_zip_next ty F.entry_zip_next (afy D hy hI hO k1 k2 k3 e1 e2 e3 ga gb gc λg q1 q2 q3 q4 q5 q6 q7=>wpAny_pure (fin g q1 q2 q3 q4 q5 q6 q7)) (F.args_zip_next_1 _))))
theorem afB(hh:A.handled=none)(y1:j1≠y)(Iz:m1≠y)(hy:IsZip s.heap y I O .none)(hI:dw s.heap I (.ref j1) (.ref j2) (.ref j3))(k1:s.heap.IsListIter j1 m1 n)(e1:s.heap.IsList m1 as)(ga:as[n]?=none)
  (fin:∀g,(∀c o,c≠y->c≠j1->s.heap.get? c=some o->g.get? c=some o)->Q none {s with heap:=g }):wpAny (model prog w) A (pyNext (.ref y)) Q E s:=by
 have ty:s.TypeIs (.ref y) "zip" := ⟨_,hy,rfl⟩
 unfold pyNext
 refine wpAny_bind (wpAny_attempt (wpAny_callSpecial?_slot (name:=Str.ofString "__next__") ty F.slot_zip_next (wpAny_call_entry F.slot_zip_next ty F.entry_zip_next (afz hh y1 Iz hy hI k1 e1 ga λg x k hx=>?_) (F.args_zip_next_1 _))))
 obtain⟨o,ho,hc⟩:=hx
 exact wpAny_bind (wpAny_isInstance (T := "StopIteration") (b:=true) ⟨o,ho,hc⟩ isSubtype_stop (wpAny_pure (fin _ k)))
end
theorem tc3(a b c:Value):checkTypeCall "zip" ⟨[a,b,c],[]⟩=pure ():=by kernel_rfl
theorem nc3(a b c:Value):checkBuiltinCall "zip.__new__" ⟨[.type "zip",a,b,c],[]⟩=pure ():=by kernel_rfl
noncomputable abbrev wR(h:Heap)(m1:Addr):Heap:=h.push {cls:=.type "list_iterator",data:=.fields #[.ref m1,.int 0 0] }
noncomputable abbrev wU(h:Heap)(m1 m2:Addr):Heap:=(wR h m1).push {cls:=.type "list_iterator",data:=.fields #[.ref m2,.int 0 0] }
noncomputable abbrev Bu(h:Heap)(m1 m2 m3:Addr):Heap:=(wU h m1 m2).push {cls:=.type "list_iterator",data:=.fields #[.ref m3,.int 0 0] }
noncomputable abbrev Bv(h:Heap)(m1 m2 m3:Addr):Heap:=(Bu h m1 m2 m3).push {cls:=.type "tuple",data:=.seq #[.ref h.objs.size,.ref (wR h m1).objs.size,.ref (wU h m1 m2).objs.size] }
noncomputable abbrev Bw(h:Heap)(m1 m2 m3:Addr):Heap:=(Bv h m1 m2 m3).push {cls:=.type "tuple",data:=.seq #[.none,.none,.none] }
noncomputable abbrev qW(h:Heap)(m1 m2 m3:Addr):Heap:=(Bw h m1 m2 m3).push {cls:=.type "zip",data:=.fields #[.none,.bool false,.bool false,.ref (Bu h m1 m2 m3).objs.size,.ref (Bv h m1 m2 m3).objs.size] }
theorem afC(m1 m2 m3:Addr)(as bs cs:Array Value):Meets (Builtin.«zip.__new__» ⟨[.type "zip",.ref m1,.ref m2,.ref m3],[]⟩) (λ_ R s=>s.heap.IsList m1 as/\s.heap.IsList m2 bs/\s.heap.IsList m3 cs/\R (.ok (.ret (.ref (Bw s.heap m1 m2 m3).objs.size))) {s with heap:=qW s.heap m1 m2 m3 }) :=
 .of_wp λprog w A R s h=>by
  obtain⟨hp,g,d,tk,os⟩:=s; obtain⟨e1,e2,e3,h⟩:=h
  have sub:=sub_zip
  have f1:Heap.IsList (Shared.heap ⟨hp,g,d,tk,os⟩) m1 as:=e1
  have f2:Heap.IsList (Shared.heap ⟨wR hp m1,g,d,tk,os⟩) m2 bs:=Heap.IsList.push e2 _
  have f3:Heap.IsList (Shared.heap ⟨wU hp m1 m2,g,d,tk,os⟩) m3 cs:=Heap.IsList.push (Heap.IsList.push e3 _) _
  wp_walk using wpAny_pyIter_list f1,wpAny_pyIter_list f2,wpAny_pyIter_list f3
  exact⟨_,rfl,h⟩
theorem oi4(a b c d:Value):argsOk "object.__init__" ⟨[a,b,c,d],[]⟩:=by
 unfold argsOk
 rw[signature?_of (id := "object.__init__") (o:=['t','c','e','j','b','o']) (n:=['_','_','t','i','n','i','_','_']) (by kernel_rfl) F.owner_object]
 kernel_rfl
section
variable {prog:Program}{w:World}{s:Shared}{A:Around}{E:Value->Shared->Prop}
theorem afD(e1:s.heap.IsList m1 as)(e2:s.heap.IsList m2 bs)(e3:s.heap.IsList m3 cs)
  (fin:∀g,IsZip g (s.heap.objs.size+5) (s.heap.objs.size+3) (s.heap.objs.size+4) .none->dw g (s.heap.objs.size+3) (.ref s.heap.objs.size) (.ref (s.heap.objs.size+1)) (.ref (s.heap.objs.size+2)) ->
   dw g (s.heap.objs.size+4) .none .none .none->g.IsListIter s.heap.objs.size m1 0->g.IsListIter (s.heap.objs.size+1) m2 0->g.IsListIter (s.heap.objs.size+2) m3 0->(∀c o,s.heap.get? c=some o->g.get? c=some o)->Q (.ref (s.heap.objs.size+5)) {s with heap:=g }) :
  wpAny (model prog w) A (call (.type "zip") [.ref m1,.ref m2,.ref m3]) Q E s:=by
 refine callType_new F.called_zip (by decide) (tc3 _ _ _) (nc3 _ _ _) (λobj=>oi4 obj _ _ _) F.entry_zip_new (afC m1 m2 m3 as bs cs) ⟨e1,e2,e3,?_⟩
 have y1:(wR s.heap m1).objs.size=s.heap.objs.size+1:=Heap.size_push ..
 have y2:(wU s.heap m1 m2).objs.size=s.heap.objs.size+2:=by rw[Heap.size_push,y1]
 have y3:(Bu s.heap m1 m2 m3).objs.size=s.heap.objs.size+3:=by rw[Heap.size_push,y2]
 have y4:(Bv s.heap m1 m2 m3).objs.size=s.heap.objs.size+4:=by rw[Heap.size_push,y3]
 have y5:(Bw s.heap m1 m2 m3).objs.size=s.heap.objs.size+5:=by rw[Heap.size_push,y4]
 have up:∀{h:Heap} {o:Obj} {c:Addr} {u:Obj},h.get? c=some u->(h.push o).get? c=some u:=λq=>Heap.get?_push_of_some _ q
 have p6:(qW s.heap m1 m2 m3).get? (Bw s.heap m1 m2 m3).objs.size=some _:=Heap.get?_push_size _ rfl
 have p5:(qW s.heap m1 m2 m3).get? (Bv s.heap m1 m2 m3).objs.size=some _:=up (Heap.get?_push_size _ rfl)
 have p4:(qW s.heap m1 m2 m3).get? (Bu s.heap m1 m2 m3).objs.size=some _:=up (up (Heap.get?_push_size _ rfl))
 have p3:(qW s.heap m1 m2 m3).get? (wU s.heap m1 m2).objs.size=some _:=up (up (up (Heap.get?_push_size _ rfl)))
 have p2:(qW s.heap m1 m2 m3).get? (wR s.heap m1).objs.size=some _:=up (up (up (up (Heap.get?_push_size _ rfl))))
 have p1:(qW s.heap m1 m2 m3).get? s.heap.objs.size=some _:=up (up (up (up (up (Heap.get?_push_size _ rfl)))))
 show _/\_
 rw[y3,y4,y5]at p6
 rw[y1,y2,y3]at p4
 rw[y4]at p5
 rw[y2]at p3
 rw[y1]at p2
 rw[y5]
 exact⟨⟨_,p6,rfl⟩,fin _ p6 p4 p5 ⟨_,p1,rfl,rfl⟩ ⟨_,p2,rfl,rfl⟩ ⟨_,p3,rfl,rfl⟩ λc o q=>up (up (up (up (up (up q)))))⟩
end
noncomputable def Uc(K:FZ)(m1 m2 m3:Addr):It where
 go:=λi H=>∃xs ys ws x y u,aG K H m1 xs/\aG K H m2 ys/\aG K H m3 ws/\xs[i]?=some x/\ys[i]?=some y/\ws[i]?=some u
 jV:=λi H v H'=>∃T x y u,v=.ref T/\H T=none/\H'=upd H T (.tup [x,y,u])/\∀xs ys ws,aG K H m1 xs->aG K H m2 ys->aG K H m3 ws->xs[i]?=some x/\ys[i]?=some y/\ws[i]?=some u
 stop:=λi H=>∃xs,aG K H m1 xs/\xs.length<=i
def Bx(m1 m2 m3 y I O j1 j2 j3:Addr)(i:Nat)(h:Heap):Prop:=IsZip h y I O .none/\dw h I (.ref j1) (.ref j2) (.ref j3)/\(∃a b c,dw h O a b c)/\h.IsListIter j1 m1 i/\h.IsListIter j2 m2 i/\h.IsListIter j3 m3 i
section
variable {P:Program}{w:World}{K:FZ}
theorem Bx.at(st:Bx m1 m2 m3 y I O j1 j2 j3 i h):∀b∈[y,I,O,j1,j2,j3],∃o,h.get? b=some o/\∀v,o.data ≠ .cell v:=λb hb=>by
 obtain⟨hy,hI,⟨a,b',c,hO⟩,⟨o1,e1,_,d1⟩,⟨o2,e2,_,d2⟩,⟨o3,e3,_,d3⟩⟩:=st
 simp only[List.mem_cons,List.not_mem_nil,or_false]at hb
 rcases hb with rfl|rfl|rfl|rfl|rfl|rfl
 .exact⟨_,hy,λv q=>nomatch q⟩
 .exact⟨_,hI,λv q=>nomatch q⟩
 .exact⟨_,hO,λv q=>nomatch q⟩
 .exact⟨o1,e1,λv q=>by rw[d1]at q; cases q⟩
 .exact⟨o2,e2,λv q=>by rw[d2]at q; cases q⟩
 .exact⟨o3,e3,λv q=>by rw[d3]at q; cases q⟩
theorem afE(m1 m2 m3 y I O j1 j2 j3:Addr)(D:Bt y I O j1 j2 j3 m1 m2 m3):Turn P w K (.Tuple elts k pos) (Uc K m1 m2 m3) [y,I,O,j1,j2,j3] y (Bx m1 m2 m3 y I O j1 j2 j3) where
 mem:=by simp
 obj:=λi h st b hb=>st.at b hb
 keep:=λi h h' st kp=>by
  obtain⟨hy,hI,⟨a,b,c,hO⟩,k1,k2,k3⟩:=st
  exact⟨kp y (by simp) _ hy,kp I (by simp) _ hI,⟨a,b,c,kp O (by simp) _ hO⟩,k1.at λo e=>kp j1 (by simp) o e,k2.at λo e=>kp j2 (by simp) o e,k3.at λo e=>kp j3 (by simp) o e⟩
 item:=by
  intro X hP hw' hK hc i pins s σ H E Iv hf st hg
  subst hP hw' hK
  obtain⟨xs,ys,ws,x,v,u,q1,q2,q3,hx,hv,hu⟩:=hg
  obtain⟨t1,r1,p1,_⟩:=Iv.list q1
  obtain⟨t2,r2,p2,_⟩:=Iv.list q2
  obtain⟨t3,r3,p3,_⟩:=Iv.list q3
  obtain⟨x',gx,rx⟩:=r1.get hx
  obtain⟨v',gv,rv⟩:=r2.get hv
  obtain⟨u',gu,ru⟩:=r3.get hu
  obtain⟨hy,hI,⟨a,b,c,hO⟩,k1,k2,k3⟩:=id st
  refine afA D hy hI hO k1 k2 k3 p1.isList p2.isList p3.isList (by simpa using gx) (by simpa using gv) (by simpa using gu) λg zg Og Ir Iu Iw Tg ch=>?_
  refine⟨.ref s.heap.objs.size,rfl,?_⟩
  refine wpAny_letOwnedTupleGo_zip zg λg' zg' qX=>?_
  have lt:∀b∈[y,I,O,j1,j2,j3],b<s.heap.objs.size:=λb hb=>by
   obtain⟨o,e,_⟩:=st.at b hb
   exact Heap.lt_size e
  have nT:s.heap.objs.size∉[y,I,O,j1,j2,j3]:=λm=>absurd (lt _ m) (Nat.lt_irrefl _)
  have nTy:s.heap.objs.size≠y:=λz=>nT (by simp[z])
  have nd:=D.nd
  simp only[List.nodup_cons,List.mem_cons,List.not_mem_nil,or_false,not_or,List.nodup_nil,and_true,not_false_eq_true]at nd
  obtain⟨⟨yI,yO,y1,y2,y3⟩,⟨IO,I1,I2,I3⟩,_⟩:=nd
  have hI':dw g' I (.ref j1) (.ref j2) (.ref j3):=qX.extBut _ _ (Ne.symm yI) (ch I _ (by simp only[List.mem_cons,List.not_mem_nil,or_false,not_or]; exact⟨Ne.symm yI,IO,I1,I2,I3⟩) hI)
  have st':Bx m1 m2 m3 y I O j1 j2 j3 (i+1) g':=⟨zg',hI',⟨_,_,_,qX.extBut _ _ (Ne.symm yO) Og⟩,Ir.extBut qX.extBut (Ne.symm y1),Iu.extBut qX.extBut (Ne.symm y2),Iw.extBut qX.extBut (Ne.symm y3)⟩
  have kk:∀b o,b∉[y,I,O,j1,j2,j3]->s.heap.get? b=some o->g'.get? b=some o:=λb o n e=>by
   simp only[List.mem_cons,List.not_mem_nil,or_false,not_or]at n
   exact qX.extBut _ _ n.1 (ch b o (by simp only[List.mem_cons,List.not_mem_nil,or_false,not_or]; exact⟨n.1,n.2.2⟩) e)
  have ht:IsTup g' s.heap.objs.size #[x',v',u']:=⟨_,qX.extBut _ _ nTy Tg,rfl,_,rfl⟩
  have I':=Iv.Ge (tk:=s.toks) (xs:=[x,v,u]) (its:=[x',v',u']) hf kk (λb hb=>(st'.at b hb).imp λo q=>q.1) (Nat.le_refl _) ht (.cons rx (.cons rv (.cons ru .nil))) (by show 3<=sizeLine; decide)
  refine⟨.ref s.heap.objs.size,_,I',rfl,⟨s.heap.objs.size,x,v,u,rfl,Iv.hok.fresh (Nat.le_refl _),rfl,λa1 a2 a3 z1 z2 z3=>?_⟩,st',λb hb=>?_⟩
  .rw[Iv.oR z1 q1,Iv.oR z2 q2,Iv.oR z3 q3]
   exact⟨hx,hv,hu⟩
  .have nb:b≠s.heap.objs.size:=λe0=>nT (e0▸hb)
   rw[aL nb]
   exact(hf b hb).1
 done:=by
  intro X hP hw' hK hc i pins s σ H E Iv hf st hg
  subst hP hw' hK
  obtain⟨xs,q1,e⟩:=hg
  obtain⟨t1,r1,p1,_⟩:=Iv.list q1
  obtain⟨hy,hI,_,k1,_,_⟩:=id st
  have nd:=D.nd
  have d1:=D.l1
  simp only[List.nodup_cons,List.mem_cons,List.not_mem_nil,or_false,not_or,List.nodup_nil,and_true,not_false_eq_true]at nd d1
  refine afB (Iv.ok.hd hc) (Ne.symm nd.1.2.2.1) d1.1 hy hI k1 p1.isList (by simp; rw[<-r1.length]; exact e) λg ch=>⟨rfl,Iv.Gf (tk:=s.toks) hf λb o n t=>?_⟩
  simp only[List.mem_cons,List.not_mem_nil,or_false,not_or]at n
  exact ch b o n.1 n.2.2.2.1 t
 self:=λA i s Q E st h=>wpAny_pyIter_zip st.1 h
end
theorem n5(n m:Nat)(h:m<n):m∉[n+5,n+4,n,n+1,n+2]:=by
 simp only[List.mem_cons,List.not_mem_nil,or_false,not_or]
 lia
theorem n6(n d:Nat)(h:d∈[n+5,n+3,n+4,n,n+1,n+2]):n<=d:=by
 simp only[List.mem_cons,List.not_mem_nil,or_false]at h
 lia
theorem nd6(n:Nat) : [n+5,n+3,n+4,n,n+1,n+2].Nodup:=by simp
section
variable {X:Cx}
def afF(K:FZ)(ta:TA):TI:=λσ H R=>ta σ H λvs H1=>∃m1 m2 m3,vs=[.ref m1,.ref m2,.ref m3]/\(∃xs,aG K H1 m1 xs)/\(∃xs,aG K H1 m2 xs)/\(∃xs,aG K H1 m3 xs)/\R (Uc K m1 m2 m3) H1
theorem afG(hm:X.mg "zip" = none) (ha:PA X [a,b,c] ta) (hg:Gl X "zip" := by rfl) (hs:starEach [a,b,c] X.env=[(false,eval a X.env),(false,eval b X.env),(false,eval c X.env)]:=by rfl) (hs2:starEach [b,c] X.env=[(false,eval b X.env),(false,eval c X.env)]:=by rfl) :
  PI X (.Tuple elts k tpos) (.Call (.Name "zip" p) [a,b,c] [] pos) (afF X.K ta):=by
 intro pins s σ H R I h
 refine Call_ (jT I hg hm (show bootBuiltins "zip" = some (.type "zip") by decide +kernel) (PyProof.Rows.callWith_type1 (aD (ha pos pins s σ H _ I h) λus s1 ⟨vs,H1,I1,r1,q1⟩=>?_) (by rw[hs,hs2]) (by rw[hs2]; rfl)))
 obtain⟨m1,m2,m3,e,⟨xs,h1⟩,⟨ys,h2⟩,⟨ws,h3⟩,q⟩:=q1
 subst e
 cases r1 with
 |cons r rr =>
  cases rr with
  |cons r' rr =>
   cases rr with
   |cons r'' rr =>
    cases rr
    cases r
    cases r'
    cases r''
    obtain⟨t1,_,p1,_⟩:=I1.list h1
    obtain⟨t2,_,p2,_⟩:=I1.list h2
    obtain⟨t3,_,p3,_⟩:=I1.list h3
    obtain⟨o1,e1,_⟩:=p1.isList
    obtain⟨o2,e2,_⟩:=p2.isList
    obtain⟨o3,e3,_⟩:=p3.isList
    have l1:=Heap.lt_size e1
    have l2:=Heap.lt_size e2
    have l3:=Heap.lt_size e3
    refine afD p1.isList p2.isList p3.isList λg zy zI zO k1 k2 k3 ch=>?_
    refine wpAny_pyIter_zip zy ?_
    have D:Bt (s1.heap.objs.size+5) (s1.heap.objs.size+3) (s1.heap.objs.size+4) s1.heap.objs.size (s1.heap.objs.size+1) (s1.heap.objs.size+2) m1 m2 m3:=⟨nd6 _,n5 _ _ l1,n5 _ _ l2,n5 _ _ l3⟩
    refine⟨_,[_,_,_,_,_,_],_,_,H1,rfl,I1.kept (t':=s1.toks) ch,afE m1 m2 m3 _ _ _ _ _ _ D,⟨zy,zI,⟨_,_,_,zO⟩,k1,k2,k3⟩,λd hd=>?_,q⟩
    have ge:s1.heap.objs.size<=d:=n6 _ _ hd
    exact I1.jW ge (I1.hok.fresh ge)
end
def wV(K:FZ)(tl:TE):TI:=λσ H R=>Qa K tl σ H R\/Qc K tl σ H R
theorem IK(hl:PE X l tl):PI X tg l (wV X.K tl):=λpins s σ H R I h=>by
 rcases h with h|h
 .exact acd hl pins s σ H R I h
 .exact ace hl pins s σ H R I h
noncomputable def DG:Rv->Rs (List Tr × Bool)
 |.v (.lst ts) _=>.ok (ts,true)
 |.v (.tup ts) _=>.ok (ts,false)
 |_=>.bad
noncomputable def tY(f:EF):IF:=λρ=>(f ρ).bind λp=>(DG p.1).bind λz=>.ok (z.1,p.2)
theorem afH{K:FZ}(q:aG (au K) G a xs)(r:aA (au K) G xs us):Bs (au K) G (Em K a) us:=λG' H' m s i=>by
 have q':=(s.seq (m.seq q)).toK
 refine⟨λz=>⟨xs,q',by rw[r.length]; lia⟩,λu hu=>?_⟩
 obtain⟨x,hx,rx⟩:=r.jh hu
 refine⟨⟨xs,x,q',hx⟩,λy cj ⟨e,z⟩=>?_⟩
 have:=z xs q'
 rw[hx]at this
 cases this
 subst e
 exact⟨G',.refl s,rx.mono m⟩
theorem afI{K:FZ}(q:bw (au K) G a xs)(r:aA (au K) G xs us):Bs (au K) G (Eo K a) us:=λG' H' m s i=>by
 have q':=(s.iC (m.iC q)).toK
 refine⟨λz=>⟨xs,q',by rw[r.length]; lia⟩,λu hu=>?_⟩
 obtain⟨x,hx,rx⟩:=r.jh hu
 refine⟨⟨xs,x,q',hx⟩,λy cj ⟨e,z⟩=>?_⟩
 have:=z xs q'
 rw[hx]at this
 cases this
 subst e
 exact⟨G',.refl s,rx.mono m⟩
theorem afJ{K:FZ}(h:Ti ⟨au K,xe⟩ (tY f) σ H Q):wV K (Te ⟨au K,xe⟩ f) σ H Q:=by
 obtain⟨R,ρ,G,F,e,h⟩:=h
 unfold tY at h
 cases k:f ρ with
 |bad=>rw[k]at h; exact h.elim
 |ex c=>rw[k]at h; exact .inl ⟨R,ρ,G,F,e,by rw[k]; exact h⟩
 |ok p =>
  obtain⟨r,ρ1⟩:=p
  rw[k]at h
  match r,h,k with
  |.v (.lst ts) fr,h,k =>
   refine .inl ⟨R,ρ,G,F,e,?_⟩
   rw[k]
   intro v G1 H1 F1 e1 s1 v1
   obtain⟨G2,e2,s2,_,r⟩:=e1.tO e s1 v1 rfl
   cases r with
   |lst q r=>exact⟨_,rfl,⟨_,(e2.sub.seq q).toK⟩,h _ G2 H1 F1 e2 s2 (afH q r)⟩
  |.v (.tup ts) fr,h,k =>
   refine .inr ⟨R,ρ,G,F,e,?_⟩
   rw[k]
   intro v G1 H1 F1 e1 s1 v1
   obtain⟨G2,e2,s2,_,r⟩:=e1.tO e s1 v1 rfl
   cases r with
   |tup q r=>exact⟨_,rfl,⟨_,(e2.sub.iC q).toK⟩,h _ G2 H1 F1 e2 s2 (afI q r)⟩
noncomputable def bY(a:VE aB):VI (tY aB) where
 ck Γ e:=Io e.2&&a.ck Γ e.2
 cs:=a.cs
 ok q o h:=⟨(IK (a.ok q o (an.mp h).2)).imp λ_ _ _=>afJ,(an.mp h).1⟩
noncomputable def upTo(lo:Int):Nat->List Tr
 | 0=>[]
 |n+1=>.int lo::upTo (lo+1) n
theorem afK(lo:Int):∀n,(upTo lo n).length=n:=λn=>by
 induction n generalizing lo with
 |zero=>rfl
 |succ n ih=>rw[upTo,List.length_cons,ih]
theorem afL{lo:Int}{n i:Nat}(h:(upTo lo n)[i]?=some u):i<n/\u=.int (lo+i):=by
 induction n generalizing lo i with
 |zero=>simp[upTo]at h
 |succ n ih =>
  rw[upTo]at h
  cases i with
  |zero =>
   simp at h
   subst h
   exact⟨Nat.zero_lt_succ _,by simp⟩
  |succ i =>
   obtain⟨h1,h2⟩:=ih (lo:=lo+1) (i:=i) (by simpa using h)
   refine⟨Nat.succ_lt_succ h1,h2.trans ?_⟩
   congr 1
   lia
theorem afM{K:FZ}(lo:Int)(n:Nat):Bs K G (yQ lo n) (upTo lo n):=λG' H' m s i=>by
 refine⟨λz=>?_,λu hu=>?_⟩
 .rw[afK]at z
  exact Nat.le_of_eq z.symm
 .obtain⟨h1,rfl⟩:=afL hu
  refine⟨h1,λx cj yl=>?_⟩
  obtain⟨rfl,rfl⟩:=yl
  exact⟨G',.refl s,.int _⟩
noncomputable def okR(i:Int):Bool:=decide (-1000000<=i)&&decide (i<=1000000)
theorem afN(h:okR i=true) : -1000000<=i/\i<=1000000:=by simpa[okR]using h
noncomputable def Ud(fa:AF):IF:=λρ=>(fa ρ).bind λp=>(drs p.2 p.1).bind λas=>match as with
 | [.int j]=>if okR j=true then .ok (upTo 0 j.toNat,p.2)else .bad
 |_=>.bad
noncomputable def eU(a:VA aB):VI (Ud aB) where
 ck Γ e:=eH e.2 λ_ aK _ _=>aN aK λ_ aX=>aO aX (Γ.B.contains ("range" : Str)&&nF Γ "range" a e.2)
 cs:=a.cs
 ok:=@λcl E Γ X e q o h=>by
  obtain⟨u,e⟩:=e
  dsimp only at h
  walk_at "O"
  obtain⟨h1,h⟩:=an.mp h
  obtain⟨p,b,es,p',e',h2,h3⟩:=qN h
  cases e'
  obtain⟨pa,la,na⟩:=a.ok q o h3
  refine⟨(ach (dh o h2).1 (o.B _ (by simpa using h1)) pa (eG (na _ (List.mem_cons_self ..)))).imp λσ H Q=>bx λR ρ G F e h=>jE e .refl h λp h vs G1 H1 F1 e1 s1 v1=>?_,rfl⟩
  obtain⟨as,k1,h⟩:=h.okb (v5 _ _)
  have r:=v7 e1 v1 k1
  split at h
  case h_2=>exact h.elim
  split at h
  case isFalse=>exact h.elim
  have c:=afN ‹_›
  cases r with
  |cons h1 r1 =>
   cases r1
   rw[h1.int]
   exact⟨_,rfl,by lia,by lia,h _ G1 H1 F1 e1 s1 (afM 0 _)⟩
theorem wW:∀{es:List Expr},(∀x∈es,notStar x=true)->∀env,starEach es env=es.map λe=>(false,eval e env)
 | [],_,_=>rfl
 |e::es,h,env=>by
  rw[eG (h e (List.mem_cons_self ..)),wW (λy m=>h y (List.mem_cons_of_mem _ m)) env]; rfl
theorem yT{K:FZ}(s:Same G H)(h:H p=none)(r:aA K G xs ts):∃G',Gw K G H G' (upd H p (.tup xs))/\Rep K G' (.ref p) (.tup ts):=⟨_,.new s h,VN.newT s h r⟩
noncomputable def pL(us vs:List Tr):List Tr:=(us.zip vs).map λp=>.tup [p.1,p.2]
noncomputable def Ue(fa:AF):IF:=λρ=>(fa ρ).bind λp=>match p.1 with
 | [.v (.lst us) _,.v (.lst vs) _]=>.ok (pL us vs,p.2)
 |_=>.bad
theorem tZ{K:FZ}(r:aA K G vs (.lst us::ts)):∃a xs vs',vs=.ref a::vs'/\aG K G a xs/\aA K G xs us/\aA K G vs' ts:=by
 cases r with
 |cons h r=>cases h with
  |lst q p=>exact⟨_,_,_,rfl,q,p,r⟩
noncomputable def iZ(a:VA aB):VI (Ue aB) where
 ck Γ e:=iH e.1 λ_ _ _=>eH e.2 λ_ aK _ _=>aN aK λ_ aX=>aN aX λ_ bB=>aO bB (Γ.B.contains ("zip" : Str)&&nF Γ "zip" a e.2)
 cs:=a.cs
 ok:=@λcl E Γ X e q o h=>by
  obtain⟨u,e⟩:=e
  walk_at "O"
  obtain⟨h1,h⟩:=an.mp h
  obtain⟨p,b,es,p',e',h2,h3⟩:=qN h
  cases e'
  obtain⟨pa,la,na⟩:=a.ok q o h3
  refine⟨(ad1 (o.B _ (by simpa using h1)) pa (dh o h2).1 (wW na _) (wW (λy m=>na y (List.mem_cons_of_mem _ m)) _)).imp λσ H Q=>bx λR ρ G F e h=>jE e .refl h λp h vs G1 H1 F1 e1 s1 v1=>?_,rfl⟩
  split at h
  case h_2=>exact h.elim
  rename_i us _ ws _ ep
  rw[ep]at v1
  obtain⟨G2,e2,s2,_,r⟩:=e1.vis e s1 v1 rfl
  obtain⟨_,_,_,rfl,q1,p1,r⟩:=tZ r
  obtain⟨_,_,_,rfl,q2,p2,r⟩:=tZ r
  cases r
  refine⟨_,_,rfl,⟨_,(e2.sub.seq q1).toK⟩,⟨_,(e2.sub.seq q2).toK⟩,h _ G2 H1 F1 e2 s2 λG' H' m s i=>?_⟩
  have qY:=(s.seq (m.seq q1)).toK
  have IV:=(s.seq (m.seq q2)).toK
  refine⟨λz=>⟨_,_,qY,IV,by rw[p1.length,p2.length,z]; simp[pL]⟩,λu hu=>?_⟩
  unfold pL at hu
  rw[List.getElem?_map]at hu
  obtain⟨p,hp,rfl⟩:=Option.map_eq_some_iff.mp hu
  obtain⟨k1,k2⟩:=List.getElem?_zip_eq_some.mp hp
  obtain⟨x,hx,rx⟩:=p1.jh k1
  obtain⟨y,hy,ry⟩:=p2.jh k2
  refine⟨⟨_,_,x,y,qY,IV,hx,hy⟩,λv cj yl=>?_⟩
  obtain⟨T,x',y',rfl,fT,rfl,z⟩:=yl
  obtain⟨z1,z2⟩:=z _ _ qY IV
  rw[hx]at z1
  rw[hy]at z2
  cases z1
  cases z2
  exact yT s fT (.cons (rx.mono m) (.cons (ry.mono m) .nil))
noncomputable def BJ(us:List Tr):List Tr:=us.zipIdx.map λp=>.tup [.int (p.2:Nat),p.1]
noncomputable def Ug(fa:AF):IF:=λρ=>(fa ρ).bind λp=>match p.1 with
 | [.v (.lst us) _]=>.ok (BJ us,p.2)
 |_=>.bad
noncomputable def iEn(a:VA aB):VI (Ug aB) where
 ck Γ e:=iH e.1 λ_ _ _=>eH e.2 λ_ aK _ _=>aN aK λ_ aX=>aO aX (Γ.B.contains ("enumerate" : Str)&&nF Γ "enumerate" a e.2)
 cs:=a.cs
 ok:=@λcl E Γ X e q o h=>by
  obtain⟨u,e⟩:=e
  walk_at "O"
  obtain⟨h1,h⟩:=an.mp h
  obtain⟨p,b,es,p',e',h2,h3⟩:=qN h
  cases e'
  obtain⟨pa,la,na⟩:=a.ok q o h3
  refine⟨(afx (o.B _ (by simpa using h1)) pa (dh o h2).1 (na _ (List.mem_cons_self ..))).imp λσ H Q=>bx λR ρ G F e h=>jE e .refl h λp h vs G1 H1 F1 e1 s1 v1=>?_,rfl⟩
  split at h
  case h_2=>exact h.elim
  rename_i us _ ep
  rw[ep]at v1
  obtain⟨G2,e2,s2,_,r⟩:=e1.vis e s1 v1 rfl
  obtain⟨_,_,_,rfl,q1,p1,r⟩:=tZ r
  cases r
  refine⟨_,rfl,⟨_,(e2.sub.seq q1).toK⟩,h _ G2 H1 F1 e2 s2 λG' H' m s i=>?_⟩
  have qY:=(s.seq (m.seq q1)).toK
  refine⟨λz=>⟨_,qY,by rw[p1.length,z]; simp[BJ]⟩,λu hu=>?_⟩
  unfold BJ at hu
  rw[List.getElem?_map]at hu
  obtain⟨p,hp,rfl⟩:=Option.map_eq_some_iff.mp hu
  rw[List.getElem?_zipIdx]at hp
  obtain⟨y,hy,rfl⟩:=Option.map_eq_some_iff.mp hp
  obtain⟨x,hx,rx⟩:=p1.jh hy
  refine⟨⟨_,x,qY,hx⟩,λv cj yl=>?_⟩
  obtain⟨T,x',rfl,fT,rfl,z⟩:=yl
  have z1:=z _ qY
  rw[hx]at z1
  cases z1
  show ∃G'',_/\Rep _ _ (.ref T) (.tup [.int ((0+i:Nat):Int),y])
  rw[Nat.zero_add]
  exact yT s fT (.cons (.int _) (.cons (rx.mono m) .nil))
noncomputable def jo:List Tr->List Tr->List Tr->List Tr
 |u::us,v::vs,w::ws=>.tup [u,v,w]::jo us vs ws
 |_,_,_=>[]
theorem Uh:∀{us vs ws:List Tr},us.length<=vs.length->us.length<=ws.length->(jo us vs ws).length=us.length
 | [],_,_,_,_=>rfl
 |_::us,[],_,h,_=>absurd h (by simp)
 |_::us,_::vs,[],_,h=>absurd h (by simp)
 |_::us,_::vs,_::ws,h,h'=>by
  simp only[jo,List.length_cons]
  rw[Uh (by simpa using h) (by simpa using h')]
theorem Ui:∀{us vs ws:List Tr} {i:Nat} {d:Tr},(jo us vs ws)[i]?=some d->∃u v w,us[i]?=some u/\vs[i]?=some v/\ws[i]?=some w/\d=.tup [u,v,w]
 | [],_,_,i,d,h=>by simp[jo]at h
 |_::us,[],_,i,d,h=>by simp[jo]at h
 |_::us,_::vs,[],i,d,h=>by simp[jo]at h
 |u::us,v::vs,w::ws,0,d,h=>⟨u,v,w,rfl,rfl,rfl,by simpa[jo,eq_comm]using h⟩
 |_::us,_::vs,_::ws,i+1,d,h=>Ui (us:=us) (vs:=vs) (ws:=ws) (i:=i) (by simpa[jo]using h)
noncomputable def Uj(fa:AF):IF:=λρ=>(fa ρ).bind λp=>match p.1 with
 | [.v (.lst us) _,.v (.lst vs) _,.v (.lst ws) _]=>if us.length<=vs.length/\us.length<=ws.length then .ok (jo us vs ws,p.2)else .bad
 |_=>.bad
noncomputable def iZ3(a:VA aB):VI (Uj aB) where
 ck Γ e:=iH e.1 λ_ _ _=>eH e.2 λ_ aK _ _=>aN aK λ_ aX=>aN aX λ_ bB=>aN bB λ_ bL=>aO bL (Γ.B.contains ("zip" : Str)&&nF Γ "zip" a e.2)
 cs:=a.cs
 ok:=@λcl E Γ X e q o h=>by
  obtain⟨u,e⟩:=e
  walk_at "O"
  obtain⟨h1,h⟩:=an.mp h
  obtain⟨p,b,es,p',e',h2,h3⟩:=qN h
  cases e'
  obtain⟨pa,la,na⟩:=a.ok q o h3
  refine⟨(afG (o.B _ (by simpa using h1)) pa (dh o h2).1 (wW na _) (wW (λy m=>na y (List.mem_cons_of_mem _ m)) _)).imp λσ H Q=>bx λR ρ G F e h=>jE e .refl h λp h vs G1 H1 F1 e1 s1 v1=>?_,rfl⟩
  split at h
  case h_2=>exact h.elim
  rename_i us _ ws _ zs _ ep
  rw[ep]at v1
  split at h
  case isFalse=>exact h.elim
  rename_i hn
  obtain⟨G2,e2,s2,_,r⟩:=e1.vis e s1 v1 rfl
  obtain⟨_,_,_,rfl,q1,p1,r⟩:=tZ r
  obtain⟨_,_,_,rfl,q2,p2,r⟩:=tZ r
  obtain⟨_,_,_,rfl,q3,p3,r⟩:=tZ r
  cases r
  refine⟨_,_,_,rfl,⟨_,(e2.sub.seq q1).toK⟩,⟨_,(e2.sub.seq q2).toK⟩,⟨_,(e2.sub.seq q3).toK⟩,h _ G2 H1 F1 e2 s2 λG' H' m s i=>?_⟩
  have toK:∀{d:Addr} {ds:List V},aG (au X.K) G2 d ds->aG X.K H' d ds:=λq=>(s.seq (m.seq q)).toK
  refine⟨λz=>⟨_,toK q1,by rw[z,Uh hn.1 hn.2,p1.length]; exact Nat.le_refl _⟩,λd hd=>?_⟩
  obtain⟨u,v,w,g1,g2,g3,rfl⟩:=Ui hd
  obtain⟨x,hx,rx⟩:=p1.jh g1
  obtain⟨y,hy,ry⟩:=p2.jh g2
  obtain⟨z,hz,rz⟩:=p3.jh g3
  refine⟨⟨_,_,_,x,y,z,toK q1,toK q2,toK q3,hx,hy,hz⟩,λo cj yl=>?_⟩
  obtain⟨T,x',y',z',rfl,fT,rfl,al⟩:=yl
  obtain⟨a1,a2,a3⟩:=al _ _ _ (toK q1) (toK q2) (toK q3)
  rw[hx]at a1
  rw[hy]at a2
  rw[hz]at a3
  cases a1
  cases a2
  cases a3
  exact yT s fT (.cons (rx.mono m) (.cons (ry.mono m) (.cons (rz.mono m) .nil)))
noncomputable def Uk(ifs:List Expr)(env:Env):Sem Bool:=forIn ifs true λc r=>if r=true then do let ok <-isTrue c env (eval c env); pure (ForInStep.yield ok)else pure (ForInStep.yield r)
def wX(X:Cx)(ifs:List Expr)(tc:TT):Prop:=∀(pins:LO) s σ H Q,Inv X pins σ H s->tc σ H Q->wpAny (model X.prog X.w) X.A (Uk ifs X.env) (TP X pins σ Q) X.xe s
theorem BK(h:PT X c tc):wX X [c] tc:=λpins s σ H Q I q=>wpAny_tests_one (h pins s σ H Q I q)
theorem wY:wX X [] λ_ H Q=>Q true H:=λpins s σ H Q I q=>wpAny_pure ⟨H,I,q⟩
section
variable {prog:Program}{w:World}{A:Around}{R:Result->Shared->Prop}{s:Shared}
theorem afO(I:Nat->Shared->Prop)
  (turn:∀n s,I n s->wpAny (model prog w) A (pyNext it) (λr s₁=>match r with
   |none=>R (.ok .next) s₁
   | some v=>wpAny (model prog w) A (letOwnedTupleGo target it v) (λ_ s₁'=>wpAny (model prog w) A (assign target env v) (λ_ s₂ => wpAny (model prog w) A (Uk ifs env) (λb s₂'=>if b=true then wpAny (model prog w) A (eval elt env) (λx s₃ =>
     wpAny (model prog w) A (call (.builtin "list.append") [acc,x]) (λ_ s₄=>∃m,m<n/\I m s₄) (λ_ _=>False) s₃) (λ_ _=>False) s₂' else ∃m,m<n/\I m s₂') (λ_ _=>False) s₂) (λ_ _=>False) s₁') (λ_ _=>False) s₁) (λ_ _=>False) s)
  (n:Nat) (h:I n s) :
  codeAny (model prog w) A (.compLoop (.ListComp elt [⟨target,iter,ifs,0⟩] scope pos) 0 it acc env) R s:=by
 refine codeAny_loop rfl I (λn s hI=>?_) n h
 show wpAny _ _ ((compTurn (.ListComp elt [⟨target,iter,ifs,0⟩] scope pos) 0 it acc env).onRaise (λx=>do noteFrame x env; theTreesLotGoes x)) _ _ s
 refine wpAny_noted (wpAny_noRaise ?_)
 rw[compTurn_list]
 refine wpAny_bind (wpAny_standAt (wpAny_bind (wpAny_mono (turn n s hI) (λr s₁ h₁=>?_) λ_ _ h'=>h')))
 cases r with
 |none=>exact wpAny_pure h₁
 |some v =>
  refine wpAny_bind (wpAny_mono h₁ (λ_ s₁' h₁'=>?_) λ_ _ h'=>h')
  refine wpAny_bind (wpAny_mono h₁' (λ_ s₂ h₂=>wpAny_bind (wpAny_mono h₂ (λok s₃ h₃=>?_) λ_ _ h'=>h')) λ_ _ h'=>h')
  cases ok with
  |false=>exact wpAny_pure ⟨rfl,h₃⟩
  |true =>
   exact wpAny_bind (wpAny_bind (wpAny_mono h₃ (λx s₄ h₄=>wpAny_bind (wpAny_mono h₄ (λ_ s₅ h₅=>wpAny_pure (wpAny_pure ⟨rfl,h₅⟩)) λ_ _ h'=>h')) λ_ _ h'=>h'))
end
def qZ(wi:TI)(g:TG)(src:List (Option Nat))(tc:TT)(te:TE):TE:=λσ H Q=>wi σ H λJ H1=>∀D,H1 D=none ->
 ∃W:Nat->Nat->St->Hp->Prop,(∃m,W 0 m (bV src σ) (upd H1 D (.lst [])))/\∀i m σ' H',W i m σ' H' ->
  (J.stop i H'/\Fw Q D H')\/(J.go i H'/\∀x cj,J.jV i H' x cj->g x σ' cj λσ2 H2=>tc σ2 H2 λb wZ=>if b=true then te σ2 wZ λv H3=>∃xs,H3 D=some (.lst xs)/\xs.length<sizeLine/\∃m',m'<m/\W (i+1) m' σ2 (upd H3 D (.lst (xs++[v])))else ∃m',m'<m/\W (i+1) m' σ2 wZ)
section
variable {X:Cx}{elt tg iter:Expr}{ifs:List Expr}{scope sc:Scope}{pos:Pos}{No N:List Str}{src:List (Option Nat)}{wi:TI}{g:TG}{te:TE}{tc:TT}
theorem Ul{pins:LO}{RR:Value->Addr->Result->Shared->Prop}(hsc:X.env.scope=sc)(fO:X.N=No)(S:o8 sc No N src scope)(hc:X.calm=true)
  (hi:PI X tg iter wi) (hg:∀C s H ex,PG (aY X N scope C s H ex) tg g) (hq:∀C s H ex,wX (aY X N scope C s H ex) ifs tc) (he:∀C s H ex,PE (aY X N scope C s H ex) elt te) (I:Inv X pins σ H s) (h:qZ wi g src tc te σ H Q)
  (hRR:∀D C H' s' m,Inv X pins σ H' s'->H' C=none->C≠X.env.locals->X.s₀.heap.objs.size<=C->(∀x c,X.env.cells.lookup x=some c->c≠C)->(∀p∈X.pn++pins,p.1≠C)->s'.heap.Ns C m->Q (.ref D) H'->RR (.ref D) C (.ok .next) s') :
  wpAny (model X.prog X.w) X.A (eval iter X.env) (λx s₁=>wpAny (model X.prog X.w) X.A (pyIter x) (λit s₂=>wpAny (model X.prog X.w) X.A (newList []) (λacc s₃ =>
   wpAny (model X.prog X.w) X.A (newFunctionEnv scope X.env.globals (bM X.env.cells scope.names []) [] X.env.qual none .none (some X.env)) (λcenv s₄ =>
    codeAny (model X.prog X.w) X.A (.compStart (.ListComp elt [⟨tg,iter,ifs,0⟩] scope pos) 0 it acc {cenv with scope:=relabel scope X.env }) (RR acc cenv.locals) s₄) X.xe s₃) X.xe s₂) X.xe s₁) X.xe s:=by
 refine aD (hi pins s σ H _ I h) λv s1 h1=>aD h1 λitv s2 h2=>?_
 obtain⟨it,fp,tn,J,H2,e,I2,T,st2,f2,hW⟩:=h2
 subst e
 have IW:H2 s2.heap.objs.size=none:=I2.hok.fresh (Nat.le_refl _)
 obtain⟨W,⟨m0,w0⟩,turn⟩:=hW s2.heap.objs.size IW
 have w6:∀b∈fp,b<s2.heap.objs.size:=λb hb=>by
  obtain⟨o,e,_⟩:=T.obj 0 _ st2 b hb
  exact Heap.lt_size e
 refine wpAny_newObj_type ?_
 have I3:Inv X pins σ (upd H2 s2.heap.objs.size (.lst [])) {s2 with heap:=s2.heap.push {cls:=.type "list",dict:=none,data:=.seq ([]:List Value).toArray } }:=I2.zB (t':=s2.toks) (ys:=[]) .nil (Nat.zero_le _)
 have f3:∀b∈fp,bT X pins (upd H2 s2.heap.objs.size (.lst [])) b:=λb hb=>by
  obtain⟨q,r⟩:=f2 b hb
  exact⟨by rw[aL (Nat.ne_of_lt (w6 b hb))]; exact q,r⟩
 have st3:tn 0 (s2.heap.push {cls:=.type "list",dict:=none,data:=.seq ([]:List Value).toArray }):=T.keep _ _ _ st2 λb hb o e=>Heap.get?_push_of_some _ e
 have j7:∀b∈fp,b<(s2.heap.push {cls:=.type "list",dict:=none,data:=.seq ([]:List Value).toArray }).objs.size:=λb hb=>by
  rw[Heap.size_push]; exact Nat.lt_succ_of_lt (w6 b hb)
 generalize hD:s2.heap.objs.size=D at *
 generalize hh3:s2.heap.push {cls:=.type "list",dict:=none,data:=.seq ([]:List Value).toArray }=h3 at *
 generalize hH3:upd H2 D (.lst [])=H3 at *
 refine Rg λh₁ hns old ck=>?_
 dsimp only at hns old ck ⊢
 have I4:Inv (aY X N scope h3.objs.size {s2 with heap:=h3 } H3 fp) [] (bV src σ) H3 {s2 with heap:=h₁,toks:=s2.toks+([]:List (Str × Value)).length }:=Rh (s:={s2 with heap:=h3 }) hsc fO S I3 f3 j7 hns old ck
 have qe:tn 0 h₁ := T.keep _ _ _ st3 λb hb o e=>old b o e
 have loop:codeAny (model X.prog X.w) X.A (.compLoop (.ListComp elt [⟨tg,iter,ifs,0⟩] scope pos) 0 (.ref it) (.ref D) (compEnvC scope (cellsFrom (h3.objs.size+1) scope.names (bM X.env.cells scope.names [])) h3.objs.size X.env)) (RR (.ref D) h3.objs.size) {s2 with heap:=h₁,toks:=s2.toks+([]:List (Str × Value)).length }:=by
  have stat:∀{H':Hp},(∀b∈fp,H' b=none)->∀b∈fp,bT (aY X N scope h3.objs.size {s2 with heap:=h3 } H3 fp) [] H' b:=λhn b hb=>by
   obtain⟨g0,g1,g2,g3,g4,g5⟩:=f3 b hb
   refine⟨hn b hb,Nat.ne_of_lt (j7 b hb),λz=>?_,.inl hb,λx c e=>?_,λp hp=>absurd (show p∈([]:LO)from hp) (by simp)⟩
   .rcases List.mem_cons.mp (I3.uY b z)with z|z
    .exact g1 z
    .exact g2 z
   .have e:(cellsFrom (h3.objs.size+1) scope.names (bM X.env.cells scope.names [])).lookup x=some c:=e
    rw[mV,rY]at e
    split at e
    .rename_i z
     cases e
     exact λy=>absurd (Nat.le_trans (ck.empty x c (PySem.mem_of_lookup z)).2 (y▸Nat.le_of_lt (j7 b hb))) (Nat.not_succ_le_self _)
    .rcases o7 e with q|q
     .simp at q
     .exact g4 x c q
  refine afO (λn s'=>∃i σ' H',Inv (aY X N scope h3.objs.size {s2 with heap:=h3 } H3 fp) [] σ' H' s'/\tn i s'.heap/\(∀b∈fp,H' b=none)/\W i n σ' H') ?_ m0 ⟨0,bV src σ,H3,I4,qe,λb hb=>(f3 b hb).1,w0⟩
  rintro n s5 ⟨i,σ5,H5,I5,iu,lA,w5⟩
  rcases turn i n σ5 H5 w5 with⟨stop,qn⟩|⟨go,step⟩
  .refine aD (T.done (aY X N scope h3.objs.size {s2 with heap:=h3 } H3 fp) rfl rfl rfl hc i [] s5 σ5 H5 (λ_ _=>False) I5 (stat lA) iu stop) λr s6 ⟨hr,I6⟩=>?_
   subst hr
   obtain⟨mC,hnC,_⟩:=id I6.loc
   have I7:Inv X pins σ H5 s6:=I3.call' (ch:=fp) I6.os I6.base I6.hok I6.bare λb hb=>by
    obtain⟨g0,g1,g2,g3,g4,g5⟩:=f3 b hb
    exact⟨g3,g1,g4,g5⟩
   refine hRR D h3.objs.size H5 s6 mC I7 I6.free (Nat.ne_of_gt I3.lt) I3.sz (λx c e z=>?_) (λp hp z=>?_) hnC qn
   .obtain⟨v,q⟩:=I3.cell x c e
    exact absurd q.lt (by rw[z]; exact Nat.lt_irrefl _)
   .exact absurd (Heap.lt_size (I3.pin p hp).1) (by rw[z]; exact Nat.lt_irrefl _)
  .refine aD (T.item (aY X N scope h3.objs.size {s2 with heap:=h3 } H3 fp) rfl rfl rfl hc i [] s5 σ5 H5 (λ_ _=>False) I5 (stat lA) iu go) λr s6 ⟨u,hr,h6⟩=>?_
   subst hr
   refine aD h6 λ_ s7 ⟨x,H7,I7,r7,y7,gq,xg⟩=>?_
   have xq:=I7.pinned (stat xg) (T.obj _ _ gq)
   refine aD (hg _ _ _ _ _ s7 σ5 H7 x u _ xq r7 (step x H7 y7)) λ_ s8 ⟨σ8,H8,I8,q8⟩=>?_
   refine aD (hq _ _ _ _ _ s8 σ8 H8 _ I8 q8) λbb s8' ⟨Um,BL,BP⟩=>?_
   cases bb with
   |false =>
    rw[if_neg (by decide)]at BP ⊢
    obtain⟨m',hm,w9⟩:=BP
    refine⟨m',hm,i+1,σ8,Um,BL.qw (pins:=[]),T.keep _ _ _ gq λb hb o e=>(BL.pin (b,o) (List.mem_append_right _ (List.mem_append_right _ (lu hb e)))).1,λb hb=>?_,w9⟩
    obtain⟨o,e,d⟩:=T.obj _ _ gq b hb
    exact(BL.pin (b,o) (List.mem_append_right _ (List.mem_append_right _ (lu hb e)))).2.1
   |true =>
   rw[if_pos rfl]at BP ⊢
   refine aD (he _ _ _ _ _ s8' σ8 Um _ BL BP) λyv s9 ⟨y,H9,I9,r9,q9⟩=>?_
   obtain⟨xs,e9,l9,m',hm,w9⟩:=q9
   refine aD (zF (X:=aY X N scope h3.objs.size {s2 with heap:=h3 } H3 fp) _ s9 σ8 H9 (.ref D) [y] (.ref D) [yv] (λ_ H'=>W (i+1) m' σ8 H') I9 rfl (.cons r9 .nil) ⟨D,xs,y,rfl,rfl,e9,l9,w9⟩) λ_ BR ⟨_,Ja,rm,_,Jb⟩=>?_
   refine⟨m',hm,i+1,σ8,Ja,rm.qw (pins:=[]),T.keep _ _ _ gq λb hb o e=>(rm.pin (b,o) (List.mem_append_right _ (List.mem_append_right _ (lu hb e)))).1,λb hb=>?_,Jb⟩
   obtain⟨o,e,d⟩:=T.obj _ _ gq b hb
   exact(rm.pin (b,o) (List.mem_append_right _ (List.mem_append_right _ (lu hb e)))).2.1
 exact codeAny_compStart_list loop (T.self _ _ _ _ _ qe loop)
theorem xr(hsc:X.env.scope=sc)(fO:X.N=No)(S:o8 sc No N src scope)(hc:X.calm=true)
  (hi:PI X tg iter wi) (hg:∀C s H ex,PG (aY X N scope C s H ex) tg g) (hq:∀C s H ex,wX (aY X N scope C s H ex) ifs tc) (he:∀C s H ex,PE (aY X N scope C s H ex) elt te)
  (hs:∀x,foldedSetIterable iter X.env x=pure x:=by intro _; rfl):PE X (.ListComp elt [⟨tg,iter,ifs,0⟩] scope pos) (qZ wi g src tc te):=by
 refine⟨λpins s σ H Q I h=>?_⟩
 rw[eval_ListComp]
 have hcl:closureFor scope X.env=pure (bM X.env.cells scope.names []):=zG λy hy e=>by
  have k:=S.free y hy e
  rw[<-hsc]at k
  obtain⟨c,q⟩:=I.ok.has y.1 k
  rw[q]; rfl
 refine wpAny_comprehension_free (use:=none) rfl hs hcl S.kind S.names (Ul (RR:=λacc C=>compPost (model X.prog X.w) X.A X.xe none (EP X pins σ Q) acc C) hsc fO S hc hi hg hq he I h ?_)
 intro D C H' s' m I' n1 n2 n3 n4 n5 hn q
 refine⟨m,hn,λh' hs'=>⟨.ref D,H',?_,rfl,q⟩⟩
 exact I'.turned (t':=s'.toks) (λb o hb e=>(hs'.2 b hb).trans e) n1 (Ne.symm (Ne.symm n2)) (.inr n3) n4 n5
theorem BW(hN:X.N.Nodup)(hyi:X.N[i]?=some y)(hy:Loc X.env.scope y)(hsc:X.env.scope=sc)(fO:X.N=No)(S:o8 sc No N src scope)(hc:X.calm=true)
  (hi:PI X tg iter wi) (hg:∀C s H ex,PG (aY X N scope C s H ex) tg g) (hq:∀C s H ex,wX (aY X N scope C s H ex) ifs tc) (he:∀C s H ex,PE (aY X N scope C s H ex) elt te)
  (hsw:swapsWith (.ListComp elt [⟨tg,iter,ifs,0⟩] scope pos) (some (.Name y py)) spos.line X.env=pure true:=by rfl) (hs:∀x,foldedSetIterable iter X.env x=pure x:=by intro _; rfl)
  (hf:X.fn y=true\/X.env.scope.names.lookup y=some .local:=by first|exact .inl rfl|exact .inr rfl|assumption) :
  PS X (.Assign [.Name y py] (.ListComp elt [⟨tg,iter,ifs,0⟩] scope pos) spos) (mO (qZ wi g src tc te) (lq i)):=by
 refine⟨λpins s σ H D I h=>?_⟩
 rw[exec_Assign_Name_used _ _ _ _ hsw]
 have hcl:closureFor scope X.env=pure (bM X.env.cells scope.names []):=zG λy hy e=>by
  have k:=S.free y hy e
  rw[<-hsc]at k
  obtain⟨c,q⟩:=I.ok.has y.1 k
  rw[q]; rfl
 refine wpAny_bind (wpAny_standAt (wpAny_bind ?_))
 show wpAny _ X.A (do let _ <-comprehension (.ListComp elt [⟨tg,iter,ifs,0⟩] scope pos) scope X.env _ (newList []) false (eval iter X.env) (some (assign (.Name y py) X.env))) _ _ s
 refine wpAny_bind (wpAny_mono (wpAny_comprehension_free (use:=some (assign (.Name y py) X.env)) (Q:=λ_ s'=>SP X pins D .next s') rfl hs hcl S.kind S.names
  (Ul (Q:=λv H'=>D.nx (σ.set i (some v)) H') (RR:=λacc C=>compPost (model X.prog X.w) X.A X.xe (some (assign (.Name y py) X.env)) (λ_ s'=>SP X pins D .next s') acc C) hsc fO S hc hi hg hq he I h ?_)) (λ_ s' hq=>wpAny_pure (wpAny_pure hq)) λ_ _ e=>e)
 intro Da C H' s' m I' n1 n2 n3 n4 n5 hn q
 show wpAny _ X.A (assign (.Name y py) X.env (.ref Da)) _ _ _
 refine wpAny_assign_Name (O5 I' hN hyi hy (v:=.ref Da) rfl (λs2 I2 hsame=>?_) hf)
 obtain⟨a,hsb,ha⟩:=hsame
 have hCa:C≠a:=by
  rcases ha with z|z
  .rw[z]; exact n2
  .exact λe=>n4 y a z e.symm
 refine⟨m,hn.sameBut hsb hCa,λh' hs'=>⟨σ.set i (some (.ref Da)),H',?_,q⟩⟩
 exact I2.turned (t':=s2.toks) (λb o hb e=>(hs'.2 b hb).trans e) n1 n2 (.inr n3) n4 n5
end
def Mu(ρ : En)(i:Nat):Prop:=∃ts,ρ[i]?=some (Sl.ow ts)\/ρ[i]?=some (Sl.rf ts)
noncomputable def afP:Sl->Sl
 |.dp _=>.un
 |s=>s
noncomputable def dO(src:List (Option Nat))(ρ : En):En:=src.map λo=>match o with
 |some j=>afP ((ρ[j]?).getD .un)
 |none=>.un
noncomputable def bG:List (Option Nat)->En->En->En
 |some j::src,.ow ts::ρi,ρ=>bG src ρi (cM j ts ρ)
 |some j::src,.rf ts::ρi,ρ=>bG src ρi (cM j ts ρ)
 |_::src,_::ρi,ρ=>bG src ρi ρ
 |_,_,ρ=>ρ
noncomputable def jJ:Option Sl->Bool
 |some (.ow _)=>true
 |some (.rf _)=>true
 |_=>false
noncomputable def d8:List (Option Nat)->En->En->Bool
 |some j::src,s::ρi,ρ=>(!jJ ρ[j]? || jJ (some s))&&d8 src ρi ρ
 |none::src,_::ρi,ρ=>d8 src ρi ρ
 | [],_,_=>true
 |_,[],_=>false
theorem BX:jJ ρ[i]?=true↔Mu ρ i:=by
 constructor
 .intro h
  unfold jJ at h
  split at h <;> rename_i q
  .exact⟨_,.inl q⟩
  .exact⟨_,.inr q⟩
  .cases h
 .rintro⟨ts,h|h⟩ <;> rw[h] <;> rfl
theorem Jc:∀{src:List (Option Nat)} {ρi ρ : En} {k j:Nat},d8 src ρi ρ = true->src[k]?=some (some j)->Mu ρ j->Mu ρi k
 | [],_,_,_,_,_,h,_=>by simp at h
 |some j'::src,s::ρi,ρ,k,j,h,hk,m=>by
  unfold d8 at h
  rw[Bool.and_eq_true]at h
  cases k with
  |zero =>
   simp at hk
   subst hk
   have h1:=h.1
   rw[BX.mpr m]at h1
   cases s with
   |un=>cases h1
   |sh _=>cases h1
   |dp _=>cases h1
   |ow ts=>exact⟨ts,.inl rfl⟩
   |rf ts=>exact⟨ts,.inr rfl⟩
  |succ k =>
   obtain⟨ts,q⟩:=Jc (k:=k) h.2 (by simpa using hk) m
   exact⟨ts,by simpa using q⟩
 |none::src,s::ρi,ρ,k,j,h,hk,m=>by
  unfold d8 at h
  cases k with
  |zero=>simp at hk
  |succ k =>
   obtain⟨ts,q⟩:=Jc (k:=k) h (by simpa using hk) m
   exact⟨ts,by simpa using q⟩
 |some j'::src,[],ρ,k,j,h,hk,m=>by unfold d8 at h; cases h
 |none::src,[],ρ,k,j,h,hk,m=>by unfold d8 at h; cases h
def Inj(src:List (Option Nat)):Prop:=∀(k k' j:Nat),src[k]?=some (some j)->src[k']?=some (some j)->k=k'
theorem afQ(h:(src.filterMap id).Nodup):Inj src:=by
 induction src with
 |nil=>intro k k' j h1; simp at h1
 |cons o src ih =>
  have tail:Inj src:=by
   cases o with
   |none=>exact ih (by simpa using h)
   |some j=>exact ih (by simpa using(List.nodup_cons.mp (by simpa using h)).2)
  intro k k' j h1 h2
  have no:∀{m:Nat},o=some j->src[m]?=some (some j)->False:=λ{m} e q=>by
   subst e
   have n:=(List.nodup_cons.mp (show(j::src.filterMap id).Nodup by simpa using h)).1
   exact n (List.mem_filterMap.mpr ⟨some j,List.mem_of_getElem? q,rfl⟩)
  cases k with
  |zero =>
   have e1:o=some j:=by simpa using h1
   cases k' with
   |zero=>rfl
   |succ k'=>exact(no e1 (by simpa using h2)).elim
  |succ k =>
   cases k' with
   |zero=>exact(no (by simpa using h2) (by simpa using h1)).elim
   |succ k'=>rw[tail k k' j (by simpa using h1) (by simpa using h2)]
theorem afR(h : ρ[i]?=ρ'[i]?):(cM i ts ρ)[i]?=(cM i ts ρ')[i]? := by
 unfold cM
 rw[h]
 cases q : ρ'[i]? with
 |none=>dsimp only; rw[h,q]
 |some s =>
  have l':=(List.getElem?_eq_some_iff.mp q).1
  have l:=(List.getElem?_eq_some_iff.mp (h.trans q)).1
  cases s with
  |un=>dsimp only; rw[h,q]
  |sh _=>dsimp only; rw[h,q]
  |dp _=>dsimp only; rw[h,q]
  |ow _=>dsimp only; rw[dY l,dY l']
  |rf _=>dsimp only; rw[dY l,dY l']
theorem rA:∀(src:List (Option Nat)) (ρi ρ : En),(bG src ρi ρ).length = ρ.length
 | [],ρi,ρ=>by unfold bG; rfl
 |o::src,[],ρ=>by cases o <;> (unfold bG; rfl)
 |none::src,s::ρi,ρ=>by unfold bG; exact rA src ρi ρ
 |some j::src,.un::ρi,ρ=>by unfold bG; exact rA src ρi ρ
 |some j::src,.sh _::ρi,ρ=>by unfold bG; exact rA src ρi ρ
 |some j::src,.dp _::ρi,ρ=>by unfold bG; exact rA src ρi ρ
 |some j::src,.ow ts::ρi,ρ=>by unfold bG; rw[rA src ρi,HW]
 |some j::src,.rf ts::ρi,ρ=>by unfold bG; rw[rA src ρi,HW]
theorem Jd:∀{src:List (Option Nat)} {ρi ρ : En} {j:Nat} {s:Option Sl},Inj src->(bG src ρi ρ)[j]?=s ->
  (∃(k:Nat) (ts:List Tr),src[k]?=some (some j)/\(ρi[k]?=some (.ow ts)\/ρi[k]?=some (.rf ts))/\(cM j ts ρ)[j]?=s)\/((∀k:Nat,src[k]?=some (some j)->¬Mu ρi k)/\ρ[j]?=s)
 | [],ρi,ρ,j,s,_,h=>by
  unfold bG at h
  exact .inr ⟨λk q=>by simp at q,h⟩
 |o::src,[],ρ,j,s,_,h=>by
  have h : ρ[j]?=s:=by cases o <;> (unfold bG at h; exact h)
  refine .inr ⟨λk _ m=>?_,h⟩
  obtain⟨_,q|q⟩:=m <;> simp at q
 |o::src,x::ρi,ρ,j,s,I,h=>by
  have It:Inj src:=λk k' j h1 h2=>by
   have:=I (k+1) (k'+1) j (by simpa using h1) (by simpa using h2)
   omega
  have keep:(o=none\/jJ (some x)=false)->(bG src ρi ρ)[j]?=s->(∃(k:Nat) (ts:List Tr),(o::src)[k]?=some (some j)/\((x::ρi)[k]?=some (.ow ts)\/(x::ρi)[k]?=some (.rf ts))/\(cM j ts ρ)[j]?=s)\/((∀k:Nat,(o::src)[k]?=some (some j)->¬Mu (x::ρi) k)/\ρ[j]?=s):=λc h=>by
   rcases Jd It h with⟨k,ts,q1,q2,q3⟩|⟨n,q⟩
   .exact .inl ⟨k+1,ts,by simpa using q1,by simpa using q2,q3⟩
   .refine .inr ⟨λk qk m=>?_,q⟩
    cases k with
    |zero =>
     rcases c with c|c
     .subst c; simp at qk
     .rw[<-BX]at m
      have m:jJ (some x)=true:=m
      rw[c]at m
      cases m
    |succ k =>
     obtain⟨ts,m⟩:=m
     exact n k (by simpa using qk) ⟨ts,by simpa using m⟩
  have put:∀(i:Nat) (ts:List Tr),o=some i->(x=.ow ts\/x=.rf ts)->(bG src ρi (cM i ts ρ))[j]?=s->(∃(k:Nat) (ts:List Tr),(o::src)[k]?=some (some j)/\((x::ρi)[k]?=some (.ow ts)\/(x::ρi)[k]?=some (.rf ts))/\(cM j ts ρ)[j]?=s)\/((∀k:Nat,(o::src)[k]?=some (some j)->¬Mu (x::ρi) k)/\ρ[j]?=s):=λi ts eo ex h=>by
   rcases Jd It h with⟨k,us,q1,q2,q3⟩|⟨n,q⟩
   .have ne:j≠i:=λz=>by
     subst z
     have:=I 0 (k+1) j (by simpa using eo) (by simpa using q1)
     omega
    refine .inl ⟨k+1,us,by simpa using q1,by simpa using q2,?_⟩
    rw[<-afR (HS ne)]
    exact q3
   .by_cases e:j=i
    .subst e
     refine .inl ⟨0,ts,by simpa using eo,?_,q⟩
     rcases ex with rfl|rfl
     .exact .inl rfl
     .exact .inr rfl
    .rw[HS e]at q
     refine .inr ⟨λk qk m=>?_,q⟩
     cases k with
     |zero =>
      rw[eo]at qk
      simp at qk
      exact e qk.symm
     |succ k =>
      obtain⟨ts,m⟩:=m
      exact n k (by simpa using qk) ⟨ts,by simpa using m⟩
  cases o with
  |none=>unfold bG at h; exact keep (.inl rfl) h
  |some i =>
   cases x with
   |un=>unfold bG at h; exact keep (.inr rfl) h
   |sh _=>unfold bG at h; exact keep (.inr rfl) h
   |dp _=>unfold bG at h; exact keep (.inr rfl) h
   |ow ts=>unfold bG at h; exact put i ts rfl (.inl rfl) h
   |rf ts=>unfold bG at h; exact put i ts rfl (.inr rfl) h
theorem Je{src:List (Option Nat)}{k j:Nat}(h:src[k]?=some (some j)):(bV src σ)[k]?=some ((σ[j]?).join):=by
 unfold bV
 rw[List.getElem?_map,h]
 rfl
theorem afS{k j:Nat}(h:src[k]?=some (some j))(q:(bV src σ)[k]?=some (some v)) : σ[j]?=some (some v):=by
 rw[Je h]at q
 cases z : σ[j]? with
 |none=>rw[z]at q; cases q
 |some o =>
  rw[z]at q
  rw[show o=some v from Option.some.inj q]
noncomputable def inF(src:List (Option Nat))(ρ : En)(F:Fp):Fp:=λk=>match src[k]? with
 |some (some j)=>if jJ ρ[j]?=true then F j else []
 |_=>[]
theorem uc(h:b∈inF src ρ F k):∃j,src[k]?=some (some j)/\jJ ρ[j]?=true/\b∈F j:=by
 unfold inF at h
 split at h
 .split at h
  .exact⟨_,‹_›,‹_›,h⟩
  .cases h
 .cases h
theorem ud(h:Fn (inF src ρ F) b):Fn F b:=h.elim λ_ h=>(uc h).elim λj h=>⟨j,h.2.2⟩
section
variable {K:FZ}{R:Addr->Prop}{ρ ρ1:En}{σ τ : St}{G H G1 H1 G' H':Hp}{F F1 F':Fp}{src:List (Option Nat)}
theorem Ok.enter(e:Ok K R ρ σ G H F)(I:Inj src):Ok K R (dO src ρ) (bV src σ) G H (inF src ρ F):=by
 refine⟨by simp[dO,bV],e.sub,e.tb,e.tg,λb h=>e.hid b (ud h),e.rg,λk k' b h1 h2=>?_,λk=>?_⟩
 .obtain⟨j,q1,_,q2⟩:=uc h1
  obtain⟨j',q3,_,q4⟩:=uc h2
  cases e.di j j' b q2 q4
  exact I k k' j q1 q3
 .unfold dO inF
  rw[List.getElem?_map]
  cases q:src[k]? with
  |none=>rfl
  |some o =>
   cases o with
   |none=>rfl
   |some j =>
    rw[Je q]
    have z:=e.sl j
    dsimp only[Option.map]
    cases w : ρ[j]? with
    |none=>rfl
    |some sl =>
     rw[w]at z
     cases sl with
     |un=>rfl
     |dp ts=>rfl
     |sh T =>
      obtain⟨_,u,z1,z2⟩:=z
      rw[z1]
      exact⟨rfl,u,rfl,z2⟩
     |ow ts =>
      obtain⟨a,xs,z1,z2⟩:=z
      rw[z1]
      exact⟨a,xs,rfl,z2⟩
     |rf ts =>
      obtain⟨a,xs,z1,z2⟩:=z
      rw[z1]
      exact⟨a,xs,rfl,z2⟩
theorem Ok.mu(e:Ok K R ρ σ G H F)(m:Mu ρ i):∃a,σ[i]?=some (some (.ref a))/\F i=[a]:=by
 have z:=e.sl i
 obtain⟨ts,q|q⟩:=m <;> (rw[q]at z; obtain⟨a,xs,z1,z2,_⟩:=z; exact⟨a,z1,z2⟩)
theorem Ok.leave(e1:Ok K R ρ1 σ G1 H1 F1)(e:Ok K R ρ τ G' H' F')(s:aC K G1 H1 (inF src ρ1 F1) G' H' F')(I:Inj src)(ag:∀k j:Nat,src[k]?=some (some j) -> τ[k]?=(bV src σ)[k]?)(so:d8 src ρ ρ1=true):Ok K R (bG src ρ ρ1) σ G' H' F1/\aC K G1 H1 F1 G' H' F1:=by
 have inn:∀{k j:Nat},src[k]?=some (some j)->jJ ρ1[j]?=true->Mu ρ k/\∃a,F1 j=[a]/\F' k=[a]/\σ[j]?=some (some (.ref a))/\τ[k]?=some (some (.ref a)):=λq m=>by
  have mk:=Jc so q (BX.mp m)
  obtain⟨a,q1,q2⟩:=e.mu mk
  obtain⟨b,q3,q4⟩:=e1.mu (BX.mp m)
  have z:=ag _ _ q
  rw[q1]at z
  have z:=afS q z.symm
  rw[q3]at z
  cases z
  exact⟨mk,_,q4,q2,q3,q1⟩
 have out:∀j,(∀k,src[k]?=some (some j)->jJ ρ1[j]?=true->False)->∀b∈F1 j,∀o,H1 b=some o->H' b=some o:=λj n b hb o h=>by
  refine s.fr b o h (λ⟨k,z⟩=>?_) ?_
  .obtain⟨j',q1,q2,q3⟩:=uc z
   cases e1.di j j' b hb q3
   exact n k q1 q2
  .obtain⟨ys,z⟩:=e1.fl ⟨j,hb⟩
   exact e1.tb.nt z
 refine⟨⟨by rw[rA,e1.len],e.sub,e.tb,e.tg,λb ⟨j,hb⟩=>?_,e.rg,e1.di,λj=>?_⟩,s.gg,λb o h n=>s.fr b o h λz=>n (ud z),λb h=>(s.nw b h).imp id (Or.imp id ud),λb h=>.inr h,s.dm⟩
 .cases z:G' b with
  |none=>rfl
  |some o =>
   rcases s.nw b (by rw[z]; exact λy=>by cases y)with y|y|⟨k,y⟩
   .exact(y (e1.hid b ⟨j,hb⟩)).elim
   .exact(e1.fs y ⟨j,hb⟩).elim
   .obtain⟨j',q1,q2,q3⟩:=uc y
    obtain⟨_,a,h1,h2,_⟩:=inn q1 q2
    rw[h1]at q3
    rw[e.hid b ⟨k,by rw[h2]; exact q3⟩]at z
    cases z
 .rcases Jd I (rfl:(bG src ρ ρ1)[j]?=_)with⟨k,ts,q1,q2,q3⟩|⟨n,q⟩
  .rw[<-q3]
   cases m:jJ ρ1[j]? with
   |false =>
    have:(cM j ts ρ1)[j]?=ρ1[j]? := by
     unfold cM
     split <;> first|rfl|(rename_i y; rw[y]at m; cases m)
    rw[this]
    exact(e1.sl j).mono s.gg (out j λk _ z=>by rw[m]at z; cases z)
   |true =>
    obtain⟨_,a,h1,h2,h3,h4⟩:=inn q1 m
    have z:=e.sl k
    have z1:=e1.sl j
    have y:∃xs,H' a=some (.lst xs)/\aA K G' xs ts:=by
     rcases q2 with q2|q2 <;> (rw[q2,h4]at z; obtain⟨b,xs,y1,_,_,y2⟩:=z; cases y1; exact⟨xs,y2⟩)
    obtain⟨xs,y1,y2⟩:=y
    unfold cM
    unfold jJ at m
    split at m <;> rename_i w <;> (try cases m) <;>
    .rw[w]at z1
     obtain⟨b,_,y3,_,y4,_⟩:=z1
     rw[h3]at y3
     cases y3
     try simp only[w]
     rw[dY (List.getElem?_eq_some_iff.mp w).1]
     exact⟨a,xs,h3,h1,y4,y1,y2⟩
  .rw[<-q]
   exact(e1.sl j).mono s.gg (out j λk q1 z=>n k q1 (inn q1 z).1)
theorem Ok.Uo(e:Ok K R ρ σ G H F)(h:H D=some (.lst xs))(n:¬Fn F D)(g:G D=none):Ok K R ρ σ G (upd H D (.lst ys)) F:=by
 have ne:∀b,Fn F b->b≠D:=λb z y=>n (y▸z)
 refine⟨e.len,λb o q=>?_,e.tb.upd h,e.tg,e.hid,λb z=>⟨(e.rg b z).1,λy=>?_⟩,e.di,λi=>(e.sl i).mono (Same.refl _) λb hb o q=>?_⟩
 .rw[aL λz=>by rw[z,g]at q; cases q]
  exact e.sub b o q
 .by_cases z:b=D
  .subst z; rw[bN]at y; cases y
  .rw[aL z]at y; exact(e.rg b ‹_›).2 y
 .rw[aL (ne b ⟨i,hb⟩)]; exact q
theorem aC.flt(s:aC K G H F G' H' F')(tb:bK K H)(h:H D=some (.lst xs))(n:¬Fn F D)(g:G D=none):H' D=some (.lst xs)/\¬Fn F' D/\G' D=none:=by
 refine⟨s.fr D _ h n (tb.nt h),s.out h n,?_⟩
 cases k:G' D with
 |none=>rfl
 |some o=>exact((s.nw D (by rw[k]; exact λz=>by cases z)).elim (λz=>z g) λz=>z.elim (λz=>by rw[h]at z; cases z) n).elim
end
abbrev Jf:=Hp->Hp->Fp->List V->List Tr->Prop
noncomputable def pN(cv:Rv->Rs Tr)(g:GF)(c:BF)(f:EF):List Tr->En->Rs (List Tr × En)
 | [],ρ=>.ok ([],ρ)
 |u::us,ρ=>(g u ρ).bind λρ1=>(c ρ1).bind λb=>if b.1=true then(f b.2).bind λp=>(cv p.1).bind λT=>(pN cv g c f us p.2).bind λz=>.ok (T::z.1,z.2)else pN cv g c f us b.2
structure Acc(K:FZ)(R:Addr->Prop)(H1:Hp)(D:Addr)(cv:Rv->Rs Tr)(A:Jf):Prop where
 nx:∀r c,cv r ≠ .ex c
 nil:∀G H F,A G H F [] []
 stp:∀{G H F G' H' F' xs ts},bK K H->aC K G H F G' H' F'->A G H F xs ts->A G' H' F' xs ts
 pok:∀{G H F xs ts ys},A G H F xs ts->A G (upd H D ys) F xs ts
 add:∀{ρ ρ0 σ σ0 G H F G0 H0 F0 xs ts v r T},A G0 H0 F0 xs ts->Ok K R ρ0 σ0 G0 H0 F0->(∀b,H0 b=none->H1 b=none/\b≠D)->Ok K R ρ σ G H F->aC K G0 H0 F0 G H F->fB K σ H0 G H F v r->cv r=.ok T->∃G2,Ok K R ρ σ G2 H F/\aC K G0 H0 F0 G2 H F/\A G2 H F (xs++[v]) (ts++[T])
abbrev InC(K:FZ)(R:Addr->Prop)(A:Jf)(cv:Rv->Rs Tr)(gf:GF)(cf:BF)(f:EF)(src:List (Option Nat))(σ : St)(D:Addr)(G1 H1:Hp)(F1:Fp)(us:List Tr)(z:List Tr × En):Nat->Nat->St->Hp->Prop:=λi m τ H'=>m=us.length-i/\i<=us.length/\∃ρ' G' F' xs acc,Ok K R ρ' τ G' H' F'/\aC K G1 H1 F1 G' H' F'/\(H' D=some (.lst xs)/\¬Fn F' D/\G' D=none)/\A G' H' F' xs acc/\xs.length<=i/\(∀k j:Nat,src[k]?=some (some j) -> τ[k]?=(bV src σ)[k]?)/\∃y,pN cv gf cf f (us.drop i) ρ'=.ok y/\z=(acc++y.1,y.2)
theorem BZ{K:FZ}{A:Jf}{G1:Hp}{J:It}{tc:TT}(hc:∀σ H Q,Tt ⟨K,λ_ _=>False⟩ cf σ H Q->tc σ H Q)(I:Inj src)(hj:∀k j:Nat,src[k]?=some (some j)->k∉js)(ng:∀T ρ c,gf T ρ ≠ .ex c)(hlen:us.length<=100000)(hD:H1 D=none)(ac:Acc K R H1 D cv A)(e1:Ok K R ρ1 σ G1 H1 F1)
  (it:∀G' H',Same G1 G'->Same G' H'->(∀b o,H1 b=some o->¬Fn (inF src ρ1 F1) b->¬Tb K b->H' b=some o)->∀i,(i=us.length->J.stop i H')/\∀u,us[i]?=some u->J.go i H'/\∀x cj,J.jV i H' x cj->∃G'',Gw K G' H' G'' cj/\Rep K G'' x u)
  (kz:pN cv gf cf f us (dO src ρ1)=.ok z) (so:d8 src z.2 ρ1=true) (fin:∀G' H' F' xs,Ok K R (bG src z.2 ρ1) σ G' H' F1->aC K G1 H1 F1 G' H' F1->H' D=some (.lst xs)->G' D=none->(∀b,Fn F' b->H1 b=none\/Fn F1 b)->¬Fn F' D->A G' H' F' xs z.1->Q (.ref D) H') :
  ∃W:Nat->Nat->St->Hp->Prop,(∃m,W 0 m (bV src σ) (upd H1 D (.lst [])))/\∀i m σ' H',W i m σ' H' ->
  (J.stop i H'/\Fw Q D H')\/(J.go i H'/\∀x cj,J.jV i H' x cj->j4 K gf js x σ' cj λσ2 H2=>tc σ2 H2 λb wZ=>if b=true then Te ⟨K,λ_ _=>False⟩ f σ2 wZ λv H3=>∃xs,H3 D=some (.lst xs)/\xs.length<sizeLine/\∃m',m'<m/\W (i+1) m' σ2 (upd H3 D (.lst (xs++[v])))else ∃m',m'<m/\W (i+1) m' σ2 wZ):=by
 refine⟨InC K R A cv gf cf f src σ D G1 H1 (inF src ρ1 F1) us z,⟨us.length,by simp,Nat.zero_le _,dO src ρ1,G1,inF src ρ1 F1,[],[],?_,?_,⟨bN,λh=>e1.fs hD (ud h),e1.sub.free hD⟩,ac.nil _ _ _,Nat.le_refl _,λ_ _ _=>rfl,z,kz,rfl⟩,?_⟩
 .exact((e1.enter I).grow (.flt e1.sub hD)).1
 .exact((e1.enter I).grow (.flt e1.sub hD)).2
 rintro i m τ H2 ⟨rfl,hi,ρ2,G2,F2,xs,acc,e2,s2,d2,a2,l2,g2,y,ky,rfl⟩
 have q:=it G2 H2 s2.gg e2.sub s2.fr i
 have mv:∀{G3 H3 F3},aC K G1 H1 (inF src ρ1 F1) G3 H3 F3->∀ys,aC K G1 H1 (inF src ρ1 F1) G3 (upd H3 D (.lst ys)) F3:=λs ys=>⟨s.gg,λb o h n t=>by rw[aL (iw h hD)]; exact s.fr b o h n t,s.nw,s.nf,λb h=>by
  by_cases z:b=D
  .subst z; exact hD
  .rw[aL z]at h; exact s.dm b h⟩
 by_cases hlt:i<us.length
 .rw[List.drop_eq_getElem_cons hlt]at ky
  obtain⟨go,yl⟩:=q.2 us[i] (by simp[hlt])
  refine .inr ⟨go,λx H3 yy=>?_⟩
  obtain⟨G3,w3,r3⟩:=yl x H3 yy
  obtain⟨e3,s3⟩:=e2.grow w3
  obtain⟨ρ4,k4,ky⟩:=cu ky
  obtain⟨b,k5,ky⟩:=cu ky
  refine⟨R,ρ2,G3,F2,_,e3,r3,?_⟩
  rw[k4]
  intro σ4 F4 e4 f4 a4
  have s4:=s3.trans (aC.sub f4)
  have g4:∀k j:Nat,src[k]?=some (some j) -> σ4[k]?=(bV src σ)[k]? := λk j h=>(a4 k (hj k j h)).trans (g2 k j h)
  refine hc _ _ _ ⟨R,ρ4,G3,F4,e4,?_⟩
  rw[k5]
  intro G5 H5 F5 e5 s5
  have lO:=s4.trans s5
  have d5:=lO.flt e2.tb d2.1 d2.2.1 d2.2.2
  split at ky <;> rename_i c
  .rw[if_pos c]
   obtain⟨p,k6,ky⟩:=cu ky
   obtain⟨T,k7,ky⟩:=cu ky
   obtain⟨y',k8,ky⟩:=cu ky
   cases ky
   refine⟨R,b.2,G5,F5,e5,?_⟩
   rw[k6]
   intro v G6 H6 F6 e6 s6 v6
   obtain⟨G7,e7,s7,a7⟩:=ac.add (ac.stp e2.tb lO a2) e5 (λb h=>⟨(s2.trans lO).dm b h,λz=>by rw[z,d5.1]at h; cases h⟩) e6 s6 v6 k7
   have d7:=s7.flt e5.tb d5.1 d5.2.1 d5.2.2
   refine⟨xs,d7.1,Nat.lt_of_le_of_lt (show xs.length<=100000 by omega) (by decide),us.length-(i+1),by omega,rfl,hlt,p.2,G7,F6,xs++[v],acc++[T],e7.Uo d7.1 d7.2.1 d7.2.2,mv ((s2.trans lO).trans s7) _,⟨bN,d7.2⟩,ac.pok a7,by simp; omega,g4,y',k8,by simp⟩
  .rw[if_neg c]
   exact⟨us.length-(i+1),by omega,rfl,hlt,b.2,G5,F5,xs,acc,e5,s2.trans lO,d5,ac.stp e2.tb lO a2,by omega,g4,y,ky,rfl⟩
 .have z:i=us.length:=by omega
  subst z
  rw[List.drop_length]at ky
  cases ky
  obtain⟨e',s'⟩:=e1.leave e2 s2 I g2 so
  exact .inl ⟨q.1 rfl,fin G2 H2 F2 xs e' s' d2.1 d2.2.2 (λb h=>(s2.nf b h).imp id ud) d2.2.1 (by rw[List.append_nil]; exact a2)⟩
theorem Uq{K:FZ}:Acc K R H1 D tM λG _ _ xs ts=>aA K G xs ts:=⟨S6,λ_ _ _=>.nil,λ_ s a=>a.mono s.gg,λa=>a,λa e0 _ e s v q=>by
 obtain⟨G2,e2,s2,m,r⟩:=e.tO e0 s v q
 exact⟨G2,e2,s2,(a.mono s2.gg).app (.cons r .nil)⟩⟩
noncomputable def fZ(g:GF)(c:BF)(f:EF):List Tr->En->Rs (List Tr × En)
 | [],ρ=>.ok ([],ρ)
 |u::us,ρ=>(g u ρ).bind λρ1=>(c ρ1).bind λb=>if b.1=true then(f b.2).bind λp=>(tM p.1).bind λT=>(fZ g c f us p.2).bind λz=>.ok (T::z.1,z.2)else fZ g c f us b.2
theorem Jg(g:GF)(c:BF)(f:EF):∀us,fZ g c f us=pN tM g c f us
 | []=>rfl
 |u::us=>by funext ρ; simp only[fZ,pN,Jg g c f us]
noncomputable def gj:BF:=λρ=>.ok (true,ρ)
noncomputable def uf(src:List (Option Nat))(fi:IF)(g:GF)(c:BF)(f:EF):EF:=λρ=>(fi ρ).bind λp=>if p.1.length<=100000 then(dD (fZ g c f p.1 (dO src p.2))).bind λz=>if d8 src z.2 p.2=true then .ok (.v (.lst z.1) true,bG src z.2 p.2)else .bad else .bad
theorem j8{α β : Type}{r:Rs α}{f : α -> Rs β}{t:Tx}{P : β -> Prop}(h:bH t H F ((dD r).bind f) P):∃a,r=.ok a/\bH t H F (f a) P:=by
 cases r with
 |ok a=>exact⟨a,rfl,h⟩
 |_=>exact h.elim
theorem Ur{t:Tx}{tc:TT}(hc:∀σ H Q,Tt ⟨t.K,λ_ _=>False⟩ cf σ H Q->tc σ H Q)(I:Inj src)(hj:∀k j:Nat,src[k]?=some (some j)->k∉js)(ng:∀T ρ c,gf T ρ ≠ .ex c)(h:Te t (uf src fi gf cf f) σ H Q):qZ (Ti t fi) (j4 t.K gf js) src tc (Te ⟨t.K,λ_ _=>False⟩ f) σ H Q:=by
 obtain⟨R,ρ,G,F,e,h⟩:=h
 refine⟨R,ρ,G,F,e,h.run (aC.refl (G:=G)) λp h J G1 H1 F1 e1 s1 it D hD=>?_⟩
 split at h
 case isFalse=>exact h.elim
 obtain⟨z,kz,h⟩:=j8 h
 split at h
 case isFalse=>exact h.elim
 rw[Jg]at kz
 exact BZ hc I hj ng ‹_› hD Uq e1 (λG' H' m s _=>it G' H' m s) kz ‹_› λG' H' F' xs e' s' d g _ _ a=>h _ G' H' F1 e' (s1.trans s') ⟨⟨D,xs,_,rfl,rfl,s1.dm D hD,g,d,a⟩,λ_ a q=>by cases q; exact e1.fs hD⟩
noncomputable def cG(Γ : Gx)(N:List Str)(scope:Scope):Gx:=⟨N,Ra scope Γ.sc,λx=>scope.names.lookup x == some .cell,Γ.B,[],true,Γ.k,[]⟩
theorem f9(o:Ox cl Γ E X)(d:N.Nodup):Ox cl (cG Γ N scope) E0 (aY X N scope C s H ex):=⟨rfl,by show Ra scope X.env.scope=_; rw[o.s]; rfl,d,o.l,o.r,Rx,o.B,(λ_ z=>nomatch z),o.x,rfl,(λ_=>rfl),λ_ z=>nomatch z⟩
noncomputable def nQ(Γ : Gx)(N:List Str)(src:List (Option Nat))(scope:Scope)(js:List Nat):Bool :=
 decide (scope.kind=.function)&&decide (∀y∈scope.names,y.2=.cell->scope.names.lookup y.1=some .cell)&&decide (∀y∈scope.names,y.2=.local->scope.names.lookup y.1=some .local)&&decide (∀y∈scope.names,y.2=.free -> Γ.sc.names.lookup y.1=some .cell\/Γ.sc.names.lookup y.1=some .free)&&decide (src.length=N.length)&&decide (∀p∈N.zip src,∀j∈p.2,Γ.N[j]?=some p.1/\scope.names.lookup p.1=some .free)&&decide N.Nodup&&decide (src.filterMap id).Nodup&&js.all λk=>(src[k]?).join.isNone
theorem rB(h:nQ Γ N src scope js=true):o8 Γ.sc Γ.N N src scope/\N.Nodup/\Inj src/\∀k j:Nat,src[k]?=some (some j)->k∉js:=by
 simp only[nQ,an]at h
 obtain⟨⟨⟨⟨⟨⟨⟨⟨h1,h2⟩,h3⟩,h4⟩,h5⟩,h6⟩,h7⟩,h8⟩,h9⟩:=h
 refine⟨⟨of_decide_eq_true h1,of_decide_eq_true h2,of_decide_eq_true h3,of_decide_eq_true h4,of_decide_eq_true h5,of_decide_eq_true h6⟩,of_decide_eq_true h7,afQ (of_decide_eq_true h8),λk j e m=>?_⟩
 have:=List.all_eq_true.mp h9 k m
 rw[e]at this
 cases this
noncomputable def Ca(v t:Pos)(scope:Scope)(y:Str)(env:Env):Bool:=env.blockKind == .function&&env.kindOf y == some .local&&t.line == v.line && !(scope.names.any λ(n,k)=>n == y&&(k == .local || k == .cell))
theorem Cd{te Jh:TE}{b:Str->Pos->Bool}(o:Ox cl Γ E X)(hw:∀y p l,swapsWith e (some (.Name y p)) l X.env=pure (b y p))(hP:PE X e te)(hS:∀i y p sp,Wr X i y->b y p=true->PS X (.Assign [.Name y p] e sp) (mO te (lq i)))(imp:∀σ H Q,Jh σ H Q->te σ H Q):PE X e Jh/\∀i y p sp,Wr X i y->PS X (.Assign [.Name y p] e sp) (mO Jh (lq i)):=by
 refine⟨hP.imp imp,λi y p sp w=>?_⟩
 cases hb:b y p
 .exact Ef o.d w.1 w.2.1 (hP.imp imp) ((hw y p _).trans (congrArg pure hb)) w.2.2
 .exact(hS i y p sp w hb).imp λD σ H=>imp σ H _
noncomputable def cC(src:List (Option Nat))(N:List Str)(i:VI j6)(g:VG fP iM)(b:VE bF):VC (uf src j6 fP gj bF) where
 ck Γ e:=m9 e λx aK sc _=>aN aK λaX bB=>lG aX λt y bL cV=>aO bL (iI cV 0 (aO bB (i.ck Γ (t,y)&&g.ck (cG Γ N sc) t&&b.ck (cG Γ N sc) x&&nQ Γ N src sc iM)))
 cs:=i.cs++(g.cs++b.cs)
 ok:=@λcl E Γ X e q o h=>by
  walk_at "O"
  rename_i x0 sc pos t0 y0
  simp only[an]at h
  obtain⟨⟨⟨h1,h2⟩,h3⟩,h4⟩:=h
  obtain⟨pi,ni⟩:=i.ok (ml q) o h1
  obtain⟨S,nd,I,hj⟩:=rB h4
  have pg:=λC s H ex=>g.ok (X:=aY X N sc C s H ex) (ml (mr q)) (f9 o nd) h2
  have pb:=λC s H ex=>b.ok (X:=aY X N sc C s H ex) (mr (mr q)) (f9 o nd) h3
  exact Cd o (b:=λy p=>Ca pos p sc y X.env) (λ_ _ _=>rfl) (xr o.s o.N S o.l pi (λC s H ex=>(pg C s H ex).1) (λ_ _ _ _=>wY) pb (jm ni)) (λi y p sp w hb=>BW o.d w.1 w.2.1 o.s o.N S o.l pi (λC s H ex=>(pg C s H ex).1) (λ_ _ _ _=>wY) pb (congrArg pure hb) (jm ni) w.2.2) λσ H Q h=>by
   exact Ur (λσ H Q ⟨R,ρ,G,F,e,h⟩=>h G H F e .refl) I hj (pg 0 X.s₀ X.H₀ []).2.1 h
noncomputable def Ji(src:List (Option Nat))(N:List Str)(i:VI j6)(g:VG fP iM)(k:VT pK)(b:VE bF):VC (uf src j6 fP pK bF) where
 ck Γ e:=m9 e λx aK sc _=>aN aK λaX bB=>lG aX λt y bL cV=>aN bL λz dK=>aO dK (iI cV 0 (aO bB (i.ck Γ (t,y)&&g.ck (cG Γ N sc) t&&b.ck (cG Γ N sc) x&&k.ck (cG Γ N sc) z&&nQ Γ N src sc iM)))
 cs:=i.cs++(g.cs++(b.cs++k.cs))
 ok:=@λcl E Γ X e q o h=>by
  walk_at "O"
  rename_i x0 sc pos t0 y0 z0
  simp only[an]at h
  obtain⟨⟨⟨⟨h1,h2⟩,h3⟩,h5⟩,h4⟩:=h
  obtain⟨pi,ni⟩:=i.ok (ml q) o h1
  obtain⟨S,nd,I,hj⟩:=rB h4
  have pg:=λC s H ex=>g.ok (X:=aY X N sc C s H ex) (ml (mr q)) (f9 o nd) h2
  have pb:=λC s H ex=>b.ok (X:=aY X N sc C s H ex) (ml (mr (mr q))) (f9 o nd) h3
  have pk:=λC s H ex=>k.ok (X:=aY X N sc C s H ex) (mr (mr (mr q))) (f9 o nd) h5
  exact Cd o (b:=λy p=>Ca pos p sc y X.env) (λ_ _ _=>rfl) (xr o.s o.N S o.l pi (λC s H ex=>(pg C s H ex).1) (λC s H ex=>BK (pk C s H ex)) pb (jm ni)) (λi y p sp w hb=>BW o.d w.1 w.2.1 o.s o.N S o.l pi (λC s H ex=>(pg C s H ex).1) (λC s H ex=>BK (pk C s H ex)) pb (congrArg pure hb) (jm ni) w.2.2) λσ H Q=>Ur (λ_ _ _ h=>h) I hj (pg 0 X.s₀ X.H₀ []).2.1
noncomputable def Jj(src:List (Option Nat))(n:Nat)(g:GF)(c:BF)(f:EF):EF:=λρ=>(con ρ n).bind λus=>if us.length<=100000 then(dD (fZ g c f us (dO src ρ))).bind λz=>if d8 src z.2 ρ = true then .ok (.v (.lst z.1) true,bG src z.2 ρ)else .bad else .bad
theorem afT{K:FZ}(n:Nat)(hn:∀k:Nat,src[k]? ≠ some (some n))(I:Inj src)(hj:∀k j:Nat,src[k]?=some (some j)->k∉js)(ng:∀T ρ c,gf T ρ ≠ .ex c)(h:Te ⟨au K,xe⟩ (Jj src n gf cf f) σ H Q):qZ (wV K (qp n)) (j4 (au K) gf js) src (Tt ⟨au K,λ_ _=>False⟩ cf) (Te ⟨au K,λ_ _=>False⟩ f) σ H Q:=by
 obtain⟨R,ρ,G,F,e,h⟩:=h
 obtain⟨us,k0,h⟩:=h.okb (wz _ _)
 obtain⟨a,xs,hi,hf,hx,r⟩:=e.con k0
 refine .inl ⟨_,hi,a,rfl,⟨xs,aG.of hx⟩,λD hD=>?_⟩
 split at h
 case isFalse=>exact h.elim
 obtain⟨z,kz,h⟩:=j8 h
 split at h
 case isFalse=>exact h.elim
 rw[Jg]at kz
 have na:¬Fn (inF src ρ F) a:=λ⟨k,z⟩=>by
  obtain⟨j,q1,_,q2⟩:=uc z
  cases e.di n j a (by rw[hf]; exact List.mem_singleton.mpr rfl) q2
  exact hn k q1
 refine BZ (λ_ _ _ h=>h) I hj ng ‹_› hD Uq e (λG' H' m s fr i=>?_) kz ‹_› λG' H' F' xs e' s' d g _ _ a=>h _ G' H' F e' s' ⟨⟨D,xs,_,rfl,rfl,hD,g,d,a⟩,λ_ a q=>by cases q; exact e.fs hD⟩
 have q':aG K H' a xs:=aG.of (fr a _ hx na (e.tb.nt hx))
 refine⟨λz=>⟨xs,q',by rw[r.length]; lia⟩,λu hu=>?_⟩
 obtain⟨x,hx,rx⟩:=r.jh hu
 refine⟨⟨xs,x,q',hx⟩,λy cj ⟨e,z⟩=>?_⟩
 have:=z xs q'
 rw[hx]at this
 cases this
 subst e
 exact⟨G',.refl s,rx.mono m⟩
noncomputable def cO(src:List (Option Nat))(N:List Str)(n:Nat)(g:VG fP iM)(k:VT pK)(b:VE bF):VC (Jj src n fP pK bF) where
 ck Γ e:=m9 e λx aK sc _=>aN aK λaX bB=>lG aX λt bL cV dK=>atName bL λy _=>aN cV λz gP=>aO gP (iI dK 0 (aO bB (gM Γ n y&&g.ck (cG Γ N sc) t&&b.ck (cG Γ N sc) x&&k.ck (cG Γ N sc) z&&nQ Γ N src sc iM&&src.all (λo=>o != some n))))
 cs:=g.cs++(b.cs++k.cs)
 ok:=@λcl E Γ X e q o h=>by
  walk_at "O"
  rename_i x0 sc pos t0 y0 p0 z0
  simp only[an]at h
  obtain⟨⟨⟨⟨⟨h1,h2⟩,h3⟩,h5⟩,h4⟩,h6⟩:=h
  obtain⟨S,nd,I,hj⟩:=rB h4
  have pi:PI X t0 (.Name y0 p0) (wV X.K (qp n)):=IK (jZ o h1)
  have pg:=λC s H ex=>g.ok (X:=aY X N sc C s H ex) (ml q) (f9 o nd) h2
  have pb:=λC s H ex=>b.ok (X:=aY X N sc C s H ex) (ml (mr q)) (f9 o nd) h3
  have pk:=λC s H ex=>k.ok (X:=aY X N sc C s H ex) (mr (mr q)) (f9 o nd) h5
  exact Cd o (b:=λy p=>Ca pos p sc y X.env) (λ_ _ _=>rfl) (xr o.s o.N S o.l pi (λC s H ex=>(pg C s H ex).1) (λC s H ex=>BK (pk C s H ex)) pb (jm rfl)) (λi y p sp w hb=>BW o.d w.1 w.2.1 o.s o.N S o.l pi (λC s H ex=>(pg C s H ex).1) (λC s H ex=>BK (pk C s H ex)) pb (congrArg pure hb) (jm rfl) w.2.2) λσ H Q=>afT n (λk z=>by
   have:=List.all_eq_true.mp h6 _ (List.mem_of_getElem? z)
   simp at this) I hj (pg 0 X.s₀ X.H₀ []).2.1
noncomputable def ug:Rv->Rs Tr
 |.v (.lst us) true=>if bD us=true then .ok (.lst us)else .bad
 |_=>.bad
noncomputable def lQ(g:GF)(c:BF)(f:EF):List Tr->En->Rs (List Tr × En)
 | [],ρ=>.ok ([],ρ)
 |u::us,ρ=>(g u ρ).bind λρ1=>(c ρ1).bind λb=>if b.1=true then(f b.2).bind λp=>(ug p.1).bind λT=>(lQ g c f us p.2).bind λz=>.ok (T::z.1,z.2)else lQ g c f us b.2
theorem Jk(g:GF)(c:BF)(f:EF):∀us,lQ g c f us=pN ug g c f us
 | []=>rfl
 |u::us=>by funext ρ; simp only[lQ,pN,Jk g c f us]
section
variable {K:FZ}{R:Addr->Prop}{ρ : En}{σ : St}{G H H1 G' H':Hp}{F F':Fp}
structure Ce(K:FZ)(R:Addr->Prop)(H1:Hp)(D:Addr)(G H:Hp)(F:Fp)(xs:List V)(ts:List Tr)(bs:List Addr):Prop where
 nd:bs.Nodup
 al:∀b∈bs,H1 b=none/\b≠D/\¬R b/\¬Fn F b/\G b=none
 dr:DR K G H xs ts bs
theorem Ce.stp(tb:bK K H)(s:aC K G H F G' H' F')(a:Ce K R H1 D G H F xs ts bs):Ce K R H1 D G' H' F' xs ts bs:=by
 refine⟨a.nd,λb hb=>?_,a.dr.mono s.gg λb hb o q=>?_⟩ <;> obtain⟨h1,h2,h3,h4,h5⟩:=a.al b hb <;> obtain⟨ys,hy⟩:=a.dr.lst b hb
 .exact⟨h1,h2,h3,(s.flt tb hy h4 h5).2⟩
 .rw[hy]at q
  cases q
  exact(s.flt tb hy h4 h5).1
theorem Ut:Acc K R H1 D ug λG H F xs ts=>∃bs,Ce K R H1 D G H F xs ts bs:=by
 refine⟨λr c=>(by unfold ug; (repeat' split) <;> (intro z; cases z)),λ_ _ _=>⟨[],.nil,(λ_ h=>by cases h),.nil⟩,λtb s ⟨bs,a⟩=>⟨bs,a.stp tb s⟩,λ⟨bs,a⟩=>⟨bs,a.nd,a.al,a.dr.mono (Same.refl _) λb hb o q=>?_⟩,λ⟨bs,a0⟩ e0 hn e s v q=>?_⟩
 .rw[aL (a.al b hb).2.1]; exact q
 .have a:=a0.stp e0.tb s
  unfold ug at q
  (repeat' split at q) <;> cases q
  rename_i nl
  obtain⟨⟨c,ys,us,rfl,q1,q2,q3,q4,q5⟩,f⟩:=v
  cases q1
  refine⟨_,e,s,bs++[c],List.nodup_append.mpr ⟨a.nd,by simp,λb hb d hd z=>?_⟩,λb hb=>?_,a.dr.app (.rw q4 (.flat q5 nl) .nil)⟩
  .cases List.mem_singleton.mp hd
   obtain⟨zs,hz⟩:=a0.dr.lst b hb
   rw[z,q2]at hz
   cases hz
  .rcases List.mem_append.mp hb with hb|hb
   .exact a.al b hb
   .cases List.mem_singleton.mp hb
    exact⟨(hn _ q2).1,(hn _ q2).2,e0.rn q2,f rfl _ rfl,q3⟩
end
noncomputable def Jl(i:Nat)(src:List (Option Nat))(fi:IF)(g:GF)(c:BF)(f:EF):SF:=λρ=>(fi ρ).bind λp=>if p.1.length<=100000 then(dD (lQ g c f p.1 (dO src p.2))).bind λz=>if d8 src z.2 p.2=true then .ok (.nx,(bG src z.2 p.2).set i (.dp z.1))else .bad else .bad
theorem Ok.Uu{K:FZ}(e:Ok K R ρ σ G H F)(i:Nat)(n:(a::bs).Nodup)(al:∀b∈a::bs,¬R b/\¬Fn F b/\G b=none)(h:H a=some (.lst xs))(d:DR K G H xs ts bs):∃F',Ok K R (ρ.set i (.dp ts)) (σ.set i (some (.ref a))) G H F'/\∀b,Fn F' b->b∈a::bs\/Fn F b:=by
 by_cases l:i < ρ.length
 .refine⟨dz F i (a::bs),e.one i _ (by rw[List.length_set,List.length_set,e.len]) (λj n=>⟨eN n,eN n⟩) (Same.refl _) e.sub e.tb (λb h=>.inl h) (λ_ _ _ _ _ h=>h) (λb h=>(e.rg b h).2) (λb h=>⟨(al b h).2.2,λj _ z=>(al b h).2.1 ⟨j,z⟩⟩) ?_,λb h=>?_⟩
  .rw[dY l,dY (e.len▸l)]
   exact⟨a,xs,bs,rfl,rfl,n,λb hb=>(al b hb).1,h,d⟩
  .rcases pI h with h|⟨j,_,h⟩
   .exact .inl h
   .exact .inr ⟨j,h⟩
 .rw[tU l,tU (e.len▸l)]
  exact⟨F,e,λb h=>.inr h⟩
theorem afU{t:Tx}{tc:TT}(hc:∀σ H Q,Tt ⟨t.K,λ_ _=>False⟩ cf σ H Q->tc σ H Q)(I:Inj src)(hj:∀k j:Nat,src[k]?=some (some j)->k∉js)(ng:∀T ρ c,gf T ρ ≠ .ex c)(h:Ts t (Jl n src fi gf cf f) D σ H):mO (qZ (Ti t fi) (j4 t.K gf js) src tc (Te ⟨t.K,λ_ _=>False⟩ f)) (lq n) D σ H:=by
 obtain⟨R,ρ,G,F,e,h⟩:=h
 refine⟨R,ρ,G,F,e,h.run (aC.refl (G:=G)) λp h J G1 H1 F1 e1 s1 it D hD=>?_⟩
 split at h
 case isFalse=>exact h.elim
 obtain⟨z,kz,h⟩:=j8 h
 split at h
 case isFalse=>exact h.elim
 rw[Jk]at kz
 refine BZ hc I hj ng ‹_› hD Ut e1 (λG' H' m s _=>it G' H' m s) kz ‹_› λG' H' F' xs e' s' d g _ _ ⟨bs,a⟩=>?_
 have al:∀b∈D::bs,H1 b=none/\¬R b/\¬Fn F1 b/\G' b=none:=List.forall_mem_cons.mpr ⟨⟨hD,e1.rn hD,e1.fs hD,g⟩,λb hb=>⟨(a.al b hb).1,(a.al b hb).2.2.1,e1.fs (a.al b hb).1,(a.al b hb).2.2.2.2⟩⟩
 obtain⟨F2,e2,f2⟩:=e'.Uu n (List.nodup_cons.mpr ⟨λz=>(a.al D z).2.1 rfl,a.nd⟩) (λb hb=>(al b hb).2) d a.dr
 have s2:=s1.trans s'
 exact h _ G' H' F2 e2 ⟨s2.gg,s2.fr,s2.nw,λb z=>(f2 b z).elim (λz=>.inl (s1.dm b (al b z).1)) (s2.nf b),s2.dm⟩
noncomputable def sCd(n:Nat)(src:List (Option Nat))(N:List Str)(i:VI j6)(g:VG fP iM)(b:VE bF):VS (Jl n src j6 fP gj bF) where
 ck Γ e:=pB e λaK aX _=>aN aK λbB bL=>atName bB λy p=>aO bL (m9 aX λx cV sc pos=>aN cV λdK gP=>lG dK λt z nJ nO=>aO nJ (iI nO 0 (aO gP (qT Γ n y&&i.ck Γ (t,z)&&g.ck (cG Γ N sc) t&&b.ck (cG Γ N sc) x&&nQ Γ N src sc iM))))
 cs:=i.cs++(g.cs++b.cs)
 ok:=@λcl E Γ X e q o h=>by
  walk_at "O"
  rename_i sp y p x0 sc pos t0 y0
  simp only[an]at h
  obtain⟨⟨⟨⟨hw,h1⟩,h2⟩,h3⟩,h4⟩:=h
  obtain⟨pi,ni⟩:=i.ok (ml q) o h1
  obtain⟨S,nd,I,hj⟩:=rB h4
  have pg:=λC s H ex=>g.ok (X:=aY X N sc C s H ex) (ml (mr q)) (f9 o nd) h2
  have pb:∀C s H ex,PE (aY X N sc C s H ex) x0 (Te (tx cl E0 X) bF):=λC s H ex=>b.ok (X:=aY X N sc C s H ex) (mr (mr q)) (f9 o nd) h3
  have Uv:∀C s H ex,PG (aY X N sc C s H ex) t0 (j4 (au X.K) fP iM):=λC s H ex=>(pg C s H ex).1
  refine((Cd o (b:=λy p=>Ca pos p sc y X.env) (λ_ _ _=>rfl) (xr o.s o.N S o.l pi Uv (λ_ _ _ _=>wY) pb (jm ni)) (λi y p sp w hb=>BW o.d w.1 w.2.1 o.s o.N S o.l pi Uv (λ_ _ _ _=>wY) pb (congrArg pure hb) (jm ni) w.2.2) λσ H Q h=>h).2 _ _ _ _ (tV o hw)).imp λD σ H h=>?_
  exact afU (λσ H Q ⟨R,ρ,G,F,e,h⟩=>h G H F e .refl) I hj (pg 0 X.s₀ X.H₀ []).2.1 h
noncomputable def uh(i:Nat)(ρ : En):En:=match ρ[i]? with
 |some (.dp ts)=>ρ.set i (.ow ts)
 |_=>ρ
noncomputable def Jm(i:Nat)(f:SF):SF:=λρ=>f (uh i ρ)
open Classical in
theorem Ok.uh{K:FZ}(e:Ok K R ρ σ G H F)(i:Nat):∃G' F',Ok K R (L2.uh i ρ) σ G' H F'/\aC K G H F G' H F':=by
 unfold L2.uh
 split
 case h_2=>exact⟨G,F,e,.refl⟩
 rename_i ts k
 have z:=e.sl i
 rw[k]at z
 obtain⟨a,xs,bs,h1,h2,nd,h3,h4,d⟩:=z
 have Uw:∀b∈bs,b∈F i:=λb hb=>by rw[h2]; exact List.mem_cons_of_mem _ hb
 have nda:=(List.nodup_cons.mp (h2▸nd)).1
 let G':Hp:=λb=>if b∈bs then H b else G b
 have m:Same G G':=λb o q=>by
  show(if b∈bs then H b else G b)=_
  split
  .exact e.sub b o q
  .exact q
 have sp:∀b,G' b≠none->G b≠none\/b∈bs:=λb q=>by
  by_cases z:b∈bs
  .exact .inr z
  .rw[show G' b=G b from if_neg z]at q; exact .inl q
 refine⟨G',dz F i [a],e.one i [a] (by rw[List.length_set,e.len]) (λj n=>⟨eN n,rfl⟩) m (λb o q=>?_) e.tb (λb q=>(sp b q).imp id λz=>⟨λj n y=>n (e.di j i b y (Uw b z)),?_,h3 b (by rw[h2]; exact List.mem_cons_of_mem _ z)⟩) (λ_ _ _ _ _ h=>h) (λb h=>(e.rg b h).2) (λb h=>?_) ?_,m,λ_ _ h _ _=>h,λb q=>(sp b q).imp id λz=>.inr ⟨i,Uw b z⟩,λb z=>?_,λ_ h=>h⟩
 .have q:(if b∈bs then H b else G b)=some o:=q
  split at q
  .exact q
  .exact e.sub b o q
 .obtain⟨ys,hy⟩:=d.lst b z
  exact e.tb.nt hy
 .cases List.mem_singleton.mp h
  refine⟨?_,λj n y=>n (e.di j i a y (by rw[h2]; exact List.mem_cons_self ..))⟩
  rw[show G' a=G a from if_neg nda]
  exact e.hid a ⟨i,by rw[h2]; exact List.mem_cons_self ..⟩
 .rw[dY (List.getElem?_eq_some_iff.mp k).1]
  refine⟨a,xs,h1,rfl,h3 a (by rw[h2]; exact List.mem_cons_self ..),h4,d.reps m λb hb=>if_pos hb⟩
 .rcases pI z with z|⟨j,_,z⟩
  .exact .inr ⟨i,by rw[h2,List.mem_singleton.mp z]; exact List.mem_cons_self ..⟩
  .exact .inr ⟨j,z⟩
noncomputable def sD(i:Nat)(a:VS aB):VS (Jm i aB) where
 ck:=a.ck
 cs:=a.cs
 ok q o h:=(a.ok q o h).imp λD σ H=>bx λR ρ G F e h=>by
  obtain⟨G',F',e',s'⟩:=e.uh i
  exact wC e' s' h
open PySem.W
noncomputable def insI(i:Int):List Int->List Int
 | []=>[i]
 |j::r=>if i<=j then i::j::r else j::insI i r
noncomputable def um(l:List Int):List Int:=l.foldr insI []
theorem insI_perm(i:Int):∀l,(insI i l).Perm (i::l)
 | []=>.refl _
 |j::r=>by
  unfold insI
  split
  .exact .refl _
  .exact((insI_perm i r).cons j).trans (.swap i j r)
theorem Ux(i:Int):∀l,l.Pairwise (· <= ·)->(insI i l).Pairwise (· <= ·)
 | [],_=>by simp[insI]
 |j::r,hp=>by
  have hp':=List.pairwise_cons.mp hp
  unfold insI
  split
  .rename_i b
   refine List.pairwise_cons.mpr ⟨λk hk=>?_,hp⟩
   rcases List.mem_cons.mp hk with rfl|hk
   .exact b
   .have:=hp'.1 k hk; lia
  .rename_i b
   refine List.pairwise_cons.mpr ⟨λk hk=>?_,Ux i r hp'.2⟩
   rcases List.mem_cons.mp ((insI_perm i r).mem_iff.mp hk)with rfl|hk
   .lia
   .exact hp'.1 k hk
theorem Jo:∀l:List Int,(um l).Perm l/\(um l).Pairwise (· <= ·)
 | []=>⟨.refl _,.nil⟩
 |i::r=>by
  obtain⟨h1,h2⟩:=Jo r
  exact⟨(insI_perm i _).trans (h1.cons i),Ux i _ h2⟩
theorem Uy:∀{l m:List Int},l.Perm m->l.Pairwise (· <= ·)->m.Pairwise (· <= ·)->l=m
 | [],m,p,_,_=>by rw[List.nil_perm.mp p]
 |a::l,[],p,_,_=>by simpa using p.length_eq
 |a::l,b::m,p,h1,h2=>by
  have h1':=List.pairwise_cons.mp h1
  have h2':=List.pairwise_cons.mp h2
  have e:a=b:=by
   rcases List.mem_cons.mp (p.mem_iff.mp (List.mem_cons_self ..))with z|z
   .exact z
   .rcases List.mem_cons.mp (p.mem_iff.mpr (List.mem_cons_self (a:=b)))with y|y
    .exact y.symm
    .have a1:=h1'.1 b y
     have a2:=h2'.1 a z
     lia
  subst e
  rw[Uy p.cons_inv h1'.2 h2'.2]
theorem Uz(p:m.Perm l)(h:m.Pairwise (· <= ·)):m=um l:=Uy (p.trans (Jo l).1.symm) h (Jo l).2
theorem UG:∀{ns:List Int} {vs:List Value},Vals (ns.map V.int) vs->IntsAre vs ns
 | [],_,h=>by cases h; exact .nil
 |n::ns,_,h=>by
  cases h with
  |cons h1 h2 =>
   obtain⟨t,rfl⟩:=h1
   exact .cons n t (UG h2)
section
variable {X:Cx}
def Jp(K:FZ):List V->Hp->VK->Prop:=λxs H Q=>∃p ns,xs=[.ref p]/\aG K H p (ns.map V.int)/\ns.length<64/\∀l,H l=none->Q (.ref l) (upd H l (.lst ((um ns).map V.int)))
theorem afV:fL X (.builtin "sorted") (Jp X.K):=by
 intro pins s σ H xs us Q I r h
 obtain⟨p,ns,rfl,hq,h64,q⟩:=h
 obtain⟨u,rfl,rx⟩:=vals1 r
 cases rx
 obtain⟨its,r',pl,hz⟩:=I.list hq
 have hl:=r'.length
 rw[List.length_map]at hl
 refine sorted_ints pl.isList (UG r') (by lia) λout ns' a1 a2 a3=>?_
 obtain⟨e,he⟩:=sortedAll_at s.heap its out
 have e2:=Uz a2 a3
 subst e2
 have len:=a2.length_eq
 refine⟨.ref (s.heap.objs.size+1),_,I.laid (t':=s.toks) (λb o z=>sortedAll_old z) (Nat.le_succ _) (show gA X.prog X.w _ _ _ (.lst ((um ns).map V.int))from⟨by rw[List.length_map,sizeLine_eq]; lia,out.toList,e,Fo a1,by rw[Array.toArray_toList]; exact he⟩),rfl,q _ (I.hok.fresh (Nat.le_succ _))⟩
def tLR(ta:TA):TE:=λσ H Q=>ta σ H λvs H1=>∃n:Nat,vs=[.int n]/\n<=1000/\∀D,H1 D=none->Q (.ref D) (upd H1 D (.lst ((List.range n).map λi:Nat=>V.int i)))
theorem afW(hr:dW k X.A)(h1:X.mg "list" = none) (h2:X.mg "range" = none) (ha:PA X [e] ta)
  (hg:X.env.kindOf "list" = some .globalImplicit:=by kernel_rfl) (hg2:X.env.kindOf "range" = some .globalImplicit:=by kernel_rfl) (hs:notStar e=true:=by kernel_rfl) :
  PE X (.Call (.Name "list" p) [.Call (.Name "range" p2) [e] [] pos2] [] pos) (tLR ta):=by
 refine⟨λpins s σ H Q I h=>?_⟩
 refine wpAny_Call_Name_kw (jT I hg h1 (by decide +kernel:bootBuiltins "list" = some (.type "list")) ?_ (by decide +kernel) (by kernel_rfl))
 refine PyProof.Rows.callWith_type1 (Calls.spliced_cons (wpAny_Call_Name_kw (jT I hg2 h2 boot_range (PyProof.Rows.callWith_type1 (aD (ha pos2 pins s σ H _ I h) λus s1 ⟨vs,H1,I1,r1,q1⟩=>?_) (eG hs) rfl) (by decide +kernel) (by kernel_rfl)))) rfl rfl
 obtain⟨n,rfl,hn,q⟩:=q1
 obtain⟨u1,rfl,t1,rfl⟩:=vals1 r1
 refine call_range_1 ?_
 have I2:Inv X pins σ H1 {s1 with heap:=s1.heap.push {cls:=.type "range",data:=.fields #[.int 0 s1.toks,.int n t1,.int 1 (s1.toks+1)] },toks:=s1.toks+1+1 }:=I1.kept λb o e=>Heap.get?_push_of_some _ e
 refine Calls.spliced_nil ?_
 have Hi:Builtin.Range.rangeSize 0 (n:Int) 1=n:=by rw[rangeSize_one]; split <;> lia
 refine call_list_range hr.hd (Heap.get?_push_size _ rfl) (small_one (by lia) (by lia) (by lia) (by lia)) Hi (by lia) λh' tk acc c keep hS hi=>?_
 have va:Vals ((List.range n).map λi:Nat=>V.int i) acc.toList:=by
  have go:∀(l:List Value) (m:Nat),(∀(j:Nat) v,l[j]?=some v->∃t,v=Value.int ((m+j:Nat):Int) t)->Vals ((List.range' m l.length).map λi:Nat=>V.int i) l:=λl=>by
   induction l with
   |nil=>intro m _; exact .nil
   |cons v r ih =>
    intro m hv
    refine .cons ?_ (ih (m+1) λj w hw=>?_)
    .obtain⟨t,z⟩:=hv 0 v (by simp)
     exact⟨t,by simpa using z⟩
    .obtain⟨t,z⟩:=hv (j+1) w (by simpa using hw)
     exact⟨t,by rw[z]; congr 1; lia⟩
  have:=go acc.toList 0 λj v hv=>by
   obtain⟨t,z⟩:=hi.2 j v (by rw[<-Array.getElem?_toList]; exact hv)
   exact⟨t,by rw[z]; simp⟩
  rw[Array.length_toList,hi.1,<-List.range_eq_range']at this
  exact this
 refine⟨.ref _,_,I2.laid (t':=tk) keep (Nat.le_refl _) (show gA X.prog X.w _ _ _ (.lst ((List.range n).map λi:Nat=>V.int i))from⟨by rw[List.length_map,List.length_range,sizeLine_eq]; lia,acc.toList,c,va,by rw[Array.toArray_toList]; exact hS⟩),rfl,q _ (I2.hok.fresh (Nat.le_refl _))⟩
end
end L2
end
section
namespace L2
open PySem PySem.Spec PyProof.Rows
section
variable {X:Cx}
def Jq:V->List V->Hp->VK->Prop:=λx vs H Q=>∃(l:Addr) (xs:List V) (k:Nat) (y:V),x=.ref l/\vs=[.int (k:Int),y]/\H l=some (.lst xs)/\k<=xs.length/\xs.length<=100000/\Q .non (upd H l (.lst (xs.take k++y::xs.drop k)))
theorem afX:vf X "list.insert" Jq:=by
 intro pins s σ H x vs v us Q I rx rv h
 obtain⟨l,xs,k,y,rfl,rfl,hH,hk,hz,q⟩:=h
 cases rx
 cases rv with
 |cons r1 rv =>
 cases rv with
 |cons ru rv =>
 cases rv
 obtain⟨t,rfl⟩:=r1
 rename_i u
 obtain⟨z,its,n,r,hl,e⟩:=I.zE hH
 have big:100000+1<=sizeLine:=Nat.le_of_lt (show 100001<sizeLine from by unfold sizeLine; lia)
 have hs1:its.toArray.size<=sizeLine:=by rw[List.size_toArray]; lia
 have hk':(if(k:Int)<0 then((k:Int)+(its.toArray.size:Int)).toNat else min (k:Int).toNat its.toArray.size)=k:=by
  rw[if_neg (by lia),Int.toNat_natCast,List.size_toArray]
  lia
 have h1 : -(2 ^ 63)<=(k:Int):=by lia
 have h2:(k:Int)<2 ^ 63:=by lia
 have hfit:¬(!Builtin.List.listFitsIndex (k:Int))=true:=by rw[fitsIndex_both h1 h2]; exact Bool.false_ne_true
 have hlen:(xs.take k++y::xs.drop k).length<=sizeLine:=by
  rw[List.length_append,List.length_cons,List.length_take,List.length_drop]
  lia
 clear h1 h2 big
 generalize (k:Int)=i at *
 refine call_meets F.slot_list_insert ⟨_,e,rfl⟩ F.entry_list_insert (F.args_list_insert_3 _ _ _)
  (AutoSeq1.list_insert_list_int_val_1 l its.toArray n i t u hfit hs1) ⟨e,?_⟩
 refine⟨.non,_,I.zA (its':=its.take k++u::its.drop k) hH e ?_ (Vals.append (r.take _) (.cons ru (r.drop _))) hlen,rfl,q⟩
 show(its.toArray.extract 0 (if i<0 then(i+(its.toArray.size:Int)).toNat else min i.toNat its.toArray.size)).push u++its.toArray.extract (if i<0 then(i+(its.toArray.size:Int)).toNat else min i.toNat its.toArray.size)=_
 rw[hk']
 exact PySem.W.kl_ins_eq its k u
end
open PySem.W
def pO(K:FZ):KW:=λH v k=>∃a,v=.ref a/\bw K H a [.int k.1,.int k.2]
theorem afY{K:FZ}{H H':Hp}{v:V}{k:Int × Int}(s:Same H H')(h:pO K H v k):pO K H' v k:=by
 obtain⟨a,e,q⟩:=h
 exact⟨a,e,s.iC q⟩
section
variable {X:Cx}{pins:LO}{σ : St}{H:Hp}{s:Shared}
theorem Cg{k:Int × Int}(I:Inv X pins σ H s)(h:∃v,RelV v u/\pO X.K H v k):∃a o n t1 t2,u=.ref a/\s.heap.get? a=some o/\o.cls=.type "tuple" /\ o.data=.seq #[.int k.1 t1,.int k.2 t2] n:=by
 obtain⟨v,r,a,rfl,q⟩:=h
 cases r
 obtain⟨its,r,⟨o,e,c,n,d⟩,_⟩:=I.tuple q
 cases r with
 |cons r1 r =>
  cases r with
  |cons r2 r =>
   cases r
   obtain⟨t1,rfl⟩:=r1
   obtain⟨t2,rfl⟩:=r2
   exact⟨a,o,n,t1,t2,rfl,e,c,d⟩
theorem afZ(I:Inv X pins σ H s)(u:Value)(k k':Int × Int)(h:∃v,RelV v u/\pO X.K H v k)(h':∃v,RelV v u/\pO X.K H v k'):k=k':=by
 obtain⟨a,o,n,t1,t2,rfl,e,_,d⟩:=Cg I h
 obtain⟨a',o',n',t1',t2',z,e',_,d'⟩:=Cg I h'
 cases z
 rw[e]at e'
 cases e'
 rw[d]at d'
 injection d' with d' _
 have d':=congrArg Array.toList d'
 injection d' with x1 x2
 injection x2 with x2 _
 injection x1 with x1 _
 injection x2 with x2 _
 exact Prod.ext x1 x2
theorem af0{E:Value->Shared->Prop}{st:SortSt}{i j x y n n':Nat}{k k':Int × Int}{Q:Option Bool->SortSt->Prop}(hk:kindOf st=tuples' true)
  (hi:(arrOf st)[i]?=some (.ref x,p)) (hj:(arrOf st)[j]?=some (.ref y,q)) (hx:s.heap.get? x=some ox) (dx:ox.data=.seq #[.int k.1 t1,.int k.2 t2] n) (hy:s.heap.get? y=some oy) (dy:oy.data=.seq #[.int k'.1 y1,.int k'.2 y2] n')
  (h:Q (some (decide (k.1<k'.1\/(k.1=k'.1/\k.2<k'.2)))) st):wpS (model prog w) A E s (ltAt' i j) Q st:=by
 rw[ltAt'_eq]
 refine wpS_bind (wpS_get ?_)
 show wpS _ _ _ _ (do let x <-elem' (arrOf st) i; let y <-elem' (arrOf st) j; lt' x y) Q st
 rw[elem'_eq,elem'_eq,hi,hj]
 refine wpS_bind (wpS_pure (wpS_bind (wpS_pure ?_)))
 rw[lt'_eq]
 refine wpS_bind (wpS_get ?_)
 rw[hk]
 refine wpS_bind (wpS_lift (wpAny_attempt (kat_lt hx dx hy dy (kat_cons (wpAny_eqBool_int ?_)))))
 by_cases e1:k.1=k'.1
 .rw[show(k.1 == k'.1)=true by simp[e1]]
  refine kat_yes (kat_cons (wpAny_eqBool_int ?_))
  by_cases e2:k.2=k'.2
  .rw[show(k.2 == k'.2)=true by simp[e2]]
   refine kat_yes (kat_nil ⟨rfl,wpS_pure ?_⟩)
   rw[decide_eq_false (by omega)]at h
   exact h
  .rw[show(k.2 == k'.2)=false by simp[e2]]
   refine kat_no (kat_one _ _ (wpAny_lt_int ⟨rfl,wpS_pure ?_⟩))
   have:decide (k.1<k'.1\/(k.1=k'.1/\k.2<k'.2))=decide (k.2<k'.2):=by
    rw[decide_eq_decide]; omega
   rw[this]at h
   exact h
 .rw[show(k.1 == k'.1)=false by simp[e1]]
  refine kat_no (oneLt_int ⟨rfl,wpS_pure ?_⟩)
  have:decide (k.1<k'.1\/(k.1=k'.1/\k.2<k'.2))=decide (k.1<k'.1):=by
   rw[decide_eq_decide]; omega
  rw[this]at h
  exact h
theorem af2:nA X (λH u k=>∃v,RelV v u/\pO X.K H v k) (tuples' true) where
 kind:=λH keys kz h2 hk pins σ s Q E I q=>by
  have t:∀vs:List Value,(∀v∈vs,∃k:Int × Int,∃w,RelV w v/\pO X.K H w k)->∃fs,KatTups s.heap vs fs/\fs.length=vs.length/\∀v∈fs,∃i t,v=Value.int i t:=λvs=>by
   induction vs with
   |nil=>exact λ_=>⟨[],.nil,rfl,λv m=>by cases m⟩
   |cons v vs ih =>
    intro h
    obtain⟨fs,a1,a2,a3⟩:=ih λu mu=>h u (List.mem_cons_of_mem _ mu)
    obtain⟨k,hv⟩:=h v (List.mem_cons_self ..)
    obtain⟨a,o,n,t1,t2,rfl,e,c,d⟩:=Cg I hv
    refine⟨.int k.1 t1::fs,KatTups.cons e c d rfl a1,by rw[List.length_cons,a2,List.length_cons],λu mu=>?_⟩
    rcases List.mem_cons.mp mu with rfl|mu
    .exact⟨_,_,rfl⟩
    .exact a3 u mu
  obtain⟨fs,a1,a2,a3⟩:=t keys.toList λv hv=>by
   obtain⟨i,hi,e⟩:=List.getElem_of_mem hv
   exact⟨kz i,hk i v (by rw[<-e]; simp[Array.getElem?_eq_getElem (show i<keys.size by simpa using hi)])⟩
  have:=kat_kind (M:=model X.prog X.w) (A:=X.A.in1.in1) (E:=E) (vs:=keys.toList) (fs:=fs) (T:=.type "int") (Q:=Q) a1 (by rw[a2]; simp; omega) (λv hv=>by
   obtain⟨i,t,rfl⟩:=a3 v hv
   exact Looks.now) (by decide) q
  simpa using this
 ask:=λ{pins σ H s E} a₀ kf I h st i j Q B hi hj q=>by
  have at_:∀i,i<a₀.size->∃(x:Nat) (p:Value) (o:Obj) (n:Nat) (t1 t2:Tok),(arrOf st)[i]?=some (Value.ref x,p)/\s.heap.get? x=some o/\o.data=.seq #[.int (q1 kf (arrOf st) i) t1,.int (q2 kf (arrOf st) i) t2] n:=λi hi=>by
   have hi':i<(arrOf st).size:=by rw[B.sz]; exact hi
   have hm:(arrOf st)[i]∈a₀.toList:=(Array.perm_iff_toList_perm.mp B.pm).mem_iff.mp (by simp)
   obtain⟨x,o,n,t1,t2,e,e2,_,d⟩:=Cg I (h _ hm)
   have e':(arrOf st)[i]?=some (arrOf st)[i]:=getElem?_pos _ i hi'
   refine⟨x,(arrOf st)[i].2,o,n,t1,t2,?_,e2,?_⟩
   .rw[e',<-e]
   .unfold q1 q2
    rw[e']
    exact d
  obtain⟨x,p,o,n,t1,t2,e1,e2,e3⟩:=at_ i hi
  obtain⟨y,p',o',n',u1,u2,f1,f2,f3⟩:=at_ j hj
  exact af0 (k:=(q1 kf (arrOf st) i,q2 kf (arrOf st) i)) (k':=(q1 kf (arrOf st) j,q2 kf (arrOf st) j)) B.kn e1 f1 e2 e3 f2 f3 q
end
def iQ(kz:Nat->Int × Int)(i j:Nat):Prop:=((kz i).1<(kz j).1\/((kz i).1=(kz j).1/\(kz i).2<(kz j).2))\/(((kz i).1=(kz j).1/\(kz i).2=(kz j).2)/\i<j)
noncomputable instance {kz:Nat->Int × Int}{i j:Nat}:Decidable (iQ kz i j):=by unfold iQ; infer_instance
noncomputable def jK(kz:Nat->Int × Int)(i:Nat):List Nat->List Nat
 | []=>[i]
 |j::r=>if iQ kz i j then i::j::r else j::jK kz i r
noncomputable def Jr(n:Nat)(kz:Nat->Int × Int):List Nat:=(List.range n).foldr (jK kz) []
theorem Js(kz:Nat->Int × Int)(i:Nat):∀l,(jK kz i l).Perm (i::l)
 | []=>.refl _
 |j::r=>by
  unfold jK
  split
  .exact .refl _
  .exact((Js kz i r).cons j).trans (.swap i j r)
theorem UJ(kz:Nat->Int × Int)(i:Nat):∀l,(∀j∈l,i≠j)->l.Pairwise (iQ kz)->(jK kz i l).Pairwise (iQ kz)
 | [],_,_=>by simp[jK]
 |j::r,hn,hp=>by
  have hp':=List.pairwise_cons.mp hp
  unfold jK
  split
  .rename_i b
   refine List.pairwise_cons.mpr ⟨λk hk=>?_,hp⟩
   rcases List.mem_cons.mp hk with rfl|hk
   .exact b
   .have:=hp'.1 k hk
    unfold iQ at b this ⊢
    lia
  .rename_i b
   refine List.pairwise_cons.mpr ⟨λk hk=>?_,UJ kz i r (λk hk=>hn k (List.mem_cons_of_mem _ hk)) hp'.2⟩
   rcases List.mem_cons.mp ((Js kz i r).mem_iff.mp hk)with rfl|hk
   .have:=hn j (List.mem_cons_self ..)
    unfold iQ at b ⊢
    lia
   .exact hp'.1 k hk
theorem UL(kz:Nat->Int × Int):∀l:List Nat,l.Nodup->(l.foldr (jK kz) []).Perm l/\(l.foldr (jK kz) []).Pairwise (iQ kz)
 | [],_=>⟨.refl _,.nil⟩
 |i::r,nd=>by
  have nd':=List.nodup_cons.mp nd
  obtain⟨h1,h2⟩:=UL kz r nd'.2
  exact⟨(Js kz i _).trans (h1.cons i),UJ kz i _ (λj hj z=>nd'.1 (by rw[z]; exact h1.mem_iff.mp hj)) h2⟩
theorem UW(n:Nat)(kz:Nat->Int × Int):nu n kz (Jr n kz):=UL kz _ List.nodup_range
theorem U0(as:∀a b,R a b->¬R b a):∀{l m:List Nat},l.Perm m->l.Pairwise R->m.Pairwise R->l=m
 | [],m,p,_,_=>by rw[List.nil_perm.mp p]
 |a::l,[],p,_,_=>by simpa using p.length_eq
 |a::l,b::m,p,h1,h2=>by
  have h1':=List.pairwise_cons.mp h1
  have h2':=List.pairwise_cons.mp h2
  have e:a=b:=by
   rcases List.mem_cons.mp (p.mem_iff.mp (List.mem_cons_self ..))with z|z
   .exact z
   .rcases List.mem_cons.mp (p.mem_iff.mpr (List.mem_cons_self (a:=b)))with y|y
    .exact y.symm
    .exact(as _ _ (h1'.1 b y) (h2'.1 a z)).elim
  subst e
  rw[U0 as p.cons_inv h1'.2 h2'.2]
theorem nu.eq(h:nu n kz ys):ys=Jr n kz:=by
 have g:=UW n kz
 refine U0 (R:=iQ kz) (λa b h1 h2=>?_) (h.1.trans g.1.symm) h.2 g.2
 unfold iQ at h1 h2
 lia
noncomputable def uo:List Tr->Option (List Int)
 | []=>some []
 |.int i::r=>(uo r).map (i :: ·)
 |_::_=>none
theorem U3:∀{ts:List Tr} {ns:List Int},uo ts=some ns->ts=ns.map Tr.int
 | [],_,h=>by cases h; rfl
 |.int i::r,ns,h=>by
  obtain⟨m,e,rfl⟩:=Option.map_eq_some_iff.mp h
  rw[U3 e]; rfl
theorem U4{K:FZ}{H:Hp}:∀{ns:List Int} {vs:List V},aA K H vs (ns.map Tr.int)->vs=ns.map V.int
 | [],_,h=>by cases h; rfl
 |n::ns,_,h=>by
  cases h with
  |cons h1 h2 =>
   cases h1
   rw[U4 h2]
   rfl
theorem Jt{K:FZ}{H:Hp}:∀ns:List Int,aA K H (ns.map V.int) (ns.map Tr.int)
 | []=>.nil
 |n::ns=>.cons (.int n) (Jt ns)
noncomputable def rC:G1
 |.lst ts=>match uo ts with
  |some ns=>if ns.length<64 then .ok (.lst ((um ns).map Tr.int),true)else .bad
  |none=>.bad
 |_=>.bad
theorem af3{K:FZ}:lD (au K) (λx=>Jp K [x]) rC:=⟨λa c=>(by unfold rC; (repeat' split) <;> (intro z; cases z)),λG H x a Q s rx h=>by
 unfold rC at h
 split at h
 case h_2=>exact h.elim
 split at h
 case h_2=>exact h.elim
 rename_i ns e
 split at h
 case isFalse=>exact h.elim
 rw[U3 e]at rx
 obtain⟨p,xs,rfl,q,r⟩:=rx.lst s
 have e2:=U4 r
 subst e2
 exact⟨p,ns,rfl,q.toK,‹_›,λl nl=>h _ _ _ (.flt s nl) (.flt s nl (Jt _))⟩⟩
theorem U5{K:FZ}(h:dH K σ Hs G H F vs [.v (.int n) fr]):vs=[.int n]:=by
 cases h with
 |cons h r =>
  cases r
  cases fr with
  |false=>cases h.1; rfl
  |true=>obtain⟨_,_,_,_,z,_⟩:=h.1; cases z
theorem Ju{K:FZ}{H:Hp}:∀l:List Nat,aA K H (l.map λi:Nat=>V.int i) (l.map λi:Nat=>Tr.int i)
 | []=>.nil
 |n::l=>.cons (.int n) (Ju l)
noncomputable def U6(fa:AF):EF:=λρ=>(fa ρ).bind λp=>match p.1 with
 | [.v (.int n) _]=>if 0<=n/\n<=1000 then .ok (.v (.lst ((List.range n.toNat).map λi:Nat=>Tr.int i)) true,p.2)else .bad
 |_=>.bad
noncomputable def U7(as:VA jG):VE (U6 jG) where
 ck Γ e:=eH e λaK aX bB _=>atName aK λy _=>aN aX λbL cV=>eH bL λdK gP nJ _=>atName dK λz _=>aN gP λx nO=>aO nO (aO nJ (aO cV (aO bB (y == ("list" : Str)&&z == ("range" : Str)&&jF Γ y&&jF Γ z&&Γ.B.contains y&&Γ.B.contains z&&as.ck Γ [x]))))
 cs:=as.cs
 ok q o h:=by
  walk_at "O"
  simp only[an]at h
  obtain⟨⟨⟨⟨⟨⟨h1,h2⟩,h3⟩,h4⟩,h5⟩,h6⟩,h7⟩:=h
  cases eq_of_beq h1
  cases eq_of_beq h2
  obtain⟨pa,_,na⟩:=as.ok q o h7
  refine(afW o.r (o.B _ (by simpa using h5)) (o.B _ (by simpa using h6)) pa (dh o h3).1 (dh o h4).1 (na _ (List.mem_cons_self ..))).imp λσ H Q=>bx λR ρ G F e h=>jE e .refl h λp h vs G1 H1 F1 e1 s1 v1=>?_
  split at h
  case h_2=>exact h.elim
  rename_i n fr ep
  rw[ep]at v1
  split at h
  case isFalse=>exact h.elim
  have nn:((n.toNat:Nat):Int)=n:=by lia
  exact⟨n.toNat,by rw[U5 v1,nn],by lia,λD nD=>e1.fin s1 (.flt e1.sub nD) (.flt e1.sub nD (Ju _)) h⟩
noncomputable def xu:GM:=λts as=>match as with
 | [.int i,T]=>if 0<=i/\i.toNat<=ts.length/\ts.length<=100000 then .ok (ts.take i.toNat++T::ts.drop i.toNat,.non)else .bad
 |_=>.bad
theorem af4:HX Jq xu:=⟨λts as c=>(by unfold xu; (repeat' split) <;> (intro z; cases z)),λK G a xs ts vs as H Q ts' T hx r ra q h=>by
 unfold xu at q
 split at q
 case h_2=>cases q
 split at q
 case isFalse=>cases q
 rename_i i U c
 cases q
 cases ra with
 |cons h1 r1 =>
  cases r1 with
  |cons h2 r2 =>
   cases r2
   cases h1
   have l:=r.length
   exact⟨a,xs,i.toNat,_,rfl,by rw[Int.toNat_of_nonneg c.1],hx,by lia,by lia,h _ _ ((r.take _).app (.cons h2 (r.drop _))) .non⟩⟩
abbrev RF:=List (Option Tr)->Rs Tr
def Tq(K:FZ)(f:RF):TE:=λσ H Q=>∃G ts T,Same G H/\(∀(i:Nat) U,ts[i]?=some (some U)->∃v,σ[i]?=some (some v)/\Rp K G H v U)/\f ts=.ok T/\∀v G' H',Same G G'->Same H H'->Same G' H'->Rp K G' H' v T->Q v H'
theorem Rp.up{K:FZ}(h:Rp K G H v T)(m:Same G G')(s:Same H H'):Rp K G' H' v T:=by
 rcases h with h|⟨a,xs,ts,e1,e2,e,r⟩
 .exact .inl (h.mono m)
 .exact .inr ⟨a,xs,ts,e1,e2,s _ _ e,r.mono m⟩
theorem VN.rp{K:FZ}(h:VN K Hs G H v T fr):Rp K G H v T:=by
 cases fr with
 |false=>exact .inl h
 |true=>obtain⟨a,xs,ts,e1,e2,_,_,e,r⟩:=h; exact .inr ⟨a,xs,ts,e1,e2,e,r⟩
structure VL(f:RF) where
 ck:Gx->Expr->Bool
 ok:∀{Γ X e},X.N = Γ.N->X.env.scope = Γ.sc->ck Γ e=true->PE X e (Tq (au X.K) f)
noncomputable def pP(i:Nat):RF:=λts=>match ts[i]? with
 |some (some U)=>.ok U
 |_=>.bad
noncomputable def uq(i:Nat):VL (pP i) where
 ck Γ e:=atName e λx _=>gM Γ i x
 ok hN hs h:=by
  walk_at "O"
  simp only[gM,an]at h
  obtain⟨⟨⟨h1,h2⟩,h3⟩,h4⟩:=h
  refine(O7 (i:=i) (by rw[hN]; exact eq_of_beq h1) (by rw[hs]; unfold uW; simpa[or_assoc]using h2) (by simpa using h3) (by simpa using h4)).imp λσ H Q ⟨G,ts,T,s,en,e,k⟩=>?_
  unfold pP at e
  split at e <;> cases e
  obtain⟨v,q1,q2⟩:=en i _ ‹_›
  exact⟨v,q1,k v G H (Same.refl _) (Same.refl _) s q2⟩
noncomputable def Ci(g:G2)(fa fb:RF):RF:=λts=>(fa ts).bind λa=>(fb ts).bind λb=>(g a b).bind λz=>.ok z.1
noncomputable def Jv(a:VL aB)(b:VL bF):VL (Ci aW aB bF) where
 ck Γ e:=lF e λx y _=>tL y&&a.ck Γ x&&b.ck Γ y
 ok hN hs h:=by
  walk_at "O"
  simp only[an]at h
  refine(zq zx (a.ok hN hs h.1.2) (b.ok hN hs h.2) (Ba h.1.1)).imp λσ H Q ⟨G,ts,T,s,en,e,k⟩=>?_
  obtain⟨a,e1,e⟩:=cu e
  obtain⟨b,e2,e⟩:=cu e
  obtain⟨z,e3,e⟩:=cu e
  cases e
  refine⟨G,ts,a,s,en,e1,λx G1 H1 m1 n1 s1 rx=>⟨G1,ts,b,s1,λi U q=>?_,e2,λy G2 H2 m2 n2 s2 ry=>RP.ok G2 H2 x y a b Q s2 (rx.up m2 n2) ry (by rw[e3]; exact λv G' H' w vn=>k v G' H' (m1.trans (m2.trans w.gw.gg)) (n1.trans (n2.trans w.sm)) w.gw.sub vn.rp)⟩⟩
  obtain⟨v,q1,q2⟩:=en i U q
  exact⟨v,q1,q2.up m1 n1⟩
noncomputable def Cj(g:G1)(fa:RF):RF:=λts=>(fa ts).bind λa=>(g a).bind λz=>.ok z.1
noncomputable def Jw(a:VL aB):VL (Cj oG aB) where
 ck Γ e:=qF e λaK x _=>iI aK .USub (a.ck Γ x)
 ok hN hs h:=by
  walk_at "O"
  refine(Es Et (a.ok hN hs h)).imp λσ H Q ⟨G,ts,T,s,en,e,k⟩=>?_
  obtain⟨a,e1,e⟩:=cu e
  obtain⟨z,e3,e⟩:=cu e
  cases e
  exact⟨G,ts,a,s,en,e1,λx G1 H1 m1 n1 s1 rx=>RQ.ok G1 H1 x a Q s1 rx (by rw[e3]; exact λv G' H' w vn=>k v G' H' (m1.trans w.gw.gg) (n1.trans w.sm) w.gw.sub vn.rp)⟩
noncomputable def U8(fa fb:RF):RF:=λts=>(fa ts).bind λa=>(fb ts).bind λb=>match a,b with
 |.int i,.int j=>.ok (.tup [.int i,.int j])
 |_,_=>.bad
noncomputable def lPr(a:VL aB)(b:VL bF):VL (U8 aB bF) where
 ck Γ e:=iH e λaK _ _=>aN aK λx aX=>aN aX λy bB=>aO bB (notStar x&&notStar y&&a.ck Γ x&&b.ck Γ y)
 ok hN hs h:=by
  walk_at "O"
  simp only[an]at h
  refine(yX (mQ (a.ok hN hs h.1.2) (mQ (b.ok hN hs h.2) qx (eG h.1.1.2)) (eG h.1.1.1))).imp λσ H Q ⟨G,ts,T,s,en,e,k⟩=>?_
  obtain⟨a,e1,e⟩:=cu e
  obtain⟨b,e2,e⟩:=cu e
  split at e <;> cases e
  refine⟨G,ts,_,s,en,e1,λx G1 H1 m1 n1 s1 rx=>⟨G1,ts,_,s1,λi U q=>?_,e2,λy G2 H2 m2 n2 s2 ry=>⟨show 2<=sizeLine by decide,λp hp=>?_⟩⟩⟩
  .obtain⟨v,q1,q2⟩:=en i U q
   exact⟨v,q1,q2.up m1 n1⟩
  .rw[rx.int,ry.int]
   exact k _ _ _ (m1.trans (m2.trans (Gs.new (K:=[]) s2 hp).gw.gg)) (n1.trans (n2.trans (iD hp _))) (Gs.new (K:=[]) s2 hp).gw.sub (.inl (VN.newT s2 hp (.cons (.int _) (.cons (.int _) .nil))))
noncomputable def rP(ρ : En)(j:Nat):Option Tr:=match ρ[j]? with
 |some (.sh T)=>some T
 |some (.ow ts)=>some (.lst ts)
 |some (.rf ts)=>some (.lst ts)
 |_=>none
noncomputable def Ck(src:List (Option Nat))(ρ : En):List (Option Tr):=src.map λo=>o.bind (rP ρ)
noncomputable def ur(kt:Tr->Option (Int × Int))(fb:RF)(ts:List (Option Tr)):List Nat->Rs (LZ)
 | []=>.ok []
 |i::r=>(fb (some (Tr.int i)::ts)).bind λT=>match kt T with
  |some k=>(ur kt fb ts r).bind λks=>.ok (k::ks)
  |none=>.bad
theorem U9:∀{l:List Nat} {ks:LZ},ur kt fb ts l=.ok ks->ks.length=l.length/\∀(j i:Nat),l[j]?=some i->∃T k,fb (some (Tr.int i)::ts)=.ok T/\kt T=some k/\ks[j]?=some k
 | [],ks,h=>by cases h; exact⟨rfl,λj i z=>by simp at z⟩
 |a::l,ks,h=>by
  unfold ur at h
  obtain⟨T,e1,h⟩:=cu h
  split at h
  .rename_i k e2
   obtain⟨ks',e3,h⟩:=cu h
   cases h
   obtain⟨h1,h2⟩:=U9 e3
   refine⟨by simp[h1],λj i z=>?_⟩
   cases j with
   |zero=>simp at z; subst z; exact⟨T,k,e1,e2,by simp⟩
   |succ j=>simpa using h2 j i (by simpa using z)
  .cases h
noncomputable def Jx(kt:Tr->Option (Int × Int))(src:List (Option Nat))(fa:AF)(fb:RF):EF:=λρ=>(fa ρ).bind λp=>match p.1 with
 | [.v (.int n) _]=>if 0<=n/\n<64 then(dD (ur kt fb (Ck src p.2) (List.range n.toNat))).bind λks=>.ok (.v (.lst ((Jr n.toNat λi=>ks.getD i (0,0)).map λi:Nat=>Tr.int i)) true,p.2)else .bad
 |_=>.bad
theorem Al.gw{K:FZ}{P c:Addr}{x:Str}{G H H':Hp}(sg:Same G H)(gp:G P=none)(tb:bK K H)(hx:x∈eZ)(ht:tabIn K x=some (c,P))(hu:∀x'∈eZ,∀c',tabIn K x'=some (c',P)->x'=x)(l:Al P (zQ x) H H'):Gw K G H G H':=by
 refine⟨Same.refl _,λb o q n=>l.kp b o q λz=>n ?_,λb o q=>l.kp b o (sg b o q) λz=>(by rw[z,gp]at q; cases q),λ_ x' hx' c' b e=>?_,λb h=>.inl h⟩
 .subst z
  exact⟨x,hx,c,ht⟩
 .by_cases z:b=P
  .subst z
   have:=hu x' hx' c' e
   subst this
   exact l.tb
  .obtain⟨ps,q,t1,t2⟩:=tb x' hx' c' b e
   refine⟨ps,l.kp _ _ q z,t1,λpos v k=>?_⟩
   obtain⟨d,o,e1,e2,e3⟩:=t2 pos v k
   refine⟨d,o,e1,l.kp _ _ e2 ?_,e3⟩
   rintro rfl
   obtain⟨qs,y,_⟩:=tb x hx c d ht
   rw[y]at e2
   cases e2
theorem af5{K:FZ}(e:Ok K R ρ σ G H F)(h:rP ρ j=some U):∃v,σ[j]?=some (some v)/\Rp K G H v U:=by
 have z:=e.sl j
 unfold rP at h
 split at h <;> rename_i k <;> cases h <;> rw[k]at z
 .obtain⟨_,v,h1,h2⟩:=z
  exact⟨v,h1,.inl h2⟩
 all_goals
  obtain⟨a,xs,h1,_,_,h4,h5⟩:=z
  exact⟨_,h1,.inr ⟨a,xs,_,rfl,rfl,h4,h5⟩⟩
theorem af6{t:Tx}{Kw:KW}(hq:q=zQ x)(hx:x∈eZ)(ht:tabIn t.K x=some (c,P))(hu:∀x'∈eZ,∀c',tabIn t.K x'=some (c',P)->x'=x)
  (hkt:∀G (H:Hp) v T k,Same G H->Rp t.K G H v T->kt T=some k->Kw H v k) (h:Te t (Jx kt src fa fb) σ H Q):Sw Kw P q src (Ta t fa) (Tq t.K fb) σ H Q:=by
 subst hq
 obtain⟨R,ρ,G,F,e,h⟩:=h
 refine jE e .refl h λp h vs G1 H1 F1 e1 s1 v1=>?_
 obtain⟨rs,ρ1⟩:=p
 dsimp only at h
 split at h
 case h_2=>exact h.elim
 rename_i n fr
 split at h
 case isFalse=>exact h.elim
 obtain⟨ks,k1,h⟩:=j8 h
 obtain⟨kl,kg⟩:=U9 k1
 have nn:((n.toNat:Nat):Int)=n:=by lia
 refine⟨n.toNat,λi=>ks.getD i (0,0),by rw[U5 v1,nn],by lia,e1.tb x hx c P ht,λH2 lh=>?_⟩
 obtain⟨e2,s2⟩:=e1.grow (lh.gw e1.sub (e1.tg P ⟨x,hx,c,ht⟩) e1.tb hx ht hu)
 refine⟨λi hi H3 s3=>?_,λD ys H3 s3 nD hs=>?_⟩
 .obtain⟨T,k,f1,f2,f3⟩:=kg i i (List.getElem?_range hi)
  refine⟨G1,_,T,e2.sub.trans s3,λj U z=>?_,f1,λv G4 H4 m4 n4 s4 r4=>⟨hkt G4 H4 v T _ s4 r4 ?_,n4⟩⟩
  .cases j with
   |zero=>simp at z; subst z; exact⟨.int i,by simp,.inl (.int i)⟩
   |succ j =>
    have z:(Ck src ρ1)[j]?=some (some U):=z
    unfold Ck at z
    rw[List.getElem?_map]at z
    obtain⟨o,eq,z⟩:=Option.map_eq_some_iff.mp z
    obtain⟨l,rfl,z⟩:=Option.bind_eq_some_iff.mp z
    obtain⟨v,h1,h2⟩:=af5 e2 z
    refine⟨v,?_,h2.up (Same.refl _) s3⟩
    show(bV src σ)[j]?=some (some v)
    rw[Je eq,h1]
    rfl
  .rw[f2]
   show some k=some (ks.getD i (0,0))
   rw[List.getD_eq_getElem?_getD,f3]
   rfl
 .obtain⟨e3,s4⟩:=e2.grow (G':=G1) (H':=H3) ⟨Same.refl _,λb o q _=>s3 b o q,e2.sub.trans s3,λt=>t.fr λb o _ q=>s3 b o q,λb h=>.inl h⟩
  rw[hs.eq]
  exact e3.fin ((s1.trans s2).trans s4) (.flt e3.sub nD) (.flt e3.sub nD (Ju _)) h
structure Kt(kt:Tr->Option (Int × Int)) where
 w:FZ->KW
 d:SortKind
 T:∀X:Cx,nA X (λH u k=>∃v,RelV v u/\w X.K H v k) d
 m:∀K {H H':Hp} {v k},Same H H'->w K H v k->w K H' v k
 i:∀{X:Cx} {pins:LO} {σ : St} {H:Hp} {s:Shared},Inv X pins σ H s->∀u k k',(∃v,RelV v u/\w X.K H v k)->(∃v,RelV v u/\w X.K H v k')->k=k'
 r:∀K G (H:Hp) v T k,Same G H->Rp (au K) G H v T->kt T=some k->w K H v k
noncomputable def Jy:Tr->Option (Int × Int)
 |.int i=>some (i,0)
 |_=>none
noncomputable def Jz:Tr->Option (Int × Int)
 |.tup [.int a,.int b]=>some (a,b)
 |_=>none
noncomputable def kyI:Kt Jy:=⟨λ_=>Am,_,λ_=>ae2,λ_ _ _ _ _ _ h=>h,ae3,λK G H v T k s r e=>by
 unfold Jy at e
 split at e <;> cases e
 exact⟨r.int,rfl⟩⟩
noncomputable def kyP:Kt Jz:=⟨pO,_,λ_=>af2,λ_ _ _ _ _ s h=>afY s h,λI=>afZ I,λK G H v T k s r e=>by
 unfold Jz at e
 split at e <;> cases e
 obtain⟨a,xs,rfl,q,r⟩:=r.tup s
 cases r with
 |cons r1 r =>
  cases r1
  cases r with
  |cons r2 r =>
   cases r2
   cases r
   exact⟨a,rfl,q.toK⟩⟩
theorem af7{fc:List (Str × Addr)}:bindArgs (kla_fn "<lambda>" q ⟨[],[⟨x,ann,p⟩],none,[],[],none,[]⟩ body scope fc pm cd ctv) ⟨[u],[]⟩=pure [(x,u)]:=by
 simp[bindArgs,seqItems?]
 rfl
noncomputable def JB(e:Expr)(k:Str->Expr->Bool):Bool:=eH e λdK gP nJ _=>atName dK λr _=>aN gP λa nO=>aO nO (aO nJ (k r a))
theorem af8(h:JB e k=true):∃r a p q,e=.Call (.Name r p) [a] [] q/\k r a=true:=by
 unfold JB at h
 walk_at "O"
 exact⟨_,_,_,_,rfl,h⟩
noncomputable def JC(l:List Keyword)(k:Str->Expr->Bool):Bool:=aN l λIg Ih=>Ab Ig λIi v _=>pC Ii λn=>aO Ih (k n v)
theorem af9(h:JC l k=true):∃n v p,l=[⟨some n,v,p⟩]/\k n v=true:=by
 unfold JC at h
 walk_at "O"
 exact⟨_,_,_,rfl,h⟩
noncomputable def JD(e:Expr)(k:Str->Expr->Scope->Bool):Bool:=z7 e λaga body sc _=>Ad aga λagb agc agd agf agg agh agi=>aO agb (aN agc λagj agk=>Ac agj λz _ _=>aO agk (qI agd (aO agf (aO agg (qI agh (aO agi (k z body sc)))))))
theorem agl(h:JD e k=true):∃z body sc t p q,e=.Lambda ⟨[],[⟨z,t,p⟩],none,[],[],none,[]⟩ body sc q/\k z body sc=true:=by
 unfold JD at h
 walk_at "O"
 exact⟨_,_,_,_,_,_,rfl,h⟩
noncomputable def Va(kt:Kt agm)(y:Str)(x:Str)(Ns:List Str)(src:List (Option Nat))(as:VA jG)(b:VL bF):VE (Jx agm src jG bF) where
 ck Γ e:=eH e λaK aX bB _=>atName aK λf _=>aN aX λbL cV=>aO cV (JB bL λr a=>JC bB λk v=>JD v λz body sc=>f == ("sorted" : Str)&&r == ("range" : Str)&&k == ("key" : Str)&&z == x&&jF Γ f&&jF Γ r&&Γ.B.contains f&&Γ.B.contains r&&Γ.L.contains y&&as.ck Γ [a]&&nQ Γ (x::Ns) (none::src) sc []&&decide (∀y∈sc.names,y.2 ≠ .cell)&&decide (sc.names.lookup x=some .local) && !sc.isCoroutine && !sc.isGenerator&&b.ck ⟨x::Ns,sc,Γ.fn,[],[],true,0,[]⟩ body)
 cs:=as.cs
 ok:=@λcl E Γ X e q o h=>by
  walk_at "O"
  replace h:=af8 h
  obtain⟨r,a,_,_,rfl,h⟩:=h
  replace h:=af9 h
  obtain⟨k,_,_,rfl,h⟩:=h
  replace h:=agl h
  obtain⟨z,body,sc,_,_,_,rfl,h⟩:=h
  simp only[an]at h
  obtain⟨⟨⟨⟨⟨⟨⟨⟨⟨⟨⟨⟨⟨⟨⟨h1,h2⟩,h3⟩,h4⟩,h5⟩,h6⟩,h7⟩,h8⟩,h9⟩,h10⟩,h11⟩,h12⟩,h13⟩,h14⟩,h15⟩,h16⟩:=h
  cases eq_of_beq h1
  cases eq_of_beq h2
  cases eq_of_beq h3
  cases eq_of_beq h4
  obtain⟨S,nd,_,_⟩:=rB h11
  obtain⟨pa,_,na⟩:=as.ok q o h10
  obtain⟨c,P,L,hc,hq⟩:=o.lm y (by simpa using h9)
  have pb:=λA f cd s H=>b.ok (X:=Aj X A (x::Ns) (X.env.qual++("<lambda>" : Str)) _ f cd s H) (Γ := ⟨x::Ns,_,Γ.fn,[],[],true,0,[]⟩) rfl rfl h16
  exact(ae1 (te:=Tq (au X.K) bF) (kt.T X) (kt.m X.K) kt.i o.r (o.B _ (by simpa using h7)) (o.B _ (by simpa using h8)) o.s o.N ⟨S,of_decide_eq_true h12,of_decide_eq_true h13,by simpa using h14,by simpa using h15⟩ hc L.hd L.bm rfl pa (λ_ _ _ _=>af7) pb (dh o h5).1 (dh o h6).1 (na _ (List.mem_cons_self ..))).imp λσ H Q=>af6 (c:=c) hq L.nm L.tab L.un (kt.r X.K)
end L2
end
section
namespace L2
open PySem PySem.Spec PyProof.Rows
section
variable {elt t1 i1 t2 i2:Expr}{scope:Scope}{pos:Pos}{it acc:Value}{env:Env}
theorem agn:compTurn (.ListComp elt [⟨t1,i1,[],0⟩,⟨t2,i2,[],0⟩] scope pos) 0 it acc env=(standAt i1.pos >>= λ_=>pyNext it >>= λr=>match r with
   |none=>pure (.done .next)
   |some v=>letOwnedTupleGo t1 it v >>= λ_=>assign t1 env v >>= λ_=>eval i2 env >>= λx=>standAt i2.pos >>= λ_=>foldedSetIterable i2 env x >>= λx=>holding [x] (pyIter x) >>= λj=>runOwn (.compStart (.ListComp elt [⟨t1,i1,[],0⟩,⟨t2,i2,[],0⟩] scope pos) 1 j acc env) env >>= λ_ =>
     again (.compLoop (.ListComp elt [⟨t1,i1,[],0⟩,⟨t2,i2,[],0⟩] scope pos) 0 it acc env)):=by rfl
theorem ago:compTurn (.ListComp elt [⟨t1,i1,[],0⟩,⟨t2,i2,[],0⟩] scope pos) 1 it acc env=(standAt i2.pos >>= λ_=>pyNext it >>= λr=>match r with
   |none=>pure (.done .next)
   | some v=>letOwnedTupleGo t2 it v >>= λ_=>assign t2 env v >>= λ_=>(eval elt env >>= λx=>call (.builtin "list.append") [acc,x] >>= λ_=>pure ()) >>= λ_ =>
     again (.compLoop (.ListComp elt [⟨t1,i1,[],0⟩,⟨t2,i2,[],0⟩] scope pos) 1 it acc env)):=by rfl
variable {prog:Program}{w:World}{A:Around}{R:Result->Shared->Prop}{s:Shared}
theorem agp(h0:codeAny (model prog w) A (.compLoop (.ListComp elt [⟨t1,i1,[],0⟩,⟨t2,i2,[],0⟩] scope pos) 1 it acc env) R s)
  (h:wpAny (model prog w) A (pyIter it) (λit' s'=>codeAny (model prog w) A (.compLoop (.ListComp elt [⟨t1,i1,[],0⟩,⟨t2,i2,[],0⟩] scope pos) 1 it' acc env) R s') (notedBy (model prog w) A env λx s'=>R (.error x) s') s) :
  codeAny (model prog w) A (.compStart (.ListComp elt [⟨t1,i1,[],0⟩,⟨t2,i2,[],0⟩] scope pos) 1 it acc env) R s:=by
 refine codeAny_of_tree ?_
 show wpAny _ _ ((compStart (.ListComp elt [⟨t1,i1,[],0⟩,⟨t2,i2,[],0⟩] scope pos) 1 it acc env).onRaise (λx=>do noteFrame x env; standAt theWindowsPlace)) _ _ s
 refine wpAny_notedAt ?_
 unfold compStart
 show wpAny _ _ (ask >>= _) _ _ s
 refine wpAny_bind (wpAny_askSetting (wpAny_ite ?_))
 split
 .first
   |exact wpAny_bind (wpAny_pure (wpAny_pure (And.intro rfl h0)))
   |exact wpAny_pure (And.intro rfl h0)
 .first
   |exact wpAny_bind (wpAny_rule (wpAny_bind (wpAny_standAt (wpAny_bind (wpAny_mono h (λit' s' h'=>wpAny_pure (And.intro rfl h')) λ_ _ x=>x)))))
   |(refine wpAny_bind (wpAny_rule ?_); show wpAny _ _ (standAt i2.pos >>= _) _ _ s; exact wpAny_bind (wpAny_standAt (wpAny_bind (wpAny_mono h (λit' s' h'=>wpAny_pure (And.intro rfl h')) λ_ _ x=>x))))
theorem agq(I:Nat->Shared->Prop)
  (turn:∀n s,I n s->wpAny (model prog w) A (pyNext it) (λr s₁=>match r with
   |none=>R (.ok .next) s₁
   | some v=>wpAny (model prog w) A (letOwnedTupleGo t2 it v) (λ_ s₁'=>wpAny (model prog w) A (assign t2 env v) (λ_ s₂ => wpAny (model prog w) A (eval elt env) (λx s₃ =>
     wpAny (model prog w) A (call (.builtin "list.append") [acc,x]) (λ_ s₄=>∃m,m<n/\I m s₄) (λ_ _=>False) s₃) (λ_ _=>False) s₂) (λ_ _=>False) s₁') (λ_ _=>False) s₁) (λ_ _=>False) s)
  (n:Nat) (h:I n s):codeAny (model prog w) A (.compLoop (.ListComp elt [⟨t1,i1,[],0⟩,⟨t2,i2,[],0⟩] scope pos) 1 it acc env) R s:=by
 refine codeAny_loop rfl I (λn s hI=>?_) n h
 show wpAny _ _ ((compTurn (.ListComp elt [⟨t1,i1,[],0⟩,⟨t2,i2,[],0⟩] scope pos) 1 it acc env).onRaise (λx=>do noteFrame x env; theTreesLotGoes x)) _ _ s
 refine wpAny_noted (wpAny_noRaise ?_)
 rw[ago]
 refine wpAny_bind (wpAny_standAt (wpAny_bind (wpAny_mono (turn n s hI) (λr s₁ h₁=>?_) λ_ _ h'=>h')))
 cases r with
 |none=>exact wpAny_pure h₁
 |some v =>
  refine wpAny_bind (wpAny_mono h₁ (λ_ s₁' h₁'=>?_) λ_ _ h'=>h')
  exact wpAny_bind (wpAny_mono h₁' (λ_ s₂ h₂=>wpAny_bind (wpAny_bind (wpAny_mono h₂ (λx s₃ h₃=>wpAny_bind (wpAny_mono h₃
   (λ_ s₄ h₄=>wpAny_pure (wpAny_pure ⟨rfl,h₄⟩)) λ_ _ h'=>h')) λ_ _ h'=>h'))) λ_ _ h'=>h')
theorem agr(I:Nat->Shared->Prop)(hs:∀x,foldedSetIterable i2 env x=pure x)
  (turn:∀n s,I n s->wpAny (model prog w) A (pyNext it) (λr s₁=>match r with
   |none=>R (.ok .next) s₁
   | some v=>wpAny (model prog w) A (letOwnedTupleGo t1 it v) (λ_ s₁'=>wpAny (model prog w) A (assign t1 env v) (λ_ s₂ => wpAny (model prog w) A (eval i2 env) (λx s₃ => wpAny (model prog w) A (pyIter x) (λj s₄ =>
     codeAny (model prog w) A (.compStart (.ListComp elt [⟨t1,i1,[],0⟩,⟨t2,i2,[],0⟩] scope pos) 1 j acc env) (λr s₅=>r=.ok .next/\∃m,m<n/\I m s₅) s₄) (λ_ _=>False) s₃) (λ_ _=>False) s₂) (λ_ _=>False) s₁') (λ_ _=>False) s₁) (λ_ _=>False) s)
  (n:Nat) (h:I n s):codeAny (model prog w) A (.compLoop (.ListComp elt [⟨t1,i1,[],0⟩,⟨t2,i2,[],0⟩] scope pos) 0 it acc env) R s:=by
 refine codeAny_loop rfl I (λn s hI=>?_) n h
 show wpAny _ _ ((compTurn (.ListComp elt [⟨t1,i1,[],0⟩,⟨t2,i2,[],0⟩] scope pos) 0 it acc env).onRaise (λx=>do noteFrame x env; theTreesLotGoes x)) _ _ s
 refine wpAny_noted (wpAny_noRaise ?_)
 rw[agn]
 refine wpAny_bind (wpAny_standAt (wpAny_bind (wpAny_mono (turn n s hI) (λr s₁ h₁=>?_) λ_ _ h'=>h')))
 cases r with
 |none=>exact wpAny_pure h₁
 |some v =>
  refine wpAny_bind (wpAny_mono h₁ (λ_ s₁' h₁'=>?_) λ_ _ h'=>h')
  refine wpAny_bind (wpAny_mono h₁' (λ_ s₂ h₂=>?_) λ_ _ h'=>h')
  refine wpAny_bind (wpAny_mono h₂ (λx s₃ h₃=>?_) λ_ _ h'=>h')
  refine wpAny_bind (wpAny_standAt (wpAny_bind (wpAny_of_eq (hs x) (wpAny_bind (wpAny_holding (wpAny_mono h₃ (λj s₄ h₄=>?_) λ_ _ h'=>h'))))))
  refine wpAny_bind (wpAny_runOwn (codeAny_mono h₄ λr s₅ h₅=>?_))
  obtain⟨rfl,h₅⟩:=h₅
  exact wpAny_pure ⟨rfl,h₅⟩
end
def Vb(D:Addr)(j9:TI)(g2:TG)(te:TE)(F:St->Hp->Prop):St->Hp->Prop:=λσ2 H2=>j9 σ2 H2 λJ H3=>∃V:Nat->Nat->St->Hp->Prop,(∃k,V 0 k σ2 H3)/\∀j k σ3 H4,V j k σ3 H4 ->
 (J.stop j H4/\F σ3 H4)\/(J.go j H4/\∀y H5,J.jV j H4 y H5->g2 y σ3 H5 λσ4 H6=>te σ4 H6 λv H7=>∃xs,H7 D=some (.lst xs)/\xs.length<sizeLine/\∃k',k'<k/\V (j+1) k' σ4 (upd H7 D (.lst (xs++[v]))))
def JF(wi:TI)(g:TG)(src:List (Option Nat))(j9:TI)(g2:TG)(te:TE):TE:=λσ H Q=>wi σ H λJ H1=>∀D,H1 D=none ->
 ∃W:Nat->Nat->St->Hp->Prop,(∃m,W 0 m (bV src σ) (upd H1 D (.lst [])))/\∀i m σ' H',W i m σ' H' ->
  (J.stop i H'/\Fw Q D H')\/(J.go i H'/\∀x cj,J.jV i H' x cj->g x σ' cj (Vb D j9 g2 te λσ3 H3=>∃m',m'<m/\W (i+1) m' σ3 H3))
section
variable {X Y:Cx}{N:List Str}{C:Addr}{s0:Shared}{H0:Hp}{ex:List Addr}{elt tg iter jL iter2:Expr}{scope:Scope}{pos:Pos}{j9:TI}{g2:TG}{te:TE}
theorem ags(hi:PI Y jL iter2 j9)(hg:PG Y jL g2)(he:PE Y elt te)(hc:Y.calm=true)(hx:Y.xe=λ_ _=>False)(I:Inv Y pins σ H s)(h:Vb D j9 g2 te F σ H) :
  wpAny (model Y.prog Y.w) Y.A (eval iter2 Y.env) (λx s₃=>wpAny (model Y.prog Y.w) Y.A (pyIter x) (λj s₄=>codeAny (model Y.prog Y.w) Y.A (.compStart (.ListComp elt [⟨tg,iter,[],0⟩,⟨jL,iter2,[],0⟩] scope pos) 1 j (.ref D) Y.env) (λr s₅=>r=.ok .next/\∃σ' H',Inv Y pins σ' H' s₅/\F σ' H') s₄) (λ_ _=>False) s₃) (λ_ _=>False) s:=by
 rw[<-hx]
 refine aD (hi pins s σ H _ I h) λv s1 h1=>aD h1 λitv s2 h2=>?_
 obtain⟨it,fp,tn,J,H2,e,I2,T,st2,f2,V,⟨k0,v0⟩,turn⟩:=h2
 subst e
 have up:∀{H':Hp},(∀b∈fp,H' b=none)->∀b∈fp,bT Y pins H' b:=λhn b hb=>⟨hn b hb,(f2 b hb).2⟩
 have loop:codeAny (model Y.prog Y.w) Y.A (.compLoop (.ListComp elt [⟨tg,iter,[],0⟩,⟨jL,iter2,[],0⟩] scope pos) 1 (.ref it) (.ref D) Y.env) (λr s₅=>r=.ok .next/\∃σ' H',Inv Y pins σ' H' s₅/\F σ' H') s2:=by
  refine agq (λn s'=>∃i σ' H',Inv Y pins σ' H' s'/\tn i s'.heap/\(∀b∈fp,H' b=none)/\V i n σ' H') ?_ k0 ⟨0,σ,H2,I2,st2,λb hb=>(f2 b hb).1,v0⟩
  rintro n s5 ⟨i,σ5,H5,I5,iu,lA,w5⟩
  rcases turn i n σ5 H5 w5 with⟨stop,qn⟩|⟨go,step⟩
  .refine aD (T.done Y rfl rfl rfl hc i pins s5 σ5 H5 (λ_ _=>False) I5 (up lA) iu stop) λr s6 ⟨hr,I6⟩=>?_
   subst hr
   exact⟨rfl,σ5,H5,I6,qn⟩
  .refine aD (T.item Y rfl rfl rfl hc i pins s5 σ5 H5 (λ_ _=>False) I5 (up lA) iu go) λr s6 ⟨u,hr,h6⟩=>?_
   subst hr
   refine aD h6 λ_ s7 ⟨x,H7,I7,r7,y7,gq,xg⟩=>?_
   have xq:=I7.pinned (up xg) (T.obj _ _ gq)
   rw[<-hx]
   refine aD (hg _ s7 σ5 H7 x u _ xq r7 (step x H7 y7)) λ_ s8 ⟨σ8,H8,I8,q8⟩=>?_
   refine aD (he _ s8 σ8 H8 _ I8 q8) λyv s9 ⟨y,H9,I9,r9,q9⟩=>?_
   obtain⟨xs,e9,l9,m',hm,w9⟩:=q9
   refine aD (zF (X:=Y) _ s9 σ8 H9 (.ref D) [y] (.ref D) [yv] (λ_ H'=>V (i+1) m' σ8 H') I9 rfl (.cons r9 .nil) ⟨D,xs,y,rfl,rfl,e9,l9,w9⟩) λ_ BR ⟨_,Ja,rm,_,Jb⟩=>?_
   refine⟨m',hm,i+1,σ8,Ja,rm.qw,T.keep _ _ _ gq λb hb o e=>(rm.pin (b,o) (List.mem_append_right _ (List.mem_append_right _ (lu hb e)))).1,λb hb=>?_,Jb⟩
   obtain⟨o,e,d⟩:=T.obj _ _ gq b hb
   exact(rm.pin (b,o) (List.mem_append_right _ (List.mem_append_right _ (lu hb e)))).2.1
 exact agp loop (T.self _ _ _ _ _ st2 loop)
end
section
variable {X:Cx}{elt tg iter jL iter2:Expr}{scope sc:Scope}{pos:Pos}{No N:List Str}{src:List (Option Nat)}{wi j9:TI}{g g2:TG}{te:TE}
theorem agt{pins:LO}{RR:Value->Addr->Result->Shared->Prop}(hsc:X.env.scope=sc)(fO:X.N=No)(S:o8 sc No N src scope)(hc:X.calm=true)
  (hi:PI X tg iter wi) (hg:∀C s H ex,PG (aY X N scope C s H ex) tg g) (hi2:∀C s H ex,PI (aY X N scope C s H ex) jL iter2 j9) (hg2:∀C s H ex,PG (aY X N scope C s H ex) jL g2) (he:∀C s H ex,PE (aY X N scope C s H ex) elt te) (I:Inv X pins σ H s) (h:JF wi g src j9 g2 te σ H Q)
  (hs2:∀(env:Env) x,foldedSetIterable iter2 env x=pure x) (hRR:∀D C H' s' m,Inv X pins σ H' s'->H' C=none->C≠X.env.locals->X.s₀.heap.objs.size<=C->(∀x c,X.env.cells.lookup x=some c->c≠C)->(∀p∈X.pn++pins,p.1≠C)->s'.heap.Ns C m->Q (.ref D) H'->RR (.ref D) C (.ok .next) s') :
  wpAny (model X.prog X.w) X.A (eval iter X.env) (λx s₁=>wpAny (model X.prog X.w) X.A (pyIter x) (λit s₂=>wpAny (model X.prog X.w) X.A (newList []) (λacc s₃ =>
   wpAny (model X.prog X.w) X.A (newFunctionEnv scope X.env.globals (bM X.env.cells scope.names []) [] X.env.qual none .none (some X.env)) (λcenv s₄ =>
    codeAny (model X.prog X.w) X.A (.compStart (.ListComp elt [⟨tg,iter,[],0⟩,⟨jL,iter2,[],0⟩] scope pos) 0 it acc {cenv with scope:=relabel scope X.env }) (RR acc cenv.locals) s₄) X.xe s₃) X.xe s₂) X.xe s₁) X.xe s:=by
 refine aD (hi pins s σ H _ I h) λv s1 h1=>aD h1 λitv s2 h2=>?_
 obtain⟨it,fp,tn,J,H2,e,I2,T,st2,f2,hW⟩:=h2
 subst e
 have IW:H2 s2.heap.objs.size=none:=I2.hok.fresh (Nat.le_refl _)
 obtain⟨W,⟨m0,w0⟩,turn⟩:=hW s2.heap.objs.size IW
 have w6:∀b∈fp,b<s2.heap.objs.size:=λb hb=>by
  obtain⟨o,e,_⟩:=T.obj 0 _ st2 b hb
  exact Heap.lt_size e
 refine wpAny_newObj_type ?_
 have I3:Inv X pins σ (upd H2 s2.heap.objs.size (.lst [])) {s2 with heap:=s2.heap.push {cls:=.type "list",dict:=none,data:=.seq ([]:List Value).toArray } }:=I2.zB (t':=s2.toks) (ys:=[]) .nil (Nat.zero_le _)
 have f3:∀b∈fp,bT X pins (upd H2 s2.heap.objs.size (.lst [])) b:=λb hb=>by
  obtain⟨q,r⟩:=f2 b hb
  exact⟨by rw[aL (Nat.ne_of_lt (w6 b hb))]; exact q,r⟩
 have st3:tn 0 (s2.heap.push {cls:=.type "list",dict:=none,data:=.seq ([]:List Value).toArray }):=T.keep _ _ _ st2 λb hb o e=>Heap.get?_push_of_some _ e
 have j7:∀b∈fp,b<(s2.heap.push {cls:=.type "list",dict:=none,data:=.seq ([]:List Value).toArray }).objs.size:=λb hb=>by
  rw[Heap.size_push]; exact Nat.lt_succ_of_lt (w6 b hb)
 generalize hD:s2.heap.objs.size=D at *
 generalize hh3:s2.heap.push {cls:=.type "list",dict:=none,data:=.seq ([]:List Value).toArray }=h3 at *
 generalize hH3:upd H2 D (.lst [])=H3 at *
 refine Rg λh₁ hns old ck=>?_
 dsimp only at hns old ck ⊢
 have I4:Inv (aY X N scope h3.objs.size {s2 with heap:=h3 } H3 fp) [] (bV src σ) H3 {s2 with heap:=h₁,toks:=s2.toks+([]:List (Str × Value)).length }:=Rh (s:={s2 with heap:=h3 }) hsc fO S I3 f3 j7 hns old ck
 have qe:tn 0 h₁ := T.keep _ _ _ st3 λb hb o e=>old b o e
 have loop:codeAny (model X.prog X.w) X.A (.compLoop (.ListComp elt [⟨tg,iter,[],0⟩,⟨jL,iter2,[],0⟩] scope pos) 0 (.ref it) (.ref D) (compEnvC scope (cellsFrom (h3.objs.size+1) scope.names (bM X.env.cells scope.names [])) h3.objs.size X.env)) (RR (.ref D) h3.objs.size) {s2 with heap:=h₁,toks:=s2.toks+([]:List (Str × Value)).length }:=by
  have stat:∀{H':Hp},(∀b∈fp,H' b=none)->∀b∈fp,bT (aY X N scope h3.objs.size {s2 with heap:=h3 } H3 fp) [] H' b:=λhn b hb=>by
   obtain⟨g0,g1,g2,g3,g4,g5⟩:=f3 b hb
   refine⟨hn b hb,Nat.ne_of_lt (j7 b hb),λz=>?_,.inl hb,λx c e=>?_,λp hp=>absurd (show p∈([]:LO)from hp) (by simp)⟩
   .rcases List.mem_cons.mp (I3.uY b z)with z|z
    .exact g1 z
    .exact g2 z
   .have e:(cellsFrom (h3.objs.size+1) scope.names (bM X.env.cells scope.names [])).lookup x=some c:=e
    rw[mV,rY]at e
    split at e
    .rename_i z
     cases e
     exact λy=>absurd (Nat.le_trans (ck.empty x c (PySem.mem_of_lookup z)).2 (y▸Nat.le_of_lt (j7 b hb))) (Nat.not_succ_le_self _)
    .rcases o7 e with q|q
     .simp at q
     .exact g4 x c q
  refine agr (λn s'=>∃i σ' H',Inv (aY X N scope h3.objs.size {s2 with heap:=h3 } H3 fp) [] σ' H' s'/\tn i s'.heap/\(∀b∈fp,H' b=none)/\W i n σ' H') (hs2 _) ?_ m0 ⟨0,bV src σ,H3,I4,qe,λb hb=>(f3 b hb).1,w0⟩
  rintro n s5 ⟨i,σ5,H5,I5,iu,lA,w5⟩
  rcases turn i n σ5 H5 w5 with⟨stop,qn⟩|⟨go,step⟩
  .refine aD (T.done (aY X N scope h3.objs.size {s2 with heap:=h3 } H3 fp) rfl rfl rfl hc i [] s5 σ5 H5 (λ_ _=>False) I5 (stat lA) iu stop) λr s6 ⟨hr,I6⟩=>?_
   subst hr
   obtain⟨mC,hnC,_⟩:=id I6.loc
   have I7:Inv X pins σ H5 s6:=I3.call' (ch:=fp) I6.os I6.base I6.hok I6.bare λb hb=>by
    obtain⟨g0,g1,g2,g3,g4,g5⟩:=f3 b hb
    exact⟨g3,g1,g4,g5⟩
   refine hRR D h3.objs.size H5 s6 mC I7 I6.free (Nat.ne_of_gt I3.lt) I3.sz (λx c e z=>?_) (λp hp z=>?_) hnC qn
   .obtain⟨v,q⟩:=I3.cell x c e
    exact absurd q.lt (by rw[z]; exact Nat.lt_irrefl _)
   .exact absurd (Heap.lt_size (I3.pin p hp).1) (by rw[z]; exact Nat.lt_irrefl _)
  .refine aD (T.item (aY X N scope h3.objs.size {s2 with heap:=h3 } H3 fp) rfl rfl rfl hc i [] s5 σ5 H5 (λ_ _=>False) I5 (stat lA) iu go) λr s6 ⟨u,hr,h6⟩=>?_
   subst hr
   refine aD h6 λ_ s7 ⟨x,H7,I7,r7,y7,gq,xg⟩=>?_
   have xq:=I7.pinned (stat xg) (T.obj _ _ gq)
   refine aD (hg _ _ _ _ _ s7 σ5 H7 x u _ xq r7 (step x H7 y7)) λ_ s8 ⟨σ8,H8,I8,q8⟩=>?_
   refine wpAny_mono (ags (hi2 _ _ _ _) (hg2 _ _ _ _) (he _ _ _ _) hc rfl I8 q8) (λxv s9 h9=>wpAny_mono h9 (λjv BR h10=>codeAny_mono h10 λr xG h11=>?_) λ_ _ z=>z) λ_ _ z=>z
   obtain⟨rfl,σ9,H9,I9,m',hm,w9⟩:=h11
   refine⟨rfl,m',hm,i+1,σ9,H9,I9.qw (pins:=[]),T.keep _ _ _ gq λb hb o e=>(I9.pin (b,o) (List.mem_append_right _ (List.mem_append_right _ (lu hb e)))).1,λb hb=>?_,w9⟩
   obtain⟨o,e,d⟩:=T.obj _ _ gq b hb
   exact(I9.pin (b,o) (List.mem_append_right _ (List.mem_append_right _ (lu hb e)))).2.1
 exact codeAny_compStart_list loop (T.self _ _ _ _ _ qe loop)
theorem agu(hsc:X.env.scope=sc)(fO:X.N=No)(S:o8 sc No N src scope)(hc:X.calm=true)
  (hi:PI X tg iter wi) (hg:∀C s H ex,PG (aY X N scope C s H ex) tg g) (hi2:∀C s H ex,PI (aY X N scope C s H ex) jL iter2 j9) (hg2:∀C s H ex,PG (aY X N scope C s H ex) jL g2) (he:∀C s H ex,PE (aY X N scope C s H ex) elt te)
  (hs:∀x,foldedSetIterable iter X.env x=pure x:=by intro _; rfl) (hs2:∀(env:Env) x,foldedSetIterable iter2 env x=pure x:=by intro _ _; rfl):PE X (.ListComp elt [⟨tg,iter,[],0⟩,⟨jL,iter2,[],0⟩] scope pos) (JF wi g src j9 g2 te):=by
 refine⟨λpins s σ H Q I h=>?_⟩
 rw[eval_ListComp]
 have hcl:closureFor scope X.env=pure (bM X.env.cells scope.names []):=zG λy hy e=>by
  have k:=S.free y hy e
  rw[<-hsc]at k
  obtain⟨c,q⟩:=I.ok.has y.1 k
  rw[q]; rfl
 refine wpAny_comprehension_free (use:=none) rfl hs hcl S.kind S.names (agt (RR:=λacc C=>compPost (model X.prog X.w) X.A X.xe none (EP X pins σ Q) acc C) hsc fO S hc hi hg hi2 hg2 he I h hs2 ?_)
 intro D C H' s' m I' n1 n2 n3 n4 n5 hn q
 refine⟨m,hn,λh' hs'=>⟨.ref D,H',?_,rfl,q⟩⟩
 exact I'.turned (t':=s'.toks) (λb o hb e=>(hs'.2 b hb).trans e) n1 (Ne.symm (Ne.symm n2)) (.inr n3) n4 n5
end
abbrev QF:=En->Rs Tr
noncomputable def Cm(i:Nat):QF:=λρ=>match ρ[i]? with
 |some (.sh T)=>.ok T
 |_=>.bad
noncomputable def pQ(ts:List Tr)(k:Tr):Rs (Nat × Tr):=match k with
 | .int i=>(match fM ts.length i with
  | some j=>(match ts[j]? with
   |some u=>.ok (j,u)
   |none=>.bad)
  |none=>.bad)
 |_=>.bad
theorem Vc(h:pQ ts k=.ok (j,u)):∃i,k=.int i/\fM ts.length i=some j/\ts[j]?=some u:=by
 unfold pQ at h
 (repeat' split at h) <;> cases h
 exact⟨_,rfl,‹_›,‹_›⟩
theorem Vd(ts:List Tr)(k:Tr)(c:Str):pQ ts k ≠ .ex c:=by unfold pQ; (repeat' split) <;> (intro z; cases z)
noncomputable def cH(ρ : En)(i:Nat):Rs (List Tr):=match ρ[i]? with
 |some (.dp ts)=>.ok ts
 |_=>.bad
theorem Cp(ρ : En)(i:Nat)(c:Str):cH ρ i ≠ .ex c:=by
 unfold cH
 split <;> (intro z; cases z)
section
variable {K:FZ}{R:Addr->Prop}{ρ : En}{σ : St}{G H:Hp}{F:Fp}
theorem DR.set:∀{ts:List Tr} {xs:List V} {bs:List Addr} (m:Nat) {v:V} {T:Tr},DR K G H xs ts bs->bh T=true->(∀U,ts[m]?=some U->bh U=true)->Rep K G v T->DR K G H (xs.set m v) (ts.set m T) bs
 | [],_,_,_,_,_,d,_,_,_=>by cases d; exact .nil
 |t::ts,_,_,m,v,T,d,n,u,r=>by
  obtain⟨w,ys,c,b,rfl,rfl,d1,d2⟩:=d.split
  cases m with
  |zero =>
   have:=d1.nil_of (by show(bh t&&true)=true; rw[u t rfl]; rfl)
   subst this
   exact .cl n r d2
  |succ m=>exact d1.app (DR.set m d2 n (λU h=>u U (by simpa using h)) r)
theorem Ok.putD(e:Ok K R ρ σ G H F)(q:cH ρ i=.ok ts)(hm:ts[m]?=some U):∃a xs v cs,σ[i]?=some (some (.ref a))/\H a=some (.lst xs)/\xs.length=ts.length/\xs[m]?=some v/\a∉cs/\cs.Nodup/\DR K G H [v] [U] cs/\∀b ys ys' U',H b=some (.lst ys)->b∈cs->DR K G (upd H b (.lst ys')) [v] [U'] cs->Ok K R (ρ.set i (.dp (ts.set m U'))) σ G (upd H b (.lst ys')) F/\aC K G H F G (upd H b (.lst ys')) F:=by
 unfold cH at q
 split at q <;> cases q
 rename_i k
 have z:=e.sl i
 rw[k]at z
 obtain⟨a,xs,bs,h1,h2,nd,h3,h4,d⟩:=z
 obtain⟨n1,n2⟩:=List.nodup_cons.mp (h2▸nd)
 obtain⟨v,cs,g1,g2,g3,g4,g5⟩:=d.at n2 hm
 refine⟨a,xs,v,cs,h1,h4,d.length,g1,λz=>n1 (g4 a z),g3,g2,λb ys ys' U' hb bc q=>?_⟩
 have fb:Fn F b:=⟨i,by rw[h2]; exact List.mem_cons_of_mem _ (g4 b bc)⟩
 have nab:a≠b:=λz=>n1 (z▸g4 b bc)
 have gb:=e.hid b fb
 refine⟨?_,Same.refl _,λc o h n t=>by rw[aL (show c≠b from λz=>n (z▸fb))]; exact h,λ_ h=>.inl h,λ_ h=>.inr h,λc h=>?_⟩
 .have eF:dz F i (F i)=F:=by funext j; unfold dz; split <;> first|rfl|rw[‹j=i›]
  refine eF▸e.one i (F i) (by rw[List.length_set,e.len]) (λj n=>⟨eN n,rfl⟩) (Same.refl _) (λc o h=>?_) (e.tb.upd hb) (λc h=>.inl h) (λj n c hc o h=>?_) (λc h z=>?_) (λc h=>⟨e.hid c ⟨i,h⟩,λj n z=>n (e.di j i c z h)⟩) ?_
  .rw[aL λz=>by rw[z,gb]at h; cases h]; exact e.sub c o h
  .rw[aL λz=>n (e.di j i c hc (by rw[h2,z]; exact List.mem_cons_of_mem _ (g4 b bc)))]; exact h
  .by_cases y:c=b
   .subst y; rw[bN]at z; cases z
   .rw[aL y]at z; exact(e.rg c h).2 z
  .rw[dY (List.getElem?_eq_some_iff.mp k).1]
   exact⟨a,xs,bs,h1,h2,nd,h3,by rw[aL nab]; exact h4,g5 _ _ _ (Same.refl _) (λc hc n o h=>by rw[aL (show c≠b from λz=>n (z▸bc))]; exact h) q⟩
 .by_cases y:c=b
  .subst y; rw[bN]at h; cases h
  .rw[aL y]at h; exact h
end
theorem aA.set{K:FZ}{H:Hp}{v:V}{T:Tr}(h:Rep K H v T):∀{xs:List V} {ts:List Tr} (j:Nat),aA K H xs ts->aA K H (xs.set j v) (ts.set j T)
 |_,_,_,.nil=>.nil
 |_,_,0,.cons _ r=>.cons h r
 |_,_,j+1,.cons h1 r=>.cons h1 (aA.set h j r)
noncomputable def Ve(i:Nat)(fk fj:QF)(fe:EF):SF:=λρ=>(fe ρ).bind λp=>(tM p.1).bind λT=>(cH p.2 i).bind λts=>(dD (fk p.2)).bind λk=>(pQ ts k).bind λz=>match z.2 with
 |.lst us=>(dD (fj p.2)).bind λj=>(pQ us j).bind λy=>if(bh T&&bh y.2)=true then .ok (.nx,p.2.set i (.dp (ts.set z.1 (.lst (us.set y.1 T)))))else .bad
 |_=>.bad
theorem Vf{K:FZ}(e:Ok K R ρ σ G H F)(h:Cm k ρ=.ok (.int z)) : σ[k]?=some (some (.int z)):=by
 unfold Cm at h
 split at h <;> cases h
 have y:=e.sl k
 rw[‹ρ[k]?=_›]at y
 obtain⟨_,v,h1,h2⟩:=y
 cases h2
 exact h1
theorem agv(h:tL y=true)(v:Value):assign (.Subscript o y p) env v=(do let ov <-holding [v] (eval o env); let iv <-holding [v,ov] (eval y env); standAt p; holding [v,ov,iv] (setItem ov iv v); release [v,ov,iv] []):=by
 cases y <;> first|rfl|cases h
noncomputable def Vg(i k j:Nat)(a:VE aB):VS (Ve i (Cm k) (Cm j) aB) where
 ck Γ e:=pB e λaK v _=>aN aK λaX bB=>lF aX λbL cV _=>lF bL λdK gP _=>atName dK λx _=>atName gP λy _=>atName cV λz _=>aO bB (gM Γ i x&&gM Γ k y&&gM Γ j z&&qU v&&a.ck Γ v)
 cs:=a.cs
 ok q o h:=by
  walk_at "O"
  simp only[an]at h
  obtain⟨⟨⟨⟨h1,h2⟩,h3⟩,h4⟩,h5⟩:=h
  refine(PN (a.ok q o h5) (abY (zq zx (jZ o h1) (jZ o h2) (Ba rfl)) (jZ o h3) set_list (agv rfl)) (by unfold swapsWithSole; exact wH h4) rfl rfl).imp λD σ H=>bx λR ρ G F e h=>dJ e .refl h λp h v G1 H1 F1 e1 s1 v1=>?_
  obtain⟨T,kT,h⟩:=h.okb (S6 _)
  obtain⟨G2,e2,s2,_,rv⟩:=e1.tO e s1 v1 kT
  obtain⟨ts,k0,h⟩:=h.okb (Cp _ _)
  obtain⟨kk,g1,h⟩:=j8 h
  obtain⟨⟨m,u⟩,k2,h⟩:=h.okb (Vd _ _)
  cases u <;> try exact h.elim
  obtain⟨jj,g2,h⟩:=j8 h
  obtain⟨⟨m',u'⟩,k3,hf⟩:=h.okb (Vd _ _)
  obtain⟨z,rfl,h5,h6⟩:=Vc k2
  obtain⟨z',rfl,h7,h8⟩:=Vc k3
  dsimp only at hf
  split at hf
  case isFalse=>exact hf.elim
  rename_i nl
  obtain⟨n1,n2⟩:=an.mp nl
  obtain⟨a,xs,v',cs,q1,q2,q3,q4,_,nd,q5,q7⟩:=e2.putD k0 h6
  cases q5 with
  |cl n _ _=>unfold bh at n; cases n
  | @rw b ys _ cs _ _ bs hb dq r0 =>
  cases r0
  have nb:=(List.nodup_cons.mp nd).1
  rw[List.append_nil]at nb
  obtain⟨e3,s3⟩:=q7 b ys (ys.set m' v) (.lst (_root_.List.set _ m' T)) hb (List.mem_cons_self ..) (.rw bN ((dq.set m' n1 (λU h=>by rw[h8]at h; cases h; exact n2) rv).mono (Same.refl _) λc hc o h=>(by rw[aL (show c≠b from λz=>nb (z▸hc))]; exact h)) .nil)
  refine⟨_,q1,_,Vf e2 g1,.inl ⟨a,xs,z,.ref b,rfl,rfl,aG.of q2,?_,_,Vf e2 g2,b,ys,z',m',rfl,rfl,hb,by rw[dq.length]; exact h7,hf σ G2 _ F1 e3 (s2.trans s3)⟩⟩
  unfold cR
  rw[q3,h5]
  exact q4
noncomputable def Np:Sl->Sl
 |.sh T=>.sh T
 |.ow ts=>.sh (.lst ts)
 |.dp ts=>.sh (.lst ts)
 |_=>.un
noncomputable def vw(ρ : En):En := ρ.map Np
noncomputable def JG(c:BF):BF:=λρ=>(dD (c (vw ρ))).bind λp=>.ok (p.1,ρ)
theorem Ok.view{K:FZ}(e:Ok K R ρ σ G H F):Ok K (λ_=>False) (vw ρ) σ (wL G H) H (λ_=>[]):=by
 have m:Same G (wL G H):=λ_ _=>tR
 have ls:∀{b xs},Fn F b->H b=some (.lst xs)->wL G H b=some (.lst xs):=λf h=>Tp h (e.hid _ f)
 refine⟨by rw[vw,List.length_map,e.len],λb o q=>(qQ q).elim (e.sub b o) λq=>q.2.1,e.tb,λb t=>?_,λb ⟨_,z⟩=>(by cases z),λb z=>z.elim,λi j b z=>(by cases z),λi=>?_⟩
 .cases q:wL G H b with
  |none=>rfl
  |some o =>
   rcases qQ q with q|⟨_,q,xs,rfl⟩
   .rw[e.tg b t]at q; cases q
   .exact(e.tb.nt q t).elim
 .have z:=e.sl i
  unfold vw
  rw[List.getElem?_map]
  cases k : ρ[i]? with
  |none=>rfl
  |some s =>
   rw[k]at z
   cases s with
   |un=>rfl
   |rf _=>rfl
   |sh T=>obtain⟨_,u,h1,h2⟩:=z; exact⟨rfl,u,h1,h2.mono m⟩
   |ow ts =>
    obtain⟨a,xs,h1,h2,_,h4,h5⟩:=z
    exact⟨rfl,_,h1,.lst (aG.of (ls ⟨i,by rw[h2]; exact List.mem_singleton.mpr rfl⟩ h4)) (h5.mono m)⟩
   |dp ts =>
    obtain⟨a,xs,bs,h1,h2,_,_,h4,d⟩:=z
    refine⟨rfl,_,h1,.lst (aG.of (ls ⟨i,by rw[h2]; exact List.mem_cons_self ..⟩ h4)) (d.reps m λb hb=>?_)⟩
    obtain⟨ys,hy⟩:=d.lst b hb
    rw[hy]
    exact ls ⟨i,by rw[h2]; exact List.mem_cons_of_mem _ hb⟩ hy
noncomputable def Cr(a:VT aB):VT (JG aB) where
 ck:=a.ck
 cs:=a.cs
 ok q o h:=(a.ok q o h).imp λσ H Q=>bx λR ρ G F e h=>by
  obtain⟨p,k,h⟩:=j8 h
  refine⟨_,_,_,_,e.view,?_⟩
  rw[k]
  intro G' H' F' e' s'
  obtain⟨e2,s2⟩:=e.grow (G':=G) (H':=H') ⟨Same.refl _,λb o q t=>s'.fr b o q (λ⟨_,z⟩=>by cases z) t,λb o q=>s'.fr b o (e.sub b o q) (λ⟨_,z⟩=>by cases z) λt=>(by rw[e.tg b t]at q; cases q),λ_=>e'.tb,λb h=>.inl h⟩
  exact h G H' F e2 s2
noncomputable def agw(i:Nat)(f:EF):SF:=λρ=>(f ρ).bind λp=>match p.1 with
 |.v (.lst ts) true=>.ok (.nx,p.2.set i (.ow ts))
 |.v T _=>.ok (.nx,p.2.set i (.sh T))
 |_=>.bad
noncomputable def xJ(g:GF)(nU:IF)(g2:GF)(f:EF):List Tr->En->Rs (List Tr × En)
 | [],ρ=>.ok ([],ρ)
 |u::us,ρ=>(g u ρ).bind λρ1=>(nU ρ1).bind λq=>if q.1.length<=1000 then(fZ g2 gj f q.1 q.2).bind λy=>(xJ g nU g2 f us y.2).bind λz=>.ok (y.1++z.1,z.2)else .bad
noncomputable def JH(src:List (Option Nat))(fi:IF)(g:GF)(nU:IF)(g2:GF)(f:EF):EF:=λρ=>(fi ρ).bind λp=>if p.1.length<=100 then(dD (xJ g nU g2 f p.1 (dO src p.2))).bind λz=>if d8 src z.2 p.2=true then .ok (.v (.lst z.1) true,bG src z.2 p.2)else .bad else .bad
abbrev InO(K:FZ)(R:Addr->Prop)(gf:GF)(nU:IF)(pR:GF)(f:EF)(src:List (Option Nat))(σ : St)(D:Addr)(G1 H1:Hp)(F1:Fp)(us:List Tr)(z:List Tr × En):Nat->Nat->St->Hp->Prop:=λi m τ H'=>m=us.length-i/\i<=us.length/\∃ρ' G' F' xs acc,Ok K R ρ' τ G' H' F'/\aC K G1 H1 F1 G' H' F'/\(H' D=some (.lst xs)/\¬Fn F' D/\G' D=none)/\aA K G' xs acc/\xs.length<=1000*i/\(∀k j:Nat,src[k]?=some (some j) -> τ[k]?=(bV src σ)[k]?)/\∃y,xJ gf nU pR f (us.drop i) ρ'=.ok y/\z=(acc++y.1,y.2)
abbrev InI(K:FZ)(R:Addr->Prop)(pR:GF)(f:EF)(src:List (Option Nat))(σ : St)(D:Addr)(G1 H1:Hp)(F1:Fp)(G5:Hp)(lR:List Tr)(al:List Tr)(ρe:En)(i:Nat):Nat->Nat->St->Hp->Prop:=λj k τ' H'=>k=lR.length-j/\j<=lR.length/\∃ρ' G' F' xs' acc',Ok K R ρ' τ' G' H' F'/\aC K G1 H1 F1 G' H' F'/\Same G5 G'/\(H' D=some (.lst xs')/\¬Fn F' D/\G' D=none)/\aA K G' xs' acc'/\xs'.length<=1000*i+j/\(∀k j:Nat,src[k]?=some (some j) -> τ'[k]?=(bV src σ)[k]?)/\∃y',fZ pR gj f (lR.drop j) ρ'=.ok y'/\al=acc'++y'.1/\y'.2 = ρe
theorem agx{t:Tx}(I:Inj src)(hj:∀k j:Nat,src[k]?=some (some j)->k∉js/\k∉js2)(ng:∀T ρ c,gf T ρ ≠ .ex c)(ng2:∀T ρ c,pR T ρ ≠ .ex c)(h:Te t (JH src fi gf nU pR f) σ H Q):JF (Ti t fi) (j4 t.K gf js) src (Ti ⟨t.K,λ_ _=>False⟩ nU) (j4 t.K pR js2) (Te ⟨t.K,λ_ _=>False⟩ f) σ H Q:=by
 obtain⟨R,ρ,G,F,e,h⟩:=h
 refine⟨R,ρ,G,F,e,h.run (aC.refl (G:=G)) λp h J G1 H1 F1 e1 s1 it D hD=>?_⟩
 obtain⟨us,ρ1⟩:=p
 dsimp only at h it e1
 split at h
 case isFalse=>exact h.elim
 rename_i hlen
 obtain⟨z,kz,h⟩:=j8 h
 split at h
 case isFalse=>exact h.elim
 rename_i so
 have mv:∀{G3 H3 F3},aC t.K G1 H1 (inF src ρ1 F1) G3 H3 F3->∀ys,aC t.K G1 H1 (inF src ρ1 F1) G3 (upd H3 D (.lst ys)) F3:=λs ys=>⟨s.gg,λb o h n t=>by rw[aL (iw h hD)]; exact s.fr b o h n t,s.nw,s.nf,λb h=>by
  by_cases z:b=D
  .subst z; exact hD
  .rw[aL z]at h; exact s.dm b h⟩
 refine⟨InO t.K R gf nU pR f src σ D G1 H1 (inF src ρ1 F1) us z,⟨us.length,by simp,Nat.zero_le _,dO src ρ1,G1,inF src ρ1 F1,[],[],((e1.enter I).grow (.flt e1.sub hD)).1,((e1.enter I).grow (.flt e1.sub hD)).2,⟨bN,λh=>e1.fs hD (ud h),e1.sub.free hD⟩,.nil,Nat.zero_le _,λ_ _ _=>rfl,z,kz,rfl⟩,?_⟩
 rintro i m τ H2 ⟨rfl,hi,ρ2,G2,F2,xs,acc,e2,s2,d2,a2,l2,g2,y,ky,rfl⟩
 have q:=it G2 H2 s2.gg e2.sub i
 by_cases hlt:i<us.length
 .rw[List.drop_eq_getElem_cons hlt]at ky
  obtain⟨go,yl⟩:=q.2 us[i] (by simp[hlt])
  refine .inr ⟨go,λx H3 yy=>?_⟩
  obtain⟨G3,w3,r3⟩:=yl x H3 yy
  obtain⟨e3,s3⟩:=e2.grow w3
  obtain⟨ρ4,k4,ky⟩:=cu ky
  obtain⟨⟨lR,ρ5⟩,k5,ky⟩:=cu ky
  dsimp only at ky
  split at ky
  case isFalse=>cases ky
  obtain⟨y1,k6,ky⟩:=cu ky
  obtain⟨y2,k7,ky⟩:=cu ky
  cases ky
  refine⟨R,ρ2,G3,F2,_,e3,r3,?_⟩
  rw[k4]
  intro σ4 F4 e4 f4 a4
  have s4:=s3.trans (aC.sub f4)
  have g4:∀k j:Nat,src[k]?=some (some j) -> σ4[k]?=(bV src σ)[k]? := λk j h=>(a4 k (hj k j h).1).trans (g2 k j h)
  refine⟨R,ρ4,G3,F4,e4,?_⟩
  rw[k5]
  intro J2 G5 H5 F5 e5 s5 it2
  have lO:=s4.trans s5
  refine⟨InI t.K R pR f src σ D G1 H1 (inF src ρ1 F1) G5 lR (acc++y1.1) y1.2 i,⟨lR.length,by simp,Nat.zero_le _,ρ5,G5,F5,xs,acc,e5,s2.trans lO,Same.refl _,lO.flt e2.tb d2.1 d2.2.1 d2.2.2,a2.mono lO.gg,by lia,g4,y1,k6,rfl,rfl⟩,?_⟩
  rintro j k τ' H6 ⟨rfl,hj2,ρ6,G6,F6,xs',acc',e6,s6,m6,d6,a6,l6,g6,y',k8,k9,k10⟩
  have q2:=it2 G6 H6 m6 e6.sub j
  by_cases JK:j<lR.length
  .rw[List.drop_eq_getElem_cons JK]at k8
   obtain⟨go2,yl2⟩:=q2.2 lR[j] (by simp[JK])
   refine .inr ⟨go2,λx2 H7 yy2=>?_⟩
   obtain⟨G7,w7,r7⟩:=yl2 x2 H7 yy2
   obtain⟨e7,s7⟩:=e6.grow w7
   obtain⟨ρ8,k11,k8⟩:=cu k8
   obtain⟨p,k12,k8⟩:=cu (show((f ρ8).bind _)=_ from k8)
   obtain⟨T,k13,k8⟩:=cu k8
   obtain⟨y'',k14,k8⟩:=cu k8
   cases k8
   refine⟨R,ρ6,G7,F6,_,e7,r7,?_⟩
   rw[k11]
   intro σ8 F8 e8 f8 a8
   refine⟨R,ρ8,G7,F8,e8,?_⟩
   rw[k12]
   intro v G9 H9 F9 e9 s9 v9
   obtain⟨G10,e10,BR,_,r10⟩:=e9.tO e8 s9 v9 k13
   have xG:=(s7.trans (aC.sub f8)).trans BR
   have xK:=xG.flt e6.tb d6.1 d6.2.1 d6.2.2
   refine⟨xs',xK.1,Nat.lt_of_le_of_lt (show xs'.length<=200000 by lia) (by decide),lR.length-(j+1),by lia,rfl,JK,p.2,G10,F9,xs'++[v],acc'++[T],e10.Uo xK.1 xK.2.1 xK.2.2,mv (s6.trans xG) _,m6.trans xG.gg,⟨bN,xK.2⟩,(a6.mono xG.gg).app (.cons r10 .nil),by simp; lia,λk j h=>(a8 k (hj k j h).2).trans (g6 k j h),y'',k14,by rw[k9,List.append_assoc]; rfl,k10⟩
  .have z:j=lR.length:=by lia
   subst z
   rw[List.drop_length]at k8
   cases k8
   refine .inl ⟨q2.1 rfl,us.length-(i+1),by lia,rfl,hlt,ρ6,G6,F6,xs',acc',e6,s6,d6,a6,by lia,g6,y2,by rw[<-k7,<-k10],?_⟩
   rw[<-List.append_assoc,k9,List.append_nil]
 .have z:i=us.length:=by lia
  subst z
  rw[List.drop_length]at ky
  cases ky
  obtain⟨e',s'⟩:=e1.leave e2 s2 I g2 so
  exact .inl ⟨q.1 rfl,h _ G2 H2 F1 e' (s1.trans s') ⟨⟨D,xs,_,rfl,rfl,s1.dm D hD,d2.2.2,d2.1,by rw[List.append_nil]; exact a2⟩,λ_ a q=>by cases q; exact e1.fs hD⟩⟩
noncomputable def vC2(src:List (Option Nat))(N:List Str)(i:VI j6)(g:VG fP iM)(i2:VI agy)(g2:VG agz agA)(b:VE bF):VE (JH src j6 fP agy agz bF) where
 ck Γ e:=m9 e λx aK sc _=>aN aK λaX bB=>lG aX λt y bL cV=>aO bL (iI cV 0 (aN bB λdK gP=>lG dK λt2 y2 nJ nO=>aO nJ (iI nO 0 (aO gP (i.ck Γ (t,y)&&g.ck (cG Γ N sc) t&&i2.ck (cG Γ N sc) (t2,y2)&&g2.ck (cG Γ N sc) t2&&b.ck (cG Γ N sc) x&&nQ Γ N src sc (iM++agA))))))
 cs:=i.cs++(g.cs++(i2.cs++(g2.cs++b.cs)))
 ok:=@λcl E Γ X e q o h=>by
  walk_at "O"
  rename_i x0 sc pos t0 y0 t2 y2
  simp only[an]at h
  obtain⟨⟨⟨⟨⟨h1,h2⟩,h3⟩,h4⟩,h5⟩,h6⟩:=h
  obtain⟨pi,ni⟩:=i.ok (ml q) o h1
  obtain⟨S,nd,I,hj⟩:=rB h6
  have pg:=λC s H ex=>g.ok (X:=aY X N sc C s H ex) (ml (mr q)) (f9 o nd) h2
  have Vh:=λC s H ex=>i2.ok (X:=aY X N sc C s H ex) (ml (mr (mr q))) (f9 o nd) h3
  have Vi:=λC s H ex=>g2.ok (X:=aY X N sc C s H ex) (ml (mr (mr (mr q)))) (f9 o nd) h4
  have pb:=λC s H ex=>b.ok (X:=aY X N sc C s H ex) (mr (mr (mr (mr q)))) (f9 o nd) h5
  exact(agu o.s o.N S o.l pi (λC s H ex=>(pg C s H ex).1) (λC s H ex=>(Vh C s H ex).1) (λC s H ex=>(Vi C s H ex).1) pb (jm ni) (λ_=>jm (Vh 0 X.s₀ X.H₀ []).2)).imp λσ H Q=>agx I (λk j z=>by simpa[not_or]using hj k j z) (pg 0 X.s₀ X.H₀ []).2.1 (Vi 0 X.s₀ X.H₀ []).2.1
noncomputable def JL(i:Nat)(ρ : En):Nat:=match ρ[i]? with
 |some (.sh (.int n))=>n.natAbs+1
 |_=>0
noncomputable def fuL(i:Nat)(ρ : En):Nat:=match ρ[i]? with
 |some (.sh (.lst ts))=>ts.length+1
 |some (.ow ts)=>ts.length+1
 |some (.rf ts)=>ts.length+1
 |_=>0
noncomputable def fJ(nl:Nat)(ts:List Tr):En:=ts.map Sl.sh++List.replicate (nl-ts.length) Sl.un
noncomputable def aP(nl:Nat)(b:SF):FP:=λts=>(b (fJ nl ts)).bind λq=>match q.1 with
 |.rt T fr=>.ok (T,fr)
 |.nx=>.ok (.non,false)
 |_=>.bad
theorem Ok.init{K:FZ}{N:List Str}(r:aA K G vs ts)(hl:vs.length<=N.length)(s:Same G H)(tb:bK K H)(tg:∀b,Tb K b->G b=none):Ok K (λ_=>False) (fJ N.length ts) (start N vs) G H (λ_=>[]):=by
 have l:=r.length
 refine⟨by unfold fJ start; simp only[List.length_append,List.length_map,List.length_replicate]; lia,s,tb,tg,λb ⟨_,z⟩=>(by cases z),λ_ z=>z.elim,λ_ _ _ z=>(by cases z),λi=>?_⟩
 unfold fJ start
 by_cases h:i<vs.length
 .rw[List.getElem?_append_left (by simpa using h),List.getElem?_append_left (by simp; lia),List.getElem?_map,List.getElem?_map,List.getElem?_eq_getElem h,List.getElem?_eq_getElem (show i<ts.length by lia)]
  obtain⟨x,q1,q2⟩:=r.jh (List.getElem?_eq_getElem (show i<ts.length by lia))
  rw[List.getElem?_eq_getElem h]at q1
  cases q1
  exact⟨rfl,_,rfl,q2⟩
 .rw[List.getElem?_append_right (l₁ := ts.map Sl.sh) (by simp; lia),List.getElem?_replicate]
  split <;> rfl
theorem Vj{K:FZ}{N ps:List Str}{b:SF}(hn:ps.length<=N.length)(h:pD K cl ps.length (aP N.length b) vs H Q E):Ts ⟨au K,λc H'=>E (.ref (cl c)) none H'⟩ b {nx:=λ_ H'=>Q .non H',rt:=Q } (start N vs) H:=by
 obtain⟨G,as,hl,r,sg,tb,tg,h⟩:=h
 refine⟨_,_,G,_,Ok.init r (by lia) sg tb tg,h.run (aC.refl (G:=G)) λq h=>?_⟩
 obtain⟨fl,ρ'⟩:=q
 have nf:∀{b:Addr},¬Fn (λ_=>[]) b:=λ⟨_,z⟩=>by cases z
 cases fl with
 |nx=>exact λσ' G' H' F' e s=>h .non G' H' ⟨s.gg,λb o q t=>s.fr b o q nf t,e.sub,λ_=>e.tb,λb q=>(s.nw b q).imp id λz=>z.resolve_right nf⟩ .non
 |rt T fr =>
  refine λv G' H' r=>h v G' H' ⟨r.gg,λb o q t=>r.fm.fr b o q nf t,r.sub,λ_=>r.fm.tb,λb q=>(r.nw b q).imp id λz=>z.resolve_right nf⟩ ?_
  have z:=r.vl
  cases fr with
  |false=>exact z
  |true =>
   obtain⟨a,xs,ts,e1,e2,e3,_,e4⟩:=z
   exact⟨a,xs,ts,e1,e2,e3.resolve_right nf,e4⟩
 |bk=>exact h.elim
 |ct=>exact h.elim
noncomputable def Ey.nm:Ey->Str
 |.fn x .. => x
 | .fd x .. => ("*" : Str)++x
 |.gk x _=>x
noncomputable def fG(k:Nat)(N:List Str)(st:Stmt)(B R L:List Str):Gx:=⟨N,bU st,λ_=>true,B,R,false,k,L⟩
noncomputable def xM(N ps:List Str)(st:Stmt):Bool :=
 decide ((bU st).kind=.function) && !(bU st).isCoroutine && !(bU st).isGenerator&&decide N.Nodup&&decide (N.take ps.length=ps)&&decide (∀x∈ps,(bU st).names.lookup x=some .local\/(bU st).names.lookup x=some .cell)&&decide (∀y∈(bU st).names,y.2 ≠ .free)&&decide (ps.length<=N.length)
theorem JM{st:Stmt}(h:xM N ps st=true):rT N ps (bU st)/\ps.length<=N.length:=by
 simp only[xM,an]at h
 obtain⟨⟨⟨⟨⟨⟨⟨h1,h2⟩,h3⟩,h4⟩,h5⟩,h6⟩,h7⟩,h8⟩:=h
 exact⟨⟨of_decide_eq_true h1,by simpa using h2,by simpa using h3,of_decide_eq_true h4,of_decide_eq_true h5,of_decide_eq_true h6,of_decide_eq_true h7⟩,of_decide_eq_true h8⟩
structure Kn(c:Cc)(B R:List Str):Prop where
 B:∀x∈B,c.mg x=none
 R:∀x∈R,OwnCls x (c.cl x) Aq "ValueError.__new__" c.mg c.base
 x:mX c.K
noncomputable def clz(mg:Str->Option Value)(x:Str):Addr:=match mg x with
 |some (.ref k)=>k
 |_=>0
theorem Kn.mk'{P:Program}{w:World}{K:FZ}{mg:Str->Option Value}{base:Heap}{B R:List Str}(M:∀x∈B,mg x=none)(O:∀x∈R,∃k,OwnCls x k Aq "ValueError.__new__" mg base) (XT:mX K):Kn ⟨P,w,K,mg,base,clz mg⟩ B R:=⟨M,λx m=>by
 obtain⟨k,o⟩:=O x m
 have e:clz mg x=k:=by unfold clz; rw[o.bound]
 subst e
 exact o,XT⟩
def Cu(x:Str)(st:Stmt)(ps:List Str):Prop:=∀(kV doc pm:Value) (an:Option Addr) (cdv ct:Value) (us:List Value),us.length=ps.length->bindArgs (PySem.W.fnOf x x (jX st) (gC st) (bU st) .none kV doc pm an cdv ct) ⟨us,[]⟩=pure (ps.zip us)
theorem Vk:∀{ps:List Str} {us:List Value} {n:Str},us.length=ps.length->n∈ps->((ps.zip us).lookup n).isNone=false
 |p::ps,u::us,n,h,m=>by
  rw[List.zip_cons_cons,List.lookup_cons]
  cases e:n == p with
  |true=>rfl
  |false =>
   rcases List.mem_cons.mp m with z|z
   .rw[z]at e; simp at e
   .exact Vk (by simpa using h) z
theorem Vl{α β : Type}{f g : α -> Option β}:∀{l:List α},(∀n∈l,f n=g n)->l.filterMap f=l.filterMap g
 | [],_=>rfl
 |a::l,h=>by rw[List.filterMap_cons,List.filterMap_cons,h a (List.mem_cons_self ..),Vl λn m=>h n (List.mem_cons_of_mem _ m)]
theorem Vm:∀{ps:List Str} {us:List Value},ps.Nodup->us.length=ps.length->(ps.filterMap λn=>((ps.zip us).lookup n).map λx=>(n,x))=ps.zip us
 | [],us,_,_=>rfl
 |p::ps,u::us,d,h=>by
  obtain⟨d1,d2⟩:=List.nodup_cons.mp d
  have e:(ps.filterMap λn=>(((p::ps).zip (u::us)).lookup n).map λx=>(n,x))=ps.zip us:=by
   rw[<-Vm d2 (by simpa using h)]
   exact Vl λn m=>by rw[List.zip_cons_cons,List.lookup_cons,beq_false_of_ne (show n≠p from λz=>d1 (z▸m))]
  rw[List.filterMap_cons,e]
  simp
noncomputable def xO(ps:List Str)(st:Stmt):Bool:=match jX st with
 |⟨[],as,none,[],[],none,[]⟩=>decide (as.map (·.arg)=ps)
 |_=>false
theorem JN{st:Stmt}(d:ps.Nodup)(h:xO ps st=true):Cu x st ps:=λkV doc pm an cdv ct us hl=>by
 unfold xO at h
 split at h
 case h_2=>cases h
 rename_i as e
 have h:=of_decide_eq_true h
 have f:(ps.filter λn=>(List.lookup n (ps.zip us)).isNone)=[]:=List.filter_eq_nil_iff.mpr λn m=>by rw[Vk hl m]; exact Bool.false_ne_true
 simp[bindArgs,PySem.W.fnOf,e,h,seqItems?,hl,List.take_of_length_le,f,Vm d hl]
 rfl
noncomputable def Cv(tb:List Ey)(l:List Ey):List Ey:=l.filterMap λy=>tb.find? λz=>z.nm == y.nm
theorem JQ{tb l:List Ey}(h:∀y∈tb,y.lJ c)(e:l=Cv tb l):∀y∈l,y.lJ c:=λy m=>by
 rw[e]at m
 obtain⟨z,_,q⟩:=List.mem_filterMap.mp m
 exact h y (List.mem_of_find?_eq_some q)
noncomputable def kh(st:Stmt):List Str:=((bU st).names.filter λy=>y.2 == .local || y.2 == .cell).map (·.1)
noncomputable def psz(st:Stmt):List Str:=(jX st).args.map (·.arg)
noncomputable def jq:List Ey->Nat
 |.fn _ _ _ l::r=>max l (jq r)
 |.fd _ _ _ l::r=>max l (jq r)
 |_::r=>jq r
 | []=>0
theorem aV{st:Stmt}{B R:List Str}(T:VB b)(kn:Kn c B R)(h:∀y∈tb,y.lJ c)(a:At c.K c.mg x st)(h1:(xM (kh st) (psz st) st&&xO (psz st) st&&T.ck (fG (jq T.cs) (kh st) st B R []) (gC st))=true:=by kernel_rfl)(e:T.cs=Cv tb T.cs:=by kernel_rfl):∀y ∈ .fn x (psz st) (aP (kh st).length b) (jq T.cs+1)::tb,y.lJ c:=by
 obtain⟨h1,h2⟩:=an.mp h1
 obtain⟨h1,h3⟩:=an.mp h1
 obtain⟨S,hn⟩:=JM h1
 have hb:Cu x st (psz st):=JN (S.pre▸S.nd.sublist (List.take_sublist ..)) h3
 exact List.forall_mem_cons.mpr ⟨a.Gd S hb (λvs H Q E ⟨_,_,h,_⟩=>h) λf cdv A outer s H vs Q E hr q=>⟨_,T.ok (JQ h e) (⟨rfl,rfl,S.nd,rfl,hr,Gb,kn.B,λx m=>⟨kn.R x m,Ga⟩,kn.x,rfl,(λz=>by cases z),(λ_ z=>nomatch z)⟩:Ox c.cl (fG (jq T.cs) (kh st) st B R []) E (iB (gD c.P c.w) c.P c.w c.K c.mg c.base (kh st) x (bU st) f cdv A outer s H E)) h2,Vj hn q⟩,h⟩
theorem Vo{st:Stmt}{B R:List Str}{k P:Addr}(N:List Str)(T:VB b)(kn:Kn c B R)(h:∀y∈tb,y.lJ c)(a:tE c.K c.mg x st k)(L:vW c.K c.mg c.base x k P)(h1:(xM N (psz st) st&&xO (psz st) st&&T.ck (fG (jq T.cs) N st B R [x]) (gC st))=true:=by kernel_rfl)(e:T.cs=Cv tb T.cs:=by kernel_rfl):∀y ∈ .fn x (psz st) (aP N.length b) (jq T.cs+1)::tb,y.lJ c:=by
 obtain⟨h1,h2⟩:=an.mp h1
 obtain⟨h1,h3⟩:=an.mp h1
 obtain⟨S,hn⟩:=JM h1
 have hb:Cu x st (psz st):=JN (S.pre▸S.nd.sublist (List.take_sublist ..)) h3
 exact List.forall_mem_cons.mpr ⟨a.ae4 S hb (λvs H Q E ⟨_,_,h,_⟩=>h) λf A outer s H vs Q E hr q=>⟨_,T.ok (JQ h e) (⟨rfl,rfl,S.nd,rfl,hr,Gb,kn.B,λx m=>⟨kn.R x m,Ga⟩,kn.x,rfl,(λz=>by cases z),List.forall_mem_cons.mpr ⟨⟨k,P,L,rfl,rfl⟩,(λ_ z=>nomatch z)⟩⟩:Ox c.cl (fG (jq T.cs) N st B R [x]) E (iB (gD c.P c.w) c.P c.w c.K c.mg c.base N x (bU st) f (.ref k) A outer s H E)) h2,Vj hn q⟩,h⟩
theorem fm{tb:List Ey}(x:Str){y:Ey}(h:(tb.find? λz=>z.nm == x)=some y):y∈tb:=List.mem_of_find?_eq_some h
noncomputable def Vp:G2:=pA (λ_ j=>decide (0<=j)) λi j=>i / 2 ^ j.toNat
noncomputable def agB:G2:=gI Builtin.bitAnd
noncomputable abbrev cY{f g:EF}(a:VE f)(b:VE g):=v2 .Add Gu m8 (λ_=>aeg) (λ_=>aeh) a b
noncomputable abbrev rD{f g:EF}(a:VE f)(b:VE g):=v2 .Sub (λ_=>dU λi j=>.int (i-j)) sX (λ_=>Qj) (λ_=>aep) a b
noncomputable abbrev cN{f g:EF}(a:VE f)(b:VE g):=v2 .Mult Gv lC (λ_=>aei) (λ_=>aek) a b
noncomputable abbrev jM{f g:EF}(a:VE f)(b:VE g):=v2 .FloorDiv (λ_=>rI zV λi j=>.int (i.fdiv j)) zW (λ_=>aej) (λ_=>ael) a b
noncomputable abbrev fQ{f g:EF}(a:VE f)(b:VE g):=v2 .Mod (λ_=>rI (λ_ j=>j≠0) λi j=>.int (i.fmod j)) Gy (λ_=>acn) (λ_=>aem) a b
noncomputable abbrev JR{f g:EF}(a:VE f)(b:VE g):=v2 .Pow (λ_=>rI yW λi j=>.int (i ^ j.toNat)) uT (λ_=>Qk) (λ_=>aeo) a b
noncomputable abbrev fD:Cq (ji):=⟨.Eq,Fz,λ_ h=>adD h,λ_=>aec⟩
noncomputable abbrev lU:Cq (gJ):=⟨.NotEq,Gj,λ_ h=>ad3 h,λ_=>aed⟩
noncomputable abbrev lV:Cq (vD):=⟨.Lt,GK,λ_ h=>aev h,λ_=>aew⟩
noncomputable abbrev kj:Cq (GD):=⟨.LtE,λ_=>dU λi j=>.bl (decide (i<=j)),λ_ _=>acp,λ_=>aes⟩
noncomputable abbrev uw:Cq (GC):=⟨.Gt,λ_=>dU λi j=>.bl (decide (j<i)),λ_ _=>acq,λ_=>aer⟩
noncomputable abbrev JT:Cq (GJ):=⟨.GtE,λ_=>dU λi j=>.bl (decide (j<=i)),λ_ _=>acr,λ_=>aeu⟩
noncomputable abbrev JV:Cq (jY id):=⟨.In,FJ,λ_ h=>adE h,λ_=>aee⟩
noncomputable abbrev Vq:Cq (jY not):=⟨.NotIn,Gi,λ_ h=>ad2 h,λ_=>aef⟩
noncomputable abbrev pU:Cq (qg id):=⟨.Is,λ_ x y H Q=>y=.non/\Q (.bl (decide (x=.non))) H,λ_ _=>acs,λ_=>RM id⟩
noncomputable abbrev Vr:Cq (qg not):=⟨.IsNot,λ_ x y H Q=>y=.non/\Q (.bl (!decide (x=.non))) H,λ_ _=>acu,λ_=>RM not⟩
theorem bb{x:Str}{i:String}(h:bootBuiltins x=some (.builtin i))(n:x ≠ "__name__"):bootBuiltins x=some (.builtin i)∧x ≠ "__name__" ∧ ((∃j,Value.builtin i=.builtin j)∨∃j,Value.builtin i=.type j):=⟨h,n,.inl ⟨_,rfl⟩⟩
theorem bt{x:Str}{i:String}(h:bootBuiltins x=some (.type i))(n:x ≠ "__name__"):bootBuiltins x=some (.type i)∧x ≠ "__name__" ∧ ((∃j,Value.type i=.builtin j)∨∃j,Value.type i=.type j):=⟨h,n,.inr ⟨_,rfl⟩⟩
noncomputable abbrev aZ{f:AF}(a:VA f):=vB "len" (.builtin "len") GP (g1 eY) (bb (by decide +kernel) (by decide +kernel)) (λ_=>aex) (λ_=>sY aey) a
noncomputable abbrev JW{f:AF}(a:VA f):=vB "abs" (.builtin "abs") (λ_ xs H Q=>∃i,xs=[.int i]/\Q (.int (if i<0 then -i else i)) H) (g1 vH) (bb (by decide +kernel) (by decide +kernel)) (λ_=>acD) (λ_=>sY aez) a
noncomputable abbrev Cw{f:AF}(a:VA f):=vB "all" (.builtin "all") FN (g1 tu) (bb (by decide +kernel) (by decide +kernel)) (λo=>adG o.l) (λ_=>sY aeC) a
noncomputable abbrev vInt{f:AF}(a:VA f):=vB "int" (.type "int") (λ_ xs H Q=>(∃i,xs=[.int i]/\Q (.int i) H)\/∃k,xs=[.bl k]/\Q (.int (if k then 1 else 0)) H) (g1 yx) (bt (by decide +kernel) (by decide +kernel)) (λ_=>acE) (λ_=>sY aeA) a
noncomputable abbrev agC{f:AF}(a:VA f):=vB "list" (.type "list") (λK xs H Q=>∃p ys,xs=[.ref p]/\(aG K H p ys\/bw K H p ys)/\∀l,H l=none->Q (.ref l) (upd H l (.lst ys))) (g1 yC) (bt (by decide +kernel) (by decide +kernel)) (λ_=>adp) (λ_=>sY aeB) a
noncomputable abbrev Vs{f:AF}(a:VA f):=vB "sorted" (.builtin "sorted") Jp (g1 rC) (bb (by decide +kernel) (by decide +kernel)) (λ_=>afV) (λ_=>sY af3) a
noncomputable abbrev agD{f:EF}(a:VE f):=Bl "int" .int ⟨by decide +kernel,by decide +kernel⟩ a
noncomputable abbrev Vt{f:EF}(a:VE f):=Bl "bool" .bool ⟨by decide +kernel,by decide +kernel⟩ a
noncomputable abbrev xP{f:EF}(a:VE f):=Bl "tuple" .tuple ⟨by decide +kernel,by decide +kernel⟩ a
noncomputable abbrev JX{f:EF}(a:VE f):=Bl "list" .list ⟨by decide +kernel,by decide +kernel⟩ a
noncomputable abbrev lW(i:Nat){f:AF}(a:VA f):=vM "append" "list.append" Fj qR ⟨PySem.F.slot_list_append,PySem.F.type_list_append,λ_=>zF⟩ afn i a
noncomputable abbrev Vu(i:Nat){f:AF}(a:VA f):=vM "insert" "list.insert" Jq xu ⟨PySem.F.slot_list_insert,PySem.F.type_list_insert,λ_=>afX⟩ af4 i a
abbrev WF:=En->Rs (Tr × En)
abbrev WA:=En->Rs (List Tr × En)
def Tw(t:Tx)(f:WF):TE:=λσ H Q=>∃R ρ G F,Ok t.K R ρ σ G H F/\bH t H F (f ρ) λp=>∀v G' H' F' bs,Ok t.K R p.2 σ G' H' F'->aC t.K G H F G' H' F'->Vw t.K R H F G' H' F' [v] [p.1] bs->Q v H'
def Twa(t:Tx)(f:WA):TA:=λσ H Q=>∃R ρ G F,Ok t.K R ρ σ G H F/\bH t H F (f ρ) λp=>∀vs G' H' F' bs,Ok t.K R p.2 σ G' H' F'->aC t.K G H F G' H' F'->Vw t.K R H F G' H' F' vs p.1 bs->Q vs H'
abbrev VX(f:WF):=Vn λcl E X e=>PE X e (Tw (tx cl E X) f)
abbrev xQ(f:WA):=Vn λcl E X e=>PA X e (Twa (tx cl E X) f)/\∀x∈e,notStar x=true
section
variable {t:Tx}{K:FZ}{R:Addr->Prop}{ρ ρ':En}{σ σ':St}{G H G0 H0 G1 H1 G2 H2 G' H' Hs:Hp}{F F0 F1 F2 F' Fs:Fp}{Q:VK}{vs:List V}{Ts:List Tr}{bs cs:List Addr}
theorem Vw.step(tb:bK K H)(s:aC K G H F G' H' F')(h:Vw K R Hs Fs G H F vs Ts bs):Vw K R Hs Fs G' H' F' vs Ts bs:=by
 refine⟨h.nd,λb hb=>?_,h.dr.mono s.gg λb hb o q=>?_⟩ <;> obtain⟨h1,h2,h3,h4⟩:=h.al b hb <;> obtain⟨ys,hy⟩:=h.dr.lst b hb
 .exact⟨h1,(s.flt tb hy h2 h4).2.1,h3,(s.flt tb hy h2 h4).2.2⟩
 .rw[hy]at q
  cases q
  exact(s.flt tb hy h2 h4).1
theorem Vw.back(s:aC K G0 H0 F0 G1 H1 F1)(h:Vw K R H1 F1 G H F vs Ts bs):Vw K R H0 F0 G H F vs Ts bs:=⟨h.nd,λb hb=>⟨(h.al b hb).1.elim (λz=>.inl (s.dm b z)) (s.nf b),(h.al b hb).2⟩,h.dr⟩
theorem Vw.cons(tb:bK K H1)(s0:aC K G0 H0 F0 G1 H1 F1)(s:aC K G1 H1 F1 G2 H2 F2)(h:Vw K R H0 F0 G1 H1 F1 [v] [T] bs)(h':Vw K R H1 F1 G2 H2 F2 vs Ts cs):Vw K R H0 F0 G2 H2 F2 (v::vs) (T::Ts) (bs++cs):=by
 have h2:=h.step tb s
 have h3:=h'.back s0
 refine⟨List.nodup_append.mpr ⟨h.nd,h'.nd,λb hb c hc z=>?_⟩,λb hb=>(List.mem_append.mp hb).elim (h2.al b) (h3.al b),h2.dr.app h3.dr⟩
 subst z
 obtain⟨ys,hy⟩:=h.dr.lst b hb
 rcases(h'.al b hc).1 with z|z
 .rw[hy]at z; cases z
 .exact(h.al b hb).2.1 z
theorem Vw.of(e0:Ok K R ρ σ G H F)(e:Ok K R ρ' σ G' H' F')(s:aC K G H F G' H' F')(v1:fB K σ H G' H' F' v (.v T fr))(n:fK (T,fr)=true):∃bs,Vw K R H F G' H' F' [v] [T] bs:=by
 cases fr with
 |false=>exact⟨[],.nil,(λ_ h=>by cases h),.cl (by simpa[fK]using n) v1.1 .nil⟩
 |true =>
  obtain⟨⟨a,xs,ts,rfl,rfl,q1,q2,q3,q4⟩,f⟩:=v1
  refine⟨[a],by simp,λb hb=>?_,.rw q3 (.flat q4 (by simpa[fK,bh]using n)) .nil⟩
  cases List.mem_singleton.mp hb
  exact⟨.inl q1,f rfl a rfl,e0.rn q1,q2⟩
end
noncomputable def Vv(f:EF):WF:=λρ=>(f ρ).bind λp=>match p.1 with
 |.v T fr=>if fK (T,fr)=true then .ok (T,p.2)else .bad
 |.s _=>.bad
noncomputable def wE(a:VE aB):VX (Vv aB) where
 ck:=a.ck
 cs:=a.cs
 ok q o h:=(a.ok q o h).imp λσ H Q=>bx λR ρ G F e h=>dJ e .refl h λp h v G1 H1 F1 e1 s1 v1=>by
  obtain⟨r,ρ1⟩:=p
  cases r with
  |s _=>exact h.elim
  |v T fr =>
   dsimp only at h
   split at h
   case isFalse=>exact h.elim
   obtain⟨bs,z⟩:=Vw.of e e1 s1 v1 ‹_›
   exact h v G1 H1 F1 bs e1 s1 z
theorem Ok.Vx{K:FZ}(e:Ok K R ρ σ G H F)(i:Nat):Ok K R (ρ.set i .un) σ G H (dz F i [])/\aC K G H F G H (dz F i []):=by
 refine⟨e.one i [] (by rw[List.length_set,e.len]) (λj n=>⟨eN n,rfl⟩) (Same.refl _) e.sub e.tb (λb h=>.inl h) (λ_ _ _ _ _ h=>h) (λb h=>(e.rg b h).2) (λb h=>by cases h) ?_,.sub λb h=>?_⟩
 .rw[List.getElem?_set_self']
  cases ρ[i]? <;> rfl
 .rcases pI h with h|⟨j,_,h⟩
  .cases h
  .exact⟨j,h⟩
noncomputable def oK(i:Nat):WF:=λρ=>match ρ[i]? with
 |some (.dp ts)=>.ok (.lst ts,ρ.set i .un)
 |some (.ow ts)=>if bD ts=true then .ok (.lst ts,ρ.set i .un)else .bad
 |_=>.bad
noncomputable def wM(i:Nat):VX (oK i) where
 ck Γ e:=atName e λx _=>gM Γ i x
 cs:=[]
 ok _ o h:=by
  walk_at "o"
  refine(jZ o h).imp λσ H Q=>bx λR ρ G F e h=>?_
  have z:=e.sl i
  obtain⟨e1,s1⟩:=e.Vx i
  have al:∀b∈F i,(H b=none\/Fn F b)/\¬Fn (dz F i []) b/\G b=none:=λb hb=>⟨.inr ⟨i,hb⟩,λz=>(pI z).elim (λz=>by cases z) λ⟨j,n,z⟩=>n (e.di j i b z hb),e.hid b ⟨i,hb⟩⟩
  unfold oK at h
  split at h <;> rename_i k <;> (try exact h.elim) <;> rw[k]at z
  .obtain⟨a,xs,bs,h1,h2,nd,h3,h4,d⟩:=z
   refine⟨_,h1,h _ G H _ (F i) e1 s1 ⟨h2▸nd,λb hb=>⟨(al b hb).1,(al b hb).2.1,h3 b hb,(al b hb).2.2⟩,?_⟩⟩
   have:=DR.rw h4 d .nil
   rw[List.append_nil]at this
   rw[h2]
   exact this
  .split at h
   case isFalse=>exact h.elim
   obtain⟨a,xs,h1,h2,h3,h4,h5⟩:=z
   refine⟨_,h1,h _ G H _ (F i) e1 s1 ⟨by rw[h2]; simp,λb hb=>⟨(al b hb).1,(al b hb).2.1,?_,(al b hb).2.2⟩,?_⟩⟩
   .rw[h2]at hb
    cases List.mem_singleton.mp hb
    exact h3
   .rw[h2]
    exact .rw h4 (.flat h5 ‹_›) .nil
noncomputable def DQ:WA:=λρ=>.ok ([],ρ)
noncomputable def Vy(f:WF)(g:WA):WA:=λρ=>(f ρ).bind λp=>(g p.2).bind λq=>.ok (p.1::q.1,q.2)
noncomputable def xR:xQ DQ where
 ck _ e:=e.isEmpty
 cs:=[]
 ok:=@λ_ _ _ X e _ _ h=>by
  cases e <;> try cases h
  exact⟨qx.imp λσ H Q=>bx λR ρ G F e h=>h [] G H F [] e .refl ⟨.nil,(λ_ h=>by cases h),.nil⟩,λ_ z=>nomatch z⟩
noncomputable def lX(a:VX aB)(r:xQ cX):xQ (Vy aB cX) where
 ck Γ e:=aN e λx y=>notStar x&&a.ck Γ x&&r.ck Γ y
 cs:=a.cs++r.cs
 ok q O h:=by
  walk_at "o"
  simp only[an]at h
  obtain⟨pb,nb⟩:=r.ok (mr q) O h.2
  exact⟨(mQ (a.ok (ml q) O h.1.2) pb (eG h.1.1)).imp λσ H Q=>bx λR ρ G F e h=>⟨R,ρ,G,F,e,h.run (aC.refl (G:=G)) λp h v G1 H1 F1 bs e1 s1 v1=>⟨R,p.2,G1,F1,e1,h.run s1 λq h vs G2 H2 F2 cs e2 s2 v2=>h (v::vs) G2 H2 F2 (bs++cs) e2 (s1.trans s2) (v1.cons e1.tb s1 s2 v2)⟩⟩,List.forall_mem_cons.mpr ⟨h.1.1,nb⟩⟩
noncomputable def Vz(g:WA):WF:=λρ=>(g ρ).bind λp=>if p.1.length<=1000 then .ok (.tup p.1,p.2)else .bad
noncomputable def VF(g:WA):WF:=λρ=>(g ρ).bind λp=>if p.1.length<=1000 then .ok (.lst p.1,p.2)else .bad
noncomputable def JZ(a:xQ aB):VX (Vz aB) where
 ck Γ e:=iH e λl _ _=>a.ck Γ l
 cs:=a.cs
 ok q O h:=by
  walk_at "o"
  refine(yX (a.ok q O h).1).imp λσ H Q=>bx λR ρ G F e h=>⟨R,ρ,G,F,e,h.run (aC.refl (G:=G)) λp h vs G1 H1 F1 bs e1 s1 v1=>?_⟩
  split at h
  case isFalse=>exact h.elim
  refine⟨by rw[v1.dr.length]; exact Nat.le_trans ‹_› (by decide),λp hp=>?_⟩
  obtain⟨e2,s2⟩:=e1.grow (.new e1.sub hp (o:=.tup vs))
  have v2:=v1.step e1.tb s2
  have d:=DR.tp (bw.of bN) v2.dr .nil
  rw[List.append_nil]at d
  exact h _ _ _ F1 bs e2 (s1.trans s2) ⟨v2.nd,v2.al,d⟩
noncomputable def VH(a:xQ aB):VX (VF aB) where
 ck Γ e:=tB e λl _=>a.ck Γ l
 cs:=a.cs
 ok q O h:=by
  walk_at "o"
  refine(EY (a.ok q O h).1).imp λσ H Q=>bx λR ρ G F e h=>⟨R,ρ,G,F,e,h.run (aC.refl (G:=G)) λp h vs G1 H1 F1 bs e1 s1 v1=>?_⟩
  split at h
  case isFalse=>exact h.elim
  refine⟨by rw[v1.dr.length]; exact Nat.le_trans ‹_› (by decide),λp hp=>?_⟩
  obtain⟨e2,s2⟩:=e1.grow (.flt e1.sub hp (o:=.lst vs))
  have v2:=v1.step e1.tb s2
  have d:=DR.rw bN v2.dr .nil
  rw[List.append_nil]at d
  refine h _ _ _ F1 (p::bs) e2 (s1.trans s2) ⟨List.nodup_cons.mpr ⟨λz=>?_,v2.nd⟩,List.forall_mem_cons.mpr ⟨⟨.inl (s1.dm p hp),e1.fs hp,e1.rn hp,e1.sub.free hp⟩,v2.al⟩,d⟩
  obtain⟨ys,hy⟩:=v1.dr.lst p z
  rw[hp]at hy
  cases hy
theorem DR.low{K:FZ}{G G' H:Hp}(m:qP G G'){xs:List V}{ts:List Tr}{bs:List Addr}(h:DR K G H xs ts bs):DR K G' H xs ts bs:=by
 induction h with
 |nil=>exact .nil
 |cl n h _ ih=>exact .cl n (h.flat m n) ih
 |rw h _ _ i1 i2=>exact .rw h i1 i2
 |tp h _ _ i1 i2=>exact .tp (m.iC h) i1 i2
theorem Vw.out{K:FZ}(e:Ok K R ρ σ G H F)(w:Gw K (wL G H) H G' H')(h:Vw K R' H Fs G' H' F' vs Us bs)(nf:∀b,¬Fn Fs b):∃F2,Ok K R ρ σ (wB G H G') H' F2/\aC K G H F (wB G H G') H' F2/\Vw K R H F (wB G H G') H' F2 vs Us bs:=by
 obtain⟨e2,s2⟩:=e.grow (HN e.sub w)
 refine⟨F,e2,s2,h.nd,λb hb=>?_,h.dr.low (Bm w)⟩
 have n:=(h.al b hb).1.resolve_right (nf b)
 refine⟨.inl n,e.fs n,e.rn n,?_⟩
 unfold wB
 split
 .exact e.sub.free n
 .exact(h.al b hb).2.2.2
noncomputable def ux(f:FP)(fa:AF):WF:=λρ=>(fa ρ).bind λp=>(drs p.2 p.1).bind λas=>(f as).bind λz=>.ok (z.1,p.2)
theorem agE(hn:∀ρ p,fa ρ=.ok p->p.1.length=n)(h:Tw (tx cl E X) (ux f fa) σ H Q):Fb (Ar X.K cl n f) [] E (Ta (tx cl E X) fa) σ H Q:=by
 obtain⟨R,ρ,G,F,e,h⟩:=h
 cases ek:fa ρ with
 |bad=>rw[ux,ek]at h; exact h.elim
 |ex c=>exact⟨R,ρ,G,F,e,by rw[ux,ek]at h; rw[ek]; exact h⟩
 |ok p =>
 refine⟨R,ρ,G,F,e,?_⟩
 simp only[ux,ek,Rs.bind]at h
 rw[ek]
 intro vs G1 H1 F1 e1 s1 v1
 obtain⟨as,k1,h⟩:=h.okb (v5 _ _)
 show Ar X.K cl n f (vs++[]) H1 Q E
 rw[List.append_nil]
 refine⟨wL G1 H1,as,by rw[v1.length,hn ρ p ek],(v7 e1 v1 k1).reps e1.sub,λb o q=>(qQ q).elim (e1.sub b o) λq=>q.2.1,e1.tb,λb t=>?_,?_⟩
 .cases q:wL G1 H1 b with
  |none=>rfl
  |some o =>
   rcases qQ q with q|⟨_,q,xs,rfl⟩
   .rw[e1.tg b t]at q; cases q
   .exact(e1.tb.nt q t).elim
 .cases ef:f as with
  |bad=>rw[ef]at h; exact h.elim
  |ex c=>rw[ef]at h; exact λH' q=>h H' (s1.back q.none)
  |ok z =>
   rw[ef]at h
   refine λv G' H' w ⟨bs,vw⟩=>?_
   obtain⟨F2,e2,s2,v2⟩:=Vw.out e1 w vw λb (z:Fn (λ_=>[]) b)=>z.elim λ_ z=>by cases z
   exact h v _ H' F2 bs e2 (s1.trans s2) (v2.back s1)
noncomputable def Cy(x:Str)(ps:List Str)(f:FP)(l:Nat)(as:VA jG):VX (ux f jG) where
 ck Γ e:=eH e λ_ m _ _=>m.length == ps.length&&decide (l <= Γ.k)&&nF Γ x as e
 cs:=.fd x ps f l::as.cs
 ok q o h:=by
  obtain⟨_,_,_,_,e0,h⟩:=yu h
  subst e0
  simp only[an]at h
  obtain⟨⟨h1,h0⟩,h⟩:=h
  obtain⟨p,a,es,p',e',h2,h3⟩:=qN h
  cases e'
  obtain⟨D,q⟩:=List.forall_mem_cons.mp q
  obtain⟨pa,la,na⟩:=as.ok q o h3
  rw[eq_of_beq h1]at la
  obtain⟨d,fd,d1,d2,d3,d4⟩:=jC.mono D (of_decide_eq_true h0)
  exact(Qp d1 o.r (dh o h2).1 d4 d3 d2 .nil o.e pa (dh o h2).2 (eG (na _ (List.mem_cons_self ..))) (pG (λy m=>na y (List.mem_cons_of_mem _ m)) _)).imp λ_ _ _=>agE la
noncomputable def J0(f:WF):WF:=λρ=>(dD (f (vw ρ))).bind λp=>.ok (p.1,ρ)
noncomputable def xU(a:VX aB):VX (J0 aB) where
 ck:=a.ck
 cs:=a.cs
 ok q o h:=(a.ok q o h).imp λσ H Q=>bx λR ρ G F e h=>by
  obtain⟨p,k,h⟩:=j8 h
  refine⟨_,_,_,_,e.view,?_⟩
  rw[k]
  intro v G' H' F' bs e' s' v'
  have nf:∀b,¬Fn (λ_=>[]) b:=λb ⟨_,z⟩=>by cases z
  obtain⟨F2,e2,s2,v2⟩:=Vw.out e ⟨s'.gg,λb o q t=>s'.fr b o q (nf b) t,e'.sub,λ_=>e'.tb,λb q=>(s'.nw b q).imp id λz=>z.resolve_right (nf b)⟩ v' nf
  exact h v _ H' F2 bs e2 s2 v2
theorem Vw.rep{K:FZ}(h:Vw K R Hs Fs G H F [v] [T] bs)(n:bh T=true):Rep K G v T:=by
 have d:=h.dr
 cases d.nil_of (by show(bh T&&true)=true; rw[n]; rfl)
 cases d.reps (Same.refl _) (λ_ z=>by cases z)
 assumption
noncomputable def mK(i:Nat)(T:Tr)(ρ : En):Rs En:=match T with
 |.lst ts=>.ok (ρ.set i (.dp ts))
 |T=>if bh T=true then .ok (ρ.set i (.sh T))else .bad
noncomputable def VJ(i:Nat)(f:WF):SF:=λρ=>(f ρ).bind λp=>(mK i p.1 p.2).bind λρ'=>.ok (.nx,ρ')
noncomputable def pW(i:Nat)(a:VX aB):VS (VJ i aB) where
 ck Γ e:=pB e λaK v _=>aN aK λaX bB=>atName aX λx _=>aO bB (qT Γ i x&&qU v&&a.ck Γ v)
 cs:=a.cs
 ok q o h:=by
  walk_at "o"
  simp only[an]at h
  obtain⟨⟨h1,h2⟩,h3⟩:=h
  obtain⟨w1,w2,w3⟩:=tV o h1
  refine(Ef o.d w1 w2 (a.ok q o h3) (wH h2) w3).imp λD σ H=>bx λR ρ G F e h=>⟨R,ρ,G,F,e,h.run (aC.refl (G:=G)) λp h v G1 H1 F1 bs e1 s1 v1=>?_⟩
  obtain⟨T,ρ1⟩:=p
  obtain⟨ρ2,k,h⟩:=h.okb (λc=>by dsimp only[mK]; (repeat' split) <;> (intro z; cases z))
  dsimp only[mK]at k
  split at k
  .cases k
   have d:=v1.dr
   rename_i ts
   cases d with
   |cl n _ _=>unfold bh at n; cases n
   | @rw b ys _ cs _ _ bs hb dq r0 =>
   cases r0
   have nd:=v1.nd
   have al:=v1.al
   rw[List.append_nil]at nd al
   obtain⟨F',e',hf⟩:=e1.Uu i nd (λb hb=>⟨(al b hb).2.2.1,(al b hb).2.1,(al b hb).2.2.2⟩) hb dq
   exact h _ G1 H1 F' e' ⟨s1.gg,s1.fr,s1.nw,λb z=>(hf b z).elim (λz=>(al b z).1) (s1.nf b),s1.dm⟩
  .split at k <;> cases k
   obtain⟨F',e',hf⟩:=e1.wu i (v1.rep ‹_›)
   exact h _ G1 H1 F' e' (s1.trans (.sub hf))
noncomputable def agF(i:Nat)(f:WA):SF:=λρ=>(cH ρ i).bind λ_=>(f ρ).bind λp=>(cH p.2 i).bind λts=>match p.1 with
 | [T]=>if ts.length<=100000 then .ok (.nx,p.2.set i (.dp (ts++[T])))else .bad
 |_=>.bad
theorem Ok.cH{K:FZ}(e:Ok K R ρ σ G H F)(q:L2.cH ρ i=.ok ts):∃a xs bs,σ[i]?=some (some (.ref a))/\ρ[i]?=some (.dp ts)/\F i=a::bs/\(F i).Nodup/\(∀b∈F i,¬R b)/\H a=some (.lst xs)/\DR K G H xs ts bs:=by
 unfold L2.cH at q
 split at q <;> cases q
 have z:=e.sl i
 rw[‹ρ[i]?=_›]at z
 obtain⟨a,xs,bs,z1,z⟩:=z
 exact⟨a,xs,bs,z1,‹_›,z⟩
noncomputable def agG(i m:Nat):SF:=λρ=>(cH ρ i).bind λts=>match ts[m]? with
 |some (.lst us)=>if bD us=true then .ok (.nx,ρ.set i (.dp (ts.set m (.lst []))))else .bad
 |_=>.bad
abbrev DF:=En->Rs Tr
structure uy(K:FZ)(R:Addr->Prop)(G H:Hp)(F:Fp)(G' H':Hp)(v:V)(T:Tr):Prop where
 gg:Same G G'
 fm:Fr K H F H'
 sub:Same G' H'
 nw:∀b,G' b≠none->G b≠none\/H b=none\/Fn F b
 vl:∃bs,bs.Nodup/\(∀b∈bs,(H b=none\/Fn F b)/\G' b=none)/\DR K G' H' [v] [T] bs
def J1(t:Tx)(g:DF):TS:=λD σ H=>∃R ρ G F,Ok t.K R ρ σ G H F/\bH t H F (g ρ) λT=>∀v G' H',uy t.K R G H F G' H' v T->D.rt v H'
theorem uy.back{K:FZ}(s:aC K G0 H0 F0 G H F)(h:uy K R G H F G' H' v T):uy K R G0 H0 F0 G' H' v T:=by
 have ff:∀b,H b=none\/Fn F b->H0 b=none\/Fn F0 b:=λb=>λz=>z.elim (λz=>.inl (s.dm b z)) (s.nf b)
 obtain⟨bs,nd,al,d⟩:=h.vl
 exact⟨s.gg.trans h.gg,s.back h.fm,h.sub,λb z=>(h.nw b z).elim (s.nw b) λz=>.inr (ff b z),bs,nd,λb hb=>⟨ff b (al b hb).1,(al b hb).2⟩,d⟩
abbrev VD(g:DF):=Vn λcl E X e=>eE X e (J1 (tx cl E X) g)
noncomputable abbrev Cz{g:DF}(_:VD g):DF:=g
noncomputable def VP(f:WF):DF:=λρ=>(f ρ).bind λp=>.ok p.1
noncomputable def dR(a:VX aB):VD (VP aB) where
 ck Γ e:=aN e λz l=>aO l (vO z λy _=>pC y λx=>a.ck Γ x)
 cs:=a.cs
 ok q o h:=by
  walk_at "O"
  exact(Eb (PK (a.ok q o h))).imp λD σ H=>bx λR ρ G F e h=>⟨R,ρ,G,F,e,h.run (aC.refl (G:=G)) λp h v G1 H1 F1 bs e1 s1 v1=>h v G1 H1 ⟨s1.gg,⟨s1.fr,e1.tb⟩,e1.sub,s1.nw,bs,v1.nd,λb hb=>⟨(v1.al b hb).1,(v1.al b hb).2.2.2⟩,v1.dr⟩⟩
noncomputable def VR(f:SF)(g:DF):DF:=λρ=>(f ρ).bind λp=>match p.1 with
 |.nx=>g p.2
 |.rt T false=>if bh T=true then .ok T else .bad
 |_=>.bad
noncomputable def dC(a:VS aB)(r:VD cX):VD (VR aB cX) where
 ck Γ e:=aN e λx l=>a.ck Γ x&&r.ck Γ l
 cs:=a.cs++r.cs
 ok q O h:=by
  walk_at "o"
  simp only[an]at h
  refine(PB (a.ok (ml q) O h.1) (r.ok (mr q) O h.2)).imp λD σ H=>bx λR ρ G F e h=>⟨R,ρ,G,F,e,h.run (aC.refl (G:=G)) λp h=>?_⟩
  obtain⟨fl,ρ1⟩:=p
  cases fl with
  |nx=>exact λσ1 G1 H1 F1 e1 s1=>⟨R,ρ1,G1,F1,e1,h.go s1 λT h v G' H' r=>h v G' H' (r.back s1)⟩
  |bk=>exact h.elim
  |ct=>exact h.elim
  |rt T fr =>
   cases fr with
   |true=>exact h.elim
   |false =>
    dsimp only at h
    split at h
    case isFalse=>exact h.elim
    exact λv G' H' r=>h v G' H' ⟨r.gg,r.fm,r.sub,r.nw,[],.nil,(λ_ z=>by cases z),.cl ‹_› r.vl .nil⟩
noncomputable def lY(nl:Nat)(g:DF):FP:=λts=>(g (fJ nl ts)).bind λT=>.ok (T,qD T)
section
variable {K:FZ}{G H G' H':Hp}{F:Fp}{N ps:List Str}{g:DF}{Q:VK}{E:XK}
theorem uy.gw{R:Addr->Prop}(r:uy K R G H (λ_=>[]) G' H' v T):Gw K G H G' H':=by
 have nf:∀{b:Addr},¬Fn (λ_=>[]) b:=λ⟨_,z⟩=>by cases z
 exact⟨r.gg,λb o q t=>r.fm.fr b o q nf t,r.sub,λ_=>r.fm.tb,λb q=>(r.nw b q).imp id λz=>z.resolve_right nf⟩
theorem agH(hn:ps.length<=N.length)(h:Ar K cl ps.length (lY N.length g) vs H Q E):J1 ⟨au K,λc H'=>E (.ref (cl c)) none H'⟩ g {nx:=λ_ H'=>Q .non H',rt:=Q } (start N vs) H:=by
 obtain⟨G,as,hl,r,sg,tb,tg,h⟩:=h
 refine⟨_,_,G,_,Ok.init r (by lia) sg tb tg,h.run (aC.refl (G:=G)) λT h v G' H' r=>?_⟩
 obtain⟨bs,nd,al,d⟩:=r.vl
 exact h v G' H' r.gw ⟨bs,nd,λb hb=>⟨(al b hb).1,(λ⟨_,z⟩=>by cases z),id,(al b hb).2⟩,d⟩
open Classical in
theorem Gw.V0(s:Same G H)(w:Gw K G H G' H')(cs:List Addr)(n:∀b∈cs,H b=none):∃G2,Gw K G H G2 H'/\Same G' G2/\(∀b∈cs,G2 b=H' b)/\∀b,b∉cs->G2 b=G' b:=by
 have i1:∀b,b∈cs->(if b∈cs then H' b else G' b)=H' b:=λb h=>if_pos h
 have i2:∀b,b∉cs->(if b∈cs then H' b else G' b)=G' b:=λb h=>if_neg h
 have m:Same G' λb=>if b∈cs then H' b else G' b:=λb o q=>by
  by_cases h:b∈cs
  .exact(i1 b h).trans (w.sub b o q)
  .exact(i2 b h).trans q
 refine⟨λb=>if b∈cs then H' b else G' b,⟨w.gg.trans m,w.hh,λb o q=>?_,w.tb,λb q=>?_⟩,m,i1,i2⟩ <;> by_cases h:b∈cs
 .rw[i1 b h]at q; exact q
 .rw[i2 b h]at q; exact w.sub b o q
 .exact .inr (n b h)
 .rw[i2 b h]at q; exact w.nw b q
theorem agI(hn:ps.length<=N.length)(h:pD K cl ps.length (lY N.length g) vs H Q E):J1 ⟨au K,λc H'=>E (.ref (cl c)) none H'⟩ g {nx:=λ_ H'=>Q .non H',rt:=Q } (start N vs) H:=by
 obtain⟨G,as,hl,r,sg,tb,tg,h⟩:=h
 refine⟨_,_,G,_,Ok.init r (by lia) sg tb tg,h.run (aC.refl (G:=G)) λT h v G' H' r=>?_⟩
 obtain⟨bs,nd,al,d⟩:=r.vl
 have fr:∀b∈bs,H b=none:=λb hb=>(al b hb).1.resolve_right λ⟨_,z⟩=>by cases z
 cases k:qD T with
 |false =>
  obtain⟨G2,w,m,i1,_⟩:=r.gw.V0 sg bs fr
  rw[k]at h
  refine h v G2 H' w ?_
  cases d.reps m i1
  assumption
 |true =>
  rw[k]at h
  unfold qD at k
  split at k <;> cases k
  cases d with
  |cl n _ _=>unfold bh at n; cases n
  | @rw b ys _ cs _ _ bs hb dq r0 =>
  cases r0
  rw[List.append_nil]at nd al fr
  obtain⟨n1,_⟩:=List.nodup_cons.mp nd
  obtain⟨G2,w,m,i1,i2⟩:=r.gw.V0 sg cs λb hb=>fr b (List.mem_cons_of_mem _ hb)
  exact h _ G2 H' w ⟨b,ys,_,rfl,rfl,fr b (List.mem_cons_self ..),(i2 b n1).trans (al b (List.mem_cons_self ..)).2,hb,dq.reps m i1⟩
end
theorem CG{st:Stmt}{B R:List Str}(T:VD g)(kn:Kn c B R)(h:∀y∈tb,y.lJ c)(a:At c.K c.mg x st)(h1:(xM (kh st) (psz st) st&&xO (psz st) st&&T.ck (fG (jq T.cs) (kh st) st B R []) (gC st))=true:=by kernel_rfl)(e:T.cs=Cv tb T.cs:=by kernel_rfl):∀y ∈ .fd x (psz st) (lY (kh st).length g) (jq T.cs+1) :: .fn x (psz st) (lY (kh st).length g) (jq T.cs+1)::tb,y.lJ c:=by
 obtain⟨h1,h2⟩:=an.mp h1
 obtain⟨h1,h3⟩:=an.mp h1
 obtain⟨S,hn⟩:=JM h1
 have hb:Cu x st (psz st):=JN (S.pre▸S.nd.sublist (List.take_sublist ..)) h3
 have ox:=λf cdv A outer s H E hr=>T.ok (JQ h e) (⟨rfl,rfl,S.nd,rfl,hr,Gb,kn.B,λx m=>⟨kn.R x m,Ga⟩,kn.x,rfl,(λz=>by cases z),(λ_ z=>nomatch z)⟩:Ox c.cl (fG (jq T.cs) (kh st) st B R []) E (iB (gD c.P c.w) c.P c.w c.K c.mg c.base (kh st) x (bU st) f cdv A outer s H E)) h2
 exact List.forall_mem_cons.mpr ⟨a.Gd S hb (λvs H Q E ⟨_,_,h,_⟩=>h) λf cdv A outer s H vs Q E hr q=>⟨_,ox f cdv A outer s H E hr,agH hn q⟩,List.forall_mem_cons.mpr ⟨a.Gd S hb (λvs H Q E ⟨_,_,h,_⟩=>h) λf cdv A outer s H vs Q E hr q=>⟨_,ox f cdv A outer s H E hr,agI hn q⟩,h⟩⟩
noncomputable def J3(src:List (Option Nat))(fi:IF)(g:GF)(f:EF):WF:=λρ=>(fi ρ).bind λp=>if p.1.length<=100000 then(dD (lQ g gj f p.1 (dO src p.2))).bind λz=>if d8 src z.2 p.2=true then .ok (.lst z.1,bG src z.2 p.2)else .bad else .bad
theorem agJ{t:Tx}{tc:TT}(hc:∀σ H Q,Tt ⟨t.K,λ_ _=>False⟩ gj σ H Q->tc σ H Q)(I:Inj src)(hj:∀k j:Nat,src[k]?=some (some j)->k∉js)(ng:∀T ρ c,gf T ρ ≠ .ex c)(h:Tw t (J3 src fi gf f) σ H Q):qZ (Ti t fi) (j4 t.K gf js) src tc (Te ⟨t.K,λ_ _=>False⟩ f) σ H Q:=by
 obtain⟨R,ρ,G,F,e,h⟩:=h
 refine⟨R,ρ,G,F,e,h.run (aC.refl (G:=G)) λp h J G1 H1 F1 e1 s1 it D hD=>?_⟩
 split at h
 case isFalse=>exact h.elim
 obtain⟨z,kz,h⟩:=j8 h
 split at h
 case isFalse=>exact h.elim
 rw[Jk]at kz
 refine BZ hc I hj ng ‹_› hD Ut e1 (λG' H' m s _=>it G' H' m s) kz ‹_› λG' H' F' xs e' s' d g _ _ ⟨bs,a⟩=>?_
 have dd:=DR.rw d a.dr .nil
 rw[List.append_nil]at dd
 exact h _ G' H' F1 (D::bs) e' (s1.trans s') ⟨List.nodup_cons.mpr ⟨λz=>(a.al D z).2.1 rfl,a.nd⟩,List.forall_mem_cons.mpr ⟨⟨.inl (s1.dm D hD),e1.fs hD,e1.rn hD,g⟩,λb hb=>⟨.inl (s1.dm b (a.al b hb).1),e1.fs (a.al b hb).1,(a.al b hb).2.2.1,(a.al b hb).2.2.2.2⟩⟩,dd⟩
noncomputable def wCo(src:List (Option Nat))(N:List Str)(i:VI j6)(g:VG fP iM)(b:VE bF):VX (J3 src j6 fP bF) where
 ck Γ e:=m9 e λx aK sc _=>aN aK λaX bB=>lG aX λt y bL cV=>aO bL (iI cV 0 (aO bB (i.ck Γ (t,y)&&g.ck (cG Γ N sc) t&&b.ck (cG Γ N sc) x&&nQ Γ N src sc iM)))
 cs:=i.cs++(g.cs++b.cs)
 ok:=@λcl E Γ X e q o h=>by
  walk_at "O"
  rename_i x0 sc pos t0 y0
  simp only[an]at h
  obtain⟨⟨⟨h1,h2⟩,h3⟩,h4⟩:=h
  obtain⟨pi,ni⟩:=i.ok (ml q) o h1
  obtain⟨S,nd,I,hj⟩:=rB h4
  have pg:=λC s H ex=>g.ok (X:=aY X N sc C s H ex) (ml (mr q)) (f9 o nd) h2
  have pb:=λC s H ex=>b.ok (X:=aY X N sc C s H ex) (mr (mr q)) (f9 o nd) h3
  exact(xr o.s o.N S o.l pi (λC s H ex=>(pg C s H ex).1) (λ_ _ _ _=>wY) pb (jm ni)).imp λσ H Q=>agJ (λσ H Q ⟨R,ρ,G,F,e,h⟩=>h G H F e .refl) I hj (pg 0 X.s₀ X.H₀ []).2.1
end L2
end
section
namespace L2
open PySem
section
variable {α β : Type}
theorem bk{r:Rs α}{f : α -> Rs β}{a : α}{s:Rs β}(h:r=.ok a)(k:f a=s):r.bind f=s:=by subst h; exact k
end
section
variable {ρ ρ1 ρ2 ρ3:En}{f g:SF}{fa fb:EF}{aa:AF}{T U:Tr}{b b':Bool}{r:Rs (Fl × En)}{i:Nat}{ps:List Rv}{as ts:List Tr}{z:Tr × Bool}{F:FP}{c d:BF}{x y:Rv}
theorem CJ(h:f ρ=.ok (.nx,ρ1))(k:g ρ1=r):Bp f g ρ = r:=bk h k
theorem V1(h:fa ρ=.ok (.v (.lst ts) true,ρ1)):Ib i fa ρ=.ok (.nx,ρ1.set i (.ow ts)):=bk h rfl
theorem J4(h:fa ρ=.ok (x,ρ1)):Ij fa ρ=.ok (.nx,ρ1):=bk h rfl
theorem V2(h:fa ρ=.ok (.v T b,ρ1)):Ik fa ρ=.ok (.rt T b,ρ1):=bk h rfl
theorem V3(h:c ρ=.ok (false,ρ1))(k:g ρ1=r):Il c f g ρ = r:=bk h ((if_neg Bool.false_ne_true).trans k)
theorem nx_(h:f ρ=.ok q):wN f ρ=.ok q:=by unfold wN; rw[h]; rfl
theorem J5(h:f (fJ n as)=.ok (.rt T b,ρ1)):aP n f as=.ok (T,b):=bk h rfl
theorem J6(h:f (fJ n as)=.ok (.nx,ρ1)):aP n f as=.ok (.non,false):=bk h rfl
theorem jr(h:fa ρ=.ok (x,ρ1))(k:aa ρ1=.ok (ps,ρ2)):dM fa aa ρ=.ok (x::ps,ρ2):=bk h (bk k rfl)
theorem nW(h:aa ρ=.ok (ps,ρ1))(k:drs ρ1 ps=.ok as)(n:ps.any pH=false)(e:F as=.ok z):jH F aa ρ=.ok (.v z.1 z.2,ρ1):=bk h (bk k (bk e (if_neg λq=>by rw[n]at q; exact Bool.false_ne_true q.1)))
theorem J7(h:aa ρ=.ok (ps,ρ1))(k:drs ρ1 ps=.ok as)(e:G as=.ok z):nH G aa ρ=.ok (.v z.1 z.2,ρ1):=bk h (bk k (bk e rfl))
theorem op_(h:fa ρ=.ok (x,ρ1))(k:fb ρ1=.ok (y,ρ2))(u:dr ρ2 x=.ok T)(v:dr ρ2 y=.ok U)(e:G T U=.ok z):lK G fa fb ρ=.ok (.v z.1 z.2,ρ2):=bk h (bk k (bk u (bk v (bk e rfl))))
theorem agK(h:fa ρ=.ok (.v T b,ρ1))(k:fb ρ1=.ok (.v U b',ρ2))(e:G T U=.ok z):lK G fa fb ρ=.ok (.v z.1 z.2,ρ2):=op_ h k rfl rfl e
theorem J8(h:fa ρ=.ok (x,ρ1))(k:dr ρ1 x=.ok T)(e:oF T=.ok b):Aw fa ρ=.ok (b,ρ1):=bk h (bk k (bk e rfl))
theorem V4(h:c ρ=.ok (b,ρ1)):Ax c ρ=.ok (!b,ρ1):=bk h rfl
theorem ap_(h:fa ρ=.ok (.v T b,ρ1))(n:con ρ i=.ok as)(k:con ρ1 i=.ok ts)(l:ts.length<=100000):Bo i qR (dM fa eX) ρ=.ok (.v .non false,cM i (ts++[T]) ρ1):=bk n (bk (jr h rfl) (bk rfl (bk k (bk (by unfold qR; exact if_pos l) rfl))))
end
noncomputable def cS(fl:Fl)(g:SF)(ρ : En):Rs (Fl × En):=match fl with
 |.nx=>g ρ
 |fl=>.ok (fl,ρ)
noncomputable def cB{α : Type}(b:Bool)(f g:En->Rs α)(ρ : En):Rs α := if b=true then f ρ else g ρ
def W(r:Rs (Fl × En))(Q:Fl->En->Prop):Prop:=∃fl ρ,r=.ok (fl,ρ)/\Q fl ρ
noncomputable def Dy(x:Rv)(ρ : En):Rs (Tr × Bool):=match x with
 |.v T fr=>.ok (T,fr)
 |.s i=>match ρ[i]? with
  |some (.ow ts)=>.ok (.lst ts,true)
  |_=>.bad
noncomputable def Dz:Fl->Rs (Tr × Bool)
 |.rt T fr=>.ok (T,fr)
 |.nx=>.ok (.non,false)
 |_=>.bad
section
variable {α : Type}{ρ ρ1 ρ2 ρ3:En}{f g:SF}{fa fb:EF}{aa:AF}{T U V:Tr}{b b':Bool}{r:Rs (Fl × En)}{i j n:Nat}{ps:List Rv}{as ts us:List Tr}{F:FP}{c d:BF}{x y:Rv}{q:Rs (Bool × En)}{s:Rs (Rv × En)}{fl:Fl}{z:Tr × Bool}{u v:En->Rs α}{w:Rs α}{S:Sl}{Q Q0:Fl->En->Prop}{gf:GF}{fi:IF}
theorem wSq(h:W (f ρ) λfl ρ1=>W (cS fl g ρ1) Q):W (Bp f g ρ) Q:=by
 obtain⟨fl,ρ1,e,sJ,ρ2,e',q⟩:=h
 refine⟨sJ,ρ2,bk e ?_,q⟩
 cases fl <;> exact e'
theorem wSn(k:W (g ρ) Q):W (cS .nx g ρ) Q:=k
theorem wSr(k:Q (.rt T b) ρ):W (cS (.rt T b) g ρ) Q:=⟨_,_,rfl,k⟩
theorem wSc(k:Q .ct ρ):W (cS .ct g ρ) Q:=⟨_,_,rfl,k⟩
theorem abe(k:Q .nx ρ):W (TJ ρ) Q:=⟨_,_,rfl,k⟩
theorem xT(h:b=true)(k:u ρ = w):cB b u v ρ = w:=(if_pos h).trans k
theorem xF(h:b=false)(k:v ρ = w):cB b u v ρ = w:=(if_neg (by rw[h]; exact Bool.false_ne_true)).trans k
theorem wT(h:b=true)(k:W (f ρ) Q):W (cB b f g ρ) Q:=by unfold cB; rw[if_pos h]; exact k
theorem wF(h:b=false)(k:W (g ρ) Q):W (cB b f g ρ) Q:=by unfold cB; rw[if_neg (by rw[h]; exact Bool.false_ne_true)]; exact k
theorem wIf(h:c ρ=.ok (b,ρ1))(k:W (cB b f g ρ1) Q):W (Il c f g ρ) Q:=k.elim λfl k=>k.elim λρ2 k=>⟨fl,ρ2,bk h k.1,k.2⟩
theorem xEI(h:c ρ=.ok (b,ρ1))(k:cB b fa fb ρ1=s):vZ c fa fb ρ = s:=bk h k
theorem xBA(h:c ρ=.ok (b,ρ1))(k:cB b d (λρ=>.ok (false,ρ)) ρ1=q):Hu c d ρ = q:=bk h k
theorem xBO(h:c ρ=.ok (b,ρ1))(k:cB b (λρ=>.ok (true,ρ)) d ρ1=q):Hv c d ρ = q:=bk h k
theorem xEA(h:gO fa ρ=.ok (b,ρ1))(k:cB b fb (λρ=>.ok (eB false,ρ)) ρ1=s):Hw fa fb ρ = s:=bk h k
theorem xEO(h:gO fa ρ=.ok (b,ρ1))(k:cB b (λρ=>.ok (eB true,ρ)) fb ρ1=s):Hx fa fb ρ = s:=bk h k
theorem xOv(h:d ρ=.ok (b',ρ)):cB b (λρ=>.ok (true,ρ)) d ρ=.ok (b || b',ρ):=by cases b <;> first|exact h|rfl
theorem xAv(h:d ρ=.ok (b',ρ)):cB b d (λρ=>.ok (false,ρ)) ρ=.ok (b&&b',ρ):=by cases b <;> first|exact h|rfl
theorem xOV(h:fb ρ=.ok (.v (.bl b') false,ρ)):cB b (λρ=>.ok (eB true,ρ)) fb ρ=.ok (.v (.bl (b || b')) false,ρ):=by cases b <;> first|exact h|rfl
theorem xAV(h:fb ρ=.ok (.v (.bl b') false,ρ)):cB b fb (λρ=>.ok (eB false,ρ)) ρ=.ok (.v (.bl (b&&b')) false,ρ):=by cases b <;> first|exact h|rfl
theorem xEN(h:gO fa ρ=.ok (b,ρ1)):Hy fa ρ=.ok (.v (.bl (!b)) false,ρ1):=bk h rfl
theorem xBN(h:c ρ=.ok (b,ρ1)):Ax c ρ=.ok (!b,ρ1):=bk h rfl
theorem xTe(h:fa ρ=.ok (x,ρ1))(k:dr ρ1 x=.ok T)(e:rO T=.ok b):gO fa ρ=.ok (b,ρ1):=bk h (bk k (bk e rfl))
theorem xTr(h:fa ρ=.ok (x,ρ1))(k:dr ρ1 x=.ok T)(e:oF T=.ok b):Aw fa ρ=.ok (b,ρ1):=bk h (bk k (bk e rfl))
theorem wAs(h:fa ρ=.ok (.v T b,ρ1))(e : ρ1.set i (.sh T) = ρ2)(k:Q .nx ρ2):W (wI fa (gN i) ρ) Q:=⟨_,_,e▸bk h rfl,k⟩
theorem wAg(h:fa ρ=.ok (.v T b,ρ1))(k:gf T ρ1=.ok ρ2)(q:Q .nx ρ2):W (wI fa gf ρ) Q:=⟨_,_,bk h (bk k rfl),q⟩
theorem xG2(e:T=.tup [U,V])(h : ρ.set i (.sh U) = ρ1)(k : ρ1.set j (.sh V) = ρ2):gT 2 (lN (gN i) (lN (gN j) wD)) T ρ=.ok ρ2:=by subst e h k; rfl
theorem xG3{k':Nat}{W:Tr}(e:T=.tup [U,V,W])(h : ρ.set i (.sh U) = ρ1)(k : ρ1.set j (.sh V) = ρ2)(l : ρ2.set k' (.sh W) = ρ3):gT 3 (lN (gN i) (lN (gN j) (lN (gN k') wD))) T ρ=.ok ρ3:=by subst e h k l; rfl
theorem xGN(e : ρ.set i (.sh T) = ρ1):gN i T ρ=.ok ρ1:=by subst e; rfl
theorem wOw(h:fa ρ=.ok (.v T true,ρ1))(l:T=.lst ts)(e : ρ1.set i (.ow ts) = ρ2)(k:Q .nx ρ2):W (Ib i fa ρ) Q:=by subst l e; exact⟨_,_,bk h rfl,k⟩
noncomputable def J9(i:Nat)(T:Tr)(b:Bool)(ρ : En):En:=match b,T with
 |true,.lst ts=>ρ.set i (.ow ts)
 |_,T=>ρ.set i (.sh T)
theorem oV1(l:T=.lst ts)(e : ρ.set i (.ow ts) = ρ1):J9 i T true ρ = ρ1:=by subst l; exact e
theorem oV2(e : ρ.set i (.sh T) = ρ1):J9 i T false ρ = ρ1:=e
theorem wON(h:fa ρ=.ok (.v T b,ρ1))(e:J9 i T b ρ1 = ρ2)(k:Q .nx ρ2):W (agw i fa ρ) Q:=⟨_,_,bk h (by subst e; cases b <;> cases T <;> rfl),k⟩
theorem wEx(h:fa ρ=.ok (x,ρ1))(k:Q .nx ρ1):W (Ij fa ρ) Q:=⟨_,_,bk h rfl,k⟩
theorem wRt(h:fa ρ=.ok (x,ρ1))(k:Dy x ρ1=.ok (T,b))(q:Q (.rt T b) ρ1):W (Ik fa ρ) Q:=⟨_,_,bk h (by
 cases x with
 |v T fr=>cases k; rfl
 |s i =>
  show(match ρ1[i]? with|some (.ow ts)=>_|_=>_)=_
  unfold Dy at k
  dsimp only at k ⊢
  split at k <;> cases k
  rfl),q⟩
theorem wPa(h:aa ρ=.ok (ps,ρ1))(k:cls ps=.ok [T,U])(e : ρ1.set i (.sh T) = ρ2)(e' : ρ2.set j (.sh U) = ρ3)(q:Q .nx ρ3):W (T5 i j aa ρ) Q:=by subst e e'; exact⟨_,_,bk h (bk k rfl),q⟩
theorem uQ(h:fa ρ=.ok (x,ρ1))(k:aa ρ1=.ok (ps,ρ2)):dM fa aa ρ=.ok (x::ps,ρ2):=bk h (bk k rfl)
theorem uR{G:G2}(h:fa ρ=.ok (x,ρ1))(k:fb ρ1=.ok (y,ρ2))(u:dr ρ2 x=.ok T)(v:dr ρ2 y=.ok U)(e:G T U=.ok (V,b)):lK G fa fb ρ=.ok (.v V b,ρ2):=bk h (bk k (bk u (bk v (bk e rfl))))
theorem xUn{G:G1}(h:fa ρ=.ok (x,ρ1))(u:dr ρ1 x=.ok T)(e:G T=.ok (V,b)):Hr G fa ρ=.ok (.v V b,ρ1):=bk h (bk u (bk e rfl))
theorem xCh{G G':G2}{fc:EF}{b1:Bool}(h:fa ρ=.ok (x,ρ1))(k:fb ρ1=.ok (y,ρ2))(u:dr ρ2 x=.ok T)(v:dr ρ2 y=.ok U)(e:G T U=.ok (.bl b,b1))(l:cB b (λρ=>(fc ρ).bind λs=>(dr s.2 y).bind λb=>(dr s.2 s.1).bind λc=>(G' b c).bind λz=>.ok (Rv.v z.1 z.2,s.2)) (λρ=>.ok (eB false,ρ)) ρ2=s):Hz G G' fa fb fc ρ = s:=bk h (bk k (bk u (bk v (bk e (bk rfl l)))))
theorem xCk{G':G2}{fc:EF}(h:fc ρ=.ok (x,ρ1))(u:dr ρ1 y=.ok T)(v:dr ρ1 x=.ok U)(e:G' T U=.ok (V,b)):((fc ρ).bind λs=>(dr s.2 y).bind λb=>(dr s.2 s.1).bind λc=>(G' b c).bind λz=>.ok (Rv.v z.1 z.2,s.2))=.ok (Rv.v V b,ρ1):=bk h (bk u (bk v (bk e rfl)))
theorem xC1{G:G1}(h:fa ρ=.ok (x,ρ1))(k:dr ρ1 x=.ok U)(e:G U=.ok (T,b)):nH (g1 G) (dM fa eX) ρ=.ok (.v T b,ρ1):=bk (bk h rfl) (bk (bk k rfl) (bk e rfl))
theorem xC2{G:G2}(h:aa ρ=.ok (ps,ρ1))(k:drs ρ1 ps=.ok [U,V])(e:G U V=.ok (T,b)):nH (g2 G) aa ρ=.ok (.v T b,ρ1):=bk h (bk k (bk e rfl))
theorem xCl(h:aa ρ=.ok (ps,ρ1))(k:drs ρ1 ps=.ok as)(e:F as=.ok (T,b))(n:(ps.any pH && !fK (T,b))=false):jH F aa ρ=.ok (.v T b,ρ1):=bk h (bk k (bk e (if_neg λq=>by rw[q.1,q.2]at n; cases n)))
theorem xIs(h:fa ρ=.ok (x,ρ1))(k:dr ρ1 x=.ok T):Tj ty fa ρ=.ok (.v (.bl (sG T ty)) false,ρ1):=bk h (bk k rfl)
theorem xLs(h:aa ρ=.ok (ps,ρ1))(k:cls ps=.ok ts)(l:ts.length<=1000):S7 aa ρ=.ok (.v (.lst ts) true,ρ1):=bk h (bk k (if_pos l))
theorem xTu(h:aa ρ=.ok (ps,ρ1))(k:cls ps=.ok ts)(l:ts.length<=1000):S8 aa ρ=.ok (.v (.tup ts) false,ρ1):=bk h (bk k (if_pos l))
theorem xAp(h:fa ρ=.ok (.v T b,ρ1))(n:con ρ i=.ok as)(k : ρ1[i]?=some (.ow ts))(l:ts.length<=100000)(e : ρ1.set i (.ow (ts++[T])) = ρ2):Bo i qR (dM fa eX) ρ=.ok (.v .non false,ρ2):=by
 have c:con ρ1 i=.ok ts:=by unfold con; rw[k]
 have u:cM i (ts++[T]) ρ1 = ρ2:=by unfold cM; rw[k]; exact e
 exact u▸ap_ h n c l
theorem wNo(h:W (f ρ) Q):W (wN f ρ) Q:=h.elim λ_ h=>h.elim λ_ h=>⟨_,_,nx_ h.1,h.2⟩
theorem wFo(h:fi ρ=.ok (us,ρ1))(k:W (j5 gf f us ρ1) Q):W (T9 fi gf f ρ) Q:=k.elim λ_ k=>k.elim λ_ k=>⟨_,_,bk h k.1,k.2⟩
theorem wLp{β : Type}{t : β -> Tr}{xs:List β}(P:Nat->En->Prop)(h0:P 0 ρ)(hs:∀k x ρ,xs[k]?=some x->P k ρ -> ∃ρ1,gf (t x) ρ=.ok ρ1/\W (f ρ1) λfl ρ2=>match fl with
  |.nx=>P (k+1) ρ2
  |.ct=>P (k+1) ρ2
  |.bk=>Q .nx ρ2
  |.rt T b=>Q (.rt T b) ρ2) (hk:∀ρ,P xs.length ρ -> Q .nx ρ):W (j5 gf f (xs.map t) ρ) Q:=by
 have go:∀(ys:List β) (k:Nat) (ρ : En),k<=xs.length->xs.drop k=ys->P k ρ -> W (j5 gf f (ys.map t) ρ) Q:=λys=>by
  induction ys with
  |nil =>
   intro k ρ l e p
   obtain rfl:k=xs.length:=Nat.le_antisymm l (List.drop_eq_nil_iff.mp e)
   exact⟨_,_,rfl,hk _ p⟩
  |cons x ys ih =>
   intro k ρ l e p
   have g:xs[k]?=some x:=by rw[<-List.head?_drop,e]; rfl
   have d:xs.drop (k+1)=ys:=by rw[<-List.tail_drop,e]; rfl
   have l':k+1<=xs.length:=(List.getElem?_eq_some_iff.mp g).1
   obtain⟨ρ1,e1,fl,ρ2,e2,q⟩:=hs k x ρ g p
   have st:j5 gf f ((x::ys).map t) ρ = _:=bk e1 (bk e2 rfl)
   cases fl with
   |nx=>obtain⟨a,b,h,q⟩:=ih (k+1) ρ2 l' d q; exact⟨a,b,st.trans h,q⟩
   |ct=>obtain⟨a,b,h,q⟩:=ih (k+1) ρ2 l' d q; exact⟨a,b,st.trans h,q⟩
   |bk=>exact⟨_,_,st,q⟩
   |rt T b=>exact⟨_,_,st,q⟩
 exact go xs 0 ρ (Nat.zero_le _) rfl h0
noncomputable def pt(ρ : En):List (Nat × Sl)->En
 | []=>ρ
 |(i,s)::r=>pt (ρ.set i s) r
theorem wG{t:Tr}(h:gf t ρ=.ok ρ1)(k:W (f ρ1) Q):∃ρ1,gf t ρ=.ok ρ1/\W (f ρ1) Q:=⟨_,h,k⟩
theorem kE{σ β : Type}{t : β -> Tr}{xs:List β}(js:List Nat)(A : σ -> List (Nat × Sl))(I:Nat -> σ -> Prop)(s0 : σ)(i0:I 0 s0)(h0 : ρ = pt (pt ρ (js.map λj=>(j,ρ.getD j .un))) (A s0))(hs:∀k x (v:Nat->Sl) s,xs[k]?=some x->I k s->∃ρ1,gf (t x) (pt (pt ρ (js.map λj=>(j,v j))) (A s))=.ok ρ1/\W (f ρ1) λfl ρ2=>match fl with
  |.nx=>∃s,I (k+1) s/\∃v:Nat->Sl,ρ2=pt (pt ρ (js.map λj=>(j,v j))) (A s)
  |.ct=>∃s,I (k+1) s/\∃v:Nat->Sl,ρ2=pt (pt ρ (js.map λj=>(j,v j))) (A s)
  |.bk=>Q .nx ρ2
  |.rt T b=>Q (.rt T b) ρ2) (hk:∀(v:Nat->Sl) s,I xs.length s->Q .nx (pt (pt ρ (js.map λj=>(j,v j))) (A s))):W (j5 gf f (xs.map t) ρ) Q :=
 wLp (λk ρ'=>∃s,I k s/\∃v:Nat->Sl,ρ'=pt (pt ρ (js.map λj=>(j,v j))) (A s)) ⟨s0,i0,λj=>ρ.getD j .un,h0⟩ (λk x _ g h=>h.elim λs h=>h.2.elim λv q=>by subst q; exact hs k x v s g h.1) λ_ h=>h.elim λs h=>h.2.elim λv q=>by subst q; exact hk v s h.1
theorem kJ{σ : Type}{n:Nat}{t:Nat->Tr}(js:List Nat)(A : σ -> List (Nat × Sl))(I:Nat -> σ -> Prop)(s0 : σ)(i0:I 0 s0)(h0 : ρ = pt (pt ρ (js.map λj=>(j,ρ.getD j .un))) (A s0))(hs:∀k (v:Nat->Sl) s,k<n->I k s->∃ρ1,gf (t k) (pt (pt ρ (js.map λj=>(j,v j))) (A s))=.ok ρ1/\W (f ρ1) λfl ρ2=>match fl with
  |.nx=>∃s,I (k+1) s/\∃v:Nat->Sl,ρ2=pt (pt ρ (js.map λj=>(j,v j))) (A s)
  |.ct=>∃s,I (k+1) s/\∃v:Nat->Sl,ρ2=pt (pt ρ (js.map λj=>(j,v j))) (A s)
  |.bk=>Q .nx ρ2
  |.rt T b=>Q (.rt T b) ρ2) (hk:∀(v:Nat->Sl) s,I n s->Q .nx (pt (pt ρ (js.map λj=>(j,v j))) (A s))):W (j5 gf f ((List.range n).map t) ρ) Q :=
 kE js A I s0 i0 h0 (λk x v s g=>by
  obtain⟨l,rfl⟩:=List.getElem?_eq_some_iff.mp g
  rw[List.getElem_range]
  exact hs k v s (by simpa using l)) (by rw[List.length_range]; exact hk)
theorem rE{n:Nat}{t:Nat->Tr}(js:List Nat)(A:Nat->List (Nat × Sl))(h0 : ρ = pt (pt ρ (js.map λj=>(j,ρ.getD j .un))) (A 0))(hs:∀k (v:Nat->Sl),k<n->∃ρ1,gf (t k) (pt (pt ρ (js.map λj=>(j,v j))) (A k))=.ok ρ1/\W (f ρ1) λfl ρ2=>match fl with
  |.nx=>∃v:Nat->Sl,ρ2=pt (pt ρ (js.map λj=>(j,v j))) (A (k+1))
  |.ct=>∃v:Nat->Sl,ρ2=pt (pt ρ (js.map λj=>(j,v j))) (A (k+1))
  |.bk=>Q .nx ρ2
  |.rt T b=>Q (.rt T b) ρ2) (hk:∀v:Nat->Sl,Q .nx (pt (pt ρ (js.map λj=>(j,v j))) (A n))):W (j5 gf f ((List.range n).map t) ρ) Q :=
 kJ js A (λk s=>s=k) 0 rfl h0 (λk v s l e=>by
  subst e
  obtain⟨ρ1,e,fl,ρ2,h,q⟩:=hs s v l
  refine⟨ρ1,e,fl,ρ2,h,?_⟩
  cases fl
  .exact⟨_,rfl,q⟩
  .exact q
  .exact q
  .exact⟨_,rfl,q⟩) λv s e=>by subst e; exact hk v
theorem xV{σ : Type}{fu:En->Nat}(js:List Nat)(A : σ -> List (Nat × Sl))(I : σ -> Prop)(μ : σ -> Nat)(s0 : σ)(i0:I s0)(h0 : ρ = pt (pt ρ (js.map λj=>(j,ρ.getD j .un))) (A s0))(hm : μ s0<fu ρ)(hs:∀(v:Nat->Sl) s,I s->∃b ρ1,c (pt (pt ρ (js.map λj=>(j,v j))) (A s))=.ok (b,ρ1)/\if b=true then W (f ρ1) (λfl ρ2=>match fl with
  |.nx=>∃s',I s'/\μ s' < μ s/\∃v:Nat->Sl,ρ2=pt (pt ρ (js.map λj=>(j,v j))) (A s')
  |.rt T b=>Q (.rt T b) ρ2
  |_=>False)else Q .nx ρ1):W (T8 fu c f ρ) Q:=by
 have go:∀(n:Nat) (v:Nat->Sl) (s : σ),I s -> μ s<n->W (wQ c f n (pt (pt ρ (js.map λj=>(j,v j))) (A s))) Q:=λn=>by
  induction n with
  |zero=>exact λ_ _ _ h=>absurd h (Nat.not_lt_zero _)
  |succ n ih =>
   intro v s i h
   obtain⟨b,ρ1,e,q⟩:=hs v s i
   cases b with
   |false=>exact⟨_,_,bk e (if_neg Bool.false_ne_true),by simpa using q⟩
   |true =>
    rw[if_pos rfl]at q
    obtain⟨fl,ρ2,e2,q⟩:=q
    cases fl with
    |nx =>
     obtain⟨s',i',l,v',rfl⟩:=q
     obtain⟨a,b,h,q⟩:=ih v' s' i' (by omega)
     exact⟨a,b,bk e ((if_pos rfl).trans (bk e2 h)),q⟩
    |rt T b=>exact⟨_,_,bk e ((if_pos rfl).trans (bk e2 rfl)),q⟩
    |bk=>exact q.elim
    |ct=>exact q.elim
 have z:=go (fu ρ) (λj=>ρ.getD j .un) s0 i0 hm
 rw[<-h0]at z
 exact z
theorem pT{P R:Prop}(h:b=true)(k:P):if b=true then P else R:=by rw[if_pos h]; exact k
theorem pF{P R:Prop}(h:b=false)(k:R):if b=true then P else R:=by rw[if_neg (by rw[h]; exact Bool.false_ne_true)]; exact k
theorem V5{P R : α -> Prop}{a : α}(h:P a)(k:R a):∃a,P a/\R a:=⟨_,h,k⟩
theorem kO(h:c ρ=.ok (b,ρ1)){P:Bool->En->Prop}(k:P b ρ1):∃b ρ1,c ρ=.ok (b,ρ1)/\P b ρ1:=⟨_,_,h,k⟩
theorem cn2{l l':En}{S':Sl}(h:S=S')(k:l=l'):S::l=S'::l':=h▸k▸rfl
theorem exV{R:(Nat->Sl)->En}(e : ρ = R λj=>ρ.getD j .un):∃v,ρ = R v:=⟨_,e⟩
theorem xW{σ : Type}(A : σ -> List (Nat × Sl))(I : σ -> Prop)(h:W (f ρ) λfl ρ'=>fl=.nx/\∃s,I s/\ρ'=pt ρ (A s))(k:∀s,I s->Q .nx (pt ρ (A s))):W (f ρ) Q:=by
 obtain⟨fl,ρ',e,rfl,s,i,rfl⟩:=h
 exact⟨_,_,e,k s i⟩
theorem xFS(h:fa ρ=.ok (x,ρ1))(u:DG x=.ok (us,b)):tY fa ρ=.ok (us,ρ1):=bk h (bk u rfl)
theorem wFr(e:cQ i ρ = ρ1)(k:W (f ρ1) Q):W (T7 i f ρ) Q:=by subst e; exact k
theorem xFz(h : ρ[i]?=some (.ow ts))(e : ρ.set i (.sh (.lst ts)) = ρ1):cQ i ρ = ρ1:=by unfold cQ; rw[h]; exact e
theorem wDw(h : ρ[i]?=some (.dp ts))(e : ρ.set i (.ow ts) = ρ1)(k:W (f ρ1) Q):W (Jm i f ρ) Q:=by subst e; unfold Jm uh; rw[h]; exact k
theorem xVw{c:BF}(e:vw ρ = ρ2)(h:c ρ2=.ok (b,ρ1)):JG c ρ=.ok (b,ρ):=by subst e; unfold JG; rw[h]; rfl
theorem xSl{l h:OF}{lo hi:Option Int}(e:fa ρ=.ok (x,ρ1))(k:l ρ1=.ok (lo,ρ2))(k':h ρ2=.ok (hi,ρ3))(u:dr ρ3 x=.ok T)(q:mJ lo hi T=.ok (V,b)):Bj fa l h ρ=.ok (.v V b,ρ3):=bk e (bk k (bk k' (bk u (bk q rfl))))
theorem xOS{m:Int}(h:fa ρ=.ok (x,ρ1))(k:dr ρ1 x=.ok (.int m)):Bh fa ρ=.ok (some m,ρ1):=bk h (bk k rfl)
theorem Nr(e:fJ n as = ρ)(h:W (f ρ) λfl _=>Dz fl=.ok z):aP n f as=.ok z:=by
 subst e
 obtain⟨fl,ρ1,h,k⟩:=h
 refine bk h ?_
 cases fl <;> first|exact k|(cases k; done)
theorem wFe{R:Tr × Bool->Prop}(e:fJ n as = ρ)(h:W (f ρ) λfl _=>∃z,Dz fl=.ok z/\R z):∃z,aP n f as=.ok z/\R z:=by
 obtain⟨fl,ρ1,h,z,k,q⟩:=h
 exact⟨z,Nr e ⟨fl,ρ1,h,k⟩,q⟩
theorem xRg{n:Nat}(h:fa ρ=.ok (x,ρ1))(d:dr ρ1 x=.ok (.int (n:Int)))(hn:n<=1000):Ud (dM fa eX) ρ=.ok ((List.range n).map λi:Nat=>Tr.int i,ρ1):=by
 have u:∀(m:Nat) (lo:Nat),L2.upTo (lo:Int) m=(List.range' lo m).map λi:Nat=>Tr.int i:=λm=>by
  induction m with
  |zero=>exact λ_=>rfl
  |succ m ih=>exact λlo=>congrArg (Tr.int lo :: ·) (ih (lo+1))
 have u:=u n 0
 rw[<-List.range_eq_range']at u
 exact bk (uQ h rfl) (bk (show drs ρ1 [x]=.ok [.int (n:Int)]from bk d rfl) ((if_pos (by unfold okR; simp; omega)).trans (by rw[Int.toNat_natCast]; exact congrArg (λl=>Rs.ok (l,ρ1)) u)))
theorem V6{α : Type}{r h : α -> Tr}{fr : α -> Bool}{τ : En}{fe:EF}:∀(xs:List α) (s:Sl),(∀x∈xs,fe (.sh (r x)::τ)=.ok (.v (h x) (fr x),.sh (r x)::τ))->∃s',fZ (gN 0) gj fe (xs.map r) (s::τ)=.ok (xs.map h,s'::τ)
 | [],s,_=>⟨s,rfl⟩
 |x::xs,s,q=>by
  obtain⟨s',e'⟩:=V6 xs (.sh (r x)) λv hv=>q v (List.mem_cons_of_mem _ hv)
  exact⟨s',bk (a:=.sh (r x)::τ) rfl (bk rfl ((if_pos rfl).trans (bk (q x (List.mem_cons_self ..)) (bk rfl (bk e' rfl)))))⟩
theorem xMp{β : Type}{t h : β -> Tr}{fr : β -> Bool}{xs:List β}{rest:List (Option Nat)}{fe:EF}{τ : En}(hi:fi ρ=.ok (us,ρ))(hu:us=xs.map t)(hτ : dO rest ρ = τ)(hs:∀s,d8 (none::rest) (s::τ) ρ = true)(hd:∀s,bG (none::rest) (s::τ) ρ = ρ)
  (hf:∀x∈xs,fe (.sh (t x)::τ)=.ok (.v (h x) (fr x),.sh (t x)::τ)) (hl:xs.length<=100000):uf (none::rest) fi (gN 0) gj fe ρ=.ok (.v (.lst (xs.map h)) true,ρ):=by
 subst hu hτ
 obtain⟨s,e⟩:=V6 xs .un hf
 refine bk hi ((if_pos (by rw[List.length_map]; exact hl)).trans ?_)
 show(dD (fZ _ _ _ _ (Sl.un::dO rest ρ))).bind _=_
 rw[e]
 refine bk rfl ((if_pos (hs s)).trans ?_)
 rw[hd s]
theorem Ka{α : Type}{r : α -> Tr}{p : α -> Bool}{τ : En}:∀(xs:List α) (s:Sl),(∀x∈xs,c (.sh (r x)::τ)=.ok (p x,.sh (r x)::τ))->∃s',fZ (gN 0) c (bZ 0) (xs.map r) (s::τ)=.ok ((xs.filter p).map r,s'::τ)
 | [],s,_=>⟨s,rfl⟩
 |x::xs,s,q=>by
  obtain⟨s',e'⟩:=Ka xs (.sh (r x)) λv hv=>q v (List.mem_cons_of_mem _ hv)
  refine⟨s',bk (a:=.sh (r x)::τ) rfl (bk (q x (List.mem_cons_self ..)) ?_)⟩
  rw[List.filter_cons]
  cases p x
  .exact(if_neg Bool.false_ne_true).trans e'
  .exact(if_pos rfl).trans (bk rfl (bk rfl (bk e' rfl)))
theorem xFl{β : Type}{t : β -> Tr}{p : β -> Bool}{xs:List β}{rest:List (Option Nat)}{τ : En}(hi:fi ρ=.ok (us,ρ))(hu:us=xs.map t)(hτ : dO rest ρ = τ)(hs:∀s,d8 (none::rest) (s::τ) ρ = true)(hd:∀s,bG (none::rest) (s::τ) ρ = ρ)
  (hf:∀x∈xs,c (.sh (t x)::τ)=.ok (p x,.sh (t x)::τ)) (hl:xs.length<=100000):uf (none::rest) fi (gN 0) c (bZ 0) ρ=.ok (.v (.lst ((xs.filter p).map t)) true,ρ):=by
 subst hu hτ
 obtain⟨s,e⟩:=Ka xs .un hf
 refine bk hi ((if_pos (by rw[List.length_map]; exact hl)).trans ?_)
 show(dD (fZ _ _ _ _ (Sl.un::dO rest ρ))).bind _=_
 rw[e]
 refine bk rfl ((if_pos (hs s)).trans ?_)
 rw[hd s]
theorem xFO{β : Type}{t : β -> Tr}{p : β -> Bool}{xs:List β}{rest:List (Option Nat)}{τ : En}(hi:con ρ n=.ok us)(hu:us=xs.map t)(hτ : dO rest ρ = τ)(hs:∀s,d8 (none::rest) (s::τ) ρ = true)(hd:∀s,bG (none::rest) (s::τ) ρ = ρ)
  (hf:∀x∈xs,c (.sh (t x)::τ)=.ok (p x,.sh (t x)::τ)) (hl:xs.length<=100000):Jj (none::rest) n (gN 0) c (bZ 0) ρ=.ok (.v (.lst ((xs.filter p).map t)) true,ρ):=by
 subst hu hτ
 obtain⟨s,e⟩:=Ka xs .un hf
 refine bk hi ((if_pos (by rw[List.length_map]; exact hl)).trans ?_)
 show(dD (fZ _ _ _ _ (Sl.un::dO rest ρ))).bind _=_
 rw[e]
 refine bk rfl ((if_pos (hs s)).trans ?_)
 rw[hd s]
theorem xIn{m:Nat}(h:aa ρ=.ok (ps,ρ1))(k:cls ps=.ok [.int m,T])(n:con ρ i=.ok as)(q : ρ1[i]?=some (.ow ts))(l:m<=ts.length)(l':ts.length<=100000)(e : ρ1.set i (.ow (ts.take m++T::ts.drop m)) = ρ2):Bo i xu aa ρ=.ok (.v .non false,ρ2):=by
 have c:con ρ1 i=.ok ts:=by unfold con; rw[q]
 have u:cM i (ts.take m++T::ts.drop m) ρ1 = ρ2:=by unfold cM; rw[q]; exact e
 exact u▸bk n (bk h (bk k (bk c (bk (a:=(ts.take m++T::ts.drop m,Tr.non)) (if_pos ⟨Int.natCast_nonneg m,l,l'⟩) rfl))))
theorem xLR{m:Nat}(h:fa ρ=.ok (.v T b,ρ1))(k:T=.int (m:Int))(l:m<=1000):U6 (dM fa eX) ρ=.ok (.v (.lst ((List.range m).map λi:Nat=>Tr.int i)) true,ρ1):=by
 subst k
 exact bk (uQ h rfl) ((if_pos ⟨Int.natCast_nonneg m,by omega⟩).trans (by rw[Int.toNat_natCast]))
theorem V7{α : Type}{a b h : α -> Tr}{fr : α -> Bool}{τ : En}{fe:EF}:∀(xs:List α) (s s':Sl),(∀x∈xs,fe (.sh (a x) :: .sh (b x)::τ)=.ok (.v (h x) (fr x),.sh (a x) :: .sh (b x)::τ))->∃t t',fZ (gT 2 (lN (gN 0) (lN (gN 1) wD))) gj fe (xs.map λx=>.tup [a x,b x]) (s::s'::τ)=.ok (xs.map h,t::t'::τ)
 | [],s,s',_=>⟨s,s',rfl⟩
 |x::xs,s,s',q=>by
  obtain⟨t,t',e⟩:=V7 xs (.sh (a x)) (.sh (b x)) λv hv=>q v (List.mem_cons_of_mem _ hv)
  exact⟨t,t',bk (a:=.sh (a x) :: .sh (b x)::τ) rfl (bk rfl ((if_pos rfl).trans (bk (q x (List.mem_cons_self ..)) (bk rfl (bk e rfl)))))⟩
theorem xM2{β : Type}{a b h : β -> Tr}{fr : β -> Bool}{xs:List β}{rest:List (Option Nat)}{fe:EF}{τ : En}(hi:fi ρ=.ok (us,ρ))(hu:us=xs.map λx=>.tup [a x,b x])(hτ : dO rest ρ = τ)(hs:∀s s',d8 (none::none::rest) (s::s'::τ) ρ = true)(hd:∀s s',bG (none::none::rest) (s::s'::τ) ρ = ρ)
  (hf:∀x∈xs,fe (.sh (a x) :: .sh (b x)::τ)=.ok (.v (h x) (fr x),.sh (a x) :: .sh (b x)::τ)) (hl:xs.length<=100000):uf (none::none::rest) fi (gT 2 (lN (gN 0) (lN (gN 1) wD))) gj fe ρ=.ok (.v (.lst (xs.map h)) true,ρ):=by
 subst hu hτ
 obtain⟨s,s',e⟩:=V7 xs .un .un hf
 refine bk hi ((if_pos (by rw[List.length_map]; exact hl)).trans ?_)
 show(dD (fZ _ _ _ _ (Sl.un::Sl.un::dO rest ρ))).bind _=_
 rw[e]
 refine bk rfl ((if_pos (hs s s')).trans ?_)
 rw[hd s s']
theorem xZi{aa:AF}{T U:Tr}{us vs:List Tr}{b b':Bool}{ρ ρ1:En}(h:aa ρ=.ok ([.v T b,.v U b'],ρ1))(e:T=.lst us)(e':U=.lst vs):Ue aa ρ=.ok (pL us vs,ρ1):=by subst e e'; exact bk h rfl
theorem aa7{a b:Int}:m8 (.int a) (.int b)=.ok (.int (a+b),false):=rfl
theorem aa9(h:ts.length+us.length<=100000):m8 (.lst ts) (.lst us)=.ok (.lst (ts++us),true):=if_pos h
theorem aa8{a b:Int}:sX (.int a) (.int b)=.ok (.int (a-b),false):=rfl
theorem xLt{a b:Int}:vD (.int a) (.int b)=.ok (.bl (decide (a<b)),false):=rfl
theorem xGt{a b:Int}:GC (.int a) (.int b)=.ok (.bl (decide (b<a)),false):=rfl
theorem xLe{a b:Int}:GD (.int a) (.int b)=.ok (.bl (decide (a<=b)),false):=rfl
theorem xGe{a b:Int}:GJ (.int a) (.int b)=.ok (.bl (decide (b<=a)),false):=rfl
theorem abd{a b:Int}(h:dG a b=true):lC (.int a) (.int b)=.ok (.int (a*b),false):=if_pos h
theorem cMr{a b:Int}(h : -18446744073709551616<b/\b<18446744073709551616):dG a b=true:=by
 have h:tiny b=true:=by unfold tiny; rw[decide_eq_true h.1,decide_eq_true h.2]; rfl
 unfold dG
 rw[h,Bool.or_true]
theorem cMl{a b:Int}(h : -18446744073709551616<a/\a<18446744073709551616):dG a b=true:=by
 have h:tiny a=true:=by unfold tiny; rw[decide_eq_true h.1,decide_eq_true h.2]; rfl
 unfold dG
 rw[h,Bool.or_true,Bool.true_or]
theorem Nq{a b:Int}(h:0<b)(k:b<2 ^ 64):jd a b=true:=by
 unfold jd
 rw[decide_eq_true (show b≠0 by omega),Bool.true_and,decide_eq_true_eq]
 have:=(Nat.log2_lt (n:=b.natAbs) (k:=64) (by omega)).mpr (by omega)
 omega
theorem Nm{a b:Int}(h:jd a b=true):zW (.int a) (.int b)=.ok (.int (a.fdiv b),false):=if_pos h
theorem abb{a b:Int}(h:b≠0):Gy (.int a) (.int b)=.ok (.int (a.fmod b),false):=if_pos (decide_eq_true h)
theorem xEq{a b:Int}:ji (.int a) (.int b)=.ok (.bl (decide (a=b)),false):=by
 have d:∀i,dep (.int i)=0:=λi=>by unfold dep; rfl
 refine(if_pos ⟨by rw[d]; omega,by rw[d]; omega⟩).trans ?_
 rfl
theorem DK{a b:Int}:gJ (.int a) (.int b)=.ok (.bl (!decide (a=b)),false):=by
 have d:∀i,dep (.int i)=0:=λi=>by unfold dep; rfl
 refine(if_pos ⟨by rw[d]; omega,by rw[d]; omega⟩).trans ?_
 rfl
theorem xAb{a:Int}(h:0<=a):vH (.int a)=.ok (.int a,false):=by
 show Rs.ok (Tr.int (if a<0 then -a else a),false)=_
 rw[if_neg (by omega)]
theorem jO{a b:Str}(h:(a == b)=false):ji (.str a) (.str b)=.ok (.bl false,false):=by
 have d:∀i,dep (.str i)=0:=λi=>by unfold dep; rfl
 refine(if_pos ⟨by rw[d]; omega,by rw[d]; omega⟩).trans ?_
 show Rs.ok (Tr.bl (a == b),false)=_
 rw[h]
theorem DN{a:Str}:ji (.str a) (.str a)=.ok (.bl true,false):=by
 have d:∀i,dep (.str i)=0:=λi=>by unfold dep; rfl
 refine(if_pos ⟨by rw[d]; omega,by rw[d]; omega⟩).trans ?_
 show Rs.ok (Tr.bl (a == a),false)=_
 rw[beq_self_eq_true]
theorem xSN{a b:Str}(h:(a == b)=false):gJ (.str a) (.str b)=.ok (.bl true,false):=by
 have d:∀i,dep (.str i)=0:=λi=>by unfold dep; rfl
 refine(if_pos ⟨by rw[d]; omega,by rw[d]; omega⟩).trans ?_
 show Rs.ok (Tr.bl (!(a == b)),false)=_
 rw[h]
 rfl
theorem xSn{a:Str}:gJ (.str a) (.str a)=.ok (.bl false,false):=by
 have d:∀i,dep (.str i)=0:=λi=>by unfold dep; rfl
 refine(if_pos ⟨by rw[d]; omega,by rw[d]; omega⟩).trans ?_
 show Rs.ok (Tr.bl (!(a == a)),false)=_
 rw[beq_self_eq_true]
 rfl
theorem xLL:eY (.lst ts)=.ok (.int ts.length,false):=rfl
theorem DP{β : Type}{h : β -> Tr}{l:List β}:eY (.lst (l.map h))=.ok (.int l.length,false):=by rw[<-List.length_map (as:=l) h]; rfl
theorem xLT:eY (.tup ts)=.ok (.int ts.length,false):=rfl
theorem xNb(h:b=false):(!b)=true:=by rw[h]; rfl
theorem xNB(h:b=true):(!b)=false:=by rw[h]; rfl
section
variable {a0 a1 a2 a3 a4 a5 a6 a7 a8 a9 a10 a11 a12 a13 a14:Sl}{l:En}
theorem st0:(a0::l).set 0 S=S::l:=rfl
theorem st1:(a0::a1::l).set 1 S=a0::S::l:=rfl
theorem st2:(a0::a1::a2::l).set 2 S=a0::a1::S::l:=rfl
theorem st3:(a0::a1::a2::a3::l).set 3 S=a0::a1::a2::S::l:=rfl
theorem qe:(a0::a1::a2::a3::a4::l).set 4 S=a0::a1::a2::a3::S::l:=rfl
theorem iu:(a0::a1::a2::a3::a4::a5::l).set 5 S=a0::a1::a2::a3::a4::S::l:=rfl
theorem st6:(a0::a1::a2::a3::a4::a5::a6::l).set 6 S=a0::a1::a2::a3::a4::a5::S::l:=rfl
theorem gq:(a0::a1::a2::a3::a4::a5::a6::a7::l).set 7 S=a0::a1::a2::a3::a4::a5::a6::S::l:=rfl
theorem st8{m:Nat}{l':En}(h:l.set m S=l'):(a0::a1::a2::a3::a4::a5::a6::a7::l).set (m+8) S=a0::a1::a2::a3::a4::a5::a6::a7::l':=h▸rfl
end
end
end L2
end
section
namespace BH
open PySem L2
noncomputable abbrev V8:=(bC (sN (sW (JL 1) (tK (aQ lU (aj 1) (vC (.int 0)))) (b1 (T6 0 1 (ak (aj 1) (ak (fQ (aj 0) (aj 1)) ao)))))) (b1 (aH (JW (ak (aj 0) ao)))))
noncomputable abbrev agL:SF:=by exists V8
noncomputable def V9:FP:=aP 2 agL
noncomputable abbrev Kc{f:AF}(a:VA f):=vF "common_divisor" ["one", "other"] V9 1 a
noncomputable abbrev Wa:=(bC (sI (tK (aQ fD (aj 1) (vC (.int 0)))) (b1 (wK "NoBottom" (vC (.str "a fraction has no bottom of 0")))) b0) (bC (sA 2 (aE (Kc (ak (aj 0) (ak (aj 1) ao))))) (bC (sI (tK (aQ lV (aj 1) (vC (.int 0)))) (b1 (sA 2 (aE (Ht (aj 2))))) b0) (b1 (aH (dN (ak (jM (aj 0) (aj 2)) (ak (jM (aj 1) (aj 2)) ao))))))))
noncomputable abbrev agM:SF:=by exists Wa
noncomputable def Wb:FP:=aP 3 agM
noncomputable abbrev Wc{f:AF}(a:VA f):=vF "fraction_of" ["top", "bottom"] Wb 2 a
noncomputable abbrev Wd:=(b1 (aH (Wc (ak (cY (cN (aq (aj 0) (vC (.int 0))) (aq (aj 1) (vC (.int 1)))) (cN (aq (aj 1) (vC (.int 0))) (aq (aj 0) (vC (.int 1))))) (ak (cN (aq (aj 0) (vC (.int 1))) (aq (aj 1) (vC (.int 1)))) ao)))))
noncomputable abbrev agN:SF:=by exists Wd
noncomputable def Wf:FP:=aP 2 agN
noncomputable abbrev agO{f:AF}(a:VA f):=vF "frac_sum" ["one", "other"] Wf 3 a
noncomputable abbrev Wg:=(b1 (aH (Wc (ak (cN (aq (aj 0) (vC (.int 0))) (aq (aj 1) (vC (.int 0)))) (ak (cN (aq (aj 0) (vC (.int 1))) (aq (aj 1) (vC (.int 1)))) ao)))))
noncomputable abbrev agP:SF:=by exists Wg
noncomputable def CK:FP:=aP 2 agP
noncomputable abbrev CN{f:AF}(a:VA f):=vF "frac_times" ["one", "other"] CK 3 a
noncomputable abbrev Wh:=(b1 (aH (vK (aQ lV (cN (aq (aj 0) (vC (.int 0))) (aq (aj 1) (vC (.int 1)))) (cN (aq (aj 1) (vC (.int 0))) (aq (aj 0) (vC (.int 1))))))))
noncomputable abbrev agQ:SF:=by exists Wh
noncomputable def Wi:FP:=aP 2 agQ
noncomputable abbrev agR{f:AF}(a:VA f):=vF "frac_below" ["one", "other"] Wi 1 a
noncomputable abbrev Wj:=(b1 (aH (vV .And (uA (agD (aj 0)) (u1 .And (SQ (Vt (aj 0))))))))
noncomputable abbrev agS:SF:=by exists Wj
noncomputable def Wk:FP:=aP 1 agS
noncomputable abbrev xX{f:AF}(a:VA f):=vF "is_whole" ["thing"] Wk 1 a
noncomputable abbrev Wl:=(bC (sI (tW .Or (wO (dX (cW (xP (aj 0)))) (w1 .Or (tK (aQ lU (aZ (ak (aj 0) ao)) (vC (.int 2))))))) (b1 (aH (vC (.bl false)))) b0) (bC (wJ (aj 0) (iK 2 (bW (gV 1) (bW (gV 2) iJ)))) (bC (sI (tW .Or (wO (dX (cW (xX (ak (aj 1) ao)))) (w1 .Or (dX (cW (xX (ak (aj 2) ao))))))) (b1 (aH (vC (.bl false)))) b0) (b1 (aH (vV .And (uA (vK (aQ JT (aj 2) (vC (.int 1)))) (u1 .And (vK (aQ fD (Kc (ak (aj 1) (ak (aj 2) ao))) (vC (.int 1))))))))))))
noncomputable abbrev agT:SF:=by exists Wl
noncomputable def Wm:FP:=aP 3 agT
noncomputable abbrev Wn{f:AF}(a:VA f):=vF "is_fraction" ["thing"] Wm 2 a
noncomputable abbrev Wq:=(b1 (aH (vV .And (uA (Wn (ak (aj 0) ao)) (u1 .And (vK (tH kj kj (vC (.int 0)) (aq (aj 0) (vC (.int 0))) (aq (aj 0) (vC (.int 1))))))))))
noncomputable abbrev agU:SF:=by exists Wq
noncomputable def Ws:FP:=aP 1 agU
noncomputable abbrev agV{f:AF}(a:VA f):=vF "is_worth" ["thing"] Ws 3 a
noncomputable abbrev Wt:=(bC (sI (tW .Or (wO (dX (cW (JX (aj 0)))) (w1 .Or (dX (tK (tH kj kj (vC (.int 1)) (aZ (ak (aj 0) ao)) (aj 1))))))) (b1 (aH (vC (.bl false)))) b0) (b1 (aH (Cw (ak (jk (cC [none] ["part"] (bY (aj 0)) (gV 0) (agV (ak (aj 0) ao)))) ao)))))
noncomputable abbrev agW:SF:=by exists Wt
noncomputable def Wu:FP:=aP 2 agW
noncomputable abbrev agX{f:AF}(a:VA f):=vF "are_worths" ["thing", "most"] Wu 4 a
noncomputable abbrev Ww:=(bC (sI (tW .Or (wO (dX (cW (JX (aj 0)))) (w1 .Or (dX (tK (tH kj kj (vC (.int 1)) (aZ (ak (aj 0) ao)) (vG "MOST_LISTS" (.int 4)))))))) (b1 (aH (vC (.bl false)))) b0) (bC (sI (dX (cW (Cw (ak (jk (cC [none] ["row"] (bY (aj 0)) (gV 0) (agX (ak (aj 0) (ak (vG "MOST_THINGS" (.int 12)) ao))))) ao)))) (b1 (aH (vC (.bl false)))) b0) (b1 (aH (Cw (ak (jk (cC [none,some 0] ["row", "thing"] (bY (aj 0)) (gV 0) (vK (aQ fD (aZ (ak (aj 0) ao)) (aZ (ak (aq (aj 1) (vC (.int 0))) ao)))))) ao))))))
noncomputable abbrev agY:SF:=by exists Ww
noncomputable def Wx:FP:=aP 1 agY
noncomputable abbrev agZ{f:AF}(a:VA f):=vF "is_book" ["thing"] Wx 5 a
noncomputable abbrev Wy:=(bC (sA 1 (aE (vC (.int 1)))) (bC (sN (sF (bY (aj 0)) (iK 2 (bW (gV 2) (bW (gV 3) iJ))) (b1 (sA 1 (aE (jM (cN (aj 1) (aj 3)) (Kc (ak (aj 1) (ak (aj 3) ao))))))))) (b1 (aH (aj 1)))))
noncomputable abbrev ag0:SF:=by exists Wy
noncomputable def Wz:FP:=aP 4 ag0
noncomputable abbrev Kd{f:AF}(a:VA f):=vF "common_bottom" ["fractions"] Wz 2 a
noncomputable abbrev WK:=(bC (sA 1 (aE (Kd (ak (aj 0) ao)))) (b1 (aH (jk (cC [none,none,some 1] ["top", "own", "bottom"] (bY (aj 0)) (iK 2 (bW (gV 0) (bW (gV 1) iJ))) (cN (aj 0) (jM (aj 2) (aj 1))))))))
noncomputable abbrev ag1:SF:=by exists WK
noncomputable def Kf:FP:=aP 2 ag1
noncomputable abbrev Kg{f:AF}(a:VA f):=vF "tops_on_one_bottom" ["fractions"] Kf 3 a
noncomputable abbrev WL:=(bC (sA 1 (aE (Kg (ak (aj 0) ao)))) (b1 (aH (Va kyI "falling_places" "place" ["tops"] [some 1] (ak (aZ (ak (aj 1) ao)) ao) (Jw (Jv (uq 1) (uq 0)))))))
noncomputable abbrev ag2:SF:=by exists WL
noncomputable def uz:FP:=aP 2 ag2
noncomputable abbrev nY{f:AF}(a:VA f):=vF "falling_places" ["fractions"] uz 4 a
noncomputable abbrev ag3:=(b1 (aH (vV .And (uA (xX (ak (aj 0) ao)) (u1 .And (vK (tH kj lV (vC (.int 0)) (aj 0) (aj 1))))))))
noncomputable abbrev ag4:SF:=by exists ag3
noncomputable def WM:FP:=aP 2 ag4
noncomputable abbrev ag5{f:AF}(a:VA f):=vF "is_place" ["thing", "many"] WM 2 a
noncomputable abbrev WQ:=(b1 (sI (dX (cW (agZ (ak (aj 0) ao)))) (b1 (wK "NoBook" (vC (.str "this is no book")))) b0))
noncomputable abbrev ag6:SF:=by exists WQ
noncomputable def WR:FP:=aP 1 ag6
noncomputable abbrev WT{f:AF}(a:VA f):=vF "need_book" ["book"] WR 6 a
noncomputable abbrev ag7:=(b1 (sI (dX (cW (ag5 (ak (aj 1) (ak (aZ (ak (aj 0) ao)) ao))))) (b1 (wK "NoList" (vC (.str "the book has no list of this number")))) b0))
noncomputable abbrev ag8:SF:=by exists ag7
noncomputable def WW:FP:=aP 2 ag8
noncomputable abbrev ag9{f:AF}(a:VA f):=vF "need_list" ["book", "place"] WW 3 a
noncomputable abbrev aha:=(bC (eO (WT (ak (aj 0) ao))) (bC (eO (ag9 (ak (aj 0) (ak (aj 1) ao)))) (b1 (aH (nY (ak (aq (aj 0) (aj 1)) ao))))))
noncomputable abbrev ahb:SF:=by exists aha
noncomputable def ahc:FP:=aP 2 ahb
noncomputable abbrev WX:=(bC (sI (tW .Or (wO (dX (cW (JX (aj 0)))) (w1 .Or (tK (aQ lU (aZ (ak (aj 0) ao)) (aj 1)))))) (b1 (aH (vC (.bl false)))) b0) (b1 (aH (Cw (ak (jk (cC [none] ["part"] (bY (aj 0)) (gV 0) (vV .And (uA (Wn (ak (aj 0) ao)) (u1 .And (vK (aQ JT (aq (aj 0) (vC (.int 0))) (vC (.int 0))))))))) ao)))))
noncomputable abbrev ahd:SF:=by exists WX
noncomputable def WY:FP:=aP 2 ahd
noncomputable abbrev ahe{f:AF}(a:VA f):=vF "are_weights" ["thing", "many"] WY 3 a
noncomputable abbrev W0:=(bC (sI (dX (cW (xP (aj 0)))) (b1 (aH (vC (.bl false)))) b0) (bC (sI (tK (aQ lU (aZ (ak (aj 0) ao)) (vC (.int 2)))) (b1 (aH (vK (aQ JV (aj 0) (vG "BARE_RULES" (.tup [(.tup [(.str "least")]),(.tup [(.str "greatest")]),(.tup [(.str "product")])])))))) b0) (bC (wJ (aj 0) (iK 2 (bW (gV 2) (bW (gV 3) iJ)))) (bC (sI (tK (aQ fD (aj 2) (vC (.str "shares")))) (b1 (aH (ahe (ak (aj 3) (ak (aj 1) ao))))) b0) (b1 (aH (vV .And (uA (vK (aQ fD (aj 2) (vC (.str "middle")))) (uA (xX (ak (aj 3) ao)) (u1 .And (vK (tH kj kj (vC (.int 1)) (aj 3) (aj 1)))))))))))))
noncomputable abbrev ahf:SF:=by exists W0
noncomputable def W2:FP:=aP 4 ahf
noncomputable abbrev ahg{f:AF}(a:VA f):=vF "is_rule" ["thing", "many"] W2 4 a
noncomputable abbrev W3:=(bC (sA 2 (aE (lM [.int 0,.int 1]))) (bC (sN (sF (iZ (ak (aj 0) (ak (aj 1) ao))) (iK 2 (bW (gV 3) (bW (gV 4) iJ))) (b1 (sA 2 (aE (agO (ak (aj 2) (ak (CN (ak (aj 3) (ak (aj 4) ao))) ao)))))))) (b1 (aH (aj 2)))))
noncomputable abbrev ahh:SF:=by exists W3
noncomputable def W4:FP:=aP 5 ahh
noncomputable abbrev ahi{f:AF}(a:VA f):=vF "shares_worth" ["weights", "worths"] W4 4 a
noncomputable abbrev W5:=(bC (sA 1 (aE (lM [.int 1,.int 1]))) (bC (sN (sF (bY (aj 0)) (gV 2) (b1 (sA 1 (aE (CN (ak (aj 1) (ak (aj 2) ao)))))))) (b1 (aH (aj 1)))))
noncomputable abbrev ahj:SF:=by exists W5
noncomputable def W6:FP:=aP 3 ahj
noncomputable abbrev ahk{f:AF}(a:VA f):=vF "product_worth" ["worths"] W6 4 a
noncomputable abbrev W7:=(bC (sI (tK (aQ fD (aq (aj 0) (vC (.int 0))) (vC (.str "greatest")))) (b1 (aH (vC (.int 1)))) b0) (bC (sI (tK (aQ fD (aq (aj 0) (vC (.int 0))) (vC (.str "least")))) (b1 (aH (aj 1))) b0) (b1 (aH (aq (aj 0) (vC (.int 1)))))))
noncomputable abbrev ahl:SF:=by exists W7
noncomputable def W8:FP:=aP 2 ahl
noncomputable abbrev ahm{f:AF}(a:VA f):=vF "place_of" ["rule", "many"] W8 1 a
noncomputable abbrev W9:=(bC (sI (tK (aQ fD (aq (aj 0) (vC (.int 0))) (vC (.str "shares")))) (b1 (aH (ahi (ak (aq (aj 0) (vC (.int 1))) (ak (aj 1) ao))))) b0) (bC (sI (tK (aQ fD (aq (aj 0) (vC (.int 0))) (vC (.str "product")))) (b1 (aH (ahk (ak (aj 1) ao)))) b0) (b1 (aH (aq (aj 1) (aq (nY (ak (aj 1) ao)) (rD (ahm (ak (aj 0) (ak (aZ (ak (aj 1) ao)) ao))) (vC (.int 1)))))))))
noncomputable abbrev ahn:SF:=by exists W9
noncomputable def iR:FP:=aP 2 ahn
noncomputable abbrev Xa{f:AF}(a:VA f):=vF "worth_by" ["rule", "worths"] iR 5 a
noncomputable abbrev Xb:=(bC (eO (WT (ak (aj 0) ao))) (b1 (sI (dX (cW (ahg (ak (aj 1) (ak (aZ (ak (aj 0) ao)) ao))))) (b1 (wK "NoRule" (vC (.str "this is no rule for the book's lists")))) b0)))
noncomputable abbrev aho:SF:=by exists Xb
noncomputable def Xc:FP:=aP 2 aho
noncomputable abbrev ahp{f:AF}(a:VA f):=vF "need_book_and_rule" ["book", "rule"] Xc 7 a
noncomputable abbrev Xd:=(b1 (aH (jk (cC [none,some 1] ["row", "thing"] (bY (aj 0)) (gV 0) (aq (aj 0) (aj 1))))))
noncomputable abbrev ahq:SF:=by exists Xd
noncomputable def Xe:FP:=aP 2 ahq
noncomputable abbrev ahr{f:AF}(a:VA f):=vF "worths_of" ["book", "thing"] Xe 1 a
noncomputable abbrev Xf:=(b1 (aH (vV .And (uA (xX (ak (aj 0) ao)) (u1 .And (vK (tH kj kj (vC (.int 0)) (aj 0) (aj 1))))))))
noncomputable abbrev ahs:SF:=by exists Xf
noncomputable def Xg:FP:=aP 2 ahs
noncomputable abbrev aht{f:AF}(a:VA f):=vF "is_count" ["thing", "many"] Xg 2 a
noncomputable abbrev Xh:=(b1 (sI (dX (cW (aht (ak (aj 1) (ak (aZ (ak (aq (aj 0) (vC (.int 0))) ao)) ao))))) (b1 (wK "NoCount" (vC (.str "this is no count of the book's things")))) b0))
noncomputable abbrev ahu:SF:=by exists Xh
noncomputable def Xi:FP:=aP 2 ahu
noncomputable abbrev ahv{f:AF}(a:VA f):=vF "need_count" ["book", "count"] Xi 3 a
noncomputable abbrev Xj:=(bC (eO (ahp (ak (aj 0) (ak (aj 1) ao)))) (b1 (eO (ahv (ak (aj 0) (ak (aj 2) ao))))))
noncomputable abbrev ahw:SF:=by exists Xj
noncomputable def Xk:FP:=aP 3 ahw
noncomputable abbrev Xl{f:AF}(a:VA f):=vF "need_book_rule_and_count" ["book", "rule", "count"] Xk 8 a
noncomputable abbrev Xm:=(b1 (aH (jk (cC [none] ["row"] (bY (aj 0)) (gV 0) (nY (ak (aj 0) ao))))))
noncomputable abbrev ahx:SF:=by exists Xm
noncomputable def Xn:FP:=aP 1 ahx
noncomputable abbrev Xo{f:AF}(a:VA f):=vF "read_orders" ["book"] Xn 5 a
noncomputable abbrev Xp:=(bC (wJ (aj 1) (iK 2 (bW (gV 2) (bW (gV 3) iJ)))) (bC (sCd 4 [none] ["row"] (bY (aj 0)) (gV 0) (cN (wk [.non]) (aZ (ak (aj 0) ao)))) (bC (sN (sF (iEn (ak (Xo (ak (aj 0) ao)) ao)) (iK 2 (bW (gV 5) (bW (gV 6) iJ))) (b1 (sF (bY (tQ (aj 6) oN (oS (aq (aj 2) (aj 5))))) (gV 7) (b1 (Vg 4 5 7 (aq (aq (aj 0) (aj 5)) (aj 7)))))))) (bC (sN (sF (bY (aj 3)) (iK 2 (bW (gV 5) (bW (gV 7) iJ))) (b1 (Vg 4 5 7 (aq (aq (aj 0) (aj 5)) (aj 7)))))) (b1 (sD 4 (aH (aj 4))))))))
noncomputable abbrev ahy:SF:=by exists Xp
noncomputable def Xq:FP:=aP 8 ahy
noncomputable abbrev ahz{f:AF}(a:VA f):=vF "seen_by" ["book", "looks"] Xq 6 a
noncomputable abbrev Xr:=(bC (sO 3 (aE (cA ao))) (bC (sN (sF (eU (ak (aZ (ak (aq (aj 1) (vC (.int 0))) ao)) ao)) (gV 4) (bC (sA 5 (aE (ahr (ak (aj 1) (ak (aj 4) ao))))) (bC (sA 6 (cC [none] ["worth"] (bY (aj 5)) (gV 0) (Az (tK (aQ pU (aj 0) (vC .non))) (vG "NOTHING" (.tup [(.int 0),(.int 1)])) (aj 0)))) (bC (sA 7 (cC [none,none] ["worth", "last"] (iZ (ak (aj 5) (ak (aj 2) ao))) (iK 2 (bW (gV 0) (bW (gV 1) iJ))) (Az (tK (aQ pU (aj 0) (vC .non))) (aj 1) (aj 0)))) (b1 (eO (lW 3 (ak (dN (ak (Xa (ak (aj 0) (ak (aj 6) ao))) (ak (Xa (ak (aj 0) (ak (aj 7) ao))) ao))) ao))))))))) (b1 (aH (aj 3)))))
noncomputable abbrev ahA:SF:=by exists Xr
noncomputable def Xu:FP:=aP 8 ahA
noncomputable abbrev ahC{f:AF}(a:VA f):=vF "bounds_by" ["rule", "seen", "lasts"] Xu 6 a
noncomputable abbrev Xv:=(bC (sA 2 (Ji [none,some 1] ["thing", "things"] (eU (ak (aZ (ak (aj 0) ao)) ao)) (gV 0) (tK (aQ Vq (aj 0) (aj 1))) (aj 0))) (bC (sI (tW .Or (wO (dX (cW (aj 1))) (w1 .Or (dX (cW (aj 2)))))) (b1 (aH (vC .non))) b0) (bC (sA 3 (cC [none,some 0] ["thing", "bounds"] (bY (aj 1)) (gV 0) (aq (aq (aj 1) (aj 0)) (vC (.int 0))))) (bC (sA 4 (cC [none,some 0] ["thing", "bounds"] (bY (aj 2)) (gV 0) (aq (aq (aj 1) (aj 0)) (vC (.int 1))))) (b1 (aH (dN (ak (aq (aj 1) (aq (nY (ak (aj 3) ao)) (Ht (vC (.int 1))))) (ak (aq (aj 2) (aq (nY (ak (aj 4) ao)) (vC (.int 0)))) ao)))))))))
noncomputable abbrev ahD:SF:=by exists Xv
noncomputable def Xw:FP:=aP 5 ahD
noncomputable abbrev ahE{f:AF}(a:VA f):=vF "weakest_and_rival" ["bounds", "things"] Xw 5 a
noncomputable abbrev Xx:=(bC (sA 2 (aE (ahE (ak (aj 0) (ak (aj 1) ao))))) (bC (sI (tK (aQ pU (aj 2) (vC .non))) (b1 (aH (vC (.bl true)))) b0) (bC (wJ (aj 2) (iK 2 (bW (gV 3) (bW (gV 4) iJ)))) (b1 (aH (SQ (agR (ak (aq (aq (aj 0) (aj 3)) (vC (.int 0))) (ak (aq (aq (aj 0) (aj 4)) (vC (.int 1))) ao)))))))))
noncomputable abbrev ahF:SF:=by exists Xx
noncomputable def CP:FP:=aP 5 ahF
noncomputable abbrev ahG{f:AF}(a:VA f):=vF "are_sure" ["bounds", "things"] CP 6 a
noncomputable abbrev Xy:=(bC (sA 3 (Ji [none,some 1,some 2] ["place", "depths", "many"] (bY (nY (ak (aj 0) ao))) (gV 0) (tK (aQ lV (aq (aj 1) (aj 0)) (aj 2))) (aj 0))) (b1 (aH (aq (aj 3) (vC (.int 0))))))
noncomputable abbrev ahH:SF:=by exists Xy
noncomputable def CQ:FP:=aP 4 ahH
noncomputable abbrev ahI{f:AF}(a:VA f):=vF "most_hopeful" ["lasts", "depths", "many"] CQ 5 a
noncomputable def fT(x:Int × Int):Tr:=.tup [.int x.1,.int x.2]
noncomputable def aJ(l:LZ):Tr:=.lst (l.map fT)
noncomputable def aU(ls:List (LZ)):Tr:=.lst (ls.map aJ)
def Wo(x:Int × Int):Prop:=0<=x.1/\x.1<=x.2/\1<=x.2/\x.2<=1000000000000/\Int.gcd x.1 x.2=1
noncomputable instance (x:Int × Int):Decidable (Wo x):=by unfold Wo; infer_instance
def Shp(c:Nat)(ls:List (LZ)):Prop:=∀l∈ls,l.length=c/\∀x∈l,Wo x
def Bk(c:Nat)(ls:List (LZ)):Prop:=1<=ls.length/\ls.length<=4/\1<=c/\c<=12/\Shp c ls
theorem Xz{k:Int}{M:Nat}(h:k.natAbs<2 ^ M)(hM:M<=8900):k.natAbs.log2<9000:=by
 by_cases z:k.natAbs=0
 .rw[z]; decide
 .have:=(Nat.log2_lt (n:=k.natAbs) (k:=M) z).mpr h
  lia
theorem XC(h:k.natAbs<2 ^ M)(hM:M<=8900):fit k=true:=by
 have:=Xz h hM
 unfold fit
 rw[decide_eq_true_eq]
 lia
theorem lZ(h1:i.natAbs<2 ^ M)(hM:M<=8900)(h2:j.natAbs<2 ^ N)(hN:N<=8900):dG i j=true:=by
 unfold dG
 rw[XC h1 hM,XC h2 hN]
 rfl
theorem CT(h0:j≠0)(h:j.natAbs<2 ^ M)(hM:M<=8900):jd i j=true:=by
 unfold jd
 rw[Bool.and_eq_true,decide_eq_true_eq,decide_eq_true_eq]
 exact⟨h0,Xz h hM⟩
theorem iU(M:Nat):((2 ^ M:Nat):Int)=2 ^ M:=by push_cast; rfl
theorem nZ{xs:List Tr}{i:Nat}(h:xs[i]?=some T):aW (.lst xs) (.int i)=.ok (T,false):=by
 obtain⟨hi,e⟩:=List.getElem?_eq_some_iff.mp h
 show(match cR xs i with
  |some t=>Rs.ok (t,false)
  |none=>.bad)=_
 have:cR xs (i:Int)=some T:=by
  unfold cR fM
  simp[hi,e]
 rw[this]
theorem mq{xs:List Tr}{i:Nat}(h:xs[i]?=some T):aW (.lst xs) (.int i)=.ok (T,false):=nZ h
theorem qj{l:LZ}{i:Nat}(h:i<l.length):aW (aJ l) (.int i)=.ok (fT (l.getD i (0,1)),false):=nZ (by simp[h])
theorem oH(rows:List (LZ)):eY (aU rows)=.ok (.int (rows.length:Nat),false):=by
 show Rs.ok (Tr.int ((rows.map aJ).length:Int),false)=_
 rw[List.length_map]
theorem XD(h:rows[k]?=some l):aW (aU rows) (.int (k:Nat))=.ok (aJ l,false):=mq (by rw[List.getElem?_map,h]; rfl)
theorem oJ(l:LZ):eY (aJ l)=.ok (.int (l.length:Nat),false):=by
 show Rs.ok (Tr.int ((l.map fT).length:Int),false)=_
 rw[List.length_map]
theorem XF{α : Type}{p : α -> Bool}:∀xs:List α,vI (xs.map λx=>.bl (p x))=some (xs.map p)
 | []=>rfl
 |x::xs=>by simp[vI,XF xs]
theorem all_true{α : Type}(xs:List α):tu (.lst (xs.map λ_=>Tr.bl true))=.ok (.bl true,false):=by
 have e:=XF (p:=λ_=>true) xs
 unfold tu
 simp -dsimp[e]
theorem Kh(a b:Int):V9 [.int a,.int b]=.ok (.int (Int.gcd a b:Nat),false):=by
 walk_at "d"
 refine xV [] (λs:Int × Int=>[(0,.sh (.int s.1)),(1,.sh (.int s.2))]) (λs=>Int.gcd s.1 s.2=Int.gcd a b) (λs=>s.2.natAbs) (a,b) rfl rfl (by show b.natAbs<b.natAbs+1; lia) ?_
 rintro v ⟨x,y⟩ h
 dsimp only[pt,List.map,List.set]at *
 by_cases z:y=0
 .subst z
  have e:vH (.int x)=.ok (.int (Int.gcd a b:Nat),false):=by
   rw[<-h]
   exact congrArg (λi=>Rs.ok (Tr.int i,false)) (adV x)
  apply kO
  walk_at "r"
 .have e:gJ (.int y) (.int 0)=.ok (.bl true,false):=by rw[DK,decide_eq_false z]; rfl
  apply kO
  walk_at "r"
  exact⟨(y,x.fmod y),by rw[<-h]; exact Rw ..,Rr x y z,λ_=>.un,rfl⟩
theorem xY{i:Int}:Wk [.int i]=.ok (.bl true,false):=rfl
theorem XH{x:Int × Int}(h1:1<=x.2)(h2:Int.gcd x.1 x.2=1):Wm [fT x]=.ok (.bl true,false):=by
 have e:=Kh x.1 x.2
 rw[h2]at e
 have w1:=xY (i:=x.1)
 have w2:=xY (i:=x.2)
 walk_at "d"
theorem ahJ{x:Int × Int}(h:Wo x):Ws [fT x]=.ok (.bl true,false):=by
 obtain⟨h1,h2,h3,h4,h5⟩:=h
 have e:=XH h3 h5
 walk_at "d"
 exact congrArg (λb=>Rs.ok (Tr.bl b,false)) (decide_eq_true h2)
theorem ahK{l:LZ}{m:Int}(h:∀x∈l,Wo x)(h1:1<=l.length)(h2:l.length<=m)(hm:m<=1000):Wu [aJ l,.int m]=.ok (.bl true,false):=by
 have e:=oJ l
 have t:sG (aJ l) .list=true:=rfl
 walk_at "d"
 exact ahJ (h x hx)
 walk_at "r"
 exact all_true l
 walk_at "r"
theorem ahL{m:Nat}{rows:List (LZ)}(hB:Bk m rows):Wx [aU rows]=.ok (.bl true,false):=by
 obtain⟨b1,b2,b3,b4,b5⟩:=hB
 have e:=oH rows
 have hl:rows[0]?=some rows[0]:=List.getElem?_eq_getElem b1
 have e0:aW (aU rows) (.int 0)=.ok (aJ rows[0],false):=XD hl
 have el0:=oJ rows[0]
 rw[(b5 _ (List.mem_of_getElem? hl)).1]at el0
 walk_at "d"
 exact ahK (b5 x hx).2 (by rw[(b5 x hx).1]; exact b3) (by rw[(b5 x hx).1]; lia) (by lia)
 walk_at "r"
 exact all_true rows
 walk_at "r"
 rw[List.map_congr_left (g:=λ_=>Tr.bl true) λx hx=>by(try rw[List.length_map]); rw[(b5 x hx).1,decide_eq_true rfl]]
 exact all_true rows
 walk_at "r"
theorem XJ{m:Nat}{rows:List (LZ)}(hB:Bk m rows):WR [aU rows]=.ok (.non,false):=by
 have e:=ahL hB
 walk_at "d"
theorem ahM(k n:Int):WM [.int k,.int n]=.ok (.bl (decide (0<=k)&&decide (k<n)),false):=by
 have w:=xY (i:=k)
 by_cases h:0<=k
 .rw[decide_eq_true h]
  walk_at "d"
 .rw[decide_eq_false h]
  walk_at "d"
theorem ahN{rows:List (LZ)}{k:Nat}(h:k<rows.length):WW [aU rows,.int k]=.ok (.non,false):=by
 have l:=oH rows
 have e:=ahM k rows.length
 rw[decide_eq_true (by lia),decide_eq_true (by lia)]at e
 walk_at "d"
def Frs(N:Nat)(l:LZ):Prop:=∀x∈l,1<=x.2/\x.2<2 ^ N/\x.1.natAbs<2 ^ N
theorem ahO{B q:Int}(hB:1<=B)(hq:1<=q):let B':=(B*q).fdiv ((Int.gcd B q:Nat):Int); 1<=B'/\B∣B'/\q∣B'/\B'<=B*q/\∀D,B∣D->q∣D->B'∣D:=by
 have g0:0<Int.gcd B q:=Int.gcd_pos_of_ne_zero_left _ (by lia)
 have p:=Int.mul_pos (a:=B) (b:=q) (by lia) (by lia)
 have m:=Int.gcd_mul_lcm B q
 rw[<-Int.natAbs_mul]at m
 have e:B*q=((Int.gcd B q:Nat):Int)*(Int.lcm B q:Nat):=by rw[<-Int.natCast_mul,m]; lia
 have f:(B*q).fdiv ((Int.gcd B q:Nat):Int)=(Int.lcm B q:Nat):=by
  rw[Int.fdiv_eq_ediv_of_nonneg _ (by lia),e]
  exact Int.mul_ediv_cancel_left _ (by lia)
 dsimp only
 rw[f]
 have:=Int.lcm_pos (m:=B) (n:=q) (by lia) (by lia)
 refine⟨by lia,Int.dvd_lcm_left ..,Int.dvd_lcm_right ..,?_,λD=>Int.coe_lcm_dvd⟩
 rw[<-f,Int.fdiv_eq_ediv_of_nonneg _ (by lia)]
 exact Int.ediv_le_self _ (by lia)
theorem Km{N:Nat}(l:LZ)(h:Frs N l)(hl:1+N*l.length<=8900)(hN:N<=8900):∃z,Wz [.lst (l.map fT)]=.ok z/\∃B:Int,(1<=B/\B<2 ^ (1+N*l.length)/\(∀x∈l,x.2∣B)/\∀D,(∀x∈l,x.2∣D)->B∣D)/\z=(.int B,false):=by
 walk_at "e"
 refine kE [2,3] (λB:Int=>[(1,.sh (.int B))]) (λk B=>1<=B/\B<2 ^ (1+N*k)/\(∀x∈l.take k,x.2∣B)/\∀D,(∀x∈l.take k,x.2∣D)->B∣D) 1 ⟨Int.le_refl _,by rw[Nat.mul_zero]; decide,λx hx=>(by cases hx),λD _=>Int.one_dvd _⟩ rfl (λk x v B hx hB=>?_) λv B hB=>?_
 .obtain⟨h1,h2,h3,h4⟩:=hB
  have hk:=(List.getElem?_eq_some_iff.mp hx).1
  obtain⟨a1,a2,_⟩:=h x (List.mem_of_getElem? hx)
  obtain⟨b1,b2,b3,b4,b5⟩:=ahO h1 a1
  have tk:l.take (k+1)=l.take k++[x]:=by rw[List.take_add_one,hx]; rfl
  have hle:1+N*k<=8900:=by
   have:=Nat.mul_le_mul_left N (Nat.le_of_lt hk)
   lia
  have n1:=iU (1+N*k)
  have n2:=iU N
  have g:=Kh B x.2
  have c1:dG B x.2=true:=lZ (M:=1+N*k) (N:=N) (by lia) hle (by lia) hN
  have c2:∀i,jd i ((Int.gcd B x.2:Nat):Int)=true:=λi=>by
   have:=Int.gcd_pos_of_ne_zero_left (a:=B) x.2 (by lia)
   have:=Int.gcd_le_right (a:=B) (b:=x.2) (by lia)
   exact CT (M:=N) (by lia) (by lia) hN
  walk_at "p"
  refine⟨(B*x.2).fdiv ((Int.gcd B x.2:Nat):Int),⟨b1,?_,λy hy=>?_,λD d=>?_⟩,exV rfl⟩
  .have:=Int.mul_lt_mul_of_pos_right h2 (show 0<(2:Int) ^ N by lia)
   have:=Int.mul_le_mul_of_nonneg_left (show x.2<=2 ^ N by lia) (show 0<=B by lia)
   rw[Nat.mul_succ,<-Nat.add_assoc,Int.pow_add]
   lia
  .rw[tk]at hy
   rcases List.mem_append.mp hy with hy|hy
   .exact Int.dvd_trans (h3 y hy) b2
   .rw[List.mem_singleton.mp hy]
    exact b3
  .rw[tk]at d
   exact b5 D (h4 D λy hy=>d y (List.mem_append_left _ hy)) (d x (List.mem_append_right _ (List.mem_singleton.mpr rfl)))
 .rw[List.take_length]at hB
  walk_at "r"
  exact⟨_,rfl,B,hB,rfl⟩
theorem XM{N:Nat}(l:LZ)(h:Frs N l)(hl:1+N*l.length<=8900)(hN:N<=8900)(hl2:l.length<=1000):∃B:Int,Kf [.lst (l.map fT)]=.ok (.lst (l.map λx=>.int (x.1*B.fdiv x.2)),true)/\1<=B/\∀x∈l,x.2∣B:=by
 obtain⟨_,e,B,⟨h1,h2,h3,_⟩,rfl⟩:=Km l h hl hN
 have q:∀x∈l,jd B x.2=true/\dG x.1 (B.fdiv x.2)=true:=λx hx=>by
  obtain⟨a1,a2,a3⟩:=h x hx
  have d0:=Int.ediv_nonneg (a:=B) (b:=x.2) (by lia) (by lia)
  have d1:=Int.ediv_le_self (a:=B) x.2 (by lia)
  have nB:=iU (1+N*l.length)
  have nN:=iU N
  rw[<-Int.fdiv_eq_ediv_of_nonneg B (b:=x.2) (by lia)]at d0 d1
  exact⟨CT (M:=N) (by lia) (by lia) hN,lZ (M:=N) (N:=1+N*l.length) a3 hN (by lia) hl⟩
 refine⟨B,?_,h1,h3⟩
 walk_at "d"
 exact(q x hx).1
 walk_at "r"
 exact(q x hx).2
 walk_at "r"
def kW(l:LZ)(i j:Nat):Prop:=(l.getD j (0,1)).1*(l.getD i (0,1)).2<(l.getD i (0,1)).1*(l.getD j (0,1)).2\/((l.getD j (0,1)).1*(l.getD i (0,1)).2=(l.getD i (0,1)).1*(l.getD j (0,1)).2/\i<j)
def Fall(l:LZ)(ys:List Nat):Prop:=ys.Perm (List.range l.length)/\ys.Pairwise (kW l)
theorem keysOk{kt:Tr->Option (Int × Int)}{fb:RF}{ts:List (Option Tr)}{κ : Nat->Int × Int}:∀(is:List Nat),(∀i∈is,∃t,fb (some (.int (i:Int))::ts)=.ok t/\kt t=some (κ i))->ur kt fb ts is=.ok (is.map κ)
 | [],_=>rfl
 |i::is,h=>by
  obtain⟨t,e,k⟩:=h i (List.mem_cons_self ..)
  have r:=keysOk is λj hj=>h j (List.mem_cons_of_mem _ hj)
  unfold ur
  rw[e,r]
  dsimp only[Rs.bind]
  rw[k]
  rfl
theorem XQ{kt:Tr->Option (Int × Int)}{src:List (Option Nat)}{fa:AF}{fb:RF}{n:Nat}{b:Bool}(κ : Nat->Int × Int)(h:fa ρ=.ok ([.v (.int (n:Int)) b],ρ1))(hn:n<64)(hk:∀i,i<n->∃t,fb (some (.int (i:Int))::Ck src ρ1)=.ok t/\kt t=some (κ i)):∃ys:List Nat,Jx kt src fa fb ρ=.ok (.v (.lst (ys.map λi:Nat=>Tr.int i)) true,ρ1)/\ys.Perm (List.range n)/\ys.Pairwise (iQ κ):=by
 have e:=keysOk (List.range n) λi hi=>hk i (List.mem_range.mp hi)
 have hs:=UW n λi=>((List.range n).map κ).getD i (0,0)
 refine⟨_,bk h ((if_pos ⟨Int.natCast_nonneg n,by lia⟩).trans (by rw[Int.toNat_natCast,e]; rfl)),hs.1,hs.2.imp_of_mem λ{i j} hi hj hb=>?_⟩
 have hi:=List.mem_range.mp (hs.1.mem_iff.mp hi)
 have hj:=List.mem_range.mp (hs.1.mem_iff.mp hj)
 have g:∀i,i<n->((List.range n).map κ).getD i (0,0) = κ i:=λi hi=>by simp[hi]
 unfold iQ at hb ⊢
 dsimp only at hb
 rw[g i hi,g j hj]at hb
 exact hb
theorem top_lt{B p q r s:Int}(hB:1<=B)(hq:1<=q)(hs:1<=s)(dq:q∣B)(ds:s∣B):(p*B.fdiv q<r*B.fdiv s↔p*s<r*q)/\(p*B.fdiv q=r*B.fdiv s↔p*s=r*q):=by
 obtain⟨a,ha⟩:=dq
 obtain⟨b,hb⟩:=ds
 have e1:B.fdiv q=a:=by rw[ha]; exact Int.mul_fdiv_cancel_left _ (by lia)
 have e2:B.fdiv s=b:=by rw[hb]; exact Int.mul_fdiv_cancel_left _ (by lia)
 rw[e1,e2]
 have x1:(p*a)*(q*s)=(p*s)*B:=by rw[ha]; ac_rfl
 have x2:(r*b)*(q*s)=(r*q)*B:=by rw[hb]; ac_rfl
 have qs:0<q*s:=Int.mul_pos (by lia) (by lia)
 refine⟨?_,?_⟩
 .rw[<-Int.mul_lt_mul_right qs,x1,x2,Int.mul_lt_mul_right (show 0<B by lia)]
 .rw[<-Int.mul_eq_mul_right_iff (c:=q*s) (by lia),x1,x2,Int.mul_eq_mul_right_iff (show B≠0 by lia)]
theorem CV{N:Nat}(l:LZ)(h:Frs N l)(hl:1+N*l.length<=8900)(hN:N<=8900)(h64:l.length<64):∃ys,uz [aJ l]=.ok (.lst (ys.map λi:Nat=>Tr.int i),true)/\Fall l ys:=by
 obtain⟨B,e,h1,h3⟩:=XM l h hl hN (by lia)
 have g:∀i,i<l.length->l.getD i (0,1)∈l:=λi hi=>by simp[hi]
 obtain⟨ys,e2,p,q⟩:=XQ (ρ:=[.sh (.lst (l.map fT)),.sh (.lst (l.map λx=>.int (x.1*B.fdiv x.2)))]) (kt:=Jy) (src:=[some 1]) (fa:=dM (nH (g1 eY) (dM (bZ 1) eX)) eX) (fb:=Cj oG (Ci aW (pP 1) (pP 0))) (λi=>(-((l.getD i (0,1)).1*B.fdiv (l.getD i (0,1)).2),0)) (uQ (xC1 rfl rfl DP) rfl) h64 λi hi=>by
  have ix:aW (.lst (l.map λx=>.int (x.1*B.fdiv x.2))) (.int (i:Int))=.ok (.int ((l.getD i (0,1)).1*B.fdiv (l.getD i (0,1)).2),false):=nZ (by simp[hi])
  exact⟨.int (-((l.getD i (0,1)).1*B.fdiv (l.getD i (0,1)).2)),bk (bk rfl (bk rfl (bk ix rfl))) rfl,rfl⟩
 refine⟨ys,?_,p,q.imp_of_mem λ{i j} hi hj hb=>?_⟩
 .unfold aJ
  walk_at "d"
 .have m1:=g i (List.mem_range.mp (p.mem_iff.mp hi))
  have m2:=g j (List.mem_range.mp (p.mem_iff.mp hj))
  have t:=top_lt (p:=(l.getD j (0,1)).1) (r:=(l.getD i (0,1)).1) h1 (h _ m2).1 (h _ m1).1 (h3 _ m2) (h3 _ m1)
  unfold iQ at hb
  dsimp only at hb
  unfold kW
  rw[<-t.1,<-t.2]
  simp only[Int.neg_lt_neg_iff,Int.neg_inj]at hb
  rcases hb with(h|⟨_,h⟩)|⟨⟨h1,_⟩,h3⟩
  .exact .inl h
  .exact absurd h (Int.lt_irrefl 0)
  .exact .inr ⟨h1.symm,h3⟩
theorem Wo.frs(h:∀x∈l,Wo x):Frs 40 l:=λx hx=>by
 obtain⟨h1,h2,h3,h4,h5⟩:=h x hx
 exact⟨h3,by lia,by lia⟩
theorem order_eq{c:Nat}{ls:List (LZ)}(h:Bk c ls){k:Nat}{l:LZ}(hk:ls[k]?=some l):∃ys,ahc [aU ls,.int k]=.ok (.lst (ys.map λi:Nat=>Tr.int i),true)/\Fall l ys:=by
 have hl:=h.2.2.2.2 l (List.mem_of_getElem? hk)
 have:=h.2.2.2.1
 obtain⟨ys,e,hf⟩:=CV (N:=40) l (Wo.frs hl.2) (by rw[hl.1]; lia) (by lia) (by rw[hl.1]; lia)
 have e1:=XD hk
 have e2:=ahN (List.getElem?_eq_some_iff.mp hk).1
 have e3:=XJ h
 refine⟨ys,?_,hf⟩
 walk_at "d"
theorem ahP{α : Type}(xs:List α)(k:Nat):L2.cut xs (some (k:Int)) none=xs.drop k:=by
 unfold L2.cut HT.aR
 by_cases h:(k:Int)<0
 .lia
 .simp only[h,if_false,Int.toNat_natCast]
  by_cases z:k<=xs.length
  .rw[Nat.min_eq_left z]
   exact List.take_of_length_le (by simp)
  .rw[Nat.min_eq_right (by lia),List.drop_eq_nil_of_le (by lia),List.drop_eq_nil_of_le (by lia)]
   simp
theorem Ko{α : Type}(xs:List α)(k:Nat):L2.cut xs none (some (k:Int))=xs.take k:=by
 unfold L2.cut HT.aR
 by_cases h:(k:Int)<0
 .lia
 .simp only[h,if_false,Int.toNat_natCast,Nat.sub_zero,List.drop_zero]
  by_cases z:k<=xs.length
  .rw[Nat.min_eq_left z]
  .rw[Nat.min_eq_right (by lia),List.take_of_length_le (by lia),List.take_of_length_le (by lia)]
noncomputable def nT(ys:List Nat):Tr:=.lst (ys.map λi:Nat=>Tr.int i)
theorem XR(i:Int):dep (.int i)=0:=rfl
theorem CW(ts:List Tr):dep (.tup ts)=deps ts+1:=by simp only[dep]
theorem rF(ts:List Tr):dep (.lst ts)=deps ts+1:=by simp only[dep]
theorem uD:deps []=0:=rfl
theorem kY(t:Tr)(ts:List Tr):deps (t::ts)=max (dep t) (deps ts):=by simp only[deps]
theorem Kp:∀{ts:List Tr},(∀t∈ts,dep t<=n)->deps ts<=n
 | [],_=>by rw[uD]; lia
 |t::ts,h=>by
  rw[kY]
  have h1:=h t (by simp)
  have h2:=Kp (ts:=ts) λu hu=>h u (by simp[hu])
  lia
theorem Kq(x:Int × Int):dep (fT x)=1:=by unfold fT; rw[CW,kY,kY,XR,XR,uD]; rfl
theorem ahQ(l:LZ):dep (aJ l)<=2:=by
 unfold aJ
 rw[rF]
 have:=Kp (n:=1) (ts:=l.map fT) λt ht=>by
  obtain⟨x,_,rfl⟩:=List.mem_map.mp ht
  rw[Kq]; lia
 lia
theorem ahR(ls:List (LZ)):dep (aU ls)<=3:=by
 unfold aU
 rw[rF]
 have:=Kp (n:=2) (ts:=ls.map aJ) λt ht=>by
  obtain⟨x,_,rfl⟩:=List.mem_map.mp ht
  exact ahQ x
 lia
theorem XS(h:dep T<=40):gJ T T=.ok (.bl false,false):=by
 unfold gJ
 rw[if_pos ⟨h,h⟩,vg]
 rfl
theorem X3:∀ys:List Nat,uo (ys.map λi:Nat=>Tr.int i)=some (ys.map λi:Nat=>(i:Int))
 | []=>rfl
 |n::r=>by simp[uo,X3 r]
noncomputable def aM(x y:Int × Int):Bool:=decide (x.1*y.2<y.1*x.2)
noncomputable def at2(l:LZ)(i:Nat):Int × Int:=l.getD i (0,1)
theorem iV(n k:Int)(h:0<k):0<=n.fmod k/\n.fmod k<k:=⟨Int.fmod_nonneg_of_pos n h,Int.fmod_lt_of_pos n h⟩
noncomputable def red(a b:Int):Int × Int:=(a / ((Int.gcd a b:Nat):Int),b / ((Int.gcd a b:Nat):Int))
def Fq(M:Nat)(x:Int × Int):Prop:=0<=x.1/\x.1<2 ^ M/\1<=x.2/\x.2<2 ^ M/\Int.gcd x.1 x.2=1
theorem Kr(ha:0<=a)(ha2:a<2 ^ M)(hb:1<=b)(hb2:b<2 ^ M):Fq M (red a b):=by
 obtain⟨g1,g2,g3,g4,g5,g6,g7⟩:=sS (a:=a) (b:=b) (by lia)
 have d1:=Int.ediv_le_self (a:=a) ((Int.gcd a b:Nat):Int) ha
 have d2:=Int.ediv_le_self (a:=b) ((Int.gcd a b:Nat):Int) (by lia)
 exact⟨g5 ha,by unfold red; dsimp only; lia,g3,by unfold red; dsimp only; lia,g4⟩
theorem rG(hb:1<=b):a*(red a b).2=(red a b).1*b/\1<=(red a b).2/\Int.gcd (red a b).1 (red a b).2=1:=by
 obtain⟨g1,g2,g3,g4,g5,g6,g7⟩:=sS (a:=a) (b:=b) (by lia)
 refine⟨?_,g3,g4⟩
 show a*(b / ((Int.gcd a b:Nat):Int))=(a / ((Int.gcd a b:Nat):Int))*b
 generalize ((Int.gcd a b:Nat):Int)=g at *
 generalize b / g=q,a / g=p at *
 rw[g6,g7]
 ac_rfl
def le2(x y:Int × Int):Prop:=x.1*y.2<=y.1*x.2
theorem pX:aM x y=false↔le2 y x:=by
 unfold aM le2
 rw[decide_eq_false_iff_not,Int.not_lt]
theorem X4(x:Int × Int):le2 x x:=Int.le_refl _
theorem Ks(hx:1<=x.2)(hy:1<=y.2)(hz:1<=z.2)(h1:le2 x y)(h2:le2 y z):le2 x z:=by
 unfold le2 at *
 have a1:=Int.mul_le_mul_of_nonneg_right h1 (show 0<=z.2 by lia)
 have a2:=Int.mul_le_mul_of_nonneg_right h2 (show 0<=x.2 by lia)
 have e1:x.1*y.2*z.2=(x.1*z.2)*y.2:=by ac_rfl
 have e2:y.1*x.2*z.2=y.1*z.2*x.2:=by ac_rfl
 have e3:z.1*y.2*x.2=(z.1*x.2)*y.2:=by ac_rfl
 rw[e1,e2]at a1
 rw[e3]at a2
 exact Int.le_of_mul_le_mul_right (Int.le_trans a1 a2) (by lia)
theorem X5(hx:1<=x.2)(hy:1<=y.2)(gx:Int.gcd x.1 x.2=1)(gy:Int.gcd y.1 y.2=1)(h1:le2 x y)(h2:le2 y x):x=y:=by
 unfold le2 at *
 have:=adW hx hy gx gy (Int.le_antisymm h1 h2)
 exact Prod.ext this.1 this.2
noncomputable def sumF(x y:Int × Int):Int × Int:=red (x.1*y.2+y.1*x.2) (x.2*y.2)
noncomputable def gQ(x y:Int × Int):Int × Int:=red (x.1*y.1) (x.2*y.2)
theorem n8{a b:Int}{M N:Nat}(ha:0<=a)(ha2:a<2 ^ M)(hb:0<=b)(hb2:b<2 ^ N):a*b<2 ^ (M+N):=by
 have p1:(0:Int)<2 ^ N:=Int.pow_pos (by lia)
 have q1:a*b<=a*2 ^ N:=Int.mul_le_mul_of_nonneg_left (by lia) ha
 have q2:a*2 ^ N<2 ^ M*2 ^ N:=Int.mul_lt_mul_of_pos_right ha2 p1
 rw[Int.pow_add]
 lia
theorem xZ{x y:Int × Int}{M N:Nat}(hx:Fq M x)(hy:Fq N y):Fq (M+N) (gQ x y) :=
 Kr (Int.mul_nonneg hx.1 hy.1) (n8 hx.1 hx.2.1 hy.1 hy.2.1) (by have:=Int.mul_pos (a:=x.2) (b:=y.2) (by have:=hx.2.2.1; lia) (by have:=hy.2.2.1; lia); lia) (n8 (by have:=hx.2.2.1; lia) hx.2.2.2.1 (by have:=hy.2.2.1; lia) hy.2.2.2.1)
theorem X6{x y:Int × Int}{M N:Nat}(hx:Fq M x)(hy:Fq N y):Fq (M+N+1) (sumF x y):=by
 obtain⟨x1,x2,x3,x4,_⟩:=hx
 obtain⟨y1,y2,y3,y4,_⟩:=hy
 have m1:=n8 x1 x2 (by lia) y4
 have m2:=n8 y1 y2 (by lia) x4
 have m3:=n8 (by lia) x4 (by lia) y4
 rw[Nat.add_comm N M]at m2
 have p:=Int.mul_pos (a:=x.2) (b:=y.2) (by lia) (by lia)
 have n1:=Int.mul_nonneg x1 (show 0<=y.2 by lia)
 have n2:=Int.mul_nonneg y1 (show 0<=x.2 by lia)
 have e:(2:Int) ^ (M+N+1)=2 ^ (M+N)*2:=Int.pow_succ ..
 exact Kr (by lia) (by rw[e]; lia) (by lia) (by rw[e]; lia)
theorem mulC{x y:Int × Int}{M N:Nat}(hx:Fq M x)(hy:Fq N y)(hM:M+N<=8900):dG x.1 y.1=true/\dG x.1 y.2=true/\dG y.1 x.2=true/\dG x.2 y.2=true:=by
 obtain⟨x1,x2,x3,x4,_⟩:=hx
 obtain⟨y1,y2,y3,y4,_⟩:=hy
 have nM:=iU M
 have nN:=iU N
 exact⟨lZ (M:=M) (N:=N) (by lia) (by lia) (by lia) (by lia),lZ (M:=M) (N:=N) (by lia) (by lia) (by lia) (by lia),lZ (M:=N) (N:=M) (by lia) (by lia) (by lia) (by lia),lZ (M:=M) (N:=N) (by lia) (by lia) (by lia) (by lia)⟩
theorem X7(hb:1<=b)(hb2:b<2 ^ M)(hM:M<=8900):Wb [.int a,.int b]=.ok (fT (red a b),false):=by
 have g:=Kh a b
 have np:=iU M
 obtain⟨g1,g2,_⟩:=sS (a:=a) (b:=b) (by lia)
 have c1:∀n,jd n ((Int.gcd a b:Nat):Int)=true:=λn=>CT (M:=M) (by lia) (by lia) hM
 walk_at "d"
 unfold fT red
 rw[Int.fdiv_eq_ediv_of_nonneg _ (by lia),Int.fdiv_eq_ediv_of_nonneg _ (by lia)]
 rfl
theorem CZ{x y:Int × Int}{M N:Nat}(hx:Fq M x)(hy:Fq N y)(hM:M+N<=8900):CK [fT x,fT y]=.ok (fT (gQ x y),false):=by
 obtain⟨c1,_,_,c2⟩:=mulC hx hy hM
 have p:=Int.mul_pos (a:=x.2) (b:=y.2) (by have:=hx.2.2.1; lia) (by have:=hy.2.2.1; lia)
 have e:=X7 (a:=x.1*y.1) (b:=x.2*y.2) (M:=M+N) (by lia) (n8 (by have:=hx.2.2.1; lia) hx.2.2.2.1 (by have:=hy.2.2.1; lia) hy.2.2.2.1) hM
 walk_at "d"
theorem ahS{x y:Int × Int}{M N:Nat}(hx:Fq M x)(hy:Fq N y)(hM:M+N<=8900):Wf [fT x,fT y]=.ok (fT (sumF x y),false):=by
 obtain⟨_,c1,c2,c3⟩:=mulC hx hy hM
 have p:=Int.mul_pos (a:=x.2) (b:=y.2) (by have:=hx.2.2.1; lia) (by have:=hy.2.2.1; lia)
 have e:=X7 (a:=x.1*y.2+y.1*x.2) (b:=x.2*y.2) (M:=M+N) (by lia) (n8 (by have:=hx.2.2.1; lia) hx.2.2.2.1 (by have:=hy.2.2.1; lia) hy.2.2.2.1) hM
 walk_at "d"
noncomputable def ju(ps:List ((Int × Int) × (Int × Int)))(t:Int × Int):Int × Int:=ps.foldl (λt p=>sumF t (gQ p.1 p.2)) t
noncomputable def jw(xs:LZ)(t:Int × Int):Int × Int:=xs.foldl gQ t
theorem Ku:∀(ps:List ((Int × Int) × (Int × Int))) (t:Int × Int) (M:Nat),Fq M t->(∀p∈ps,Fq 45 p.1/\Fq 45 p.2)->Fq (M+91*ps.length) (ju ps t)
 | [],t,M,h,_=>h
 |p::ps,t,M,h,hp=>by
  have h1:=xZ (hp p (by simp)).1 (hp p (by simp)).2
  have h2:=X6 h h1
  have:=Ku ps _ _ h2 λq hq=>hp q (by simp[hq])
  rw[show M+91*(p::ps).length=M+(45+45)+1+91*ps.length by rw[List.length_cons]; lia]
  exact this
theorem Ky:∀(ps:LZ) (t:Int × Int) (M:Nat),Fq M t->(∀p∈ps,Fq 45 p)->Fq (M+45*ps.length) (jw ps t)
 | [],t,M,h,_=>h
 |p::ps,t,M,h,hp=>by
  have h2:=xZ h (hp p (by simp))
  have:=Ky ps _ _ h2 λq hq=>hp q (by simp[hq])
  rw[show M+45*(p::ps).length=M+45+45*ps.length by rw[List.length_cons]; lia]
  exact this
theorem Wo.fq(h:Wo x):Fq 45 x:=by
 obtain⟨h1,h2,h3,h4,h5⟩:=h
 exact⟨h1,by lia,h3,by lia,h5⟩
theorem ahT(ws xs:LZ):pL (ws.map fT) (xs.map fT)=(ws.zip xs).map λp=>Tr.tup [fT p.1,fT p.2]:=by
 unfold pL
 rw[List.zip_map,List.map_map]
 rfl
theorem X8:Fq 1 (0,1):=by unfold Fq; decide
theorem Yb:Fq 1 (1,1):=by unfold Fq; decide
theorem Yc{ws xs:LZ}(hw:∀w∈ws,Fq 45 w)(hx:∀x∈xs,Fq 45 x):∀p∈ws.zip xs,Fq 45 p.1/\Fq 45 p.2:=λp hp=>⟨hw _ (List.of_mem_zip hp).1,hx _ (List.of_mem_zip hp).2⟩
theorem ahU{ws xs:LZ}(hw:∀w∈ws,Fq 45 w)(hx:∀x∈xs,Fq 45 x)(hl:xs.length<=12):W4 [aJ ws,aJ xs]=.ok (fT (ju (ws.zip xs) (0,1)),false):=by
 have hz:(ws.zip xs).length<=12:=by rw[List.length_zip]; lia
 have hq:=Yc hw hx
 walk_at "d"
 rw[ahT]
 refine kE [3,4] (λs:Int × Int=>[(2,.sh (fT s))]) (λk s=>s=ju ((ws.zip xs).take k) (0,1)) (0,1) rfl rfl (λk p v s hp hs=>?_) λv s hs=>?_
 .subst hs
  have hk:=(List.getElem?_eq_some_iff.mp hp).1
  obtain⟨p1,p2⟩:=hq p (List.mem_of_getElem? hp)
  have f:=Ku ((ws.zip xs).take k) (0,1) 1 X8 λq m=>hq q (List.mem_of_mem_take m)
  rw[List.length_take]at f
  have e1:=CZ p1 p2 (by lia)
  have e2:=ahS f (xZ p1 p2) (by lia)
  walk_at "p"
  exact⟨_,by rw[List.take_add_one,hp]; unfold ju; rw[List.foldl_append]; rfl,exV rfl⟩
 .rw[List.take_length]at hs
  subst hs
  walk_at "p"
theorem ahV(hx:∀x∈xs,Fq 45 x)(hl:xs.length<=12):W6 [aJ xs]=.ok (fT (jw xs (1,1)),false):=by
 unfold aJ
 walk_at "d"
 refine kE [2] (λs:Int × Int=>[(1,.sh (fT s))]) (λk s=>s=jw (xs.take k) (1,1)) (1,1) rfl rfl (λk p v s hp hs=>?_) λv s hs=>?_
 .subst hs
  have hk:=(List.getElem?_eq_some_iff.mp hp).1
  have f:=Ky (xs.take k) (1,1) 1 Yb λq m=>hx q (List.mem_of_mem_take m)
  rw[List.length_take]at f
  have e:=CZ f (hx p (List.mem_of_getElem? hp)) (by lia)
  walk_at "p"
  exact⟨_,by rw[List.take_add_one,hp]; unfold jw; rw[List.foldl_append]; rfl,exV rfl⟩
 .rw[List.take_length]at hs
  subst hs
  walk_at "p"
def dg(xs zs:LZ):Prop:=zs.Perm xs/\zs.Pairwise λa b=>le2 b a
def LT(xs:LZ):Prop:=∀x∈xs,1<=x.2/\Int.gcd x.1 x.2=1
theorem Yd:∀{l m:LZ},LT l->l.Perm m->l.Pairwise (λa b=>le2 b a)->m.Pairwise (λa b=>le2 b a)->l=m
 | [],m,_,p,_,_=>by rw[List.nil_perm.mp p]
 |a::l,[],_,p,_,_=>by simpa using p.length_eq
 |a::l,b::m,hl,p,h1,h2=>by
  have h1':=List.pairwise_cons.mp h1
  have h2':=List.pairwise_cons.mp h2
  have e:a=b:=by
   rcases List.mem_cons.mp (p.mem_iff.mp (List.mem_cons_self ..))with z|z
   .exact z
   .rcases List.mem_cons.mp (p.mem_iff.mpr (List.mem_cons_self (a:=b)))with y|y
    .exact y.symm
    .have a1:=h1'.1 b y
     have a2:=h2'.1 a z
     have la:=hl a (by simp)
     have lb:=hl b (by simp[y])
     exact X5 la.1 lb.1 la.2 lb.2 a2 a1
  subst e
  rw[Yd (λx hx=>hl x (by simp[hx])) p.cons_inv h1'.2 h2'.2]
theorem dg.uniq(h:LT xs)(a:dg xs l)(b:dg xs m):l=m:=Yd (λx hx=>h x (a.1.mem_iff.mp hx)) (a.1.trans b.1.symm) a.2 b.2
theorem ahW(xs:LZ):(List.range xs.length).map (λi=>xs.getD i (0,1))=xs:=by
 apply List.ext_getElem
 .simp
 .intro i h1 h2
  simp[List.getD_eq_getElem?_getD,h2]
theorem Fall.dsc(h:Fall xs ys):dg xs (ys.map λi=>xs.getD i (0,1)):=by
 refine⟨?_,?_⟩
 .have:=h.1.map λi=>xs.getD i (0,1)
  rw[ahW]at this
  exact this
 .rw[List.pairwise_map]
  refine h.2.imp λ{i j} hb=>?_
  unfold kW at hb
  unfold le2
  lia
theorem Ye:∀(xs:LZ) (i:Nat) (v:Int × Int),(∀x,xs[i]?=some x->p x=true->p v=true)->xs.countP p<=(xs.set i v).countP p
 | [],i,v,_=>by simp
 |x::xs,0,v,h=>by
  have:=h x (by simp)
  simp only[List.set_cons_zero,List.countP_cons]
  cases e:p x with
  |false=>simp
  |true=>rw[this e]; simp
 |x::xs,i+1,v,h=>by
  have:=Ye xs i v λy hy=>h y (by simpa using hy)
  simp only[List.set_cons_succ,List.countP_cons]
  lia
theorem dg.mono{xs zs zs':LZ}{i:Nat}{v:Int × Int}(hx:LT xs)(hv:1<=v.2)(hi:∀x,xs[i]?=some x->le2 x v)(a:dg xs zs)(b:dg (xs.set i v) zs'){k:Nat}{z z':Int × Int}(hz:zs[k]?=some z)(hz':zs'[k]?=some z'):le2 z z':=by
 refine Classical.byContradiction λhn=>?_
 have hx':∀x∈xs.set i v,1<=x.2:=λx m=>by
  rcases List.mem_or_eq_of_mem_set m with m|rfl
  .exact(hx x m).1
  .exact hv
 have pz:1<=z.2:=(hx z (a.1.mem_iff.mp (List.mem_of_getElem? hz))).1
 have pz':1<=z'.2:=hx' z' (b.1.mem_iff.mp (List.mem_of_getElem? hz'))
 have hlt:aM z' z=true:=by
  cases e:aM z' z with
  |true=>rfl
  |false=>exact absurd (pX.mp e) hn
 obtain⟨hk,ek⟩:=List.getElem?_eq_some_iff.mp hz
 obtain⟨hk',ek'⟩:=List.getElem?_eq_some_iff.mp hz'
 have pw:=List.pairwise_iff_getElem.mp a.2
 have pw':=List.pairwise_iff_getElem.mp b.2
 have up:∀x:Int × Int,1<=x.2->le2 z x->aM z' x=true:=λx px h=>by
  cases e:aM z' x with
  |true=>rfl
  |false=>exact absurd (Ks pz px pz' h (pX.mp e)) hn
 have c1:k+1<=zs.countP (aM z'):=by
  rw[<-List.take_append_drop (k+1) zs,List.countP_append]
  have:(zs.take (k+1)).countP (aM z')=(zs.take (k+1)).length:=by
   rw[List.countP_eq_length]
   intro x m
   obtain⟨j,hj,rfl⟩:=List.getElem_of_mem m
   rw[List.getElem_take]
   have hj':j<k+1:=by rw[List.length_take]at hj; lia
   have jl:j<zs.length:=by lia
   refine up _ (hx _ (a.1.mem_iff.mp (List.getElem_mem jl))).1 ?_
   by_cases q:j=k
   .subst q; rw[ek]; exact X4 _
   .have:=pw j k jl hk (by lia)
    rw[ek]at this
    exact this
  rw[this,List.length_take]
  lia
 have c2:zs'.countP (aM z')<=k:=by
  rw[<-List.take_append_drop k zs',List.countP_append]
  have:(zs'.drop k).countP (aM z')=0:=by
   rw[List.countP_eq_zero]
   intro x m hp
   obtain⟨j,hj,rfl⟩:=List.getElem_of_mem m
   rw[List.getElem_drop]at hp
   have jl:k+j<zs'.length:=by rw[List.length_drop]at hj; lia
   have:le2 zs'[k+j] z':=by
    by_cases q:j=0
    .subst q
     have:zs'[k+0]=z':=ek'
     rw[this]; exact X4 _
    .have:=pw' k (k+j) hk' jl (by lia)
     rw[ek']at this
     exact this
   rw[pX.mpr this]at hp
   cases hp
  rw[this]
  have:=List.countP_le_length (p:=aM z') (l:=zs'.take k)
  rw[List.length_take]at this
  lia
 rw[a.1.countP_eq]at c1
 rw[b.1.countP_eq]at c2
 have:=Ye (p:=aM z') xs i v λx hxi hp=>by
  cases e:aM z' v with
  |true=>rfl
  |false =>
   have px:=(hx x (List.mem_of_getElem? hxi)).1
   have:=Ks px hv pz' (hi x hxi) (pX.mp e)
   rw[pX.mpr this]at hp
   cases hp
 lia
inductive Ru where
 |sh (ws:LZ)|mid (k:Nat)|least|greatest|product
noncomputable def bf:Ru->Tr
 |.sh ws=>.tup [.str "shares",aJ ws]
 |.mid k=>.tup [.str "middle",.int k]
 |.least=>.tup [.str "least"]
 |.greatest=>.tup [.str "greatest"]
 |.product=>.tup [.str "product"]
def cF(n:Nat):Ru->Prop
 |.sh ws=>ws.length=n/\∀w∈ws,Fq 45 w
 |.mid k=>1<=k/\k<=n
 |_=>True
theorem ahX{M:Nat}{ws:LZ}(hw:∀w∈ws,Fq M w)(hl:ws.length<=12):WY [aJ ws,.int ws.length]=.ok (.bl true,false):=by
 have ty:sG (aJ ws) .list=true:=rfl
 walk_at "d"
 exact XH (hw x hx).2.2.1 (hw x hx).2.2.2.2
 walk_at "r"
 rw[List.map_congr_left (g:=λ_=>Tr.bl true) λx hx=>by rw[decide_eq_true (hw x hx).1]]
 exact all_true ws
 walk_at "r"
theorem Kz(h:T=.tup [.str "least"]∨T=.tup [.str "greatest"]∨T=.tup [.str "product"]):jY id T (.tup [(.tup [(.str "least")]),(.tup [(.str "greatest")]),(.tup [(.str "product")])])=.ok (.bl true,false):=by
 rcases h with rfl|rfl|rfl <;> kernel_rfl
theorem ahY(h:cF n r)(hn:n<=12):W2 [bf r,.int n]=.ok (.bl true,false):=by
 have e1:=Kz (.inl rfl)
 have e2:=Kz (.inr (.inl rfl))
 have e3:=Kz (.inr (.inr rfl))
 cases r <;> dsimp only[bf,cF]at *
 case sh ws =>
  obtain⟨h1,h2⟩:=h
  subst h1
  have e:=ahX h2 hn
  walk_at "d"
 case mid k =>
  have w:=xY (i:=k)
  walk_at "d"
  exact congrArg (λb=>Rs.ok (Tr.bl b,false)) (decide_eq_true (by lia))
 all_goals walk_at "d"
noncomputable def fU(n:Nat):Ru->Nat
 |.mid k=>k
 |.least=>n
 |.greatest=>1
 |_=>0
def Wv(r:Ru)(xs:LZ)(v:Int × Int):Prop:=match r with
 |.sh ws=>v=ju (ws.zip xs) (0,1)
 |.product=>v=jw xs (1,1)
 |r=>∃zs,dg xs zs/\zs[fU xs.length r-1]?=some v
noncomputable def placed:Ru->Bool
 |.mid _=>true
 |.least=>true
 |.greatest=>true
 |_=>false
theorem ahZ{n:Nat}(h:placed r=true):W8 [bf r,.int n]=.ok (.int (fU n r:Nat),false):=by
 cases r <;> first|cases h; done|(dsimp only[bf,fU]; walk_at "d"; done)
theorem Yg(h:placed r=true)(ho:cF n r)(hn:1<=n):1<=fU n r/\fU n r<=n:=by
 cases r with
 |sh ws=>cases h
 |product=>cases h
 |least=>exact⟨hn,Nat.le_refl _⟩
 |greatest=>exact⟨Nat.le_refl _,hn⟩
 |mid k=>exact ho
theorem Fq.frs(h:∀x∈l,Fq 45 x):Frs 45 l:=λx hx=>by
 obtain⟨h1,h2,h3,h4,_⟩:=h x hx
 have:=iU 45
 exact⟨h3,h4,by lia⟩
theorem Yh{xs:LZ}(hq:∀x∈xs,Fq 45 x)(h1:1<=xs.length)(h2:xs.length<=12)(ho:cF xs.length r):∃v,iR [bf r,aJ xs]=.ok (fT v,false)/\Wv r xs v:=by
 have pl:placed r=true->∃v,iR [bf r,aJ xs]=.ok (fT v,false)/\∃zs,dg xs zs/\zs[fU xs.length r-1]?=some v:=λhp=>by
  obtain⟨ys,ef,hf⟩:=CV (N:=45) xs (Fq.frs hq) (by lia) (by lia) (by lia)
  have pr:=Yg hp ho h1
  have ep:=ahZ (n:=xs.length) hp
  have ly:ys.length=xs.length:=by have:=hf.1.length_eq; simpa using this
  obtain⟨i,hi⟩:∃i,ys[fU xs.length r-1]?=some i:=⟨_,List.getElem?_eq_getElem (by lia)⟩
  have il:i<xs.length:=by simpa using hf.1.mem_iff.mp (List.mem_of_getElem? hi)
  refine⟨xs.getD i (0,1),?_,_,hf.dsc,by rw[List.getElem?_map,hi]; rfl⟩
  have g:aW (.lst (ys.map λi:Nat=>Tr.int i)) (.int ((fU xs.length r:Nat)-1:Int))=.ok (.int (i:Int),false):=by
   rw[show((fU xs.length r:Nat)-1:Int)=((fU xs.length r-1:Nat):Int) by lia]
   exact nZ (by rw[List.getElem?_map,hi]; rfl)
  cases r <;> first|cases hp; done|(dsimp only[bf]at *; walk_at "d"; done)
 cases r with
 |sh ws =>
  have e:=ahU ho.2 hq h2
  refine⟨_,?_,rfl⟩
  dsimp only[bf]
  walk_at "d"
 |product =>
  have e:=ahV hq h2
  refine⟨_,?_,rfl⟩
  dsimp only[bf]
  walk_at "d"
 |least=>exact pl rfl
 |greatest=>exact pl rfl
 |mid k=>exact pl rfl
theorem ah0(hx:∀x∈xs,Wo x)(h1:1<=xs.length)(h2:xs.length<=12)(ho:cF xs.length r):∃v,iR [bf r,aJ xs]=.ok (fT v,false)/\Wv r xs v:=Yh (λx m=>(hx x m).fq) h1 h2 ho
theorem ah1(hx:∀x∈xs,Wo x):LT xs:=λx m=>⟨(hx x m).2.2.1,(hx x m).2.2.2.2⟩
theorem Wv.uniq(hx:LT xs)(a:Wv r xs v)(b:Wv r xs v'):v=v':=by
 cases r with
 |sh ws=>exact a.trans b.symm
 |product=>exact a.trans b.symm
 |least =>
  obtain⟨z,d,e⟩:=a
  obtain⟨z',d',e'⟩:=b
  rw[d.uniq hx d',e']at e
  exact(Option.some.inj e).symm
 |greatest =>
  obtain⟨z,d,e⟩:=a
  obtain⟨z',d',e'⟩:=b
  rw[d.uniq hx d',e']at e
  exact(Option.some.inj e).symm
 |mid k =>
  obtain⟨z,d,e⟩:=a
  obtain⟨z',d',e'⟩:=b
  rw[d.uniq hx d',e']at e
  exact(Option.some.inj e).symm
theorem Fq.up(h:Fq M x)(hl:M<=N):Fq N x:=by
 obtain⟨h1,h2,h3,h4,h5⟩:=h
 have:(2:Int) ^ M<=2 ^ N:=by
  have:=Nat.pow_le_pow_right (n:=2) (by lia) hl
  have a:=iU M
  have b:=iU N
  lia
 exact⟨h1,by lia,h3,by lia,h5⟩
theorem Wv.Yi(hq:∀x∈xs,Fq 45 x)(hl:xs.length<=4)(ho:cF xs.length r)(a:Wv r xs v):Fq 400 v:=by
 have pl:(∃zs,dg xs zs/\zs[fU xs.length r-1]?=some v)->Fq 400 v:=λ⟨z,d,e⟩=>(hq v (d.1.mem_iff.mp (List.mem_of_getElem? e))).up (by lia)
 cases r with
 |sh ws =>
  have a:v=ju (ws.zip xs) (0,1):=a
  rw[a]
  exact(Ku _ _ 1 X8 (Yc ho.2 hq)).up (by rw[List.length_zip]; lia)
 |product =>
  have a:v=jw xs (1,1):=a
  rw[a]
  exact(Ky _ _ 1 Yb hq).up (by lia)
 |least=>exact pl a
 |greatest=>exact pl a
 |mid k=>exact pl a
theorem Wv.fq(hx:∀x∈xs,Wo x)(hl:xs.length<=4)(ho:cF xs.length r)(a:Wv r xs v):Fq 400 v:=Wv.Yi (λx m=>(hx x m).fq) hl ho a
noncomputable def isG:Ru->Bool
 |.greatest=>true
 |_=>false
noncomputable def isL:Ru->Bool
 |.least=>true
 |_=>false
theorem ah2(hp:placed r=true):∃w:Str,aW (bf r) (.int 0)=.ok (.str w,false)∧ji (.str w) (.str "shares")=.ok (.bl false,false)∧ji (.str w) (.str "product")=.ok (.bl false,false)∧ji (.str w) (.str "greatest")=.ok (.bl (isG r),false)∧ji (.str w) (.str "least")=.ok (.bl (isL r),false):=by
 cases r with
 |sh ws=>cases hp
 |product=>cases hp
 |least=>exact⟨"least",rfl,jO (by decide +kernel),jO (by decide +kernel),jO (by decide +kernel),DN⟩
 |greatest=>exact⟨"greatest",rfl,jO (by decide +kernel),jO (by decide +kernel),DN,jO (by decide +kernel)⟩
 |mid k=>exact⟨"middle",rfl,jO (by decide +kernel),jO (by decide +kernel),jO (by decide +kernel),jO (by decide +kernel)⟩
noncomputable abbrev Yj:=(bC (sO 3 (aE (cA ao))) (bC (sN (sF (iZ3 (ak (aj 0) (ak (Xo (ak (aj 0) ao)) (ak (aj 1) ao)))) (iK 3 (bW (gV 4) (bW (gV 5) (bW (gV 6) iJ)))) (b1 (eO (lW 3 (ak (Az (tK (aQ uw (aj 6) (vC (.int 0)))) (aq (aj 4) (aq (aj 5) (rD (aj 6) (vC (.int 1))))) (aj 2)) ao)))))) (b1 (aH (aj 3)))))
noncomputable abbrev ah3:SF:=by exists Yj
noncomputable def KC:FP:=aP 7 ah3
noncomputable abbrev Yk{f:AF}(a:VA f):=vF "last_worths" ["book", "depths", "one"] KC 6 a
noncomputable abbrev Yl:=(b1 (aH (ahC (ak (aj 1) (ak (ahz (ak (aj 0) (ak (aj 2) ao))) (ak (Yk (ak (aj 0) (ak (aq (aj 2) (vC (.int 0))) (ak (aj 3) ao)))) ao))))))
noncomputable abbrev ah4:SF:=by exists Yl
noncomputable def KD:FP:=aP 4 ah4
noncomputable abbrev ah5{f:AF}(a:VA f):=vF "bounds_of" ["book", "rule", "looks", "one"] KD 7 a
noncomputable abbrev Ym:=(bC (sA 2 (aE (dN (ak (Kd (ak (vC2 [none,none] ["row", "worth"] (bY (aj 0)) (gV 0) (bY (aj 0)) (gV 1) (aj 1)) ao)) (ak (vC (.int 1)) ao))))) (bC (sA 3 (cC [none,some 2] ["row", "one"] (bY (aj 0)) (gV 0) (jk (cC [none,some 1] ["worth", "one"] (bY (aj 0)) (gV 0) (CN (ak (aj 0) (ak (aj 1) ao))))))) (bC (sI (tK (aQ lU (aq (aj 1) (vC (.int 0))) (vC (.str "shares")))) (b1 (aH (dN (ak (aj 3) (ak (aj 1) (ak (aj 2) ao)))))) b0) (bC (sA 4 (aE (dN (ak (Kd (ak (aq (aj 1) (vC (.int 1))) ao)) (ak (vC (.int 1)) ao))))) (b1 (aH (dN (ak (aj 3) (ak (dN (ak (vC (.str "shares")) (ak (jk (cC [none,some 4] ["weight", "factor"] (bY (aq (aj 1) (vC (.int 1)))) (gV 0) (CN (ak (aj 0) (ak (aj 1) ao))))) ao))) (ak (aj 2) ao))))))))))
noncomputable abbrev ah6:SF:=by exists Ym
noncomputable def yc:FP:=aP 5 ah6
noncomputable abbrev Yn{f:AF}(a:VA f):=vF "whole_form" ["book", "rule"] yc 4 a
noncomputable abbrev Yo:=(bC (sA 1 (aE (Kg (ak (jk (cC [none,none] ["low", "high"] (bY (aj 0)) (iK 2 (bW (gV 0) (bW (gV 1) iJ))) (aj 0))) ao)))) (bC (sA 2 (aE (Kg (ak (jk (cC [none,none] ["low", "high"] (bY (aj 0)) (iK 2 (bW (gV 0) (bW (gV 1) iJ))) (aj 1))) ao)))) (b1 (aH (Va kyP "order_of_bounds" "thing" ["lows", "highs"] [some 1,some 2] (ak (aZ (ak (aj 0) ao)) ao) (lPr (Jw (Jv (uq 1) (uq 0))) (Jw (Jv (uq 2) (uq 0)))))))))
noncomputable abbrev ah7:SF:=by exists Yo
noncomputable def yd:FP:=aP 3 ah7
noncomputable abbrev Dc{f:AF}(a:VA f):=vF "order_of_bounds" ["bounds"] yd 4 a
noncomputable abbrev Yp:=(bC (sO 2 (aE (Vs (ak (tQ (Dc (ak (aj 0) ao)) oN (oS (aj 1))) ao)))) (b1 (aH (Az (cW (ahG (ak (aj 0) (ak (aj 2) ao)))) (aj 2) (vC .non)))))
noncomputable abbrev ah8:SF:=by exists Yp
noncomputable def Yq:FP:=aP 3 ah8
noncomputable abbrev ah9{f:AF}(a:VA f):=vF "sure_by" ["bounds", "count"] Yq 7 a
noncomputable abbrev Yr:=(bC (wJ (aj 0) (iK 3 (bW (gV 3) (bW (gV 4) (bW (gV 5) iJ))))) (b1 (aH (ah9 (ak (ah5 (ak (aj 3) (ak (aj 4) (ak (aj 2) (ak (aj 5) ao))))) (ak (aj 1) ao))))))
noncomputable abbrev aia:SF:=by exists Yr
noncomputable def iW:FP:=aP 6 aia
noncomputable abbrev Dd{f:AF}(a:VA f):=vF "sure_in" ["form", "count", "looks"] iW 8 a
noncomputable abbrev iT(i:Nat):Tr:=.int (i:Nat)
noncomputable def pT(p:Nat × Nat):Tr:=.tup [iT p.1,iT p.2]
def Lx(p q:Nat × Nat):Prop:=p.1<q.1\/(p.1=q.1/\p.2<q.2)
noncomputable def jx(ds:List Nat)(as:List (Nat × Nat)):Tr:=.tup [.lst (ds.map iT),.lst (as.map pT)]
def Lk(n m:Nat)(ds:List Nat)(as:List (Nat × Nat)):Prop:=ds.length=n/\(∀d∈ds,d<=m)/\as.Pairwise Lx/\as.length<=48/\∀p∈as,p.1<n/\p.2<m
theorem count_eq(h:d<=m):Xg [iT d,.int (m:Nat)]=.ok (.bl true,false):=by
 have e:=xY (i:=d)
 walk_at "d"
 exact congrArg (λb=>Rs.ok (Tr.bl b,false)) (decide_eq_true (by lia))
theorem KH(a b:Nat):eqT (iT a) (iT b)=decide (a=b):=by
 unfold iT eqT
 by_cases h:a=b
 .subst h; simp
 .have:¬(a:Int)=b:=by lia
  simp[h,this]
theorem aib(p q:Nat × Nat):eqT (pT p) (pT q)=decide (p=q):=by
 unfold pT
 rw[show eqT (.tup [iT p.1,iT p.2]) (.tup [iT q.1,iT q.2])=(eqT (iT p.1) (iT q.1)&&(eqT (iT p.2) (iT q.2)&&true))from rfl,KH,KH]
 obtain⟨a,b⟩:=p
 obtain⟨c,d⟩:=q
 by_cases h:a=c <;> by_cases h':b=d <;> simp[h,h']
theorem yg:∀zs:List Nat,deps (zs.map iT)=0
 | []=>rfl
 |z::zs=>by
  rw[List.map_cons]
  unfold deps
  rw[yg zs]
  rfl
theorem Ys(p:Nat × Nat):dep (pT p)=1:=rfl
theorem Yt:∀zs:List (Nat × Nat),deps (zs.map pT)<=1
 | []=>Nat.zero_le _
 |z::zs=>by
  rw[List.map_cons]
  unfold deps
  rw[Ys]
  have:=Yt zs
  lia
theorem Yu{α : Type} [DecidableEq α](t : α):∀zs:List α,(zs.any λz=>decide (z=t))=decide (t∈zs)
 | []=>rfl
 |z::zs=>by
  rw[List.any_cons,Yu t zs]
  by_cases h:z=t
  .subst h; simp
  .have:t≠z:=λe=>h e.symm
   simp[h,this]
theorem DX(f:Bool->Bool)(t:Nat)(zs:List Nat):jY f (iT t) (.lst (zs.map iT))=.ok (.bl (f (decide (t∈zs))),false):=by
 show(if deps (zs.map iT)<=40/\dep (iT t)<=40 then Rs.ok (Tr.bl (f (lB (iT t) (zs.map iT))),false)else .bad)=_
 rw[if_pos ⟨by rw[yg]; lia,by show 0<=40; lia⟩]
 unfold lB
 rw[List.any_map,<-Yu]
 simp only[Function.comp_def,KH]
theorem aic(f:Bool->Bool)(t:Nat × Nat)(zs:List (Nat × Nat)):jY f (pT t) (.lst (zs.map pT))=.ok (.bl (f (decide (t∈zs))),false):=by
 show(if deps (zs.map pT)<=40/\dep (pT t)<=40 then Rs.ok (Tr.bl (f (lB (pT t) (zs.map pT))),false)else .bad)=_
 rw[if_pos ⟨by have:=Yt zs; lia,by rw[Ys]; lia⟩]
 have e:lB (pT t) (zs.map pT)=decide (t∈zs):=by
  unfold lB
  rw[List.any_map,Bool.eq_iff_iff,List.any_eq_true,decide_eq_true_eq]
  refine⟨λ⟨z,hz,e⟩=>?_,λh=>⟨t,h,vg _⟩⟩
  have e:eqT (pT z) (pT t)=true:=e
  rw[aib,decide_eq_true_eq]at e
  exact e▸hz
 rw[e]
noncomputable def dZ(b:Bool)(x:Int × Int):Tr:=if b=true then fT x else .non
noncomputable def gr(l:LZ)(s:Nat->Bool):List Tr:=(List.range l.length).map λt=>dZ (s t) (l.getD t (0,1))
noncomputable def gs(rows:List (LZ))(s:Nat->Nat->Bool):List Tr:=(List.range rows.length).map λk=>.lst (gr (rows.getD k []) (s k))
theorem aie:(gr l s).set t (fT (l.getD t (0,1)))=gr l λt'=>s t' || decide (t'=t):=by
 refine List.ext_getElem? λi=>?_
 unfold gr
 rw[List.getElem?_set,List.getElem?_map,List.getElem?_map]
 by_cases h:t=i
 .subst h
  by_cases z:t<l.length <;> simp[z,dZ]
 .have h':¬i=t:=λe=>h e.symm
  by_cases z:i<l.length <;> simp[h,h',z]
theorem Yv:(gs rows s).set k (.lst ((gr (rows.getD k []) (s k)).set t (fT ((rows.getD k []).getD t (0,1)))))=gs rows λk' t'=>s k' t' || (decide (k'=k)&&decide (t'=t)):=by
 rw[aie]
 refine List.ext_getElem? λi=>?_
 unfold gs
 rw[List.getElem?_set,List.getElem?_map,List.getElem?_map]
 by_cases h:k=i
 .subst h
  by_cases z:k<rows.length <;> simp[z]
 .have h':¬i=k:=λe=>h e.symm
  by_cases z:i<rows.length <;> simp[h,h',z]
end BH
end
section
namespace L2
open PySem
def WD(r:Rs Tr)(Q:Tr->Prop):Prop:=∃T,r=.ok T/\Q T
noncomputable def cD(fl:Fl)(g:DF)(ρ : En):Rs Tr:=match fl with
 |.nx=>g ρ
 |.rt T false=>if bh T=true then .ok T else .bad
 |_=>.bad
section
variable {ρ ρ1 ρ2:En}{fa fe:EF}{aa:AF}{fi:IF}{f:WF}{ga:WA}{s:SF}{g:DF}{T:Tr}{us ts as Ts:List Tr}{ps:List Rv}{b:Bool}{i m n:Nat}{Q:Fl->En->Prop}{P:Tr->Prop}{F:FP}{z:Tr × Bool}
theorem Yw{β : Type}{t : β -> Tr}{h : β -> List Tr}{xs:List β}(hf:∀x∈xs,fe [.sh (t x)]=.ok (.v (.lst (h x)) true,[.sh (t x)]))(hn:∀x∈xs,bD (h x)=true):∃s',lQ (gN 0) gj fe (xs.map t) [.un]=.ok (xs.map λx=>.lst (h x),[s']):=by
 have go:∀(ys:List β) (s:Sl),(∀x∈ys,x∈xs)->∃s',lQ (gN 0) gj fe (ys.map t) [s]=.ok (ys.map λx=>.lst (h x),[s']):=λys=>by
  induction ys with
  |nil=>exact λs _=>⟨s,rfl⟩
  |cons y ys ih =>
   intro s m
   obtain⟨s',e'⟩:=ih (.sh (t y)) λx hx=>m x (List.mem_cons_of_mem _ hx)
   exact⟨s',bk (a:=[.sh (t y)]) rfl (bk rfl ((if_pos rfl).trans (bk (hf y (m y (List.mem_cons_self ..))) (bk (show ug (.v (.lst (h y)) true)=.ok (.lst (h y))from if_pos (hn y (m y (List.mem_cons_self ..)))) (bk e' rfl)))))⟩
 exact go xs .un λ_ h=>h
theorem Ny(h:fa ρ=.ok (.v T b,ρ1))(n:fK (T,b)=true):Vv fa ρ=.ok (T,ρ1):=bk h (if_pos n)
theorem N7(h : ρ[i]?=some (.dp ts))(e : ρ.set i .un = ρ1):oK i ρ=.ok (.lst ts,ρ1):=by subst e; unfold oK; rw[h]
theorem N8(h : ρ[i]?=some (.ow ts))(n:bD ts=true)(e : ρ.set i .un = ρ1):oK i ρ=.ok (.lst ts,ρ1):=by subst e; unfold oK; rw[h]; exact if_pos n
theorem Nz(h:f ρ=.ok (T,ρ1))(k:ga ρ1=.ok (Ts,ρ2)):Vy f ga ρ=.ok (T::Ts,ρ2):=bk h (bk k rfl)
theorem NK(h:ga ρ=.ok (Ts,ρ1))(l:Ts.length<=1000):Vz ga ρ=.ok (.tup Ts,ρ1):=bk h (if_pos l)
theorem NP(h:ga ρ=.ok (Ts,ρ1))(l:Ts.length<=1000):VF ga ρ=.ok (.lst Ts,ρ1):=bk h (if_pos l)
theorem xCD(h:aa ρ=.ok (ps,ρ1))(k:drs ρ1 ps=.ok as)(e:F as=.ok (T,b)):ux F aa ρ=.ok (T,ρ1):=bk h (bk k (bk e rfl))
theorem NQ(e:vw ρ = ρ2)(h:f ρ2=.ok (T,ρ1)):J0 f ρ=.ok (T,ρ):=by subst e; unfold J0; rw[h]; rfl
theorem NT{β : Type}{t : β -> Tr}{h : β -> List Tr}{xs:List β}(hi:fi ρ=.ok (us,ρ))(hu:us=xs.map t)(hf:∀x∈xs,fe [.sh (t x)]=.ok (.v (.lst (h x)) true,[.sh (t x)]))(hn:∀x∈xs,bD (h x)=true)(hl:xs.length<=100000):J3 [none] fi (gN 0) fe ρ=.ok (.lst (xs.map λx=>.lst (h x)),ρ):=by
 subst hu
 obtain⟨s',e'⟩:=Yw hf hn
 exact bk hi ((if_pos (by rw[List.length_map]; exact hl)).trans (bk (show dD (lQ _ _ _ _ [.un])=_ by rw[e']; rfl) (if_pos rfl)))
theorem NZ(h:f ρ=.ok (T,ρ1))(e:mK i T ρ1=.ok ρ2)(k:Q .nx ρ2):W (VJ i f ρ) Q:=⟨_,_,bk h (bk e rfl),k⟩
theorem Oa(l:T=.lst ts)(e : ρ.set i (.dp ts) = ρ1):mK i T ρ=.ok ρ1:=by subst l e; rfl
theorem Oh(l:qD T=false)(n:bh T=true)(e : ρ.set i (.sh T) = ρ1):mK i T ρ=.ok ρ1:=by
 subst e
 unfold mK
 cases T <;> first|(cases l; done)|(dsimp only; rw[if_pos n])
theorem N5(c:cH ρ i=.ok us)(h:ga ρ=.ok ([T],ρ1))(k : ρ1[i]?=some (.dp ts))(l:ts.length<=100000)(e : ρ1.set i (.dp (ts++[T])) = ρ2)(q:Q .nx ρ2):W (agF i ga ρ) Q:=by
 subst e
 exact⟨_,_,bk c (bk h (bk (a:=ts) (by unfold cH; rw[k]) (if_pos l))),q⟩
theorem N6(c : ρ[i]?=some (.dp ts))(l:ts[m]?=some (.lst us))(n:bD us=true)(e : ρ.set i (.dp (ts.set m (.lst []))) = ρ1)(k:Q .nx ρ1):W (agG i m ρ) Q:=by
 subst e
 refine⟨_,_,bk (a:=ts) (by unfold cH; rw[c]) ?_,k⟩
 rw[l]
 exact if_pos n
theorem Nt(h:W (s ρ) λfl ρ1=>WD (cD fl g ρ1) P):WD (VR s g ρ) P:=by
 obtain⟨fl,ρ1,e,T,e',q⟩:=h
 exact⟨T,bk e e',q⟩
theorem Nu(k:WD (g ρ) P):WD (cD .nx g ρ) P:=k
theorem Nv(n:bh T=true)(k:P T):WD (cD (.rt T false) g ρ) P:=⟨_,if_pos n,k⟩
theorem Nx(h:f ρ=.ok (T,ρ1))(k:P T):WD (VP f ρ) P:=⟨_,bk h rfl,k⟩
theorem dFn(e:fJ n as = ρ)(h:WD (g ρ) λT=>Rs.ok (T,qD T)=.ok z):lY n g as=.ok z:=by
 subst e
 obtain⟨T,h,k⟩:=h
 exact bk h k
theorem dFe{R:Tr × Bool->Prop}(e:fJ n as = ρ)(h:WD (g ρ) λT=>R (T,qD T)):∃z,lY n g as=.ok z/\R z:=by
 subst e
 obtain⟨T,h,k⟩:=h
 exact⟨_,bk h rfl,k⟩
end
section
variable {ρ ρ1 ρ2:En}{fa fe:EF}{aa:AF}{fi:IF}{T:Tr}{us ts vs:List Tr}{b:Bool}{i j k:Nat}{fk fj:QF}{Q:Fl->En->Prop}
theorem Yx(h:ts[k]?=some T):pQ ts (.int (k:Nat))=.ok (k,T):=by
 have lt:=(List.getElem?_eq_some_iff.mp h).1
 have e:fM ts.length (k:Int)=some k:=by
  unfold fM
  rw[if_pos (by lia),if_pos (by lia)]
  rfl
 unfold pQ
 simp only[e,h]
theorem Yy{m n:Nat}(h:fe ρ=.ok (.v T b,ρ))(c : ρ[i]?=some (.dp ts))(q:fk ρ=.ok (.int (m:Nat)))(l:ts[m]?=some (.lst us))(q':fj ρ=.ok (.int (n:Nat)))(l':n<us.length)(fl:bh T=true)(fu:∀t∈us,bh t=true)(e : ρ.set i (.dp (ts.set m (.lst (us.set n T)))) = ρ2)(k:Q .nx ρ2):W (Ve i fk fj fe ρ) Q:=by
 subst e
 have cd:cH ρ i=.ok ts:=by unfold cH; rw[c]
 have n1:dD (fk ρ)=.ok (.int m):=by rw[q]; rfl
 have n2:dD (fj ρ)=.ok (.int n):=by rw[q']; rfl
 have n3:(bh T&&bh us[n])=true:=by rw[fl,fu _ (List.getElem_mem _)]; rfl
 refine⟨_,_,bk h (bk (a:=T) rfl (bk cd (bk n1 (bk (Yx l) ?_)))),k⟩
 exact bk n2 (bk (Yx (List.getElem?_eq_getElem l')) (if_pos n3))
theorem wCD{β : Type}{t : β -> Tr}{h : β -> List Tr}{xs:List β}(hi:fi ρ=.ok (us,ρ))(hu:us=xs.map t)(hf:∀x∈xs,fe [.sh (t x)]=.ok (.v (.lst (h x)) true,[.sh (t x)]))(hn:∀x∈xs,bD (h x)=true)(hl:xs.length<=100000)(e : ρ.set i (.dp (xs.map λx=>.lst (h x))) = ρ1)(k:Q .nx ρ1):W (Jl i [none] fi (gN 0) gj fe ρ) Q:=by
 subst hu e
 obtain⟨s',e'⟩:=Yw hf hn
 exact⟨_,_,bk hi ((if_pos (by rw[List.length_map]; exact hl)).trans (bk (show dD (lQ _ _ _ _ [.un])=_ by rw[e']; rfl) (if_pos rfl))),k⟩
theorem xEn{α : Type}{g : α -> Tr}{l:List α}(d : α)(h:aa ρ=.ok ([.v T b],ρ1))(e:T=.lst (l.map g)):Ug aa ρ=.ok ((List.range l.length).map λk:Nat=>.tup [.int k,g (l.getD k d)],ρ1):=by
 subst e
 refine bk h (congrArg (λl=>Rs.ok (l,ρ1)) (List.ext_getElem? λi=>?_))
 unfold BJ
 by_cases z:i<l.length
 .simp[z]
 .simp[z]
end
end L2
namespace BH
open PySem L2
structure Od(od:LZ->List Nat)(m:Nat)(rows:List (LZ)):Prop where
 n1:1<=rows.length
 n4:rows.length<=4
 m1:1<=m
 Yz:m<=12
 len:∀l∈rows,l.length=m
 fall:∀l∈rows,uz [aJ l]=.ok (.lst ((od l).map iT),true)
 lt:∀l∈rows,∀t∈od l,t<m
 ln:∀l∈rows,(od l).length=m
section
variable {od:LZ->List Nat}{m:Nat}{rows:List (LZ)}{ds:List Nat}{as:List (Nat × Nat)}
noncomputable def sn(od:LZ->List Nat)(l:LZ)(d:Nat)(as:List (Nat × Nat))(k t:Nat):Bool:=decide (t∈(od l).take d) || decide ((k,t)∈as)
noncomputable def sA(od:LZ->List Nat)(rows:List (LZ))(ds:List Nat)(as:List (Nat × Nat))(k:Nat):Nat->Bool:=sn od (rows.getD k []) (ds.getD k 0) as k
theorem YB(hO:Od od m rows):Xn [aU rows]=.ok (.lst (rows.map λl=>.lst ((od l).map iT)),true):=by
 have:=hO.n4
 unfold aU
 walk_at "d"
 exact hO.fall x hx
 walk_at "r"
theorem getM{α : Type}{l:List α}{k:Nat}{d : α}(h:k<l.length):l.getD k d∈l:=by rw[List.getD_eq_getElem?_getD,List.getElem?_eq_getElem h]; exact List.getElem_mem _
theorem jA{α : Type}{f : α -> Tr}{l:List α}{k:Nat}(d : α)(h:k<l.length):aW (.lst (l.map f)) (.int k)=.ok (f (l.getD k d),false):=nZ (by simp[h])
theorem Lk.ok(hO:Od od m rows)(hL:Lk rows.length m ds as):∀p∈as,p.1<rows.length/\p.2<(rows.getD p.1 []).length:=λp mp=>by
 have h:=hL.2.2.2.2 p mp
 exact⟨h.1,by rw[hO.len _ (getM h.1)]; exact h.2⟩
theorem YC{s:Nat->Nat->Bool}(h:k<rows.length):(gs rows s)[k]?=some (.lst (gr (rows.getD k []) (s k))):=by unfold gs; simp[h]
theorem uU{rows:List (LZ)}{k:Nat}(h:k<rows.length):aW (aU rows) (.int k)=.ok (aJ (rows.getD k []),false):=nZ (by simp[h])
theorem YD{l:LZ}{s:Nat->Bool}:(gr l s).length=l.length:=by unfold gr; simp
theorem YF{l:LZ}{s:Nat->Bool}:∀t∈gr l s,bh t=true:=λt ht=>by
 unfold gr at ht
 obtain⟨k,_,rfl⟩:=List.mem_map.mp ht
 unfold dZ
 split <;> rfl
theorem aif(hO:Od od m rows)(hL:Lk rows.length m ds as):Xq [aU rows,jx ds as]=.ok (.lst (gs rows (sA od rows ds as)),true):=by
 have h4:=hO.n4
 have h12:=hO.Yz
 have er:=YB hO
 have eb:aU rows=.lst (rows.map aJ):=rfl
 have ed:jx ds as=.tup [.lst (ds.map iT),.lst (as.map pT)]:=rfl
 walk_at "d"
 refine wCD (t:=aJ) (h:=λl=>List.replicate l.length Tr.non) (xs:=rows) rfl rfl (λl ml=>?_) (λl _=>sV λt ht=>by rw[List.eq_of_mem_replicate ht]; rfl) (by lia) rfl ?_
 .have e2:lC (.lst [.non]) (.int (l.length:Nat))=.ok (.lst (List.replicate l.length Tr.non),true):=by
   have hl:=hO.len l ml
   unfold lC
   have h1:(0:Int)<=l.length:=by lia
   simp[h1]
   lia
  walk_at "r"
 have e0:(rows.map λl=>Tr.lst (List.replicate l.length Tr.non))=gs rows λ_ _=>false:=by
  refine List.ext_getElem? λi=>?_
  unfold gs gr dZ
  by_cases z:i<rows.length
  .simp[z]
   refine List.ext_getElem? λj=>?_
   by_cases y:j<rows[i].length <;> simp[y]
  .simp[z]
 rw[e0]
 walk_at "p"
 apply xEn ([]:LZ)
 walk_at "r"
 refine kJ [5,6,7] (λs=>[(4,.dp (gs rows s))]) (λk s=>∀k' t',s k' t'=(decide (k'<k)&&decide (t'∈(od (rows.getD k' [])).take (ds.getD k' 0)))) (λ_ _=>false) (λk' t'=>by simp) rfl (λk v s hk hs=>?_) λv s hs=>?_
 .have hd:k<ds.length:=by rw[hL.1]; exact hk
  have id:=jA (f:=iT) 0 hd
  have ec:mJ none (some (ds.getD k 0:Nat)) (.lst ((od (rows.getD k [])).map iT))=.ok (.lst (((od (rows.getD k [])).take (ds.getD k 0)).map iT),true):=by
   show Rs.ok (Tr.lst (cut ((od (rows.getD k [])).map iT) none (some (ds.getD k 0:Nat))),true)=_
   rw[Ko,<-List.map_take]
  have hl:=hO.len _ (getM (d:=[]) hk)
  walk_at "p"
  refine kE [7] (λs=>[(4,.dp (gs rows s))]) (λj s'=>∀k' t',s' k' t'=(s k' t' || (decide (k'=k)&&decide (t'∈((od (rows.getD k [])).take (ds.getD k 0)).take j)))) s (λk' t'=>by simp) rfl (λj t v s' ht hs'=>?_) λv s' hs'=>?_
  .have lt:t<(rows.getD k []).length:=by rw[hl]; exact hO.lt _ (getM hk) t (List.mem_of_mem_take (List.mem_of_getElem? ht))
   have gk:=uU hk
   have gt:=qj lt
   walk_at "p"
   refine Yy (m:=k) (n:=t) (uR (uR rfl rfl rfl rfl gk) rfl rfl rfl gt) rfl rfl (YC hk) rfl (by rw[YD]; exact lt) rfl YF rfl ?_
   rw[Yv]
   refine⟨_,λk' t'=>?_,exV rfl⟩
   rw[hs' k' t',List.take_add_one,ht]
   by_cases h1:k'=k <;> by_cases h2:t'=t <;> simp[h1,h2]
  .rw[List.take_of_length_le (Nat.le_refl _)]at hs'
   walk_at "p"
   refine⟨s',λk' t'=>?_,exV rfl⟩
   rw[hs' k' t',hs k' t']
   by_cases h1:k'=k
   .subst h1; simp
   .have:k'<k+1↔k'<k:=by lia
    simp[h1,this]
 .walk_at "p"
  refine kE [5,7] (λs=>[(4,.dp (gs rows s))]) (λj s'=>∀k' t',s' k' t'=(s k' t' || decide ((k',t')∈as.take j))) s (λk' t'=>by simp) rfl (λj p v s' hp hs'=>?_) λv s' hs'=>?_
  .obtain⟨h1,h2⟩:=Lk.ok hO hL p (List.mem_of_getElem? hp)
   obtain⟨k,t⟩:=p
   have gk:=uU h1
   have gt:=qj h2
   walk_at "p"
   refine Yy (m:=k) (n:=t) (uR (uR rfl rfl rfl rfl gk) rfl rfl rfl gt) rfl rfl (YC h1) rfl (by rw[YD]; exact h2) rfl YF rfl ?_
   rw[Yv]
   refine⟨_,λk' t'=>?_,exV rfl⟩
   rw[hs' k' t',List.take_add_one,hp]
   by_cases h1:k'=k <;> by_cases h2:t'=t <;> simp[h1,h2]
  .rw[List.take_of_length_le (Nat.le_refl _)]at hs'
   walk_at "p"
   refine congrArg (λl=>Rs.ok (Tr.lst l,true)) (List.map_congr_left λk hk=>?_)
   have hk:=List.mem_range.mp hk
   refine congrArg (λf=>Tr.lst (gr _ f)) (funext λt=>?_)
   unfold sA sn
   rw[hs' k t,hs k t,decide_eq_true hk,Bool.true_and]
end
noncomputable def gU(od:LZ->List Nat)(one:Int × Int)(l:LZ)(d:Nat):Int × Int:=if 0<d then l.getD ((od l).getD (d-1) 0) (0,1)else one
noncomputable def bR(od:LZ->List Nat)(one:Int × Int)(rows:List (LZ))(ds:List Nat):LZ:=(List.range rows.length).map λk=>gU od one (rows.getD k []) (ds.getD k 0)
theorem oh{rows:List (LZ)}{ds:List Nat}(_:ds.length=rows.length):(bR od one rows ds).length=rows.length:=by unfold bR; simp
theorem yh{rows:List (LZ)}{ds:List Nat}{k:Nat}(_:ds.length=rows.length)(hk:k<rows.length):(bR od one rows ds).getD k (0,1)=gU od one (rows.getD k []) (ds.getD k 0):=by unfold bR; simp[hk]
theorem uE{α : Type}{f : α -> Int × Int}{l:List α}:aJ (l.map f)=.lst (l.map λx=>fT (f x)):=by unfold aJ; rw[List.map_map]; rfl
theorem Oi{aa:AF}{T U V:Tr}{us vs ws:List Tr}{b b' b2:Bool}{ρ ρ1:En}(h:aa ρ=.ok ([.v T b,.v U b',.v V b2],ρ1))(e:T=.lst us)(e1:U=.lst vs)(e2:V=.lst ws)(l:us.length<=vs.length)(l':us.length<=ws.length):Uj aa ρ=.ok (jo us vs ws,ρ1):=by subst e e1 e2; exact bk h (if_pos ⟨l,l'⟩)
theorem YG{α β : Type}{f g : α -> Tr}{h : β -> Tr}:∀(xs:List α) (ys:List β),jo (xs.map f) (xs.map g) (ys.map h)=(xs.zip ys).map λp=>.tup [f p.1,g p.1,h p.2]
 | [],_=>rfl
 |_::_,[]=>rfl
 |x::xs,y::ys=>congrArg (_ :: ·) (YG xs ys)
theorem YH{od:LZ->List Nat}{one:Int × Int}(hO:Od od m rows)(hl:ds.length=rows.length)(hd:∀d∈ds,d<=m):KC [aU rows,.lst (ds.map iT),fT one]=.ok (aJ (bR od one rows ds),true):=by
 have er:=YB hO
 have n4:=hO.n4
 have ez:jo (rows.map aJ) (rows.map λl=>.lst ((od l).map iT)) (ds.map iT)=(List.range rows.length).map λk=>.tup [aJ (rows.getD k []),.lst ((od (rows.getD k [])).map iT),iT (ds.getD k 0)]:=by
  rw[YG]
  refine List.ext_getElem? λi=>?_
  by_cases z:i<rows.length
  .have z':i<ds.length:=by omega
   simp[z,z']
   exact⟨_,_,List.getElem?_zip_eq_some (z:=(rows[i],ds[i])) |>.mpr ⟨by simp[z],by simp[z']⟩,rfl,rfl,rfl⟩
  .rw[List.getElem?_eq_none (by simp; omega),List.getElem?_eq_none (by simp; omega)]
 unfold bR
 rw[uE]
 walk_at "d"
 rw[ez]
 refine rE [4,5,6] (λk=>[(3,.ow ((List.range k).map λk=>fT (gU od one (rows.getD k []) (ds.getD k 0))))]) rfl (λk v hk=>?_) (λv=>?_)
 .have ml:=getM (d:=[]) hk
  have hd:=hd _ (getM (d:=0) (show k<ds.length by omega))
  have h1:=hO.len _ ml
  have h2:=hO.ln _ ml
  rw[List.range_succ,List.map_append]
  by_cases z:0<ds.getD k 0
  .have g2:sX (.int (ds.getD k 0:Nat)) (.int 1)=.ok (.int ((ds.getD k 0-1:Nat):Int),false):=by rw[Int.ofNat_sub z]; rfl
   have i1:=jA (f:=iT) (l:=od (rows.getD k [])) (k:=ds.getD k 0-1) 0 (by omega)
   have lt:=hO.lt _ ml _ (getM (d:=0) (show ds.getD k 0-1<(od (rows.getD k [])).length by omega))
   have w:gU od one (rows.getD k []) (ds.getD k 0)=_:=if_pos z
   walk_at "p"
   exact congrArg (λy=>_++[fT y]) w.symm
  .have w:gU od one (rows.getD k []) (ds.getD k 0)=_:=if_neg z
   walk_at "p"
   exact congrArg (λy=>_++[fT y]) w.symm
 .walk_at "p"
noncomputable abbrev fV(rows:List (LZ))(k t:Nat):Int × Int:=(rows.getD k []).getD t (0,1)
noncomputable def lo(rows:List (LZ))(s:Nat->Nat->Bool)(t:Nat):LZ:=(List.range rows.length).map λk=>if s k t=true then fV rows k t else(0,1)
noncomputable def hi(rows:List (LZ))(s:Nat->Nat->Bool)(cZ:LZ)(t:Nat):LZ:=(List.range rows.length).map λk=>if s k t=true then fV rows k t else cZ.getD k (0,1)
noncomputable def bJ(a b:Nat->Int × Int)(m:Nat):List Tr:=(List.range m).map λt=>.tup [fT (a t),fT (b t)]
noncomputable def KJ(rows:List (LZ))(s:Nat->Nat->Bool)(t:Nat):List Tr:=(List.range rows.length).map λk=>dZ (s k t) (fV rows k t)
section
variable {rows:List (LZ)}{s:Nat->Nat->Bool}{cZ:LZ}{m:Nat}
theorem yD{k:Nat}(hk:k<rows.length):aW (.lst (gs rows s)) (.int k)=.ok (.lst (gr (rows.getD k []) (s k)),false):=mq (by unfold gs; simp[hk])
theorem abh(hk:0<rows.length):aW (.lst (gs rows s)) (.int 0)=.ok (.lst (gr (rows.getD 0 []) (s 0)),false):=yD hk
theorem DW{l:LZ}{s:Nat->Bool}{t:Nat}(ht:t<l.length):aW (.lst (gr l s)) (.int t)=.ok (dZ (s t) (l.getD t (0,1)),false):=mq (by unfold gr; simp[ht])
theorem abj{l:LZ}{s:Nat->Bool}:eY (.lst (gr l s))=.ok (.int l.length,false):=by
 show Rs.ok (Tr.int ((gr l s).length:Int),false)=_
 unfold gr
 simp
theorem YJ{a b:Nat->Int × Int}:(bJ a b m).length=m:=by unfold bJ; simp
theorem YK{a b:Nat->Int × Int}:bJ a b m++[.tup [fT (a m),fT (b m)]]=bJ a b (m+1):=by unfold bJ; rw[List.range_succ,List.map_append]; rfl
theorem abk{b:Bool}{x:Int × Int}{c d:Int}{τ : En}:vZ (gO (lK (qg id) (bZ 0) (eC .non))) (eC (.tup [.int c,.int d])) (bZ 0) (.sh (dZ b x)::τ)=.ok (.v (fT (if b=true then x else(c,d))) false,.sh (dZ b x)::τ):=by cases b <;> rfl
theorem abl{b:Bool}{x y:Int × Int}{τ : En}:vZ (gO (lK (qg id) (bZ 0) (eC .non))) (bZ 1) (bZ 0) (.sh (dZ b x) :: .sh (fT y)::τ)=.ok (.v (fT (if b=true then x else y)) false,.sh (dZ b x) :: .sh (fT y)::τ):=by cases b <;> rfl
theorem aii(h4:rows.length<=4)(ht:∀l∈rows,t<l.length):Xe [.lst (gs rows s),iT t]=.ok (.lst (KJ rows s t),true):=by
 walk_at "d"
 exact ht _ (List.mem_of_getElem? (i:=x) (by simp[hx]))
 walk_at "r"
theorem aij{a b:Nat->Int × Int}{R:Tr}(h1:1<=rows.length)(h4:rows.length<=4)(hl:cZ.length=rows.length)(hm:m<=12)(hr:∀l∈rows,l.length=m)(e1:∀t,t<m->iR [R,aJ (lo rows s t)]=.ok (fT (a t),false))(e2:∀t,t<m->iR [R,aJ (hi rows s cZ t)]=.ok (fT (b t),false)):Xu [R,.lst (gs rows s),aJ cZ]=.ok (.lst (bJ a b m),true):=by
 have hm0:(rows.getD 0 []).length=m:=hr _ (List.mem_of_getElem? (i:=0) (by simp[show 0<rows.length by omega]))
 walk_at "d"
 rw[hm0]
 refine rE [4,5,6,7] (λk=>[(3,.ow (bJ a b k))]) rfl (λt v ht=>?_) (λv=>?_)
 .have e0:=aii (s:=s) h4 λl hl=>(hr l hl).symm▸ht
  have e1:=e1 t ht
  have e2:=e2 t ht
  unfold lo at e1
  unfold hi at e2
  rw[uE]at e1 e2
  have bl:=YJ (m:=t) (a:=a) (b:=b)
  have ez:pL (KJ rows s t) (cZ.map fT)=(List.range rows.length).map λk=>.tup [dZ (s k t) (fV rows k t),fT (cZ.getD k (0,1))]:=by
   refine List.ext_getElem? λi=>?_
   unfold pL KJ
   rw[List.getElem?_map,List.getElem?_map]
   by_cases z:i<rows.length
   .have z':i<cZ.length:=by omega
    have e1:((List.range rows.length).map λk=>dZ (s k t) (fV rows k t))[i]?=some (dZ (s i t) (fV rows i t)):=by simp[z]
    have e2:(cZ.map fT)[i]?=some (fT (cZ.getD i (0,1))):=by simp[z']
    rw[List.getElem?_zip_eq_some (z:=(dZ (s i t) (fV rows i t),fT (cZ.getD i (0,1)))) |>.mpr ⟨e1,e2⟩]
    simp[z]
   .rw[List.getElem?_eq_none (by simp; omega),List.getElem?_eq_none (by simp; omega)]
    rfl
  walk_at "p"
  exact YK
 .walk_at "p"
end
theorem aik(h:Fall l ys)(h':Fall l zs):ys=zs:=by
 refine List.Perm.eq_of_pairwise (λa b _ _ p q=>?_) h.2 h'.2 (h.1.trans h'.1.symm)
 unfold kW at p q
 lia
open Classical in
noncomputable def aF(l:LZ):List Nat:=if h:∃zs:List Nat,Fall l zs then h.choose else []
theorem Df(h:Fall l zs):aF l=zs:=by
 have h':∃zs:List Nat,Fall l zs:=⟨zs,h⟩
 unfold aF
 rw[dif_pos h']
 exact aik h'.choose_spec h
theorem uF(h:Frs N l)(hl:1+N*l.length<=8900)(hN:N<=8900)(h64:l.length<64):Fall l (aF l)/\uz [aJ l]=.ok (.lst ((aF l).map iT),true):=by
 obtain⟨ys,e,f⟩:=CV l h hl hN h64
 rw[Df f]
 exact⟨f,e⟩
theorem Od.of(h1:1<=rows.length)(h4:rows.length<=4)(m1:1<=m)(m2:m<=12)(hl:∀l∈rows,l.length=m)(h:∀l∈rows,Frs N l)(hN:1+N*12<=8900):Od aF m rows:=by
 have k:∀l∈rows,Fall l (aF l)/\uz [aJ l]=.ok (.lst ((aF l).map iT),true):=λl ml=>uF (h l ml) (by
  have:=hl l ml
  have:N*l.length<=N*12:=Nat.mul_le_mul_left _ (by lia)
  lia) (by lia) (by have:=hl l ml; lia)
 refine⟨h1,h4,m1,m2,hl,λl ml=>(k l ml).2,λl ml t mt=>?_,λl ml=>?_⟩
 .have:=(k l ml).1.1.mem_iff.mp mt
  rw[List.mem_range,hl l ml]at this
  exact this
 .have:=(k l ml).1.1.length_eq
  rw[List.length_range,hl l ml]at this
  exact this
theorem Bk.od(hB:Bk m rows):Od aF m rows:=by
 obtain⟨b1,b2,b3,b4,b5⟩:=hB
 exact Od.of (N:=40) b1 b2 b3 b4 (λl ml=>(b5 l ml).1) (λl ml=>Wo.frs (b5 l ml).2) (by lia)
section
variable {od:LZ->List Nat}{m:Nat}{rows:List (LZ)}{ds:List Nat}{as:List (Nat × Nat)}{one:Int × Int}{a b:Nat->Int × Int}{R:Tr}
theorem ail(hO:Od od m rows)(hL:Lk rows.length m ds as)(e1:∀t,t<m->iR [R,aJ (lo rows (sA od rows ds as) t)]=.ok (fT (a t),false))(e2:∀t,t<m->iR [R,aJ (hi rows (sA od rows ds as) (bR od one rows ds) t)]=.ok (fT (b t),false)):KD [aU rows,R,jx ds as,fT one]=.ok (.lst (bJ a b m),true) :=
 J5 (V2 (nW (jr rfl (jr (nW rfl rfl rfl (aif hO hL)) (jr (nW rfl rfl rfl (YH (one:=one) hO hL.1 hL.2.1)) rfl))) rfl rfl (aij hO.n1 hO.n4 (oh hL.1) hO.Yz hO.len e1 e2)))
theorem ain(hB:Bk m rows)(ho:cF rows.length r):Xc [aU rows,bf r]=.ok (.non,false) :=
 J6 (CJ (J4 (nW rfl rfl rfl (XJ hB))) (V3 (V4 (J8 (nW (jr rfl (jr (J7 rfl rfl (oH rows)) rfl)) rfl rfl (ahY ho (by have:=hB.2.1; lia))) rfl rfl)) rfl))
end
theorem pref{α : Type}{p : α -> Bool}:∀zs:List α,zs.Pairwise (λa b=>p b=true->p a=true)->zs.take (zs.filter p).length=zs.filter p/\zs.drop (zs.filter p).length=zs.filter λa=>!p a
 | [],_=>⟨rfl,rfl⟩
 |a::l,h=>by
  obtain⟨h1,h2⟩:=List.pairwise_cons.mp h
  obtain⟨i1,i2⟩:=pref l h2
  cases e:p a with
  |true=>simp[e,i1,i2]
  |false =>
   have hf:∀b∈l,p b=false:=λb hb=>by
    cases z:p b with
    |false=>rfl
    |true=>rw[h1 b hb z]at e; cases e
   have z:l.filter p=[]:=List.filter_eq_nil_iff.mpr λb hb=>by rw[hf b hb]; simp
   have z':l.filter (λa=>!p a)=l:=List.filter_eq_self.mpr λb hb=>by rw[hf b hb]; rfl
   simp[e,z,z']
theorem jK{α : Type}{R : α -> α -> Prop}{p : α -> Bool}{zs:List α}{n : α}(hs:zs.Pairwise R)(hp:∀a∈zs,∀b∈zs,R a b->p b=true->p a=true)(h1:∀a∈zs,p a=true->R a n)(h2:∀b∈zs,p b=false->R n b):(zs.take (zs.filter p).length++n::zs.drop (zs.filter p).length).Perm (n::zs)/\(zs.take (zs.filter p).length++n::zs.drop (zs.filter p).length).Pairwise R:=by
 obtain⟨e1,e2⟩:=pref (p:=p) zs (hs.imp_of_mem λ{a b} ma mb r=>hp a ma b mb r)
 have hs':(zs.take (zs.filter p).length++zs.drop (zs.filter p).length).Pairwise R:=by rw[List.take_append_drop]; exact hs
 rw[e1,e2]at hs'
 rw[e1,e2]
 refine⟨List.perm_middle.trans ((List.filter_append_perm p zs).cons n),List.pairwise_append.mpr ⟨hs.filter p,List.pairwise_cons.mpr ⟨λb hb=>?_,hs.filter _⟩,λa ha b hb=>?_⟩⟩
 .obtain⟨m,q⟩:=List.mem_filter.mp hb
  exact h2 b m (by simpa using q)
 .obtain⟨m,q⟩:=List.mem_filter.mp ha
  rcases List.mem_cons.mp hb with rfl|hb
  .exact h1 a m q
  .exact(List.pairwise_append.mp hs').2.2 a ha b hb
open Classical in
noncomputable def wv(r:Ru)(xs:LZ):Int × Int:=if h:∃v,Wv r xs v then h.choose else(0,1)
theorem aio(hx:LT xs)(h:Wv r xs v):wv r xs=v:=by
 have h':∃v,Wv r xs v:=⟨v,h⟩
 unfold wv
 rw[dif_pos h']
 exact Wv.uniq hx h'.choose_spec h
theorem YL(hx:∀x∈xs,Wo x)(h:Wv r xs v):wv r xs=v:=aio (ah1 hx) h
theorem KN(hx:∀x∈xs,Wo x)(h1:1<=xs.length)(h2:xs.length<=12)(ho:cF xs.length r):iR [bf r,aJ xs]=.ok (fT (wv r xs),false)/\Wv r xs (wv r xs):=by
 obtain⟨v,e,h⟩:=ah0 hx h1 h2 ho
 rw[YL hx h]
 exact⟨e,h⟩
theorem aip:Wo (0,1):=by decide
theorem aiq:Wo (1,1):=by decide
noncomputable def col(rows:List (LZ))(t:Nat):LZ:=(List.range rows.length).map λk=>fV rows k t
section
variable {m:Nat}{rows:List (LZ)}{ds:List Nat}{as:List (Nat × Nat)}{s:Nat->Nat->Bool}{cZ:LZ}{t:Nat}
theorem Bk.row(hB:Bk m rows)(hk:k<rows.length):(rows.getD k [])∈rows/\(rows.getD k []).length=m/\∀x∈rows.getD k [],Wo x:=by
 have e:rows[k]?=some (rows.getD k []):=by simp[hk]
 have ml:=List.mem_of_getElem? e
 exact⟨ml,hB.2.2.2.2 _ ml⟩
theorem Bk.YM(hB:Bk m rows)(hk:k<rows.length)(ht:t<m):Wo (fV rows k t):=by
 obtain⟨_,h1,h2⟩:=hB.row hk
 unfold fV
 generalize rows.getD k []=l at *
 have lt:t<l.length:=by lia
 have e:l[t]?=some (l.getD t (0,1)):=by simp[lt]
 exact h2 _ (List.mem_of_getElem? e)
theorem Dg(hB:Bk m rows)(ht:t<m):∀x∈lo rows s t,Wo x:=λx mx=>by
 obtain⟨k,mk,rfl⟩:=List.mem_map.mp mx
 split
 .exact hB.YM (List.mem_range.mp mk) ht
 .exact aip
theorem KQ(hB:Bk m rows)(ht:t<m)(hl:cZ.length=rows.length)(hw:∀x∈cZ,Wo x):∀x∈hi rows s cZ t,Wo x:=λx mx=>by
 obtain⟨k,mk,rfl⟩:=List.mem_map.mp mx
 have hk:=List.mem_range.mp mk
 split
 .exact hB.YM hk ht
 .have lt:k<cZ.length:=by lia
  have e:cZ[k]?=some (cZ.getD k (0,1)):=by simp[lt]
  exact hw _ (List.mem_of_getElem? e)
theorem air(hB:Bk m rows)(hk:k<rows.length)(hd:d<=m):Wo (gU aF (1,1) (rows.getD k []) d):=by
 obtain⟨ml,h1,h2⟩:=hB.row hk
 have hO:=hB.od
 have q1:=hO.ln _ ml
 have q2:=hO.lt _ ml
 unfold gU
 generalize rows.getD k []=l at *
 split
 .have lt:d-1<(aF l).length:=by lia
  have e:(aF l)[d-1]?=some ((aF l).getD (d-1) 0):=by simp[lt]
  have aM:=q2 _ (List.mem_of_getElem? e)
  have j7:(aF l).getD (d-1) 0<l.length:=by lia
  generalize (aF l).getD (d-1) 0=j at *
  have e2:l[j]?=some (l.getD j (0,1)):=by simp[j7]
  exact h2 _ (List.mem_of_getElem? e2)
 .exact aiq
theorem yj(hB:Bk m rows)(hL:Lk rows.length m ds as):∀x∈bR aF (1,1) rows ds,Wo x:=λx mx=>by
 obtain⟨k,hk,e⟩:=List.getElem_of_mem mx
 have ll:=oh (od:=aF) (one:=(1,1)) hL.1
 have hk':k<rows.length:=by lia
 have e2:=yh (od:=aF) (one:=(1,1)) hL.1 hk'
 have e3:(bR aF (1,1) rows ds).getD k (0,1)=x:=by simp[hk,e]
 rw[<-e3,e2]
 have ld:k<ds.length:=by have:=hL.1; lia
 have e4:ds[k]?=some (ds.getD k 0):=by simp[ld]
 exact air hB hk' (hL.2.1 _ (List.mem_of_getElem? e4))
theorem gW:(lo rows s t).length=rows.length:=by unfold lo; simp
theorem iY:(hi rows s cZ t).length=rows.length:=by unfold hi; simp
theorem ais(hk:k<rows.length):(lo rows s t).getD k (0,1)=if s k t=true then fV rows k t else(0,1):=by unfold lo; simp[hk]
theorem ait(hk:k<rows.length):(hi rows s cZ t).getD k (0,1)=if s k t=true then fV rows k t else cZ.getD k (0,1):=by unfold hi; simp[hk]
variable {r:Ru}
noncomputable def loV(r:Ru)(rows:List (LZ))(ds:List Nat)(as:List (Nat × Nat))(t:Nat):Int × Int:=wv r (lo rows (sA aF rows ds as) t)
noncomputable def hiV(r:Ru)(rows:List (LZ))(ds:List Nat)(as:List (Nat × Nat))(t:Nat):Int × Int:=wv r (hi rows (sA aF rows ds as) (bR aF (1,1) rows ds) t)
theorem YQ(hB:Bk m rows)(ho:cF rows.length r)(ht:t<m):iR [bf r,aJ (lo rows (sA aF rows ds as) t)]=.ok (fT (loV r rows ds as t),false)/\Fq 400 (loV r rows ds as t):=by
 have q:=KN (r:=r) (Dg (s:=sA aF rows ds as) hB ht) (by rw[gW]; exact hB.1) (by rw[gW]; have:=hB.2.1; lia) (by rw[gW]; exact ho)
 exact⟨q.1,Wv.fq (Dg hB ht) (by rw[gW]; exact hB.2.1) (by rw[gW]; exact ho) q.2⟩
theorem YS(hB:Bk m rows)(hL:Lk rows.length m ds as)(ho:cF rows.length r)(ht:t<m):iR [bf r,aJ (hi rows (sA aF rows ds as) (bR aF (1,1) rows ds) t)]=.ok (fT (hiV r rows ds as t),false)/\Fq 400 (hiV r rows ds as t):=by
 have w:=KQ (s:=sA aF rows ds as) hB ht (oh hL.1) (yj hB hL)
 have q:=KN (r:=r) w (by rw[iY]; exact hB.1) (by rw[iY]; have:=hB.2.1; lia) (by rw[iY]; exact ho)
 exact⟨q.1,Wv.fq w (by rw[iY]; exact hB.2.1) (by rw[iY]; exact ho) q.2⟩
end
def Sc(c:Int)(x x':Int × Int):Prop:=x'.1*x.2=c*x.1*x'.2
theorem Sc.le(hc:1<=c)(h1:1<=x.2)(h2:1<=x'.2)(h3:1<=y.2)(h4:1<=y'.2)(a:Sc c x x')(b:Sc c y y'):le2 x' y'↔le2 x y:=by
 unfold Sc at a b
 unfold le2
 have p1:0<x.2*y.2:=Int.mul_pos (by lia) (by lia)
 have p2:0<c*(x'.2*y'.2):=Int.mul_pos (by lia) (Int.mul_pos (by lia) (by lia))
 have e1:x'.1*y'.2*(x.2*y.2)=x.1*y.2*(c*(x'.2*y'.2)):=by grind
 have e2:y'.1*x'.2*(x.2*y.2)=y.1*x.2*(c*(x'.2*y'.2)):=by grind
 constructor
 .intro h
  have:=Int.mul_le_mul_of_nonneg_right h (Int.le_of_lt p1)
  rw[e1,e2]at this
  exact Int.le_of_mul_le_mul_right this p2
 .intro h
  have:=Int.mul_le_mul_of_nonneg_right h (Int.le_of_lt p2)
  rw[<-e1,<-e2]at this
  exact Int.le_of_mul_le_mul_right this p1
theorem Sc.YT(h1:1<=x.2)(h2:1<=x'.2)(h3:1<=y.2)(h4:1<=y'.2)(a:Sc c x x')(b:Sc d y y'):Sc (c*d) (gQ x y) (gQ x' y'):=by
 have p1:0<x.2*y.2:=Int.mul_pos (by lia) (by lia)
 have p2:0<x'.2*y'.2:=Int.mul_pos (by lia) (by lia)
 have v1:=(rG (a:=x.1*y.1) (b:=x.2*y.2) (by lia)).1
 have v2:=(rG (a:=x'.1*y'.1) (b:=x'.2*y'.2) (by lia)).1
 unfold Sc at *
 unfold gQ
 generalize (red (x'.1*y'.1) (x'.2*y'.2)).2=q',(red (x'.1*y'.1) (x'.2*y'.2)).1=p',(red (x.1*y.1) (x.2*y.2)).2=q,(red (x.1*y.1) (x.2*y.2)).1=p at *
 refine Int.eq_of_mul_eq_mul_right (a:=x.2*y.2*(x'.2*y'.2)) (Int.ne_of_gt (Int.mul_pos p1 p2)) ?_
 grind
theorem Sc.sum(h1:1<=x.2)(h2:1<=x'.2)(h3:1<=y.2)(h4:1<=y'.2)(a:Sc c x x')(b:Sc c y y'):Sc c (sumF x y) (sumF x' y'):=by
 have p1:0<x.2*y.2:=Int.mul_pos (by lia) (by lia)
 have p2:0<x'.2*y'.2:=Int.mul_pos (by lia) (by lia)
 have v1:=(rG (a:=x.1*y.2+y.1*x.2) (b:=x.2*y.2) (by lia)).1
 have v2:=(rG (a:=x'.1*y'.2+y'.1*x'.2) (b:=x'.2*y'.2) (by lia)).1
 unfold Sc at *
 unfold sumF
 generalize (red (x'.1*y'.2+y'.1*x'.2) (x'.2*y'.2)).2=q',(red (x'.1*y'.2+y'.1*x'.2) (x'.2*y'.2)).1=p',(red (x.1*y.2+y.1*x.2) (x.2*y.2)).2=q,(red (x.1*y.2+y.1*x.2) (x.2*y.2)).1=p at *
 refine Int.eq_of_mul_eq_mul_right (a:=x.2*y.2*(x'.2*y'.2)) (Int.ne_of_gt (Int.mul_pos p1 p2)) ?_
 grind
noncomputable def sc(B:Int)(x:Int × Int):Int × Int:=gQ x (B,1)
theorem YW(B:Int):sc B (0,1)=(0,1):=by
 unfold sc gQ red
 simp
theorem aiu:sc B (1,1)=(B,1):=by
 unfold sc gQ red
 simp
theorem mD(h:1<=x.2):Sc B x (sc B x):=by
 have v:=(rG (a:=x.1*B) (b:=x.2*1) (by lia)).1
 unfold Sc sc gQ
 dsimp only
 generalize (red (x.1*B) (x.2*1)).2=q,(red (x.1*B) (x.2*1)).1=p at *
 grind
theorem YX(h:1<=x.2)(hd:x.2∣B):∃k,B=x.2*k/\sc B x=(x.1*k,1):=by
 obtain⟨k,rfl⟩:=hd
 refine⟨k,rfl,?_⟩
 have g:Int.gcd (x.1*(x.2*k)) (x.2*1)=x.2.natAbs:=by
  rw[Int.mul_one,show x.1*(x.2*k)=x.2*(x.1*k) by ac_rfl]
  exact Int.gcd_mul_right_left ..
 have e:((Int.gcd (x.1*(x.2*k)) (x.2*1):Nat):Int)=x.2:=by rw[g]; lia
 show red (x.1*(x.2*k)) (x.2*1)=_
 unfold red
 rw[e,show x.1*(x.2*k)=x.2*(x.1*k) by ac_rfl,Int.mul_ediv_cancel_left _ (by lia),Int.mul_one,Int.ediv_self (by lia)]
theorem uG(h:Wo x)(hd:x.2∣B)(h1:1<=B)(hB:B<=1000000000000):Fq 45 (sc B x)/\(sc B x).2=1:=by
 obtain⟨k,e,v⟩:=YX h.2.2.1 hd
 obtain⟨w1,w2,w3,_⟩:=h
 have k0:0<=k:=by
  rcases Int.lt_or_le k 0 with z|z
  .have:=Int.mul_neg_of_pos_of_neg (a:=x.2) (b:=k) (by lia) z
   lia
  .exact z
 have l1:=Int.mul_nonneg w1 k0
 have l2:=Int.mul_le_mul_of_nonneg_right w2 k0
 rw[v]
 refine⟨⟨l1,?_,by show(1:Int)<=1; lia,by show(1:Int)<2 ^ 45; decide,by show Int.gcd _ 1=1; simp⟩,rfl⟩
 show x.1*k<2 ^ 45
 have:(2:Int) ^ 45=35184372088832:=by decide
 lia
theorem Dh(h1:1<=x.2)(h2:1<=y.2):1<=(gQ x y).2:=(rG (by have:=Int.mul_pos (a:=x.2) (b:=y.2) (by lia) (by lia); lia)).2.1
theorem YZ(h1:1<=x.2)(h2:1<=y.2):1<=(sumF x y).2:=(rG (by have:=Int.mul_pos (a:=x.2) (b:=y.2) (by lia) (by lia); lia)).2.1
noncomputable def gY(k:Int):Ru->Ru
 |.sh ws=>.sh (ws.map (sc k))
 |r=>r
noncomputable def kZ(k B:Int)(n:Nat):Ru->Int
 |.sh _=>k*B
 |.product=>B ^ n
 |_=>B
theorem Y0:∀(ws xs:LZ) (t t':Int × Int),(∀w∈ws,1<=w.2/\1<=(sc k w).2)->(∀x∈xs,1<=x.2/\1<=(sc B x).2)->1<=t.2->1<=t'.2->Sc (k*B) t t'->Sc (k*B) (ju (ws.zip xs) t) (ju ((ws.map (sc k)).zip (xs.map (sc B))) t')
 | [],_,t,t',_,_,_,_,h=>h
 |_::_,[],t,t',_,_,_,_,h=>h
 |w::ws,x::xs,t,t',hw,hx,h1,h2,h=>by
  obtain⟨w1,w2⟩:=hw w (by simp)
  obtain⟨x1,x2⟩:=hx x (by simp)
  have b1:=Dh w1 x1
  have b2:=Dh w2 x2
  exact Y0 ws xs _ _ (λw m=>hw w (by simp[m])) (λx m=>hx x (by simp[m])) (YZ h1 b1) (YZ h2 b2) (Sc.sum h1 h2 b1 b2 h (Sc.YT w1 w2 x1 x2 (mD w1) (mD x1)))
theorem Y4:∀(xs:LZ) (c:Int) (t t':Int × Int),(∀x∈xs,1<=x.2/\1<=(sc B x).2)->1<=t.2->1<=t'.2->Sc c t t'->Sc (c*B ^ xs.length) (jw xs t) (jw (xs.map (sc B)) t')
 | [],c,t,t',_,_,_,h=>by
  rw[List.length_nil,Int.pow_zero,Int.mul_one]
  exact h
 |x::xs,c,t,t',hx,h1,h2,h=>by
  obtain⟨x1,x2⟩:=hx x (by simp)
  have:=Y4 xs (c*B) (gQ t x) (gQ t' (sc B x)) (λx m=>hx x (by simp[m])) (Dh h1 x1) (Dh h2 x2) (Sc.YT h1 h2 x1 x2 h (mD x1))
  rw[List.length_cons,Int.pow_succ,show c*(B ^ xs.length*B)=c*B*B ^ xs.length by ac_rfl]
  exact this
theorem LT.of(h:∀x∈xs,Fq 45 x):LT xs:=λx m=>⟨(h x m).2.2.1,(h x m).2.2.2.2⟩
theorem Y5(hx:∀x∈xs,Wo x/\x.2∣B)(b1:1<=B)(b2:B<=1000000000000)(h1:1<=xs.length)(h4:xs.length<=4)(ho:cF xs.length r)(ho':cF xs.length (gY k r)):∃v',iR [bf (gY k r),aJ (xs.map (sc B))]=.ok (fT v',false)/\Sc (kZ k B xs.length r) (wv r xs) v'/\Fq 400 v':=by
 have hf:∀x∈xs,Fq 45 (sc B x)/\(sc B x).2=1:=λx m=>uG (hx x m).1 (hx x m).2 b1 b2
 have hq:∀x∈xs.map (sc B),Fq 45 x:=λy m=>by
  obtain⟨x,mx,rfl⟩:=List.mem_map.mp m
  exact(hf x mx).1
 have ll:(xs.map (sc B)).length=xs.length:=List.length_map ..
 have ho2:cF (xs.map (sc B)).length (gY k r):=by rw[ll]; exact ho'
 obtain⟨v',e,h'⟩:=Yh hq (by lia) (by lia) ho2
 have hw:=(KN (r:=r) (λx m=>(hx x m).1) h1 (by lia) ho).2
 refine⟨v',e,?_,Wv.Yi hq (by lia) ho2 h'⟩
 have px:∀x∈xs,1<=x.2/\1<=(sc B x).2:=λx m=>⟨(hx x m).1.2.2.1,(hf x m).1.2.2.1⟩
 have pl:placed r=true->gY k r=r->kZ k B xs.length r=B->(∃zs,dg xs zs/\zs[fU xs.length r-1]?=some (wv r xs))->(∃zs,dg (xs.map (sc B)) zs/\zs[fU (xs.map (sc B)).length r-1]?=some v')->Sc (kZ k B xs.length r) (wv r xs) v':=λ_ _ es ⟨zs,d,e1⟩ ⟨zs',d',e2⟩=>by
  have dm:dg (xs.map (sc B)) (zs.map (sc B)):=⟨d.1.map _,by
   rw[List.pairwise_map]
   refine d.2.imp_of_mem λ{a b} ma mb hab=>?_
   have ma:=px a (d.1.mem_iff.mp ma)
   have mb:=px b (d.1.mem_iff.mp mb)
   exact(Sc.le b1 mb.1 mb.2 ma.1 ma.2 (mD mb.1) (mD ma.1)).mpr hab⟩
  rw[dg.uniq (LT.of hq) d' dm,ll,List.getElem?_map,e1]at e2
  cases e2
  rw[es]
  exact mD (px _ (d.1.mem_iff.mp (List.mem_of_getElem? e1))).1
 cases r with
 |sh ws =>
  have hw:wv (.sh ws) xs=ju (ws.zip xs) (0,1):=hw
  have h':v'=ju ((ws.map (sc k)).zip (xs.map (sc B))) (0,1):=h'
  rw[hw,h']
  exact Y0 ws xs _ _ (λw m=>⟨(ho.2 w m).2.2.1,(ho'.2 _ (List.mem_map.mpr ⟨w,m,rfl⟩)).2.2.1⟩) px (by decide) (by decide) (by unfold Sc; simp)
 |product =>
  have hw:wv .product xs=jw xs (1,1):=hw
  have h':v'=jw (xs.map (sc B)) (1,1):=h'
  rw[hw,h']
  have:=Y4 xs 1 (1,1) (1,1) px (by decide) (by decide) (by unfold Sc; simp)
  rw[Int.one_mul]at this
  exact this
 |least=>exact pl rfl rfl rfl hw h'
 |greatest=>exact pl rfl rfl rfl hw h'
 |mid j=>exact pl rfl rfl rfl hw h'
noncomputable def bO(B:Int)(rows:List (LZ)):List (LZ):=rows.map λl=>l.map (sc B)
section
variable {m:Nat}{rows:List (LZ)}{ds:List Nat}{as:List (Nat × Nat)}{B:Int}
theorem yp(l:LZ)(t:Nat):(l.map (sc B)).getD t (0,1)=sc B (l.getD t (0,1)):=by
 by_cases h:t<l.length
 .simp[h]
 .simp[h,YW]
theorem Y6(k:Nat):(bO B rows).getD k []=(rows.getD k []).map (sc B):=by
 unfold bO
 by_cases h:k<rows.length <;> simp[h]
theorem Y7(k t:Nat):fV (bO B rows) k t=sc B (fV rows k t):=by
 unfold fV
 rw[Y6,yp]
theorem KR(hw:∀x∈l,Wo x/\x.2∣B)(hl:l.length<=12)(b1:1<=B)(b2:B<=1000000000000):aF (l.map (sc B))=aF l:=by
 have hF:=(uF (N:=40) (l:=l) (Wo.frs λx m=>(hw x m).1) (by lia) (by lia) (by lia)).1
 refine Df ⟨by rw[List.length_map]; exact hF.1,hF.2.imp_of_mem λ{i j} mi mj h=>?_⟩
 have li:=List.mem_range.mp (hF.1.mem_iff.mp mi)
 have lj:=List.mem_range.mp (hF.1.mem_iff.mp mj)
 have wi:=hw (l.getD i (0,1)) (List.mem_of_getElem? (i:=i) (by simp[li]))
 have wj:=hw (l.getD j (0,1)) (List.mem_of_getElem? (i:=j) (by simp[lj]))
 have fi:=(uG wi.1 wi.2 b1 b2).1
 have fj:=(uG wj.1 wj.2 b1 b2).1
 have l1:=Sc.le b1 wi.1.2.2.1 fi.2.2.1 wj.1.2.2.1 fj.2.2.1 (mD wi.1.2.2.1) (mD wj.1.2.2.1)
 have l2:=Sc.le b1 wj.1.2.2.1 fj.2.2.1 wi.1.2.2.1 fi.2.2.1 (mD wj.1.2.2.1) (mD wi.1.2.2.1)
 unfold kW at *
 rw[yp,yp]
 unfold le2 at l1 l2
 lia
end
def Bd(B:Int)(rows:List (LZ)):Prop:=1<=B/\B<=1000000000000/\∀l∈rows,∀x∈l,x.2∣B
section
variable {m:Nat}{rows:List (LZ)}{ds:List Nat}{as:List (Nat × Nat)}{B k:Int}{s:Nat->Nat->Bool}{cZ:LZ}{t:Nat}{r:Ru}
theorem pY:(bO B rows).length=rows.length:=List.length_map ..
theorem aiv(hB:Bk m rows)(hD:Bd B rows)(j:Nat):aF ((rows.getD j []).map (sc B))=aF (rows.getD j []):=by
 by_cases h:j<rows.length
 .obtain⟨ml,q1,q2⟩:=hB.row h
  exact KR (λx mx=>⟨q2 x mx,hD.2.2 _ ml x mx⟩) (by have:=hB.2.2.2.1; lia) hD.1 hD.2.1
 .rw[show rows.getD j []=[] by simp[h]]
  rfl
theorem Y8(hB:Bk m rows)(hD:Bd B rows):sA aF (bO B rows) ds as=sA aF rows ds as:=by
 funext j t
 unfold sA sn
 rw[Y6,aiv hB hD]
theorem aiw:lo (bO B rows) s t=(lo rows s t).map (sc B):=by
 unfold lo
 rw[pY,List.map_map]
 refine List.map_congr_left λj _=>?_
 dsimp only[Function.comp]
 rw[Y7]
 split
 .rfl
 .exact(YW B).symm
theorem aix:hi (bO B rows) s (cZ.map (sc B)) t=(hi rows s cZ t).map (sc B):=by
 unfold hi
 rw[pY,List.map_map]
 refine List.map_congr_left λj _=>?_
 dsimp only[Function.comp]
 rw[Y7,yp]
 split <;> rfl
theorem Y9{rows:List (LZ)}{ds:List Nat}(h:∀l∈rows,aF (l.map (sc B))=aF l):bR aF (B,1) (bO B rows) ds=(bR aF (1,1) rows ds).map (sc B):=by
 unfold bR
 rw[List.map_map,show(bO B rows).length=rows.length by unfold bO; simp]
 refine List.map_congr_left λk hk=>?_
 have hk:=List.mem_range.mp hk
 show gU aF (B,1) ((bO B rows).getD k []) _=sc B (gU aF (1,1) (rows.getD k []) _)
 rw[show(bO B rows).getD k []=(rows.getD k []).map (sc B) by unfold bO; simp[hk]]
 unfold gU
 rw[h _ (getM hk),yp]
 split
 .rfl
 .exact aiu.symm
theorem Za(hB:Bk m rows)(hD:Bd B rows):∀l∈rows,aF (l.map (sc B))=aF l:=λl ml=>by
 have:=hB.2.2.2.2 l ml
 exact KR (λx mx=>⟨this.2 x mx,hD.2.2 l ml x mx⟩) (by have:=hB.2.2.2.1; lia) hD.1 hD.2.1
theorem aiy(hD:Bd B rows)(hB:Bk m rows)(ht:t<m):∀x∈lo rows s t,Wo x/\x.2∣B:=λx mx=>by
 refine⟨Dg hB ht x mx,?_⟩
 obtain⟨j,mj,rfl⟩:=List.mem_map.mp mx
 have hj:=List.mem_range.mp mj
 split
 .obtain⟨ml,q1,q2⟩:=hB.row hj
  refine hD.2.2 _ ml _ ?_
  unfold fV
  generalize rows.getD j []=l at *
  have lt:t<l.length:=by lia
  exact List.mem_of_getElem? (i:=t) (by simp[lt])
 .exact Int.one_dvd _
theorem Zb(hD:Bd B rows)(hB:Bk m rows)(hL:Lk rows.length m ds as):∀x∈bR aF (1,1) rows ds,x.2∣B:=λx mx=>by
 obtain⟨j,hj,e⟩:=List.getElem_of_mem mx
 have ll:=oh (od:=aF) (one:=(1,1)) hL.1
 have hj':j<rows.length:=by lia
 have e2:=yh (od:=aF) (one:=(1,1)) hL.1 hj'
 have e3:(bR aF (1,1) rows ds).getD j (0,1)=x:=by simp[hj,e]
 rw[<-e3,e2]
 have ld:j<ds.length:=by have:=hL.1; lia
 have e4:ds[j]?=some (ds.getD j 0):=by simp[ld]
 have hd:=hL.2.1 _ (List.mem_of_getElem? e4)
 obtain⟨ml,q1,q2⟩:=hB.row hj'
 have hO:=hB.od
 have w1:=hO.ln _ ml
 have w2:=hO.lt _ ml
 have w3:=hD.2.2 _ ml
 unfold gU
 generalize ds.getD j 0=d,rows.getD j []=l at *
 split
 .have lt:d-1<(aF l).length:=by lia
  have e:(aF l)[d-1]?=some ((aF l).getD (d-1) 0):=by simp[lt]
  have aM:=w2 _ (List.mem_of_getElem? e)
  have j7:(aF l).getD (d-1) 0<l.length:=by lia
  generalize (aF l).getD (d-1) 0=i at *
  exact w3 _ (List.mem_of_getElem? (i:=i) (by simp[j7]))
 .exact Int.one_dvd _
theorem aiz(hD:Bd B rows)(hB:Bk m rows)(hL:Lk rows.length m ds as)(ht:t<m):∀x∈hi rows s (bR aF (1,1) rows ds) t,Wo x/\x.2∣B:=λx mx=>by
 refine⟨KQ hB ht (oh hL.1) (yj hB hL) x mx,?_⟩
 obtain⟨j,mj,rfl⟩:=List.mem_map.mp mx
 have hj:=List.mem_range.mp mj
 split
 .obtain⟨ml,q1,q2⟩:=hB.row hj
  refine hD.2.2 _ ml _ ?_
  unfold fV
  generalize rows.getD j []=l at *
  have lt:t<l.length:=by lia
  exact List.mem_of_getElem? (i:=t) (by simp[lt])
 .have ll:=oh (od:=aF) (one:=(1,1)) hL.1
  have lt:j<(bR aF (1,1) rows ds).length:=by lia
  exact Zb hD hB hL _ (List.mem_of_getElem? (i:=j) (by simp[lt]))
theorem aiA(hB:Bk m rows)(hD:Bd B rows)(hL:Lk rows.length m ds as)(ho:cF rows.length r)(ho':cF rows.length (gY k r)):∃a b:Nat->Int × Int,KD [aU (bO B rows),bf (gY k r),jx ds as,fT (B,1)]=.ok (.lst (bJ a b m),true)/\∀t,t<m->Sc (kZ k B rows.length r) (loV r rows ds as t) (a t)/\Sc (kZ k B rows.length r) (hiV r rows ds as t) (b t)/\Fq 400 (a t)/\Fq 400 (b t):=by
 have h1:=hB.1
 have h4:=hB.2.1
 have A:∀t,∃v,t<m->iR [bf (gY k r),aJ (lo (bO B rows) (sA aF (bO B rows) ds as) t)]=.ok (fT v,false)/\Sc (kZ k B rows.length r) (loV r rows ds as t) v/\Fq 400 v:=λt=>by
  by_cases ht:t<m
  .obtain⟨v,q⟩:=Y5 (k:=k) (B:=B) (r:=r) (aiy (s:=sA aF rows ds as) hD hB ht) hD.1 hD.2.1 (by rw[gW]; exact h1) (by rw[gW]; exact h4) (by rw[gW]; exact ho) (by rw[gW]; exact ho')
   rw[gW]at q
   refine⟨v,λ_=>?_⟩
   rw[Y8 hB hD,aiw]
   exact q
  .exact⟨(0,1),λz=>absurd z ht⟩
 have C:∀t,∃v,t<m->iR [bf (gY k r),aJ (hi (bO B rows) (sA aF (bO B rows) ds as) (bR aF (B,1) (bO B rows) ds) t)]=.ok (fT v,false)/\Sc (kZ k B rows.length r) (hiV r rows ds as t) v/\Fq 400 v:=λt=>by
  by_cases ht:t<m
  .obtain⟨v,q⟩:=Y5 (k:=k) (B:=B) (r:=r) (aiz (s:=sA aF rows ds as) hD hB hL ht) hD.1 hD.2.1 (by rw[iY]; exact h1) (by rw[iY]; exact h4) (by rw[iY]; exact ho) (by rw[iY]; exact ho')
   rw[iY]at q
   refine⟨v,λ_=>?_⟩
   rw[Y8 hB hD,Y9 (Za hB hD),aix]
   exact q
  .exact⟨(0,1),λz=>absurd z ht⟩
 have hO:Od aF m (bO B rows):=Od.of (N:=45) (by rw[pY]; exact h1) (by rw[pY]; exact h4) hB.2.2.1 hB.2.2.2.1 (λl ml=>by
   obtain⟨l',jy,rfl⟩:=List.mem_map.mp ml
   rw[List.length_map]
   exact(hB.2.2.2.2 l' jy).1) (λl ml=>by
   obtain⟨l',jy,rfl⟩:=List.mem_map.mp ml
   refine Fq.frs λy my=>?_
   obtain⟨x,mx,rfl⟩:=List.mem_map.mp my
   exact(uG ((hB.2.2.2.2 l' jy).2 x mx) (hD.2.2 l' jy x mx) hD.1 hD.2.1).1) (by lia)
 refine⟨λt=>(A t).choose,λt=>(C t).choose,ail hO (by rw[pY]; exact hL) (λt ht=>((A t).choose_spec ht).1) (λt ht=>((C t).choose_spec ht).1),λt ht=>?_⟩
 have q1:=(A t).choose_spec ht
 have q2:=(C t).choose_spec ht
 exact⟨q1.2.1,q2.2.1,q1.2.2,q2.2.2⟩
end
def rH:Ru->Prop
 |.sh ws=>∀w∈ws,w.2∣12/\w.1<=100
 |_=>True
theorem Zc(s0:Sl):∀(ts:List Tr) (s1:Sl),∃t1,fZ (gN 1) gj (bZ 1) ts [s0,s1]=.ok (ts,[s0,t1])
 | [],s1=>⟨s1,rfl⟩
 |u::ts,s1=>by
  obtain⟨t1,e⟩:=Zc s0 ts (.sh u)
  exact⟨t1,bk rfl (bk rfl (bk e rfl))⟩
theorem Zd:∀(rows:List (LZ)) (s0 s1:Sl),(∀l∈rows,l.length<=1000)->∃t0 t1,xJ (gN 0) (tY (bZ 0)) (gN 1) (bZ 1) (rows.map aJ) [s0,s1]=.ok (rows.flatten.map fT,[t0,t1])
 | [],s0,s1,_=>⟨s0,s1,rfl⟩
 |l::rows,s0,s1,h=>by
  obtain⟨u1,e1⟩:=Zc (.sh (aJ l)) (l.map fT) s1
  obtain⟨t0,t1,e2⟩:=Zd rows (.sh (aJ l)) u1 λl ml=>h l (by simp[ml])
  refine⟨t0,t1,bk rfl (bk rfl ((if_pos (by show(l.map fT).length<=1000; rw[List.length_map]; exact h l (by simp))).trans (bk e1 (bk e2 ?_))))⟩
  rw[List.flatten_cons,List.map_append]
theorem Ze(b1:1<=B)(b2:B<=1000000000000):Fq 45 (B,1):=by
 have e:(2:Int) ^ 45=35184372088832:=by decide
 refine⟨?_,?_,Int.le_refl 1,by show(1:Int)<2 ^ 45; decide,by show Int.gcd B 1=1; simp⟩
 .show 0<=B
  lia
 .show B<2 ^ 45
  lia
theorem Zf{rows:List (LZ)}{fi:IF}{us:List Tr}{ρ : En}(h:fi ρ=.ok (us,ρ))(hu:us=rows.map aJ)(hl:rows.length<=100)(hr:∀l∈rows,l.length<=1000):JH [none,none] fi (gN 0) (tY (bZ 0)) (gN 1) (bZ 1) ρ=.ok (.v (.lst (rows.flatten.map fT)) true,ρ):=by
 subst hu
 obtain⟨t0,t1,eg⟩:=Zd rows .un .un hr
 refine bk h ((if_pos (by rw[List.length_map]; exact hl)).trans ?_)
 show(dD (xJ _ _ _ _ (rows.map aJ) [.un,.un])).bind _=_
 rw[eg]
 rfl
section
variable {m:Nat}{rows:List (LZ)}{r:Ru}
theorem aiB(hB:Bk m rows)(hD:∃D,Bd D rows)(ho:cF rows.length r)(hS:rH r):∃B k:Int,Bd B rows/\cF rows.length (gY k r)/\1<=k/\yc [aU rows,bf r]=.ok (.tup [aU (bO B rows),bf (gY k r),fT (B,1)],false):=by
 obtain⟨c1,c2,c3,c4,c5⟩:=id hB
 obtain⟨D,d1,d2,d3⟩:=hD
 have wo:∀x∈rows.flatten,Wo x:=λx mx=>by
  obtain⟨l,ml,mx⟩:=List.mem_flatten.mp mx
  exact(c5 l ml).2 x mx
 have lf:rows.flatten.length<=48:=by
  have:∀rs:List (LZ),(∀l∈rs,l.length=m)->rs.flatten.length=rs.length*m:=λrs=>by
   induction rs with
   |nil=>intro _; simp
   |cons l rs ih =>
    intro h
    rw[List.flatten_cons,List.length_append,ih λl ml=>h l (by simp[ml]),h l (by simp),List.length_cons,Nat.succ_mul]
    lia
  rw[this rows λl ml=>(c5 l ml).1]
  exact Nat.mul_le_mul (show rows.length<=4 by lia) c4
 obtain⟨_,eB,B,⟨b1,_,b3,b4⟩,rfl⟩:=Km (N:=40) rows.flatten (Wo.frs wo) (by lia) (by lia)
 have b2:B<=1000000000000:=Int.le_trans (Int.le_of_dvd (by lia) (b4 D λx mx=>by
  obtain⟨l,ml,mx⟩:=List.mem_flatten.mp mx
  exact d3 l ml x mx)) d2
 have ft:∀x,Fq 45 x->CK [fT x,.tup [.int B,.int 1]]=.ok (fT (sc B x),false):=λx h=>CZ (y:=(B,1)) h (Ze b1 b2) (by lia)
 have eW:aU (bO B rows)=.lst (rows.map λl=>.lst (l.map λx=>fT (sc B x))):=by
  unfold aU bO
  rw[List.map_map]
  refine congrArg Tr.lst (List.map_congr_left λl _=>?_)
  show aJ (l.map (sc B))=_
  rw[uE]
 have c6:∀l∈rows,l.length<=1000:=λl ml=>by rw[(c5 l ml).1]; lia
 suffices h:∃k,cF rows.length (gY k r)/\1<=k/\yc [aU rows,bf r]=.ok (.tup [.lst (rows.map λl=>.lst (l.map λx=>fT (sc B x))),bf (gY k r),.tup [.int B,.int 1]],false) by
  obtain⟨k,h1,h2,h3⟩:=h
  exact⟨B,k,⟨b1,b2,λl ml x mx=>b3 x (List.mem_flatten.mpr ⟨l,ml,mx⟩)⟩,h1,h2,by rw[eW]; exact h3⟩
 have fq:∀l∈rows,∀x∈l,Fq 45 x:=λl ml x mx=>((c5 l ml).2 x mx).fq
 cases r
 case sh ws =>
  obtain⟨hl,hq⟩:=ho
  obtain⟨_,ek,k,⟨k1,_,k3,k4⟩,rfl⟩:=Km (N:=45) ws (Fq.frs hq) (by lia) (by lia)
  have k12:k<=12:=Int.le_of_dvd (by lia) (k4 12 λx mx=>(hS x mx).1)
  have fk:∀x,Fq 45 x->CK [fT x,.tup [.int k,.int 1]]=.ok (fT (sc k x),false):=λx h=>CZ (y:=(k,1)) h (Ze k1 (by lia)) (by lia)
  refine⟨k,⟨by rw[List.length_map]; exact hl,λy my=>?_⟩,k1,?_⟩
  .obtain⟨x,mx,rfl⟩:=List.mem_map.mp my
   obtain⟨j,ej,v⟩:=YX (hq x mx).2.2.1 (k3 x mx)
   have x1:=(hq x mx).1
   have x3:=(hq x mx).2.2.1
   have x2:=(hS x mx).2
   have j0:0<=j:=by
    rcases Int.lt_or_le j 0 with z|z
    .have:=Int.mul_neg_of_pos_of_neg (a:=x.2) (b:=j) (by lia) z
     lia
    .exact z
   have j1:j<=12:=by
    have:=Int.mul_le_mul_of_nonneg_right (a:=1) (b:=x.2) (c:=j) (by lia) j0
    lia
   have l1:=Int.mul_nonneg x1 j0
   have l2:=Int.mul_le_mul (a:=x.1) (b:=j) (c:=100) (d:=12) x2 j1 j0 (by lia)
   have e45:(2:Int) ^ 45=35184372088832:=by decide
   rw[v]
   refine⟨l1,?_,Int.le_refl 1,by show(1:Int)<2 ^ 45; decide,by show Int.gcd _ 1=1; simp⟩
   show x.1*j<2 ^ 45
   lia
  .dsimp only[bf,gY]
   rw[uE]
   unfold aJ
   walk_at "d"
   exact Zf rfl rfl (by lia) c6
   walk_at "r"
   exact ft _ (fq _ (by assumption) _ (by assumption))
   walk_at "r"
   have:=c6 _ (by assumption)
   lia
   walk_at "r"
   exact fk _ (hq _ (by assumption))
   walk_at "r"
 all_goals
  refine⟨1,ho,Int.le_refl 1,?_⟩
  dsimp only[bf,gY]
  walk_at "d"
  exact Zf rfl rfl (by lia) c6
  walk_at "r"
  exact ft _ (fq _ (by assumption) _ (by assumption))
  walk_at "r"
  have:=c6 _ (by assumption)
  lia
  walk_at "r"
end
def eV(a b:Nat->Int × Int)(i j:Nat):Prop:=(a j).1*(a i).2<(a i).1*(a j).2\/((a j).1*(a i).2=(a i).1*(a j).2/\((b j).1*(b i).2<(b i).1*(b j).2\/((b j).1*(b i).2=(b i).1*(b j).2/\i<j)))
def ou(a b:Nat->Int × Int)(m:Nat)(ys:List Nat):Prop:=ys.Perm (List.range m)/\ys.Pairwise (eV a b)
section
variable {m:Nat}{a b:Nat->Int × Int}
theorem aiC(hf:∀t,t<m->Fq 400 (a t)/\Fq 400 (b t))(hm:m<=12):∃ys,ou a b m ys/\yd [.lst (bJ a b m)]=.ok (.lst (ys.map iT),true):=by
 have fr:∀c:Nat->Int × Int,(∀t,t<m->Fq 400 (c t))->Frs 400 ((List.range m).map c):=λc hc x mx=>by
  obtain⟨t,mt,rfl⟩:=List.mem_map.mp mx
  obtain⟨q1,q2,q3,q4,_⟩:=hc t (List.mem_range.mp mt)
  have:=iU 400
  exact⟨q3,q4,by lia⟩
 have ln:∀c:Nat->Int × Int,((List.range m).map c).length=m:=λc=>by simp
 have top:∀c:Nat->Int × Int,(∀t,t<m->Fq 400 (c t))->∃B:Int,Kf [.lst ((List.range m).map λt=>fT (c t))]=.ok (.lst ((List.range m).map λt=>.int ((c t).1*B.fdiv (c t).2)),true)/\1<=B/\∀t,t<m->(c t).2∣B:=λc hc=>by
  obtain⟨B,e,p,d⟩:=XM ((List.range m).map c) (fr c hc) (by rw[ln]; lia) (by lia) (by rw[ln]; lia)
  rw[List.map_map,List.map_map]at e
  exact⟨B,e,p,λt ht=>d _ (List.mem_map.mpr ⟨t,List.mem_range.mpr ht,rfl⟩)⟩
 obtain⟨B1,e1,p1,d1⟩:=top a λt ht=>(hf t ht).1
 obtain⟨B2,e2,p2,d2⟩:=top b λt ht=>(hf t ht).2
 have el:eY (.lst (bJ a b m))=.ok (.int (m:Nat),false):=by
  unfold bJ
  rw[DP,List.length_range]
 obtain⟨ys,e,p,q⟩:=XQ (n:=m) (ρ:=[.sh (.lst (bJ a b m)),.sh (.lst ((List.range m).map λt=>.int ((a t).1*B1.fdiv (a t).2))),.sh (.lst ((List.range m).map λt=>.int ((b t).1*B2.fdiv (b t).2)))]) (kt:=Jz) (src:=[some 1,some 2]) (fa:=dM (nH (g1 eY) (dM (bZ 0) eX)) eX) (fb:=U8 (Cj oG (Ci aW (pP 1) (pP 0))) (Cj oG (Ci aW (pP 2) (pP 0)))) (λi=>(-((a i).1*B1.fdiv (a i).2),-((b i).1*B2.fdiv (b i).2))) (uQ (xC1 rfl rfl el) rfl) (by lia) λi hi=>by
  have g:∀f:Nat->Int,aW (.lst ((List.range m).map λt=>.int (f t))) (.int (i:Int))=.ok (.int (f i),false):=λf=>nZ (by simp[hi])
  have g1:=g λt=>(a t).1*B1.fdiv (a t).2
  have g2:=g λt=>(b t).1*B2.fdiv (b t).2
  exact⟨.tup [.int (-((a i).1*B1.fdiv (a i).2)),.int (-((b i).1*B2.fdiv (b i).2))],bk (bk (bk rfl (bk rfl (bk g1 rfl))) rfl) (bk (bk (bk rfl (bk rfl (bk g2 rfl))) rfl) rfl),rfl⟩
 refine⟨ys,⟨p,q.imp_of_mem λ{i j} hi hj hb=>?_⟩,?_⟩
 .have hi:=List.mem_range.mp (p.mem_iff.mp hi)
  have hj:=List.mem_range.mp (p.mem_iff.mp hj)
  have t1:=top_lt (p:=(a j).1) (r:=(a i).1) p1 (hf j hj).1.2.2.1 (hf i hi).1.2.2.1 (d1 j hj) (d1 i hi)
  have t2:=top_lt (p:=(b j).1) (r:=(b i).1) p2 (hf j hj).2.2.2.1 (hf i hi).2.2.2.1 (d2 j hj) (d2 i hi)
  unfold iQ at hb
  dsimp only at hb
  unfold eV
  rw[<-t1.1,<-t1.2,<-t2.1,<-t2.2]
  simp only[Int.neg_lt_neg_iff,Int.neg_inj]at hb
  rcases hb with(h|⟨h1,h2⟩)|⟨⟨h1,h2⟩,h3⟩
  .exact .inl h
  .exact .inr ⟨h1.symm,.inl h2⟩
  .exact .inr ⟨h1.symm,.inr ⟨h2.symm,h3⟩⟩
 .walk_at "d"
end
theorem aiD(hx:Fq 400 x)(hy:Fq 400 y):Wi [fT x,fT y]=.ok (.bl (aM x y),false):=by
 obtain⟨a1,a2,a3,a4,_⟩:=hx
 obtain⟨b1,b2,b3,b4,_⟩:=hy
 have:=iU 400
 have c1:dG x.1 y.2=true:=lZ (M:=400) (N:=400) (by lia) (by lia) (by lia) (by lia)
 have c2:dG y.1 x.2=true:=lZ (M:=400) (N:=400) (by lia) (by lia) (by lia) (by lia)
 walk_at "d"
theorem Zg(h:Fall l ys)(n:l≠[]):∃p q,ys[0]?=some p/\ys[ys.length-1]?=some q/\p<l.length/\q<l.length/\∀i,i<l.length->aM (at2 l p) (at2 l i)=false/\aM (at2 l i) (at2 l q)=false:=by
 obtain⟨h1,h2⟩:=h
 have ln:ys.length=l.length:=by rw[h1.length_eq,List.length_range]
 have l0:0<l.length:=List.length_pos_iff.mpr n
 have mm:∀i,i∈ys↔i<l.length:=λi=>by rw[h1.mem_iff,List.mem_range]
 have hp:0<ys.length:=by lia
 have hq:ys.length-1<ys.length:=by lia
 refine⟨ys[0],ys[ys.length-1],List.getElem?_eq_getElem hp,List.getElem?_eq_getElem hq,(mm _).mp (List.getElem_mem hp),(mm _).mp (List.getElem_mem hq),λi hi=>?_⟩
 obtain⟨k,hk,rfl⟩:=List.mem_iff_getElem.mp ((mm i).mpr hi)
 have pw:=List.pairwise_iff_getElem.mp h2
 unfold aM at2
 constructor
 .rcases Nat.eq_zero_or_pos k with rfl|k0
  .exact decide_eq_false (by lia)
  .have:=pw 0 k hp hk k0
   unfold kW at this
   exact decide_eq_false (by lia)
 .rcases Nat.lt_or_ge k (ys.length-1)with c|c
  .have:=pw k (ys.length-1) hk hq c
   unfold kW at this
   exact decide_eq_false (by lia)
  .have:k=ys.length-1:=by lia
   subst this
   exact decide_eq_false (by lia)
theorem KY(hx:1<=x.2)(hy:1<=y.2)(hz:1<=z.2)(h1:aM x y=false)(h2:aM y z=false):aM x z=false:=by
 unfold aM at *
 have h1:=of_decide_eq_false h1
 have h2:=of_decide_eq_false h2
 refine decide_eq_false λh3=>?_
 have a1:y.1*x.2*z.2<=x.1*y.2*z.2:=Int.mul_le_mul_of_nonneg_right (by lia) (by lia)
 have a2:z.1*y.2*x.2<=y.1*z.2*x.2:=Int.mul_le_mul_of_nonneg_right (by lia) (by lia)
 have a3:x.1*z.2*y.2<z.1*x.2*y.2:=Int.mul_lt_mul_of_pos_right h3 (by lia)
 have e1:y.1*x.2*z.2=y.1*z.2*x.2:=Int.mul_right_comm _ _ _
 have e2:z.1*y.2*x.2=z.1*x.2*y.2:=Int.mul_right_comm _ _ _
 have e3:x.1*y.2*z.2=x.1*z.2*y.2:=Int.mul_right_comm _ _ _
 lia
theorem aiE(h:xs[xs.length-1]?=some T):aW (.lst xs) (.int (-1))=.ok (T,false):=by
 obtain⟨hi,e⟩:=List.getElem?_eq_some_iff.mp h
 have z:fM xs.length (-1)=some (xs.length-1):=by
  unfold fM
  rw[if_neg (by lia),if_pos (by lia)]
  congr 1
  lia
 show(match cR xs (-1)with
  |some t=>Rs.ok (t,false)
  |none=>.bad)=_
 unfold cR
 rw[z]
 dsimp only[Option.bind]
 rw[h]
section
variable {m:Nat}{a b:Nat->Int × Int}
theorem Ol(h:t<m):aW (.lst (bJ a b m)) (iT t)=.ok (.tup [fT (a t),fT (b t)],false):=mq (by unfold bJ; simp[h])
def mF(a b:Nat->Int × Int)(m:Nat)(ys:List Nat):Prop:=∀t∈ys,∀o,o<m->o∉ys->aM (a t) (b o)=false
noncomputable abbrev g8(m:Nat)(ys:List Nat):List Nat:=(List.range m).filter λt=>!decide (t∈ys)
theorem Oj:eY (.lst (bJ a b m))=.ok (.int (m:Nat),false):=by
 show Rs.ok (Tr.int ((bJ a b m).length:Int),false)=_
 unfold bJ
 simp
theorem aiF(hf:∀t,t<m->Fq 400 (a t)/\Fq 400 (b t))(hm:m<=12){ys:List Nat}(hy:∀t∈ys,t<m)(hl:ys.length<=12):∃T,Xw [.lst (bJ a b m),.lst (ys.map iT)]=.ok (T,false)/\((T=.non/\(ys=[]\/g8 m ys=[]))\/∃t o,T=.tup [iT t,iT o]/\t∈ys/\o∈g8 m ys/\(∀s∈ys,aM (a s) (a t)=false)/\∀s∈g8 m ys,aM (b o) (b s)=false):=by
 have ho:∀t∈g8 m ys,t<m:=λt ht=>List.mem_range.mp (List.mem_filter.mp ht).1
 have hol:(g8 m ys).length<=12:=Nat.le_trans (List.length_filter_le ..) (by rw[List.length_range]; exact hm)
 have em:∀zs:List Nat,zs≠[]->(zs.map iT).isEmpty=false:=λzs h=>by cases zs with|nil=>exact(h rfl).elim|cons _ _=>rfl
 by_cases c1:ys=[]
 .refine⟨.non,?_,.inl ⟨rfl,.inl c1⟩⟩
  have n1:(ys.map iT).isEmpty=true:=by rw[c1]; rfl
  walk_at "d"
 have n1:=em ys c1
 by_cases c2:g8 m ys=[]
 .refine⟨.non,?_,.inl ⟨rfl,.inr c2⟩⟩
  have n2:((g8 m ys).map iT).isEmpty=true:=by rw[c2]; rfl
  walk_at "d"
 have n2:=em _ c2
 have fr:∀(c:Nat->Int × Int) (zs:List Nat),(∀t∈zs,Fq 400 (c t))->Frs 400 (zs.map c):=λc zs hc x mx=>by
  obtain⟨t,mt,rfl⟩:=List.mem_map.mp mx
  obtain⟨q1,q2,q3,q4,_⟩:=hc t mt
  have:=iU 400
  exact⟨q3,q4,by lia⟩
 obtain⟨f1,g1⟩:=uF (fr a ys λt mt=>(hf t (hy t mt)).1) (by rw[List.length_map]; lia) (by lia) (by rw[List.length_map]; lia)
 obtain⟨f2,g2⟩:=uF (fr b (g8 m ys) λt mt=>(hf t (ho t mt)).2) (by rw[List.length_map]; lia) (by lia) (by rw[List.length_map]; lia)
 obtain⟨_,q,_,hq,_,q1,hq2⟩:=Zg f1 (by simpa using c1)
 obtain⟨p,_,hp,_,p1,_,hp2⟩:=Zg f2 (by simpa using c2)
 rw[List.length_map]at q1 p1 hq2 hp2
 have ga:∀(c:Nat->Int × Int) (zs:List Nat) i (h:i<zs.length),at2 (zs.map c) i=c zs[i]:=λc zs i h=>by unfold at2; simp[h]
 rw[uE]at g1 g2
 have i1:aW (.lst ((aF (ys.map a)).map iT)) (.int (-1))=.ok (iT q,false):=aiE (by rw[List.length_map,List.getElem?_map,hq]; rfl)
 have i2:aW (.lst ((aF ((g8 m ys).map b)).map iT)) (.int 0)=.ok (iT p,false):=mq (i:=0) (by rw[List.getElem?_map,hp]; rfl)
 have i3:aW (.lst (ys.map iT)) (iT q)=.ok (iT ys[q],false):=mq (by rw[List.getElem?_map,List.getElem?_eq_getElem q1]; rfl)
 have i4:aW (.lst ((g8 m ys).map iT)) (iT p)=.ok (iT (g8 m ys)[p],false):=mq (by rw[List.getElem?_map,List.getElem?_eq_getElem p1]; rfl)
 refine⟨.tup [iT ys[q],iT (g8 m ys)[p]],?_,.inr ⟨ys[q],(g8 m ys)[p],rfl,List.getElem_mem q1,List.getElem_mem p1,λs ms=>?_,λs ms=>?_⟩⟩
 .walk_at "d"
  exact hy x hx
  walk_at "r"
  exact ho x hx
  walk_at "r"
  exact Nat.le_trans hol (by lia)
  walk_at "r"
 .obtain⟨i,hi,rfl⟩:=List.mem_iff_getElem.mp ms
  have:=(hq2 i hi).2
  rwa[ga a ys i hi,ga a ys q q1]at this
 .obtain⟨i,hi,rfl⟩:=List.mem_iff_getElem.mp ms
  have:=(hp2 i hi).1
  rwa[ga b _ i hi,ga b _ p p1]at this
theorem aiG(hf:∀t,t<m->Fq 400 (a t)/\Fq 400 (b t))(hm:m<=12)(hy:∀t∈ys,t<m)(hl:ys.length<=12):∃bb,CP [.lst (bJ a b m),.lst (ys.map iT)]=.ok (.bl bb,false)/\(bb=true↔mF a b m ys):=by
 obtain⟨T,e,h⟩:=aiF hf hm hy hl
 have mo:∀o,o∈g8 m ys↔o<m/\o∉ys:=λo=>by unfold g8; simp
 rcases h with⟨rfl,h⟩|⟨t,o,rfl,mt,mo',h1,h2⟩
 .refine⟨true,by walk_at "d",λ_ t mt o ho no=>?_,λ_=>rfl⟩
  rcases h with h|h
  .rw[h]at mt; cases mt
  .have:=(mo o).mpr ⟨ho,no⟩
   rw[h]at this; cases this
 .obtain⟨om,on⟩:=(mo o).mp mo'
  have tm:=hy t mt
  have fb:=aiD (hf t tm).1 (hf o om).2
  refine⟨!aM (a t) (b o),by walk_at "d",λhb=>?_,λhs=>by rw[hs t mt o om on]; rfl⟩
  have hb':aM (a t) (b o)=false:=by simpa using hb
  intro s ms r hr nr
  exact KY (hf s (hy s ms)).1.2.2.1 (hf o om).2.2.2.1 (hf r hr).2.2.2.1 (KY (hf s (hy s ms)).1.2.2.1 (hf t tm).1.2.2.1 (hf o om).2.2.2.1 (h1 s ms) hb') (h2 r ((mo r).mpr ⟨hr,nr⟩))
end
noncomputable def fH(m:Nat)(zs:List Nat):List Nat:=(List.range m).filter λt=>decide (t∈zs)
theorem aiH{m t:Nat}{zs:List Nat}(h:∀t∈zs,t<m):t∈fH m zs↔t∈zs:=by
 unfold fH
 rw[List.mem_filter,List.mem_range,decide_eq_true_iff]
 exact⟨And.right,λq=>⟨h t q,q⟩⟩
theorem aiI{m c:Nat}{ys:List Nat}(h:ys.Perm (List.range m)):(fH m (ys.take c)).Perm (ys.take c):=by
 have nd:ys.Nodup:=h.nodup_iff.mpr List.nodup_range
 have e:ys.filter (λt=>decide (t∈ys.take c))=ys.take c:=by
  have nd':=nd
  rw[<-List.take_append_drop c ys]at nd'
  obtain⟨_,_,dj⟩:=List.nodup_append.mp nd'
  calc ys.filter (λt=>decide (t∈ys.take c))=(ys.take c++ys.drop c).filter (λt=>decide (t∈ys.take c)):=by rw[List.take_append_drop]
   _=ys.take c:=by
    rw[List.filter_append,List.filter_eq_self.mpr λt ht=>decide_eq_true ht,List.filter_eq_nil_iff.mpr λt ht=>by
     rw[decide_eq_true_iff]
     exact λq=>dj t q t ht rfl,List.append_nil]
 unfold fH
 have:=(h.filter λt=>decide (t∈ys.take c)).symm
 rwa[e]at this
theorem Zh{m c:Nat}{ys:List Nat}(h:ys.Perm (List.range m))(hm:m<=12):rC (.lst ((ys.take c).map iT))=.ok (.lst ((fH m (ys.take c)).map iT),true):=by
 have p:=aiI (c:=c) h
 have ln:ys.length=m:=by rw[h.length_eq,List.length_range]
 have l2:=List.length_take_le c ys
 have iq:uo ((ys.take c).map iT)=some ((ys.take c).map λi:Nat=>(i:Int)):=X3 _
 have s:((fH m (ys.take c)).map λi:Nat=>(i:Int)).Pairwise (· <= ·):=by
  rw[List.pairwise_map]
  unfold fH
  exact((List.pairwise_lt_range (n:=m)).filter _).imp λ{a b} h=>by lia
 unfold rC
 simp only[iq]
 rw[if_pos (by rw[List.length_map,List.length_take]; lia),<-Uz (p.map _) s,List.map_map]
 rfl
section
variable {m:Nat}{a b:Nat->Int × Int}
noncomputable def mG(bb:Bool)(zs:List Nat):Tr:=if bb=true then .lst (zs.map iT)else .non
theorem aiJ(hf:∀t,t<m->Fq 400 (a t)/\Fq 400 (b t))(hm:m<=12)(c:Nat):∃ys bb,ou a b m ys/\Yq [.lst (bJ a b m),iT c]=.ok (mG bb (fH m (ys.take c)),bb)/\(bb=true↔mF a b m (ys.take c)):=by
 obtain⟨ys,ho,e⟩:=aiC hf hm
 have lt:∀t∈ys.take c,t<m:=λt ht=>by simpa using ho.1.mem_iff.mp (List.mem_of_mem_take ht)
 have ms:∀t,t∈fH m (ys.take c)↔t∈ys.take c:=λt=>aiH lt
 have es:=Zh (c:=c) ho.1 hm
 have l:(fH m (ys.take c)).length<=12:=by
  have:=List.length_filter_le (λt=>decide (t∈ys.take c)) (List.range m)
  rw[List.length_range]at this
  unfold fH
  lia
 obtain⟨bb,e2,h2⟩:=aiG hf hm (ys:=fH m (ys.take c)) (λt ht=>lt t ((ms t).mp ht)) l
 refine⟨ys,bb,ho,?_,h2.trans ?_⟩
 .have ec:mJ none (some (c:Int)) (.lst (ys.map iT))=.ok (.lst ((ys.take c).map iT),true):=by
   show Rs.ok (Tr.lst (cut (ys.map iT) none (some (c:Int))),true)=_
   rw[Ko,<-List.map_take]
  generalize Tr.lst (bJ a b m)=B at *
  have sr:mG true (fH m (ys.take c))=.lst ((fH m (ys.take c)).map iT):=rfl
  generalize (fH m (ys.take c)).map iT=zs at *
  have k1:jH yd (dM (bZ 0) eX) [.sh B,.sh (iT c),.un]=.ok (.v (.lst (ys.map iT)) true,[.sh B,.sh (iT c),.un]):=nW (jr rfl rfl) rfl rfl e
  have k2:Bj (jH yd (dM (bZ 0) eX)) yw (Bh (bZ 1)) [.sh B,.sh (iT c),.un]=.ok (.v (.lst ((ys.take c).map iT)) true,[.sh B,.sh (iT c),.un]):=bk k1 (bk rfl (bk rfl (bk rfl (bk ec rfl))))
  have k3:nH (g1 rC) (dM (Bj (jH yd (dM (bZ 0) eX)) yw (Bh (bZ 1))) eX) [.sh B,.sh (iT c),.un]=.ok (.v (.lst zs) true,[.sh B,.sh (iT c),.un]):=J7 (z:=(.lst zs,true)) (jr k2 rfl) rfl es
  have k4:jH CP (dM (bZ 0) (dM (bZ 2) eX)) [.sh B,.sh (iT c),.ow zs]=.ok (.v (.bl bb) false,[.sh B,.sh (iT c),.ow zs]):=bk (jr rfl (jr rfl rfl)) (bk rfl (bk e2 (if_neg λq=>Bool.noConfusion q.2)))
  have k5:Aw (jH CP (dM (bZ 0) (dM (bZ 2) eX))) [.sh B,.sh (iT c),.ow zs]=.ok (bb,[.sh B,.sh (iT c),.ow zs]):=J8 k4 rfl rfl
  cases bb
  .exact J5 (CJ (V1 k3) (V2 (bk k5 rfl)))
  .rw[sr]
   exact J5 (CJ (V1 k3) (bk (bk k5 rfl) rfl))
 .unfold mF
  simp only[ms]
end
theorem aiK(hk:1<=k)(hB:1<=B)(n:Nat)(r:Ru):1<=kZ k B n r:=by
 cases r
 case sh=>exact Int.mul_pos (a:=k) (b:=B) (by lia) (by lia)
 case product=>exact Int.pow_pos (show 0<B by lia)
 all_goals exact hB
section
variable {m:Nat}{a b a' b':Nat->Int × Int}{C:Int}
def gh(C:Int)(m:Nat)(a a':Nat->Int × Int):Prop:=∀t,t<m->Sc C (a t) (a' t)/\1<=(a t).2/\1<=(a' t).2
theorem gh.le(hC:1<=C)(h:gh C m a a')(h':gh C m b b')(hi:i<m)(hj:j<m):((a' i).1*(b' j).2<=(b' j).1*(a' i).2↔(a i).1*(b j).2<=(b j).1*(a i).2)/\((b' j).1*(a' i).2<=(a' i).1*(b' j).2↔(b j).1*(a i).2<=(a i).1*(b j).2) :=
 ⟨Sc.le hC (h i hi).2.1 (h i hi).2.2 (h' j hj).2.1 (h' j hj).2.2 (h i hi).1 (h' j hj).1,Sc.le hC (h' j hj).2.1 (h' j hj).2.2 (h i hi).2.1 (h i hi).2.2 (h' j hj).1 (h i hi).1⟩
theorem gh.ord(hC:1<=C)(h:gh C m a a')(h':gh C m b b')(o:ou a' b' m ys):ou a b m ys:=by
 refine⟨o.1,o.2.imp_of_mem λ{i j} mi mj q=>?_⟩
 have hi:i<m:=by simpa using o.1.mem_iff.mp mi
 have hj:j<m:=by simpa using o.1.mem_iff.mp mj
 have t1:=gh.le hC h h hi hj
 have t2:=gh.le hC h' h' hi hj
 unfold eV at *
 lia
theorem gh.sure(hC:1<=C)(h:gh C m a a')(h':gh C m b b')(hz:∀t∈zs,t<m):mF a' b' m zs↔mF a b m zs:=by
 have k:∀t∈zs,∀o,o<m->(aM (a' t) (b' o)=false↔aM (a t) (b o)=false):=λt mt o ho=>by
  have t1:=(gh.le hC h h' (hz t mt) ho).2
  unfold aM
  rw[decide_eq_false_iff_not,decide_eq_false_iff_not]
  lia
 exact⟨λq t mt o ho no=>(k t mt o ho).mp (q t mt o ho no),λq t mt o ho no=>(k t mt o ho).mpr (q t mt o ho no)⟩
end
section
variable {m c:Nat}{rows:List (LZ)}{ds:List Nat}{as:List (Nat × Nat)}{r:Ru}
theorem Zi(hB:Bk m rows)(ho:cF rows.length r)(hc:c<=m):Xk [aU rows,bf r,iT c]=.ok (.non,false):=by
 have hl:0<rows.length:=by have:=hB.1; lia
 have e1:aW (aU rows) (.int 0)=.ok (aJ rows[0],false):=nZ (i:=0) (by rw[List.getElem?_map,List.getElem?_eq_getElem hl]; rfl)
 have e2:eY (aJ rows[0])=.ok (.int (m:Int),false):=by
  show Rs.ok (Tr.int ((rows[0].map fT).length:Int),false)=_
  rw[List.length_map,(hB.2.2.2.2 _ (List.getElem_mem hl)).1]
 have nc:Xi [aU rows,iT c]=.ok (.non,false):=by
  have k1:nH (g1 eY) (dM (lK aW (bZ 0) (eC (.int 0))) eX) [.sh (aU rows),.sh (iT c)]=.ok (.v (.int (m:Int)) false,[.sh (aU rows),.sh (iT c)]):=J7 (z:=(.int (m:Int),false)) (jr (agK (z:=(aJ rows[0],false)) (T:=aU rows) (b:=false) (U:=.int 0) (b':=false) rfl rfl e1) rfl) rfl e2
  exact J6 (V3 (V4 (J8 (nW (jr rfl (jr k1 rfl)) rfl rfl (count_eq hc)) rfl rfl)) rfl)
 exact J6 (CJ (J4 (nW rfl rfl rfl (ain hB ho))) (J4 (nW rfl rfl rfl nc)))
end
section
variable {m c:Nat}{a b:Nat->Int × Int}
theorem eV.ge(h:eV a b i j):aM (a i) (a j)=false/\(aM (a j) (a i)=false->aM (b i) (b j)=false):=by
 unfold eV at h
 unfold aM
 rw[decide_eq_false_iff_not,decide_eq_false_iff_not,decide_eq_false_iff_not]
 lia
theorem eV.aiL(h:eV a b i j):¬eV a b j i:=by
 unfold eV at *
 lia
theorem eV.irr(i:Nat):¬eV a b i i:=by
 unfold eV
 lia
theorem Di{q:Nat->Nat->Bool}{y:Nat}(hq:q y y=false):∀(l:List Nat) (x:Nat),(y∈l\/x=y)->(∀z∈l,z≠y->q y z=true/\q z y=false)->(x≠y->q y x=true)->(l.foldl (λs t=>if q t s=true then t else s) x)=y
 | [],x,h,_,_=>by simpa using h
 |z::l,x,h,k,k'=>by
  rw[List.foldl_cons]
  by_cases e:z=y
  .subst e
   refine Di hq l _ (.inr ?_) (λw mw=>k w (List.mem_cons_of_mem _ mw)) λn=>absurd ?_ n
   all_goals
    by_cases e2:x=z
    .subst e2; rw[hq]; rfl
    .rw[k' e2]; rfl
  .have kz:=k z (List.mem_cons_self ..) e
   by_cases e2:x=y
   .subst e2
    rw[kz.2]
    exact Di hq l _ (.inr rfl) (λw mw=>k w (List.mem_cons_of_mem _ mw)) k'
   .refine Di hq l _ (.inl ?_) (λw mw=>k w (List.mem_cons_of_mem _ mw)) λ_=>?_
    .rcases h with h|h
     .exact(List.mem_cons.mp h).resolve_left λq=>e q.symm
     .exact absurd h e2
    .by_cases c:q z x=true
     .rw[if_pos c]; exact kz.1
     .rw[if_neg c]; exact k' e2
end
end BH
end
section
namespace L2
open PySem PySem.Spec PyProof.Rows
noncomputable def KZ(e:Stmt)(k:Expr->Operator->Expr->Bool):Bool:=if h:e.ctorIdx=7 then Stmt.AugAssign.elim e h λx y z _=>k x y z else false
theorem Zj(h:KZ e k=true):∃x0 x1 x2 p,e=.AugAssign x0 x1 x2 p/\k x0 x1 x2=true:=dI h λy=>Stmt.AugAssign.elim e y λ_ _ _ _ _ h=>⟨_,_,_,_,rfl,h⟩
noncomputable def Dj(i:Nat)(fe:EF):SF:=λρ=>match ρ[i]? with
 |some (.sh (.int a))=>(fe ρ).bind λp=>(dr p.2 p.1).bind λT=>(vJ T).bind λb=>.ok (.nx,p.2.set i (.sh (.int (a+b))))
 |_=>.bad
noncomputable def aiM(i:Nat)(a:VE aB):VS (Dj i aB) where
 ck Γ e:=KZ e λt op v=>atName t λx _=>decide (op=.Add)&&qT Γ i x&&a.ck Γ v
 cs:=a.cs
 ok q o h:=by
  replace h:=Zj h
  obtain⟨t,op,v,p,rfl,h⟩:=h
  walk_at "o"
  simp only[an]at h
  obtain⟨⟨h1,h2⟩,h3⟩:=h
  cases of_decide_eq_true h1
  obtain⟨w1,w2,w3⟩:=tV o h2
  refine(ab2 o.d w1 w2 (a.ok q o h3) P0 w3).imp λD σ H=>bx λR ρ G F e h=>?_
  unfold Dj at h
  have z:=e.sl i
  split at h <;> rename_i k <;> (try exact h.elim)
  rw[k]at z
  obtain⟨_,v,h1,h2⟩:=z
  cases h2
  refine⟨_,h1,dJ e .refl h λp h v G1 H1 F1 e1 s1 v1=>?_⟩
  obtain⟨T,k1,h⟩:=h.okb (gH _ _)
  obtain⟨b,k2,h⟩:=h.okb (GQ _)
  obtain⟨F',e',hf⟩:=e1.wu i (.int _)
  exact⟨_,b,rfl,zX (fX e1 v1 k1) k2,h _ G1 H1 F' e' (s1.trans (.sub hf))⟩
def aiN(K:FZ):V->V->Hp->VK->Prop:=λo i H Q=>∃p xs k v,o=.ref p/\i=.int k/\0<=k/\aG K H p xs/\xs[k.toNat]?=some v/\Q v H
theorem aiO:PX X (aiN X.K):=by
 intro pins s σ H o i ov iv Q I ro ri h
 obtain⟨p,xs,k,v,rfl,rfl,h0,hq,he,q⟩:=h
 cases ro
 obtain⟨t,rfl⟩:=ri
 obtain⟨its,r,pl,hz⟩:=I.list hq
 obtain⟨w,ew,jU⟩:=r.get he
 have hl:=r.length
 have hn:=oX
 have:=(List.getElem?_eq_some_iff.mp he).1
 exact wpAny_getItem_list pl.isList h0 (by lia) (by simpa using ew) ⟨v,H,I,jU,q⟩
noncomputable def Zk(i:Nat)(fk:EF)(c:Int):SF:=λρ=>(con ρ i).bind λ_=>(fk ρ).bind λp=>(dr p.2 p.1).bind λkT=>(vJ kT).bind λk=>(con p.2 i).bind λts=>if 0<=k then match ts[k.toNat]? with
 |some (.int a)=>.ok (.nx,cM i (ts.set k.toNat (.int (a+c))) p.2)
 |_=>.bad else .bad
theorem aiP(h:tL y=true)(ov iv new:Value):augStore y ov iv new=(do holding [new,ov,iv] (setItem ov iv new); release [new,ov,iv] []; pure .next):=by
 cases y <;> first|rfl|cases h
noncomputable def sAx(i:Nat)(k:VE pK)(c:Int):VS (Zk i pK c) where
 ck Γ e:=KZ e λt op v=>lF t λz y _=>atName z λx _=>decide (op=.Add)&&gM Γ i x&&k.ck Γ y&&tL y&&(vC (.int c)).ck Γ v
 cs:=k.cs
 ok q o h:=by
  replace h:=Zj h
  obtain⟨t,op,v,p,rfl,h⟩:=h
  walk_at "O"
  simp only[an]at h
  obtain⟨⟨⟨⟨h1,h2⟩,h3⟩,h4⟩,h5⟩:=h
  cases of_decide_eq_true h1
  obtain⟨_,_,rfl⟩:=ae8 h5
  refine(ab4 (jZ o h2) (k.ok q o h3) aiO rR P0 set_list (aiP h4)).imp λD σ H=>bx λR ρ G F e h=>?_
  obtain⟨us,k0,h⟩:=h.okb (wz _ _)
  obtain⟨a,xs0,hi,_,_,_⟩:=e.con k0
  refine⟨_,hi,dJ e .refl h λp h w G1 H1 F1 e1 s1 v1=>?_⟩
  obtain⟨kT,k1,h⟩:=h.okb (gH _ _)
  obtain⟨kk,k2,h⟩:=h.okb (GQ _)
  obtain⟨ts,k3,h⟩:=h.okb (wz _ _)
  obtain⟨a',ys,hi',hf,hy,ry⟩:=e1.con k3
  rw[hi]at hi'
  cases hi'
  split at h
  case isFalse=>exact h.elim
  rename_i k0
  split at h
  case h_2=>exact h.elim
  rename_i b hk
  obtain⟨u,hu,ru⟩:=ry.jh hk
  cases ru
  obtain⟨e2,s2⟩:=e1.put k3 hf (ry.set (.int (b+c)) kk.toNat)
  have lt:=(List.getElem?_eq_some_iff.mp hu).1
  have ix:fM ys.length kk=some kk.toNat:=by
   unfold fM
   rw[if_pos k0,if_pos (by lia)]
  exact⟨a,ys,kk,_,rfl,zX (fX e1 v1 k1) k2,k0,aG.of hy,hu,b,c,rfl,rfl,a,ys,kk,_,rfl,zX (fX e1 v1 k1) k2,hy,ix,h σ G1 _ F1 e2 (s1.trans s2)⟩
noncomputable def je:Tr->List Nat->Option Tr
 |T,[]=>some T
 |.lst ts,k::p=>match ts[k]? with
  |some t=>je t p
  |none=>none
 |.tup ts,k::p=>match ts[k]? with
  |some t=>je t p
  |none=>none
 |_,_::_=>none
noncomputable def stP:Tr->List Nat->Tr->Tr
 |_,[],U=>U
 |.lst ts,k::p,U=>match ts[k]? with
  |some t=>.lst (ts.set k (stP t p U))
  |none=>.lst ts
 |.tup ts,k::p,U=>match ts[k]? with
  |some t=>.tup (ts.set k (stP t p U))
  |none=>.tup ts
 |T,_::_,_=>T
def Pv(K:FZ)(H:Hp):V->List Nat->V->Prop
 |v,[],w=>v=w
 |v,k::p,w=>∃a xs x,v=.ref a/\(aG K H a xs\/bw K H a xs)/\xs[k]?=some x/\Pv K H x p w
theorem Dk:∀{ts:List Tr} {k:Nat} {t:Tr},bD ts=true->ts[k]?=some t->bh t=true
 | [],_,_,_,h=>by simp at h
 |u::ts,k,t,n,h=>by
  have n:(bh u&&bD ts)=true:=n
  rw[Bool.and_eq_true]at n
  cases k with
  |zero=>simp at h; subst h; exact n.1
  |succ k=>exact Dk n.2 (by simpa using h)
theorem Zm:∀{p:List Nat} {T:Tr} {us:List Tr},bh T=true->je T p≠some (.lst us)
 | [],T,us,n,h=>by cases h; cases n
 |k::p,T,us,n,h=>by
  cases T <;> unfold je at h <;> (try cases h; done)
  .split at h
   .exact Zm (Dk (by unfold bh at n; exact n) ‹_›) h
   .cases h
  .cases n
section
variable {K:FZ}{R:Addr->Prop}{ρ : En}{σ : St}{G H:Hp}{F:Fp}
theorem DR.path(s:Same G H):∀{p:List Nat} {v:V} {T:Tr} {cs:List Addr} {us:List Tr},DR K G H [v] [T] cs->cs.Nodup->je T p=some (.lst us)->∃b ys bs,Pv K H v p (.ref b)/\b∈cs/\H b=some (.lst ys)/\DR K G H ys us bs/\∀G' H' us' ys',Same G G'->(∀c∈cs,c≠b->∀o,H c=some o->H' c=some o)->H' b=some (.lst ys')->DR K G' H' ys' us' bs->DR K G' H' [v] [stP T p (.lst us')] cs
 | [],v,T,cs,us,d,nd,h=>by
  cases h
  cases d with
  |cl n _ _=>cases n
  | @rw b ys _ bs _ _ _ hb q r =>
  cases r
  refine⟨b,ys,bs,rfl,List.mem_cons_self ..,hb,q,λG' H' us' ys' _ _ h1 h2=>.rw h1 h2 .nil⟩
 |k::p,v,T,cs,us,d,nd,h=>by
  cases d with
  |cl n _ _=>exact(Zm n h).elim
  | @rw b0 K1 ts cs0 _ _ _ hb q r =>
   cases r
   rw[List.append_nil]at nd ⊢
   obtain⟨n1,n2⟩:=List.nodup_cons.mp nd
   unfold je at h
   split at h
   case h_2=>cases h
   rename_i t hk
   obtain⟨x,ds,x1,x2,x3,x4,x5⟩:=q.at n2 hk
   obtain⟨b,ys,bs,i1,i2,i3,i4,i5⟩:=DR.path s x2 x3 h
   refine⟨b,ys,bs,⟨b0,K1,x,rfl,.inl (aG.of hb),x1,i1⟩,List.mem_cons_of_mem _ (x4 b i2),i3,i4,λG' H' us' ys' g k1 k2 k3=>?_⟩
   have nb:b0≠b:=λz=>n1 (z▸x4 b i2)
   unfold stP
   rw[hk]
   have:=DR.rw (k1 b0 (List.mem_cons_self ..) nb _ hb) (x5 G' H' _ g (λc hc nc o z=>k1 c (List.mem_cons_of_mem _ hc) (λy=>nc (y▸i2)) o z) (i5 G' H' us' ys' g (λc hc=>k1 c (List.mem_cons_of_mem _ (x4 c hc))) k2 k3)) .nil
   rwa[List.append_nil]at this
  | @tp b0 K1 ts cs0 _ _ _ hb q r =>
   cases r
   rw[List.append_nil]at nd ⊢
   unfold je at h
   split at h
   case h_2=>cases h
   rename_i t hk
   obtain⟨x,ds,x1,x2,x3,x4,x5⟩:=q.at nd hk
   obtain⟨b,ys,bs,i1,i2,i3,i4,i5⟩:=DR.path s x2 x3 h
   refine⟨b,ys,bs,⟨b0,K1,x,rfl,.inr (s.iC hb),x1,i1⟩,x4 b i2,i3,i4,λG' H' us' ys' g k1 k2 k3=>?_⟩
   unfold stP
   rw[hk]
   have:=DR.tp (g.iC hb) (x5 G' H' _ g (λc hc nc o z=>k1 c hc (λy=>nc (y▸i2)) o z) (i5 G' H' us' ys' g (λc hc=>k1 c (x4 c hc)) k2 k3)) .nil
   rwa[List.append_nil]at this
noncomputable def stL(ts:List Tr)(p:List Nat)(us:List Tr):List Tr:=match stP (.lst ts) p (.lst us)with
 |.lst r=>r
 |_=>[]
theorem aiQ(ts:List Tr)(p:List Nat)(us:List Tr):stP (.lst ts) p (.lst us)=.lst (stL ts p us):=by
 unfold stL
 cases p with
 |nil=>rfl
 |cons k p=>unfold stP; cases ts[k]? <;> rfl
theorem Ok.Zn(e:Ok K R ρ σ G H F)(q:L2.cH ρ i=.ok ts)(hp:je (.lst ts) p=some (.lst us))(fl:bD us=true):∃v b ys,σ[i]?=some (some v)/\Pv K H v p (.ref b)/\H b=some (.lst ys)/\aA K G ys us/\∀G' H' ys' us',Gs K G H G' H'->aA K G' ys' us'->bD us'=true->Ok K R (ρ.set i (.dp (stL ts p us'))) σ G' (upd H' b (.lst ys')) F/\aC K G H F G' (upd H' b (.lst ys')) F:=by
 obtain⟨a,xs,bs,hi,kr,f1,nd,nr,hx,d⟩:=e.cH q
 have d0:=DR.rw hx d .nil
 rw[List.append_nil]at d0
 obtain⟨b,ys,cs,p1,p2,p3,p4,p5⟩:=d0.path e.sub (f1▸nd) hp
 cases p4.nil_of fl
 have fb:Fn F b:=⟨i,by rw[f1]; exact p2⟩
 have gb:=e.hid b fb
 refine⟨_,b,ys,hi,p1,p3,?_,λG' H' ys' us' w r' sJ=>?_⟩
 .exact p4.reps (Same.refl _) λ_ z=>by cases z
 .obtain⟨e1,s1⟩:=e.grow w.gw
  have g1:=e1.hid b fb
  have h1:=w.sm b _ p3
  have kp:∀c,c≠b->∀o,H' c=some o->upd H' b (.lst ys') c=some o:=λc n o q=>by rw[aL n]; exact q
  have dm:∀c,upd H' b (.lst ys') c=none->H' c=none:=λc z=>by
   by_cases y:c=b
   .rw[y,bN]at z; cases z
   .rw[aL y]at z; exact z
  have dd:=p5 G' (upd H' b (.lst ys')) us' ys' w.gw.gg (λc _ n o z=>kp c n o (w.sm c o z)) bN (.flat r' sJ)
  rw[aiQ]at dd
  cases dd with
  |cl n _ _=>cases n
  | @rw _ xs' _ bs' _ _ _ hx' q' r0 =>
  cases r0
  rw[List.append_nil]at f1 p2
  have eF:dz F i (F i)=F:=by funext j; unfold dz; split <;> first|rfl|rw[‹j=i›]
  refine⟨eF▸e1.one i (F i) (by rw[List.length_set,e1.len]) (λj n=>⟨eN n,rfl⟩) (Same.refl _) (λc o z=>kp c (λy=>by rw[y,g1]at z; cases z) o (e1.sub c o z)) (e1.tb.upd h1) (λc z=>.inl z) (λj n c hc o z=>kp c (λy=>n (e.di j i c hc (by rw[y,f1]; exact p2))) o z) (λc z y=>(e1.rg c z).2 (dm c y)) (λc z=>⟨e1.hid c ⟨i,z⟩,λj n y=>n (e.di j i c y z)⟩) ?_,s1.gg,λc o z n t=>kp c (λy=>n (y▸fb)) o (s1.fr c o z n t),s1.nw,s1.nf,λc z=>s1.dm c (dm c z)⟩
  rw[dY (List.getElem?_eq_some_iff.mp kr).1]
  exact⟨a,xs',bs',hi,f1,f1▸nd,λc z=>nr c z,hx',q'⟩
end
noncomputable def isI(k:Nat)(y:Expr):Bool:=match y with
 |.Constant (.int j) _ _=>decide (j=(k:Int))
 |_=>false
theorem aiR(h:isI k y=true):∃j p,y=.Constant (.int (k:Int)) j p:=by
 unfold isI at h
 split at h
 .cases of_decide_eq_true h
  exact⟨_,_,rfl⟩
 .cases h
noncomputable def oA(Γ : Gx)(i:Nat):List Nat->Expr->Bool
 | [],e=>atName e λx _=>gM Γ i x
 |k::r,e=>lF e λo y _=>isI k y&&oA Γ i r o
def Pr(K:FZ)(H:Hp)(v:V):List Nat->V->Prop
 | [],w=>v=w
 |k::r,w=>∃a xs,Pr K H v r (.ref a)/\(aG K H a xs\/bw K H a xs)/\xs[k]?=some w
theorem Pv.pr{K:FZ}{H:Hp}:∀{p:List Nat} {v u:V} {r:List Nat} {w:V},Pr (au K) H v r u->Pv (au K) H u p w->Pr (au K) H v (p.reverse++r) w
 | [],v,u,r,w,h,q=>by cases q; exact h
 |k::p,v,u,r,w,h,⟨a,xs,x,e,sq,hx,q⟩=>by
  subst e
  have:=Pv.pr (r:=k::r) ⟨a,xs,h,sq,hx⟩ q
  rw[List.reverse_cons,List.append_assoc]
  exact this
theorem Pr.toK{K:FZ}{H:Hp}{v:V}:∀{r:List Nat} {w:V},Pr (au K) H v r w->Pr K H v r w
 | [],_,h=>h
 |_::_,_,⟨a,xs,h,sq,hx⟩=>⟨a,xs,Pr.toK h,sq.imp aG.toK bw.toK,hx⟩
theorem K3(o:Ox cl Γ E X):∀{r:List Nat} {e:Expr},oA Γ i r e=true->PE X e (λσ H Q=>∃v w,σ[i]?=some (some v)/\Pr X.K H v r w/\Q w H)
 | [],e,h=>by
  unfold oA at h
  walk_at "o"
  exact(jZ o h).imp λσ H Q ⟨v,w,h1,h2,q⟩=>⟨v,h1,h2▸q⟩
 |k::r,e,h=>by
  unfold oA at h
  walk_at "o"
  obtain⟨h1,h2⟩:=an.mp h
  obtain⟨j,p,rfl⟩:=aiR h1
  refine(zq zx (K3 o h2) rR (Ba rfl)).imp λσ H Q ⟨v,w,h1,⟨a,xs,h2,sq,hx⟩,q⟩=>⟨v,.ref a,h1,h2,?_⟩
  have lt:=(List.getElem?_eq_some_iff.mp hx).1
  have ai:cR xs (k:Int)=some w:=by
   unfold cR fM
   rw[if_pos (by lia),if_pos (by lia)]
   exact hx
  exact sq.elim (λsq=>.inl ⟨a,xs,k,w,rfl,rfl,sq,ai,q⟩) λsq=>.inr (.inl ⟨a,xs,k,w,rfl,rfl,sq,ai,q⟩)
theorem Zo{env:Env}{f:Str}:∀{r:List Nat} {e:Expr},oA Γ i r e=true->attributeBase e f env (eval e env)=eval e env
 | [],e,h=>by
  unfold oA at h
  walk_at "o"
  rfl
 |k::r,e,h=>by
  unfold oA at h
  walk_at "o"
  rfl
noncomputable def K4(T:Tr)(e:Expr):Bool:=match e,T with
 |.Constant (.int i) _ _,.int j=>decide (i=j)
 |.Tuple l _ _,.tup Ts=>Bg (fY l) Ts
 |_,_=>false
theorem aiS{X:Cx}(h:K4 T e=true):PE X e (λσ H Q=>∃G,Same G H/\∀v G' H',Gs (au X.K) G H G' H'->Rep (au X.K) G' v T->Q v H')/\notStar e=true:=by
 unfold K4 at h
 split at h
 .cases of_decide_eq_true h
  exact⟨rR.imp λσ H Q ⟨G,s,k⟩=>k _ G H (.refl s) (.int _),rfl⟩
 .exact⟨(R4 (G:=au X.K) (HJ h)).imp λσ H Q ⟨G,s,k⟩ v H' s' r=>k v _ H' ⟨HF s s',s'⟩ (r _ (Bc _ _)),rfl⟩
 .cases h
noncomputable def Zq(i:Nat)(p:List Nat)(T:Tr):SF:=λρ=>(cH ρ i).bind λts=>match je (.lst ts) p with
 |some (.lst us)=>if(bD us&&bh T&&decide (us.length<=100000))=true then .ok (.nx,ρ.set i (.dp (stL ts p (us++[T]))))else .bad
 |_=>.bad
theorem aiT(h:bD us=true)(n:bh T=true):bD (us++[T])=true:=sV λt ht=>by
 rcases List.mem_append.mp ht with ht|ht
 .obtain⟨k,hk⟩:=List.getElem?_of_mem ht
  exact Dk h hk
 .rw[List.mem_singleton.mp ht]; exact n
noncomputable def K5(i:Nat)(p:List Nat)(T:Tr):VS (Zq i p T) where
 ck Γ e:=qH e λK6 _=>eH K6 λaK aX bB q=>qG aK λbL a p'=>aN aX λy l=>aO l (aO bB (a == ("append" : Str)&&oA Γ i p.reverse bL&&p'.endLine == q.line&&K4 T y))
 cs:=[]
 ok q o h:=by
  walk_at "O"
  simp only[an]at h
  obtain⟨⟨⟨h1,h2⟩,h4⟩,h5⟩:=h
  cases eq_of_beq h1
  obtain⟨pc,nc⟩:=aiS h5
  refine(yM (Q6 PySem.F.plainAttrs_list PySem.F.slot_list_append PySem.F.type_list_append zF (K3 o h2) (mQ pc qx (eG nc)) (Zo h2) (TF (List.forall_mem_cons.mpr ⟨nc,λ_ z=>nomatch z⟩) (by show 1<30; decide)) h4 (eG nc) (pG (λ_ m=>(by cases m)) _)) rfl).imp λD σ H=>bx λR ρ G F e h=>?_
  obtain⟨ts,k0,h⟩:=h.okb (Cp _ _)
  split at h
  case h_2=>exact h.elim
  rename_i us hg
  split at h
  case isFalse=>exact h.elim
  rename_i fl
  simp only[an]at fl
  obtain⟨v,b,ys,hi,pv,hb,ry,put⟩:=e.Zn k0 hg fl.1.1
  refine⟨v,.ref b,hi,(by simpa using(Pv.pr (r:=[]) rfl pv).toK),.inl ⟨rfl,ys,aG.of hb⟩,G,e.sub,λw G' H' gs jU=>⟨b,ys,w,rfl,rfl,gs.sm _ _ hb,Nat.lt_of_le_of_lt (by rw[ry.length]; exact of_decide_eq_true fl.2) (by decide),?_⟩⟩
  obtain⟨e2,s2⟩:=put G' H' (ys++[w]) (us++[T]) gs ((ry.mono gs.gw.gg).app (.cons jU .nil)) (aiT fl.1.1 fl.1.2)
  exact h σ G' _ F e2 s2
noncomputable def Zr(i:Nat)(p:List Nat):SF:=λρ=>(cH ρ i).bind λts=>match je (.lst ts) p with
 |some (.lst us)=>if bD us=true then .ok (.nx,ρ.set i (.dp (stL ts p [])))else .bad
 |_=>.bad
noncomputable def sPc(i:Nat)(p:List Nat):VS (Zr i p) where
 ck Γ e:=qH e λK6 _=>eH K6 λaK aX bB q=>qG aK λbL a p'=>aO aX (aO bB (a == ("clear" : Str)&&oA Γ i p.reverse bL&&p'.endLine == q.line))
 cs:=[]
 ok q o h:=by
  walk_at "O"
  simp only[an]at h
  obtain⟨⟨h1,h2⟩,h4⟩:=h
  cases eq_of_beq h1
  refine(yM (Q5 PySem.F.plainAttrs_list PySem.F.slot_list_clear PySem.F.type_list_clear adv (K3 o h2) (Zo h2) h4) rfl).imp λD σ H=>bx λR ρ G F e h=>?_
  obtain⟨ts,k0,h⟩:=h.okb (Cp _ _)
  split at h
  case h_2=>exact h.elim
  rename_i us hg
  split at h
  case isFalse=>exact h.elim
  obtain⟨v,b,ys,hi,pv,hb,ry,put⟩:=e.Zn k0 hg ‹_›
  obtain⟨e2,s2⟩:=put G H [] [] (.refl e.sub) .nil rfl
  exact⟨v,.ref b,hi,(by simpa using(Pv.pr (r:=[]) rfl pv).toK),.inl ⟨rfl,ys,aG.of hb⟩,b,ys,rfl,rfl,hb,h σ G _ F e2 s2⟩
theorem aA.rv{K:FZ}{H:Hp}:∀{xs:List V} {ts:List Tr},aA K H xs ts->aA K H xs.reverse ts.reverse
 |_,_,.nil=>.nil
 |_,_,.cons h r=>by
  rw[List.reverse_cons,List.reverse_cons]
  exact(aA.rv r).app (.cons h .nil)
noncomputable def Dl:Tr->Bool
 |.lst us=>bD us
 |_=>false
noncomputable def pZ:Tr->Tr
 |.lst us=>.lst us.reverse
 |T=>T
noncomputable def jN(ts:List Tr)(k:Nat):List Tr:=(ts.take k).map pZ++ts.drop k
theorem aiU{ts:List Tr}{k:Nat}{T:Tr}(h:ts[k]?=some T):(jN ts k)[k]?=some T/\(jN ts k).set k (pZ T)=jN ts (k+1):=by
 obtain⟨l,e⟩:=List.getElem?_eq_some_iff.mp h
 have l1:((ts.take k).map pZ).length=k:=by simp; lia
 unfold jN
 refine⟨by rw[List.getElem?_append_right (by lia),l1,Nat.sub_self,List.getElem?_drop,Nat.add_zero,h],?_⟩
 rw[List.set_append_right _ _ (by lia),l1,Nat.sub_self,List.take_add_one,h,List.drop_eq_getElem_cons l,List.set_cons_zero]
 simp[e]
theorem Ok.sj{K:FZ}(e:Ok K R ρ σ G H F)(j:Nat)(h:∀s,ρ[j]?=some s->s=.un)(v:Option V):Ok K R ρ (σ.set j v) G H F:=by
 have z:=e.sl j
 have f0:F j=[]:=by
  cases q : ρ[j]? with
  |none=>rw[q]at z; exact z
  |some s=>rw[q,h s q]at z; exact z
 have eF:dz F j []=F:=by funext k; unfold dz; split <;> first|rfl|rw[‹k=j›,f0]
 refine eF▸e.one j [] (by rw[List.length_set,e.len]) (λk n=>⟨rfl,eN n⟩) (Same.refl _) e.sub e.tb (λb h=>.inl h) (λ_ _ _ _ _ h=>h) (λb h=>(e.rg b h).2) (λb h=>by cases h) ?_
 cases q : ρ[j]? with
 |none=>rfl
 |some s=>rw[h s q]; rfl
noncomputable def K7(i j:Nat):SF:=λρ=>(cH ρ i).bind λts=>if(ts.all Dl&&decide (i≠j)&&decide (j < ρ.length))=true then .ok (.nx,(ρ.set j .un).set i (.dp (ts.map pZ)))else .bad
def InR(K:FZ)(R:Addr->Prop)(σ : St)(ρ : En)(G H:Hp)(F:Fp)(a:Addr)(xs:List V)(ts:List Tr)(i j:Nat):Nat->Nat->St->Hp->Prop:=λk m τ H'=>m=ts.length-k/\k<=ts.length/\H' a=some (.lst xs)/\τ[i]?=σ[i]? /\ ∃F',Ok (au K) R ((ρ.set j .un).set i (.dp (jN ts k))) τ G H' F'/\aC (au K) G H F G H' F'
theorem aiV{K:FZ}:Ts ⟨au K,xe⟩ (K7 i j) D σ H->Qd (wV K (qp i)) (lq j) (PJ (QZ K "list" Q7 (qp j))) D σ H:=bx λR ρ G F e h=>by
 obtain⟨ts,k0,h⟩:=h.okb (Cp _ _)
 split at h
 case isFalse=>exact h.elim
 rename_i c
 obtain⟨c,c3⟩:=an.mp c
 obtain⟨c1,c2⟩:=an.mp c
 have jl:=of_decide_eq_true c3
 have ij:=of_decide_eq_true c2
 obtain⟨a,xs,bs,hi,kr,f1,nd,nr,hx,d⟩:=e.cH k0
 have il:=(List.getElem?_eq_some_iff.mp kr).1
 obtain⟨e1,s1⟩:=e.Vx j
 have e0:Ok (au K) R ((ρ.set j .un).set i (.dp (jN ts 0))) σ G H (dz F j []):=by
  have:(ρ.set j .un).set i (.dp (jN ts 0)) = ρ.set j .un:=by
   refine List.ext_getElem? λk=>?_
   by_cases z:k=i
   .subst z
    rw[dY (by rw[List.length_set]; exact il),eN ij,kr]
    rfl
   .rw[eN z]
  rw[this]
  exact e1
 have xl:xs.length=ts.length:=d.length
 refine .inl ⟨_,hi,a,rfl,⟨xs,aG.of hx⟩,InR K R σ ρ G H F a xs ts i j,⟨ts.length,by simp,Nat.zero_le _,hx,rfl,_,e0,s1⟩,?_⟩
 rintro k m τ H' ⟨rfl,hk,ha,hτ,F',e',s'⟩
 have gi:((ρ.set j .un).set i (.dp (jN ts k)))[i]?=some (.dp (jN ts k)):=dY (by rw[List.length_set]; exact il)
 by_cases lt:k<ts.length
 .have gk:ts[k]?=some ts[k]:=List.getElem?_eq_getElem lt
  obtain⟨us,eT,fl⟩:∃us,ts[k]=.lst us/\bD us=true:=by
   have:=List.all_eq_true.mp c1 _ (List.getElem_mem lt)
   unfold Dl at this
   split at this
   .exact⟨_,‹_›,this⟩
   .cases this
  rw[eT]at gk
  obtain⟨m1,m2⟩:=aiU gk
  refine .inr ⟨⟨xs,_,aG.of ha,List.getElem?_eq_getElem (by lia)⟩,_,λσ' cj z=>z,λx cj ⟨e2,hx2⟩=>?_⟩
  subst e2
  have hxk:=hx2 xs (aG.of ha)
  obtain⟨a',xs',v,cs,q1,q2,_,q4,q5,qn,q6,q7⟩:=e'.putD (ts:=jN ts k) (by unfold L2.cH; rw[gi]) m1
  rw[hτ,hi]at q1
  cases q1
  rw[ha]at q2
  cases q2
  rw[hxk]at q4
  cases q4
  cases q6 with
  |cl n _ _=>cases n
  | @rw b ys _ cs' _ _ _ hb dq r0 =>
  cases r0
  cases dq.nil_of fl
  have ry:=dq.reps (Same.refl _) (λ_ z=>by cases z)
  obtain⟨e3,s3⟩:=q7 b ys ys.reverse (pZ (.lst us)) hb (List.mem_cons_self ..) (.rw bN (.flat ry.rv (sV λt ht=>by
   obtain⟨n,hn⟩:=List.getElem?_of_mem (List.mem_reverse.mp ht)
   exact Dk fl hn)) .nil)
  rw[m2,List.set_set]at e3
  have jt:j < τ.length:=by rw[<-e'.len,List.length_set,List.length_set]; exact jl
  refine⟨_,dY jt,.inl ⟨rfl,ys,aG.of hb⟩,b,ys,rfl,rfl,hb,ts.length-(k+1),by lia,rfl,lt,?_,?_,F',e3.sj j (λs z=>?_) _,s'.trans s3⟩
  .rw[aL (show a≠b from λz=>q5 (z▸List.mem_cons_self ..))]
   exact ha
  .rw[eN ij]
   exact hτ
  .rw[eN (Ne.symm ij),dY jl]at z
   cases z
   rfl
 .have z:k=ts.length:=by lia
  subst z
  refine .inl ⟨⟨xs,aG.of ha,by lia⟩,h τ G H' F' ?_ s'⟩
  have:jN ts ts.length=ts.map pZ:=by unfold jN; rw[List.take_length,List.drop_length,List.append_nil]
  rw[<-this]
  exact e'
noncomputable def sRv(i j:Nat):VS (K7 i j) where
 ck Γ e:=vP e λt y l oe _=>aO oe (atName t λz _=>atName y λx _=>aN l λs l'=>aO l' (qH s λc _=>eH c λf as kw q=>qG f λob a p=>atName ob λw _=>aO as (aO kw (Γ.nx&&qT Γ j z&&gM Γ i x&&a == ("reverse" : Str)&&gM Γ j w&&p.endLine == q.line))))
 cs:=[]
 ok:=@λcl E Γ X e q o h=>by
  walk_at "O"
  simp only[an]at h
  obtain⟨⟨⟨⟨⟨h1,h2⟩,h3⟩,h4⟩,h5⟩,h6⟩:=h
  cases eq_of_beq h4
  obtain⟨w1,w2,w3⟩:=tV o h2
  exact(Qe (Im o h1) o.l (IK (jZ o h3)) (PL o.d w1 w2 w3) (Eb (yM (Q5 PySem.F.plainAttrs_list PySem.F.slot_list_reverse PySem.F.type_list_reverse adt (jZ o h5) rfl h6) rfl)) (jm rfl)).imp λ_ _ _=>aiV
noncomputable def K8(f:EF):EF:=λρ=>(dD (f (vw ρ))).bind λp=>match p.1 with
 |.v T false=>if bh T=true then .ok (.v T false,ρ)else .bad
 |_=>.bad
noncomputable def vVw(a:VE aB):VE (K8 aB) where
 ck:=a.ck
 cs:=a.cs
 ok q o h:=(a.ok q o h).imp λσ H Q=>bx λR ρ G F e h=>by
  obtain⟨p,k,h⟩:=j8 h
  refine⟨_,_,_,_,e.view,?_⟩
  rw[k]
  intro v G' H' F' e' s' v'
  obtain⟨r,ρ1⟩:=p
  dsimp only at h v'
  split at h
  case h_2=>exact h.elim
  split at h
  case isFalse=>exact h.elim
  have nf:∀b,¬Fn (λ_=>[]) b:=λb ⟨_,z⟩=>by cases z
  have w:Gw (au _) (wL G H) H G' H':=⟨s'.gg,λb o q t=>s'.fr b o q (nf b) t,e'.sub,λ_=>e'.tb,λb q=>(s'.nw b q).imp id λz=>z.resolve_right (nf b)⟩
  obtain⟨e2,s2⟩:=e.grow (HN e.sub w)
  exact h v _ H' F e2 s2 (.low (Rep.flat (Bm w) v'.1 ‹_›))
end L2
end
section
namespace K32
open PySem L2 BH
noncomputable def top(i:Nat):Stmt:=PySem.Challenge.pw_bestheads_k32_rounds.main.body.getD i (.Pass ⟨0,0,0,0⟩)
noncomputable abbrev Zt:=(dC (sA 3 (aE (vC (.int 0)))) (dC (pW 4 (wE (Dd (ak (aj 0) (ak (aj 1) (ak (aq (aj 2) (aj 3)) ao)))))) (dC (sN (sW (fuL 2) (Cr (tK (aQ pU (aj 4) (vC .non)))) (bC (aiM 3 (vC (.int 1))) (b1 (pW 4 (wE (Dd (ak (aj 0) (ak (aj 1) (ak (aq (aj 2) (aj 3)) ao)))))))))) (dR (JZ (lX (wE (aj 3)) (lX (wM 4) xR)))))))
noncomputable abbrev aiW:DF:=Cz Zt
noncomputable def Zu:FP:=lY 5 aiW
noncomputable abbrev aiX{f:AF}(a:VA f):=Cy "first_sure" ["form", "count", "choices"] Zu 9 a
noncomputable abbrev Zv:=(dC (eO (Xl (ak (aj 0) (ak (aj 1) (ak (aj 2) ao))))) (dC (sA 3 (cC [none,some 0] ["rounds", "book"] (eU (ak (cY (aZ (ak (aq (aj 0) (vC (.int 0))) ao)) (vC (.int 1))) ao)) (gV 0) (dN (ak (cN (cA (ak (aj 0) ao)) (aZ (ak (aj 1) ao))) (ak (cA ao) ao))))) (dR (aiX (ak (Yn (ak (aj 0) (ak (aj 1) ao))) (ak (aj 2) (ak (aj 3) ao)))))))
noncomputable abbrev aiY:DF:=Cz Zv
noncomputable def K9:FP:=lY 4 aiY
noncomputable abbrev Zw{f:AF}(a:VA f):=Cy "by_rounds" ["book", "rule", "count"] K9 10 a
noncomputable abbrev Zx:=(dC (eO (Xl (ak (aj 0) (ak (aj 1) (ak (aj 2) ao))))) (dC (sA 3 (aE (Yn (ak (aj 0) (ak (aj 1) ao))))) (dC (sO 4 (aE (cN (wk [.int 0]) (aZ (ak (aj 0) ao))))) (dC (pW 5 (xU (wE (Dd (ak (aj 3) (ak (aj 2) (ak (dN (ak (aj 4) (ak (cA ao) ao))) ao))))))) (dC (sN (sW (λ_=>100) (Cr (tK (aQ pU (aj 5) (vC .non)))) (bC (sA 6 (aE (Yk (ak (aq (aj 3) (vC (.int 0))) (ak (aj 4) (ak (aq (aj 3) (vC (.int 2))) ao)))))) (bC (sAx 4 (ahI (ak (aj 6) (ak (aj 4) (ak (aZ (ak (aq (aj 0) (vC (.int 0))) ao)) ao)))) 1) (b1 (pW 5 (xU (wE (Dd (ak (aj 3) (ak (aj 2) (ak (dN (ak (aj 4) (ak (cA ao) ao))) ao)))))))))))) (dR (JZ (lX (JZ (lX (wM 4) (lX (wE (cA ao)) xR))) (lX (wM 5) xR)))))))))
noncomputable abbrev aiZ:DF:=Cz Zx
noncomputable def La:FP:=lY 7 aiZ
noncomputable abbrev Zy{f:AF}(a:VA f):=Cy "by_hope" ["book", "rule", "count"] La 9 a
noncomputable abbrev Zz:=(bC (sA 2 (aE (vC (.int 0)))) (bC (sI (tK (aQ lV (aj 1) (aZ (ak (aj 0) ao)))) (b1 (sA 2 (aE (aq (aj 0) (aj 1))))) b0) (bC (sI (tK (aQ JT (aj 2) (JR (vC (.int 10)) (vC (.int 18))))) (b1 (aH (fQ (rD (aj 2) (JR (vC (.int 10)) (vC (.int 18)))) (JR (vC (.int 10)) (vC (.int 60)))))) b0) (bC (sA 3 (aE (fQ (cY (cY (cN (aj 2) (vC (.int 48271))) (cN (aj 1) (vC (.int 69621)))) (vC (.int 11))) (vC (.int 2147483629))))) (bC (sA 3 (aE (fQ (cN (aj 3) (aj 3)) (vC (.int 2147483587))))) (b1 (aH (cY (cN (aj 3) (vC (.int 2147483563))) (fQ (cN (aj 3) (aj 3)) (vC (.int 2147483563)))))))))))
noncomputable abbrev ai0:SF:=by exists Zz
noncomputable def Lb:FP:=aP 4 ai0
noncomputable abbrev uH{f:AF}(a:VA f):=vF "_law_cell" ["_law_script", "_law_k"] Lb 1 a
noncomputable abbrev ZC:=(bC (sA 2 (aE (JW (ak (aj 0) ao)))) (bC (sA 3 (aE (JW (ak (aj 1) ao)))) (bC (sN (sW (JL 3) (tK (aQ uw (aj 3) (vC (.int 0)))) (b1 (T6 2 3 (ak (aj 3) (ak (fQ (aj 2) (aj 3)) ao)))))) (bC (sI (tK (aQ lV (aj 1) (vC (.int 0)))) (b1 (sA 2 (aE (rD (vC (.int 0)) (aj 2))))) b0) (b1 (aH (dN (ak (jM (aj 0) (aj 2)) (ak (jM (aj 1) (aj 2)) ao)))))))))
noncomputable abbrev ai1:SF:=by exists ZC
noncomputable def Dm:FP:=aP 4 ai1
noncomputable abbrev Dn{f:AF}(a:VA f):=vF "_law_frac" ["_law_top", "_law_bottom"] Dm 1 a
noncomputable abbrev ZD:=(b1 (aH (Dn (ak (cY (cN (aq (aj 0) (vC (.int 0))) (aq (aj 1) (vC (.int 1)))) (cN (aq (aj 1) (vC (.int 0))) (aq (aj 0) (vC (.int 1))))) (ak (cN (aq (aj 0) (vC (.int 1))) (aq (aj 1) (vC (.int 1)))) ao)))))
noncomputable abbrev ai2:SF:=by exists ZD
noncomputable def ZF:FP:=aP 2 ai2
noncomputable abbrev ai3{f:AF}(a:VA f):=vF "_law_add" ["_law_one", "_law_other"] ZF 2 a
noncomputable abbrev ZG:=(b1 (aH (Dn (ak (cN (aq (aj 0) (vC (.int 0))) (aq (aj 1) (vC (.int 0)))) (ak (cN (aq (aj 0) (vC (.int 1))) (aq (aj 1) (vC (.int 1)))) ao)))))
noncomputable abbrev ai4:SF:=by exists ZG
noncomputable def ZJ:FP:=aP 2 ai4
noncomputable abbrev ZK{f:AF}(a:VA f):=vF "_law_mul" ["_law_one", "_law_other"] ZJ 2 a
noncomputable abbrev ZL:=(b1 (aH (vK (aQ lV (cN (aq (aj 0) (vC (.int 0))) (aq (aj 1) (vC (.int 1)))) (cN (aq (aj 1) (vC (.int 0))) (aq (aj 0) (vC (.int 1))))))))
noncomputable abbrev ai5:SF:=by exists ZL
noncomputable def Ld:FP:=aP 2 ai5
noncomputable abbrev uJ{f:AF}(a:VA f):=vF "_law_below" ["_law_one", "_law_other"] Ld 1 a
noncomputable abbrev ZM:=(bC (sA 4 (aE (uH (ak (aj 0) (ak (aj 1) ao))))) (bC (sA 5 (aE (cY (vC (.int 1)) (fQ (aj 4) (aj 3))))) (bC (sA 6 (aE (cY (vC (.int 1)) (fQ (jM (aj 4) (aj 3)) (aj 2))))) (bC (sA 7 (aE (aq (wk [.int 2,.int 3,.int 4,.int 6,.int 10,.int 24,.int 97,.int 999999999999]) (fQ (jM (aj 4) (vC (.int 1000))) (vC (.int 8)))))) (bC (sO 8 (aE (cA ao))) (bC (sN (sF (eU (ak (aj 6) ao)) (gV 9) (bC (sA 10 (aE (uH (ak (aj 0) (ak (cY (cY (aj 1) (vC (.int 1))) (aj 9)) ao))))) (bC (sO 11 (aE (cA ao))) (bC (sF (eU (ak (aj 5) ao)) (gV 12) (bC (sI (tK (aQ uw (aj 7) (vC (.int 100)))) (b1 (sA 10 (aE (uH (ak (aj 0) (ak (fQ (cY (cY (cY (aj 1) (vC (.int 1))) (aj 9)) (cN (vC (.int 5)) (aj 12))) (vC (.int 63))) ao)))))) b0) (bC (eO (lW 11 (ak (Dn (ak (fQ (aj 10) (cY (aj 7) (vC (.int 1)))) (ak (aj 7) ao))) ao))) (b1 (sA 10 (aE (jM (aj 10) (cY (aj 7) (vC (.int 1)))))))))) (b1 (sZ 11 (eO (lW 8 (ak (aj 11) ao)))))))))) (b1 (aH (aj 8)))))))))
noncomputable abbrev ai6:SF:=by exists ZM
noncomputable def Le:FP:=aP 13 ai6
noncomputable abbrev ai7{f:AF}(a:VA f):=vF "_law_book" ["_law_script", "_law_at", "_law_lists", "_law_most"] Le 2 a
noncomputable abbrev ZP:=(bC (sA 2 (aE (fQ (aj 0) (vC (.int 7))))) (bC (sA 0 (aE (jM (aj 0) (vC (.int 7))))) (bC (sI (tK (aQ fD (aj 2) (vC (.int 0)))) (b1 (aH (lM [.str "least"]))) b0) (bC (sI (tK (aQ fD (aj 2) (vC (.int 1)))) (b1 (aH (lM [.str "greatest"]))) b0) (bC (sI (tK (aQ fD (aj 2) (vC (.int 2)))) (b1 (aH (dN (ak (vC (.str "middle")) (ak (cY (vC (.int 1)) (fQ (aj 0) (aj 1))) ao))))) b0) (bC (sI (tK (aQ fD (aj 2) (vC (.int 3)))) (b1 (aH (lM [.str "product"]))) b0) (bC (sO 3 (aE (cA ao))) (bC (sN (sF (eU (ak (aj 1) ao)) (gV 4) (bC (eO (lW 3 (ak (Dn (ak (fQ (aj 0) (vC (.int 7))) (ak (cY (vC (.int 1)) (fQ (jM (aj 0) (vC (.int 7))) (vC (.int 4)))) ao))) ao))) (b1 (sA 0 (aE (jM (aj 0) (vC (.int 28))))))))) (b1 (sZ 3 (aH (dN (ak (vC (.str "shares")) (ak (aj 3) ao))))))))))))))
noncomputable abbrev ai8:SF:=by exists ZP
noncomputable def Lf:FP:=aP 5 ai8
noncomputable abbrev ai9{f:AF}(a:VA f):=vF "_law_rule" ["_law_number", "_law_lists"] Lf 2 a
noncomputable abbrev ZQ:=(bC (sI (tK (aQ fD (aq (aj 0) (vC (.int 0))) (vC (.str "shares")))) (bC (sA 2 (aE (lM [.int 0,.int 1]))) (bC (sN (sF (eU (ak (aZ (ak (aj 1) ao)) ao)) (gV 3) (b1 (sA 2 (aE (ai3 (ak (aj 2) (ak (ZK (ak (aq (aq (aj 0) (vC (.int 1))) (aj 3)) (ak (aq (aj 1) (aj 3)) ao))) ao)))))))) (b1 (aH (aj 2))))) b0) (bC (sI (tK (aQ fD (aq (aj 0) (vC (.int 0))) (vC (.str "product")))) (bC (sA 2 (aE (lM [.int 1,.int 1]))) (bC (sN (sF (bY (aj 1)) (gV 4) (b1 (sA 2 (aE (ZK (ak (aj 2) (ak (aj 4) ao)))))))) (b1 (aH (aj 2))))) b0) (bC (sO 5 (aE (cA ao))) (bC (sN (sF (bY (aj 1)) (gV 4) (bC (sA 6 (aE (aZ (ak (jk (cO [none,some 4] ["_law_one", "_law_worth_here"] 5 (gV 0) (cW (uJ (ak (aj 0) (ak (aj 1) ao)))) (aj 0))) ao)))) (b1 (eO (Vu 5 (ak (aj 6) (ak (aj 4) ao)))))))) (bC (sI (tK (aQ fD (aq (aj 0) (vC (.int 0))) (vC (.str "least")))) (b1 (aH (aq (aj 5) (vC (.int 0))))) b0) (bC (sI (tK (aQ fD (aq (aj 0) (vC (.int 0))) (vC (.str "greatest")))) (b1 (aH (aq (aj 5) (Ht (vC (.int 1)))))) b0) (b1 (aH (aq (aj 5) (rD (aZ (ak (aj 5) ao)) (aq (aj 0) (vC (.int 1)))))))))))))
noncomputable abbrev aja:SF:=by exists ZQ
noncomputable def uK:FP:=aP 7 aja
noncomputable abbrev ZR{f:AF}(a:VA f):=vF "_law_worth" ["_law_rule_here", "_law_worths"] uK 3 a
noncomputable abbrev ZS:=(bC (sO 1 (aE (cA ao))) (bC (sN (sF (eU (ak (aZ (ak (aj 0) ao)) ao)) (gV 2) (bC (sA 3 (aE (aZ (ak (jk (cO [none,some 0,some 2] ["_law_one", "_law_worths", "_law_thing"] 1 (gV 0) (dX (cW (uJ (ak (aq (aj 1) (aj 0)) (ak (aq (aj 1) (aj 2)) ao))))) (aj 0))) ao)))) (b1 (eO (Vu 1 (ak (aj 3) (ak (aj 2) ao)))))))) (b1 (aH (aj 1)))))
noncomputable abbrev ajb:SF:=by exists ZS
noncomputable def Dp:FP:=aP 4 ajb
noncomputable abbrev Lg{f:AF}(a:VA f):=vF "_law_order" ["_law_worths"] Dp 2 a
noncomputable abbrev ZV:=(bC (sO 2 (aE (cA ao))) (bC (sN (sF (eU (ak (aZ (ak (aj 0) ao)) ao)) (gV 3) (bC (sA 4 (aE (tQ (Lg (ak (aq (aj 0) (aj 3)) ao)) oN (oS (aq (aq (aj 1) (vC (.int 0))) (aj 3)))))) (bC (sO 5 (aE (cA ao))) (bC (sF (eU (ak (aZ (ak (aq (aj 0) (aj 3)) ao)) ao)) (gV 6) (bC (sA 7 (aE (vV .Or (uO (vK (aQ JV (aj 6) (aj 4))) (u1 .Or (vK (aQ JV (dN (ak (aj 3) (ak (aj 6) ao))) (aq (aj 1) (vC (.int 1)))))))))) (b1 (eO (lW 5 (ak (aq (cA (ak (vC .non) (ak (aq (aq (aj 0) (aj 3)) (aj 6)) ao))) (vInt (ak (aj 7) ao))) ao)))))) (b1 (sZ 5 (eO (lW 2 (ak (aj 5) ao)))))))))) (b1 (aH (aj 2)))))
noncomputable abbrev ajc:SF:=by exists ZV
noncomputable def Lh:FP:=aP 8 ajc
noncomputable abbrev ajd{f:AF}(a:VA f):=vF "_law_seen" ["_law_book_here", "_law_looks"] Lh 3 a
noncomputable abbrev ZW:=(bC (sA 3 (aE (ajd (ak (aj 0) (ak (aj 2) ao))))) (bC (sO 4 (aE (cA ao))) (bC (sN (sF (eU (ak (aZ (ak (aj 0) ao)) ao)) (gV 5) (bC (sA 6 (aE (tQ (Lg (ak (aq (aj 0) (aj 5)) ao)) oN (oS (aq (aq (aj 2) (vC (.int 0))) (aj 5)))))) (b1 (eO (lW 4 (ak (aq (cA (ak (lM [.int 1,.int 1]) (ak (aq (aq (aj 0) (aj 5)) (aq (cY (aj 6) (wk [.int 0])) (rD (aZ (ak (aj 6) ao)) (vC (.int 1))))) ao))) (vInt (ak (vK (aQ uw (aZ (ak (aj 6) ao)) (vC (.int 0)))) ao))) ao))))))) (bC (sO 7 (aE (cA ao))) (bC (sN (sF (eU (ak (aZ (ak (aq (aj 0) (vC (.int 0))) ao)) ao)) (gV 8) (bC (sA 9 (cC [none,some 3,some 8] ["_law_k", "_law_seen_here", "_law_thing"] (eU (ak (aZ (ak (aj 0) ao)) ao)) (gV 0) (aq (cA (ak (aq (aq (aj 1) (aj 0)) (aj 2)) (ak (lM [.int 0,.int 1]) ao))) (vInt (ak (vK (aQ pU (aq (aq (aj 1) (aj 0)) (aj 2)) (vC .non))) ao))))) (bC (sA 10 (cC [none,some 3,some 8,some 4] ["_law_k", "_law_seen_here", "_law_thing", "_law_last"] (eU (ak (aZ (ak (aj 0) ao)) ao)) (gV 0) (aq (cA (ak (aq (aq (aj 1) (aj 0)) (aj 2)) (ak (aq (aj 3) (aj 0)) ao))) (vInt (ak (vK (aQ pU (aq (aq (aj 1) (aj 0)) (aj 2)) (vC .non))) ao))))) (b1 (eO (lW 7 (ak (dN (ak (ZR (ak (aj 1) (ak (aj 9) ao))) (ak (ZR (ak (aj 1) (ak (aj 10) ao))) ao))) ao)))))))) (b1 (aH (aj 7))))))))
noncomputable abbrev aje:SF:=by exists ZW
noncomputable def yq:FP:=aP 11 aje
noncomputable abbrev ZX{f:AF}(a:VA f):=vF "_law_bounds" ["_law_book_here", "_law_rule_here", "_law_looks"] yq 4 a
noncomputable abbrev Z0:=(bC (sN (sF (bY (aj 1)) (gV 2) (b1 (sF (eU (ak (aZ (ak (aj 0) ao)) ao)) (gV 3) (b1 (sI (tW .And (wA (tK (aQ Vq (aj 3) (aj 1))) (w1 .And (cW (uJ (ak (aq (aq (aj 0) (aj 2)) (vC (.int 0))) (ak (aq (aq (aj 0) (aj 3)) (vC (.int 1))) ao))))))) (b1 (aH (vC (.bl false)))) b0)))))) (b1 (aH (vC (.bl true)))))
noncomputable abbrev ajf:SF:=by exists Z0
noncomputable def Li:FP:=aP 4 ajf
noncomputable abbrev ajg{f:AF}(a:VA f):=vF "_law_are_sure" ["_law_bounds_here", "_law_things"] Li 2 a
noncomputable abbrev Z1:=(bC (sI (tK (aQ lU (aq (aq (aj 0) (aj 1)) (vC (.int 0))) (aq (aq (aj 0) (aj 2)) (vC (.int 0))))) (b1 (aH (uJ (ak (aq (aq (aj 0) (aj 2)) (vC (.int 0))) (ak (aq (aq (aj 0) (aj 1)) (vC (.int 0))) ao))))) b0) (bC (sI (tK (aQ lU (aq (aq (aj 0) (aj 1)) (vC (.int 1))) (aq (aq (aj 0) (aj 2)) (vC (.int 1))))) (b1 (aH (uJ (ak (aq (aq (aj 0) (aj 2)) (vC (.int 1))) (ak (aq (aq (aj 0) (aj 1)) (vC (.int 1))) ao))))) b0) (b1 (aH (vK (aQ lV (aj 1) (aj 2)))))))
noncomputable abbrev ajh:SF:=by exists Z1
noncomputable def Z2:FP:=aP 3 ajh
noncomputable abbrev aji{f:AF}(a:VA f):=vF "_law_ahead" ["_law_bounds_here", "_law_one", "_law_other"] Z2 2 a
noncomputable abbrev Z4:=(bC (sA 2 (aE (U7 (ak (aZ (ak (aj 0) ao)) ao)))) (bC (sO 3 (aE (cA ao))) (bC (sN (sW (JL 1) (tK (aQ lV (aZ (ak (aj 3) ao)) (aj 1))) (bC (sA 4 (aE (aq (aj 2) (vC (.int 0))))) (bC (sF (bY (aj 2)) (gV 5) (b1 (sI (cW (aji (ak (aj 0) (ak (aj 5) (ak (aj 4) ao))))) (b1 (sA 4 (aE (aj 5)))) b0))) (bC (eO (lW 3 (ak (aj 4) ao))) (b1 (sA 2 (Ji [none,some 4] ["_law_thing", "_law_best"] (bY (aj 2)) (gV 0) (tK (aQ lU (aj 0) (aj 1))) (aj 0))))))))) (bC (sI (cW (ajg (ak (aj 0) (ak (aj 3) ao)))) (b1 (aH (Vs (ak (aj 3) ao)))) b0) (b1 (aH (vC .non)))))))
noncomputable abbrev ajj:SF:=by exists Z4
noncomputable def p7:FP:=aP 6 ajj
noncomputable abbrev Z5{f:AF}(a:VA f):=vF "_law_sure" ["_law_bounds_here", "_law_count"] p7 3 a
noncomputable abbrev Z6:=(dR (wCo [none] ["_law_row"] (bY (aj 0)) (gV 0) (agC (ak (aj 0) ao))))
noncomputable abbrev ajk:DF:=Cz Z6
noncomputable def Lj:FP:=lY 1 ajk
noncomputable abbrev Z7{f:AF}(a:VA f):=Cy "_law_copied" ["_law_book_here"] Lj 1 a
noncomputable abbrev Z8:=(bC (sN (sF (eU (ak (cY (aZ (ak (aq (aj 0) (vC (.int 0))) ao)) (vC (.int 1))) ao)) (gV 3) (bC (sA 4 (aE (Z5 (ak (ZX (ak (aj 0) (ak (aj 1) (ak (dN (ak (cN (cA (ak (aj 3) ao)) (aZ (ak (aj 0) ao))) (ak (cA ao) ao))) ao)))) (ak (aj 2) ao))))) (b1 (sI (tK (aQ Vr (aj 4) (vC .non))) (b1 (aH (dN (ak (aj 3) (ak (aj 4) ao))))) b0))))) (b1 (aH (vC .non))))
noncomputable abbrev ajl:SF:=by exists Z8
noncomputable def Z9:FP:=aP 5 ajl
noncomputable abbrev aac{f:AF}(a:VA f):=vF "_law_rounds" ["_law_book_here", "_law_rule_here", "_law_count"] Z9 5 a
noncomputable abbrev aad:=(bC (sA 3 (aE (cN (wk [.int 0]) (aZ (ak (aj 0) ao))))) (bC (sN (sF (eU (ak (cY (cN (aZ (ak (aj 0) ao)) (aZ (ak (aq (aj 0) (vC (.int 0))) ao))) (vC (.int 1))) ao)) (gV 4) (bC (sA 5 (aE (Z5 (ak (ZX (ak (aj 0) (ak (aj 1) (ak (dN (ak (aj 3) (ak (cA ao) ao))) ao)))) (ak (aj 2) ao))))) (bC (sI (tK (aQ Vr (aj 5) (vC .non))) (b1 (aH (dN (ak (dN (ak (aj 3) (ak (cA ao) ao))) (ak (aj 5) ao))))) b0) (bC (sA 6 (aE (vC .non))) (bC (sA 7 (aE (vC .non))) (bC (sF (eU (ak (aZ (ak (aj 0) ao)) ao)) (gV 8) (b1 (sI (tK (aQ lV (aq (aj 3) (aj 8)) (aZ (ak (aq (aj 0) (vC (.int 0))) ao)))) (bC (sA 9 (aE (lM [.int 1,.int 1]))) (bC (sI (tK (aQ uw (aq (aj 3) (aj 8)) (vC (.int 0)))) (b1 (sA 9 (aE (aq (aq (aj 0) (aj 8)) (aq (Lg (ak (aq (aj 0) (aj 8)) ao)) (rD (aq (aj 3) (aj 8)) (vC (.int 1)))))))) b0) (b1 (sI (tW .Or (wO (tK (aQ pU (aj 6) (vC .non))) (w1 .Or (cW (uJ (ak (aj 7) (ak (aj 9) ao))))))) (bC (sA 6 (aE (aj 8))) (b1 (sA 7 (aE (aj 9))))) b0)))) b0))) (b1 (sA 3 (aE (cY (cY (tQ (aj 3) oN (oS (aj 6))) (cA (ak (cY (aq (aj 3) (aj 6)) (vC (.int 1))) ao))) (tQ (aj 3) (oS (cY (aj 6) (vC (.int 1)))) oN)))))))))))) (b1 (aH (vC .non)))))
noncomputable abbrev ajm:SF:=by exists aad
noncomputable def aae:FP:=aP 10 ajm
noncomputable abbrev aaf{f:AF}(a:VA f):=vF "_law_hope" ["_law_book_here", "_law_rule_here", "_law_count"] aae 5 a
noncomputable abbrev aag:=(bC (sA 1 (aE (ai7 (ak (aj 0) (ak (vC (.int 0)) (ak (vC (.int 4)) (ak (vC (.int 12)) ao))))))) (bC (sA 2 (aE (ai9 (ak (uH (ak (aj 0) (ak (vC (.int 7)) ao))) (ak (aZ (ak (aj 1) ao)) ao))))) (bC (pW 3 (Z7 (ak (aj 1) ao))) (bC (sA 4 (aE (U7 (ak (cY (aZ (ak (aq (aj 1) (vC (.int 0))) ao)) (vC (.int 1))) ao)))) (bC (sI (tK (aQ uw (aZ (ak (aq (aj 1) (vC (.int 0))) ao)) (vC (.int 6)))) (b1 (sA 4 (aE (cA (ak (fQ (uH (ak (aj 0) (ak (vC (.int 8)) ao))) (aZ (ak (aj 4) ao))) (ak (fQ (uH (ak (aj 0) (ak (vC (.int 9)) ao))) (vC (.int 4))) ao)))))) b0) (bC (sN (sF (bY (aj 4)) (gV 5) (bC (sA 6 (aE (cA (ak (aac (ak (aj 1) (ak (aj 2) (ak (aj 5) ao)))) (ak (aaf (ak (aj 1) (ak (aj 2) (ak (aj 5) ao)))) ao))))) (b1 (sF (eU (ak (vC (.int 2)) ao)) (gV 7) (bC (pW 8 (xU (VH (lX (Zw (ak (aj 3) (ak (aj 2) (ak (aj 5) ao)))) (lX (Zy (ak (aj 3) (ak (aj 2) (ak (aj 5) ao)))) xR))))) (bC (sI (Cr (tW .Or (wO (tK (aQ lU (aj 8) (aj 6))) (wO (dX (cW (xP (aq (aj 8) (vC (.int 0)))))) (wO (dX (cW (xP (aq (aj 8) (vC (.int 1)))))) (w1 .Or (tK (aQ lU (aj 3) (aj 1))))))))) (b1 (aH (vC (.bl false)))) b0) (bC (sI (Cr (tW .Or (wO (cW (Vt (aq (aq (aj 8) (vC (.int 0))) (vC (.int 0))))) (w1 .Or (dX (cW (xP (aq (aq (aj 8) (vC (.int 1))) (vC (.int 0)))))))))) (b1 (aH (vC (.bl false)))) b0) (bC (K5 8 [0,1] (.int 0)) (bC (K5 8 [1,1] (.int 0)) (bC (sPc 8 [1,0,0]) (b1 (K5 8 [1,0,1] (.tup [.int 0,.int 0])))))))))))))) (bC (sN (sRv 3 9)) (bC (pW 1 (xU (Z7 (ak (aj 3) ao)))) (bC (sD 1 (sZ 1 (pW 8 (xU (VH (lX (Zw (ak (aj 3) (ak (aj 2) (ak (aq (aj 4) (vC (.int 0))) ao)))) (lX (Zy (ak (aj 3) (ak (aj 2) (ak (aq (aj 4) (vC (.int 0))) ao)))) xR))))))) (b1 (aH (vVw (vK (aQ fD (aj 8) (cA (ak (aac (ak (aj 1) (ak (aj 2) (ak (aq (aj 4) (vC (.int 0))) ao)))) (ak (aaf (ak (aj 1) (ak (aj 2) (ak (aq (aj 4) (vC (.int 0))) ao)))) ao)))))))))))))))))
noncomputable abbrev ajn:SF:=by exists aag
noncomputable def uL:FP:=aP 10 ajn
theorem p18:uT (.int 10) (.int 18)=.ok (.int 1000000000000000000,false):=by kernel_rfl
theorem p60:uT (.int 10) (.int 60)=.ok (.int 1000000000000000000000000000000000000000000000000000000000000,false):=by kernel_rfl
theorem Om{rows:List (LZ)}(h:0<rows.length):aW (aU rows) (.int 0)=.ok (aJ (rows.getD 0 []),false):=uU h
theorem half{d:Nat}:zW (.int d) (.int 2)=.ok (.int ((d / 2:Nat):Int),false):=by
 refine(Nm (Nq (by lia) (by lia))).trans ?_
 rw[Int.fdiv_eq_ediv_of_nonneg _ (by lia)]
 rfl
theorem rP{α : Type}{f : α -> Tr}{l:List α}{d:Nat}:mJ none (some (d:Int)) (.lst (l.map f))=.ok (.lst ((l.take d).map f),true):=by
 show Rs.ok (Tr.lst (cut (l.map f) none (some (d:Int))),true)=_
 rw[Ko,<-List.map_take]
theorem Bk.lt{m k t:Nat}{rows:List (LZ)}(hB:Bk m rows)(hk:k<rows.length)(ht:t<m):t<(rows.getD k []).length:=by rw[(hB.row hk).2.1]; exact ht
theorem Oo{f:Bool->Bool}{k t:Nat}{as:List (Nat × Nat)}:jY f (.tup [.int k,.int t]) (.lst (as.map pT))=.ok (.bl (f (decide ((k,t)∈as))),false):=aic f (k,t) as
theorem Ov{L:List Nat}:aW (.lst (L.map iT++[.int 0])) (.int (L.length-1))=.ok (iT (L.getLastD 0),false):=by
 cases L with
 |nil=>rfl
 |cons x L =>
  rw[show((x::L).length:Int)-1=(L.length:Nat) by simp]
  refine mq ?_
  rw[List.getElem?_append_left (by simp),List.getElem?_map,List.getLastD_eq_getLast?,List.getLast?_eq_getElem?]
  simp
theorem ajo{L:List Nat}{m:Nat}(h:∀x∈L,x<m)(h0:0<m):L.getLastD 0<m:=by
 rw[List.getLastD_eq_getLast?]
 cases e:L.getLast? with
 |none=>exact h0
 |some x=>exact h x (List.mem_of_getLast? e)
theorem Ot{n:Nat}{a b:Int}{y:Int × Int}:aW (.lst [.tup [.int a,.int b],fT y]) (.int (if decide (0<(n:Int))=true then 1 else 0))=.ok (fT (if 0<n then y else(a,b)),false):=by
 by_cases h:0<n
 .rw[if_pos (decide_eq_true (by lia)),if_pos h]; rfl
 .rw[if_neg (by simp; lia),if_neg h]; rfl
theorem pick{b:Bool}{x y:Int × Int}:aW (.lst [dZ b x,fT y]) (.int (if id (zT (dZ b x))=true then 1 else 0))=.ok (fT (if b=true then x else y),false):=by cases b <;> rfl
theorem Ou{b:Bool}{x:Int × Int}{c d:Int}:aW (.lst [dZ b x,.tup [.int c,.int d]]) (.int (if id (zT (dZ b x))=true then 1 else 0))=.ok (fT (if b=true then x else(c,d)),false):=pick (y:=(c,d))
theorem Oq{b:Bool}{x:Int × Int}:aW (.lst [.non,fT x]) (.int (if b=true then 1 else 0))=.ok (dZ b x,false):=by cases b <;> rfl
theorem cell_eq(ns:List Int)(k:Nat):∃x:Int,Lb [.lst (ns.map .int),.int k]=.ok (.int x,false)/\0<=x/\x<2 ^ 200:=by
 have a1:=p18
 have a2:=p60
 have big:∀c:Int,0<=c.fmod 1000000000000000000000000000000000000000000000000000000000000/\c.fmod 1000000000000000000000000000000000000000000000000000000000000<2 ^ 200:=λc=>(iV c _ (by decide)).imp id λh=>Int.lt_trans h (by decide)
 have c1:∀c:Int,dG (c.fmod 2147483629) (c.fmod 2147483629)=true:=λc=>by
  have:=iV c 2147483629 (by lia)
  exact lZ (M:=40) (N:=40) (by lia) (by lia) (by lia) (by lia)
 have c2:∀c:Int,dG (c.fmod 2147483587) (c.fmod 2147483587)=true:=λc=>by
  have:=iV c 2147483587 (by lia)
  exact lZ (M:=40) (N:=40) (by lia) (by lia) (by lia) (by lia)
 have fin:∀c d:Int,0<=c.fmod 2147483587*2147483563+d.fmod 2147483563/\c.fmod 2147483587*2147483563+d.fmod 2147483563<2 ^ 200:=λc d=>by
  have:=iV c 2147483587 (by lia)
  have:=iV d 2147483563 (by lia)
  lia
 by_cases z:k<ns.length
 .have g:=jA (f:=Tr.int) 0 z
  by_cases y:1000000000000000000<=ns.getD k 0 <;> apply V5
  .walk_at "d"
  .exact big _
  .walk_at "d"
  .exact fin _ _
 .apply V5
  .walk_at "d"
  .exact fin _ _
theorem Dq{a b:Int}{M:Nat}(ha:0<=a)(hb:1<=b)(hb2:b<2 ^ M)(hM:M<=8900):Dm [.int a,.int b]=.ok (fT (red a b),false):=by
 have np:=iU M
 obtain⟨g1,g2,_⟩:=sS (a:=a) (b:=b) (by lia)
 have c1:∀n,jd n ((Int.gcd a b:Nat):Int)=true:=λn=>CT (M:=M) (by lia) (by lia) hM
 walk_at "d"
 refine xV [] (λs:Int × Int=>[(2,.sh (.int s.1)),(3,.sh (.int s.2))]) (λs=>0<=s.1/\0<=s.2/\Int.gcd s.1 s.2=Int.gcd a b) (λs=>s.2.natAbs) (a,b) ⟨ha,by lia,rfl⟩ rfl (by show b.natAbs<b.natAbs+1; lia) ?_
 rintro v ⟨x,y⟩ ⟨h1,h2,h3⟩
 dsimp only[pt,List.map,List.set]at *
 by_cases z:0<y
 .have r:=iV x y z
  apply kO
  walk_at "r"
  exact⟨(y,x.fmod y),⟨h2,r.1,by rw[<-h3]; exact Rw ..⟩,Rr x y (by lia),λ_=>.un,rfl⟩
 .obtain rfl:y=0:=by lia
  obtain rfl:x=(Int.gcd a b:Nat):=by rw[<-h3,Int.gcd_zero_right]; lia
  apply kO
  walk_at "r"
  unfold fT red
  rw[Int.fdiv_eq_ediv_of_nonneg _ (by lia),Int.fdiv_eq_ediv_of_nonneg _ (by lia)]
  rfl
theorem uM{x y:Int × Int}{M N:Nat}(hx:Fq M x)(hy:Fq N y)(hM:M+N<=8900):Ld [fT x,fT y]=.ok (.bl (aM x y),false):=by
 obtain⟨_,c1,c2,_⟩:=mulC hx hy hM
 walk_at "d"
theorem mul_eq{x y:Int × Int}{M N:Nat}(hx:Fq M x)(hy:Fq N y)(hM:M+N<=8900):ZJ [fT x,fT y]=.ok (fT (gQ x y),false):=by
 obtain⟨c1,_,_,c4⟩:=mulC hx hy hM
 have p:=Int.mul_pos (a:=x.2) (b:=y.2) (by have:=hx.2.2.1; lia) (by have:=hy.2.2.1; lia)
 have e:=Dq (a:=x.1*y.1) (b:=x.2*y.2) (M:=M+N) (Int.mul_nonneg hx.1 hy.1) (by lia) (n8 (by have:=hx.2.2.1; lia) hx.2.2.2.1 (by have:=hy.2.2.1; lia) hy.2.2.2.1) hM
 walk_at "d"
theorem add_eq{x y:Int × Int}{M N:Nat}(hx:Fq M x)(hy:Fq N y)(hM:M+N<=8900):ZF [fT x,fT y]=.ok (fT (sumF x y),false):=by
 obtain⟨_,c2,c3,c4⟩:=mulC hx hy hM
 have x3:=hx.2.2.1
 have y3:=hy.2.2.1
 have p:=Int.mul_pos (a:=x.2) (b:=y.2) (by lia) (by lia)
 have e:=Dq (a:=x.1*y.2+y.1*x.2) (b:=x.2*y.2) (M:=M+N) (Int.add_nonneg (Int.mul_nonneg hx.1 (by lia)) (Int.mul_nonneg hy.1 (by lia))) (by lia) (n8 (by lia) hx.2.2.2.1 (by lia) hy.2.2.2.1) hM
 walk_at "d"
theorem aah(ns:List Int){i:Int}(h:0<=i):∃x:Int,Lb [.lst (ns.map .int),.int i]=.ok (.int x,false)/\0<=x/\x<2 ^ 200:=by
 obtain⟨k,rfl⟩:=Int.eq_ofNat_of_zero_le h
 exact cell_eq ns k
theorem Ln(x:Int){n:Nat}(h:1<=n):∃m:Nat,1<=m/\m<=n/\m8 (.int 1) (.int (x.fmod n))=.ok (.int m,false):=by
 have r:=iV x n (by lia)
 exact⟨(1+x.fmod n).toNat,by lia,by lia,by rw[Int.toNat_of_nonneg (by lia)]; rfl⟩
theorem ajp{z b:Int}(h0:0<=z)(h1:z<=b)(h2:1<=b)(h3:b<=1000000000000):Wo (red z b):=by
 obtain⟨g1,g2,g3,g4,g5,g6,g7⟩:=sS (a:=z) (b:=b) (by lia)
 have d2:=Int.ediv_le_self (a:=b) ((Int.gcd z b:Nat):Int) (by lia)
 have d3:=Int.ediv_le_ediv g1 h1
 exact⟨g5 h0,d3,g3,by show b / ((Int.gcd z b:Nat):Int)<=_; lia,g4⟩
def Dr(b:Int)(x:Int × Int):Prop:=Wo x/\x.2∣b
theorem ajq(x:Int):∃b:Int,aW (.lst [.int 2,.int 3,.int 4,.int 6,.int 10,.int 24,.int 97,.int 999999999999]) (.int (x.fmod 8))=.ok (.int b,false)/\1<=b/\b<=1000000000000:=by
 have r:=iV x 8 (by lia)
 obtain⟨k,hk⟩:=Int.eq_ofNat_of_zero_le r.1
 rw[hk]
 have:k<8:=by lia
 rcases k with _|_|_|_|_|_|_|_|k <;> first|exact⟨_,rfl,by decide,by decide⟩|lia
theorem snoc{α : Type}{p : α -> Prop}{l:List α}{x : α}(h:∀y∈l,p y)(k:p x):∀y∈l++[x],p y:=λy hy=>(List.mem_append.mp hy).elim (h y) λz=>List.mem_singleton.mp z▸k
theorem Ds{α β : Type}{f : α -> β}{l:List α}{x : α}:l.map f++[f x]=(l++[x]).map f:=by simp
theorem ajr(ns:List Int)(a:Nat){L M:Nat}(hL:1<=L/\L<=4)(hM:1<=M/\M<=12):∃(m:Nat) (rows:List (LZ)),Bk m rows/\(∃D,Bd D rows)/\m<=M/\rows.length<=L/\Le [.lst (ns.map .int),.int a,.int L,.int M]=.ok (aU rows,true):=by
 obtain⟨x,ex,_⟩:=cell_eq ns a
 obtain⟨m,m1,m2,em⟩:=Ln x hM.1
 obtain⟨w,w1,w2,ew⟩:=Ln (x.fdiv M) hL.1
 obtain⟨b,eb,b1,b2⟩:=ajq (x.fdiv 1000)
 suffices h:∃z,Le [.lst (ns.map .int),.int a,.int L,.int M]=.ok z/\∃rows:List (LZ),(rows.length=w/\∀l∈rows,l.length=m/\∀x∈l,Dr b x)/\z=(aU rows,true) by
  obtain⟨_,e,rows,⟨h1,h2⟩,rfl⟩:=h
  exact⟨m,rows,⟨by lia,by lia,by lia,by lia,λl hl=>⟨(h2 l hl).1,λx hx=>((h2 l hl).2 x hx).1⟩⟩,⟨b,b1,b2,λl hl x hx=>((h2 l hl).2 x hx).2⟩,m2,by lia,e⟩
 walk_at "e"
 refine kJ [9,10,11,12] (λs:List (LZ)=>[(8,.ow (s.map aJ))]) (λk s=>s.length=k/\∀l∈s,l.length=m/\∀x∈l,Dr b x) [] ⟨rfl,λ_ h=>by cases h⟩ rfl (λk v rows hk ⟨i1,i2⟩=>?_) (λv rows i=>?_)
 rotate_left
 .walk_at "p"
  exact⟨_,rfl,rows,i,rfl⟩
 obtain⟨o,eo,_⟩:=aah ns (i:=(a:Int)+1+k) (by lia)
 walk_at "p"
 refine kJ [12] (λs:Int × LZ=>[(10,.sh (.int s.1)),(11,.ow (s.2.map fT))]) (λk s=>s.2.length=k/\∀x∈s.2,Dr b x) (o,[]) ⟨rfl,λ_ h=>by cases h⟩ rfl (λt v s ht ⟨j1,j2⟩=>?_) (λv s j=>?_)
 .obtain⟨o1,l⟩:=s
  have j1:l.length=t:=j1
  obtain⟨o2,eo2,_⟩:=aah ns (i:=((a:Int)+1+k+5*t).fmod 63) (iV _ _ (by lia)).1
  have fr:∀o:Int,Dm [.int (o.fmod (b+1)),.int b]=.ok (fT (red (o.fmod (b+1)) b),false)/\Dr b (red (o.fmod (b+1)) b):=λo=>by
   have r:=iV o (b+1) (by lia)
   exact⟨Dq (M:=60) r.1 b1 (by lia) (by lia),ajp r.1 (by lia) b1 b2,Int.ediv_dvd_of_dvd (Int.gcd_dvd_right ..)⟩
  have f1:=fr o1
  have f2:=fr o2
  have e1:=f1.1
  have e2:=f2.1
  by_cases h:100<b
  .walk_at "p"
   exact⟨(_,l++[_]),⟨by simp[j1],snoc j2 f2.2⟩,exV (by rw[<-Ds]; rfl)⟩
  .walk_at "p"
   exact⟨(_,l++[_]),⟨by simp[j1],snoc j2 f1.2⟩,exV (by rw[<-Ds]; rfl)⟩
 .walk_at "p"
  exact⟨rows++[s.2],⟨by simp[i1],snoc i2 j⟩,exV (by rw[<-Ds]; rfl)⟩
theorem Wo.fq{x:Int × Int}(h:Wo x):Fq 400 x:=by
 obtain⟨h1,h2,h3,h4,h5⟩:=h
 exact⟨h1,by lia,h3,by lia,h5⟩
theorem order_eq{l:LZ}(h:∀x∈l,Fq 400 x)(hc:l.length<=12):∃zs:List Nat,Dp [aJ l]=.ok (.lst (zs.map iT),true)/\Fall l zs:=by
 suffices h:∃z,Dp [aJ l]=.ok z/\∃zs:List Nat,Fall l zs/\z=(.lst (zs.map iT),true) by
  obtain⟨_,e,zs,h,rfl⟩:=h
  exact⟨zs,e,h⟩
 have hg:∀i,i<l.length->Fq 400 (l.getD i (0,1)):=λi hi=>h _ (by rw[List.getD_eq_getElem?_getD,List.getElem?_eq_getElem hi]; exact List.getElem_mem _)
 walk_at "e"
 refine kJ [2,3] (λs:List Nat=>[(1,.ow (s.map iT))]) (λk s=>s.Perm (List.range k)/\s.Pairwise (kW l)) [] ⟨.nil,.nil⟩ rfl (λk v zs hk i=>?_) (λv zs i=>?_)
 .have ll:zs.length=k:=by simpa using i.1.length_eq
  have lz:∀a∈zs,a<k:=λa ha=>List.mem_range.mp (i.1.mem_iff.mp ha)
  walk_at "p"
  exact Nat.lt_trans (lz x hx) hk
  walk_at "r"
  exact uM (hg x (Nat.lt_trans (lz x hx) hk)) (hg k hk) (by lia)
  walk_at "r"
  have h:=jK (p:=λx=>!aM (l.getD x (0,1)) (l.getD k (0,1))) (n:=k) i.2 (λa ma b mb r q=>by
   have ab:aM (l.getD a (0,1)) (l.getD b (0,1))=false:=decide_eq_false (by unfold kW at r; lia)
   simpa using KY (hg a (Nat.lt_trans (lz a ma) hk)).2.2.1 (hg b (Nat.lt_trans (lz b mb) hk)).2.2.1 (hg k hk).2.2.1 ab (by simpa using q)) (λa ma q=>by
   have:=lz a ma
   unfold aM at q
   unfold kW
   simp only[Bool.not_eq_true',decide_eq_false_iff_not]at q
   lia) λb mb q=>.inl (by unfold aM at q; simp only[Bool.not_eq_false',decide_eq_true_eq]at q; exact q)
  exact⟨_,⟨h.1.trans ((i.1.cons k).trans (List.range_succ▸List.perm_append_comm (l₁:=[k]))),h.2⟩,exV (by rw[List.map_append,List.map_cons,List.map_take,List.map_drop]; rfl)⟩
 .walk_at "p"
  exact⟨_,rfl,zs,i,rfl⟩
theorem Dt{l:LZ}(h:∀x∈l,Wo x)(hc:l.length<=12):Fall l (aF l)/\Dp [aJ l]=.ok (.lst ((aF l).map iT),true)/\uz [aJ l]=.ok (.lst ((aF l).map iT),true):=by
 obtain⟨zs,e1,f1⟩:=order_eq (λx hx=>Wo.fq (h x hx)) hc
 have e2:=uF (N:=40) (BH.Wo.frs h) (by lia) (by lia) (by lia)
 rw[<-Df f1]at e1
 exact⟨e2.1,e1,e2.2⟩
theorem ajs{m:Nat}{rows:List (LZ)}{ds:List Nat}{as:List (Nat × Nat)}(hB:Bk m rows)(hL:Lk rows.length m ds as):Lh [aU rows,jx ds as]=.ok (.lst (gs rows (sA aF rows ds as)),true):=by
 obtain⟨b1,b2,b3,b4,b5⟩:=id hB
 have hl:=hL.1
 walk_at "d"
 refine rE [3,4,5,6,7] (λk=>[(2,.ow ((List.range k).map λk=>.lst (gr (rows.getD k []) (sA aF rows ds as k))))]) rfl (λk v hk=>?_) (λv=>?_)
 .obtain⟨_,q1,q2⟩:=hB.row hk
  obtain⟨oo,eo,_⟩:=Dt q2 (by lia)
  walk_at "p"
  refine rE [6,7] (λt=>[(5,.ow ((List.range t).map λt=>dZ (sA aF rows ds as k t) ((rows.getD k []).getD t (0,1))))]) rfl (λt v ht=>?_) (λv=>?_)
  .walk_at "p"
   rw[List.range_succ,List.map_append]; rfl
  .walk_at "p"
   rw[List.range_succ,List.map_append]; rfl
 .walk_at "p"
theorem Lp(l:LZ):bD (l.map fT)=true:=sV λt ht=>by
 obtain⟨x,_,rfl⟩:=List.mem_map.mp ht
 rfl
theorem aai{rows:List (LZ)}(hl:rows.length<=1000):Lj [aU rows]=.ok (aU rows,true):=by
 walk_at "m"
 exact Lp x
 walk_at "r"
def FqS(w:Int × Int):Prop:=Fq 45 w/\w.2∣12/\w.1<=100
theorem wgt(x y:Int):Dm [.int (x.fmod 7),.int (1+y.fmod 4)]=.ok (fT (red (x.fmod 7) (1+y.fmod 4)),false)/\FqS (red (x.fmod 7) (1+y.fmod 4)):=by
 have r1:=iV x 7 (by lia)
 have r2:=iV y 4 (by lia)
 have hb:1<=1+y.fmod 4/\1+y.fmod 4<=4:=by lia
 generalize 1+y.fmod 4=b,x.fmod 7=a at *
 obtain⟨g1,g2,g3,g4,g5,g6,g7⟩:=sS (a:=a) (b:=b) (by lia)
 have d2:=Int.ediv_le_self (a:=a) ((Int.gcd a b:Nat):Int) (by lia)
 refine⟨Dq (M:=60) r1.1 hb.1 (by lia) (by lia),Kr (M:=45) r1.1 (by lia) hb.1 (by lia),Int.dvd_trans (Int.ediv_dvd_of_dvd (Int.gcd_dvd_right a b)) ?_,by show a / ((Int.gcd a b:Nat):Int)<=100; lia⟩
 have:b=1\/b=2\/b=3\/b=4:=by omega
 rcases this with rfl|rfl|rfl|rfl <;> decide
theorem ajt(x:Int){n:Nat}(h1:1<=n)(h4:n<=4):∃r,Lf [.int x,.int n]=.ok (bf r,false)/\cF n r/\rH r:=by
 suffices h:∃z,Lf [.int x,.int n]=.ok z/\∃r,(cF n r/\rH r)/\z=(bf r,false) by
  obtain⟨_,e,r,h,rfl⟩:=h
  exact⟨r,e,h⟩
 obtain⟨j,j1,j2,ej⟩:=Ln (x.fdiv 7) h1
 by_cases w0:x.fmod 7=0
 .walk_at "e"
  exact⟨_,rfl,.least,⟨trivial,trivial⟩,rfl⟩
 by_cases w1:x.fmod 7=1
 .walk_at "e"
  exact⟨_,rfl,.greatest,⟨trivial,trivial⟩,rfl⟩
 by_cases w2:x.fmod 7=2
 .walk_at "e"
  exact⟨_,rfl,.mid j,⟨⟨j1,j2⟩,trivial⟩,rfl⟩
 by_cases w3:x.fmod 7=3
 .walk_at "e"
  exact⟨_,rfl,.product,⟨trivial,trivial⟩,rfl⟩
 walk_at "e"
 refine kJ [4] (λs:Int × LZ=>[(0,.sh (.int s.1)),(3,.ow (s.2.map fT))]) (λk s=>s.2.length=k/\∀w∈s.2,FqS w) (x.fdiv 7,[]) ⟨rfl,λ_ h=>by cases h⟩ rfl (λk v s hk i=>?_) (λv s i=>?_)
 .obtain⟨y,ws⟩:=s
  have i1:ws.length=k:=i.1
  obtain⟨e,q⟩:=wgt y (y.fdiv 7)
  walk_at "p"
  exact⟨(_,ws++[_]),⟨by simp[i1],snoc i.2 q⟩,exV (by rw[<-Ds]; rfl)⟩
 .walk_at "p"
  exact⟨_,rfl,.sh s.2,⟨⟨i.1,λw hw=>(i.2 w hw).1⟩,λw hw=>(i.2 w hw).2⟩,rfl⟩
section
variable {m:Nat}{rows:List (LZ)}{ds:List Nat}{as:List (Nat × Nat)}{r:Ru}{s:Nat->Nat->Bool}{xs:LZ}
theorem aju{l:List Tr}{T:Tr}(h:l.getLast? = some T):aW (.lst l) (.int (-1))=.ok (T,false):=by
 have n0:l.length≠0:=λz=>by rw[List.length_eq_zero_iff.mp z]at h; cases h
 have e:cR l (-1)=some T:=by
  unfold cR fM
  rw[if_neg (by lia),if_pos (by lia),<-h,List.getLast?_eq_getElem?]
  exact congrArg (λj=>l[j]?) (show(-1+(l.length:Int)).toNat=l.length-1 by lia)
 show(match cR l (-1)with|some t=>Rs.ok (t,false)|none=>.bad)=_
 rw[e]
theorem ajv(hx:∀x∈xs,Wo x)(h1:1<=xs.length)(h2:xs.length<=12)(ho:cF xs.length r):∃v,uK [bf r,aJ xs]=.ok (fT v,false)/\Wv r xs v:=by
 have hq:∀x∈xs,Fq 45 x:=λx m=>BH.Wo.fq (hx x m)
 have pl:placed r=true->∃z,uK [bf r,aJ xs]=.ok z/\∃v zs,(dg xs zs/\zs[fU xs.length r-1]?=some v)/\z=(fT v,false):=λhp=>by
  obtain⟨w,e1,e2,e3,e4,e5⟩:=ah2 hp
  walk_at "e"
  refine kE [4,6] (λs:LZ=>[(5,.ow (s.map fT))]) (λk s=>s.Perm (xs.take k)/\s.Pairwise le2) [] ⟨.nil,.nil⟩ rfl (λk y v zs gx i=>?_) (λv zs i=>?_)
  .have kl:=(List.getElem?_eq_some_iff.mp gx).1
   have lz:zs.length=k:=by rw[i.1.length_eq,List.length_take]; lia
   have hz:∀z∈zs,Fq 45 z:=λz m=>hq z (List.mem_of_mem_take (i.1.mem_iff.mp m))
   have hy:=hq y (List.mem_of_getElem? gx)
   walk_at "p"
   exact uM (hz x hx) hy (by lia)
   walk_at "r"
   have h:=jK (R:=le2) (p:=λz=>aM z y) (n:=y) i.2 (λa ma b mb r q=>by
    cases e:aM a y with
    |true=>rfl
    |false=>rw[pX.mpr (Ks hy.2.2.1 (hz a ma).2.2.1 (hz b mb).2.2.1 (pX.mp e) r)]at q; cases q) (λa ma q=>by unfold aM at q; unfold le2; simp only[decide_eq_true_eq]at q; lia) λb mb q=>pX.mp q
   refine⟨_,⟨h.1.trans ((i.1.cons y).trans ?_),h.2⟩,exV (by rw[List.map_append,List.map_cons,List.map_take,List.map_drop]; rfl)⟩
   rw[List.take_add_one,gx]
   exact List.perm_append_comm (l₁:=[y])
  .rw[List.take_length]at i
   have lz:=i.1.length_eq
   obtain⟨p1,p2⟩:=Yg hp ho h1
   have go:∀k:Nat,k=xs.length-fU xs.length r->∃v ys,(dg xs ys/\ys[fU xs.length r-1]?=some v)/\(fT (zs.getD k (0,1)),false)=(fT v,false):=λk hk=>⟨_,zs.reverse,⟨⟨(List.reverse_perm zs).trans i.1,List.pairwise_reverse.mpr i.2⟩,by
    rw[List.getElem?_reverse (by lia),show zs.length-1-(fU xs.length r-1)=k by lia,List.getElem?_eq_getElem (by lia),List.getD_eq_getElem?_getD,List.getElem?_eq_getElem (by lia)]; rfl⟩,rfl⟩
   have g0:aW (.lst (zs.map fT)) (.int 0)=.ok (fT (zs.getD 0 (0,1)),false):=jA (k:=0) _ (by lia)
   have gl:aW (.lst (zs.map fT)) (.int (-1))=.ok (fT (zs.getD (xs.length-1) (0,1)),false):=aju (by rw[List.getLast?_eq_getElem?,List.getElem?_map,List.length_map,lz,List.getD_eq_getElem?_getD,List.getElem?_eq_getElem (by lia)]; rfl)
   cases r with
   |sh ws=>cases hp
   |product=>cases hp
   |least=>walk_at "p"; exact⟨_,rfl,go 0 (Nat.sub_self _).symm⟩
   |greatest=>walk_at "p"; exact⟨_,rfl,go _ rfl⟩
   |mid k =>
    have p1:1<=k:=p1
    have p2:k<=xs.length:=p2
    have i1:aW (bf (.mid k)) (.int 1)=.ok (.int k,false):=rfl
    have d1:sX (.int (zs.length:Int)) (.int k)=.ok (.int ((xs.length-k:Nat):Int),false):=by show Rs.ok (Tr.int ((zs.length:Int)-k),false)=_; rw[lz,Int.ofNat_sub p2]
    walk_at "p"; exact⟨_,rfl,go _ rfl⟩
 cases r with
 |sh ws =>
  have ol:=ho.1
  suffices h:uK [bf (.sh ws),aJ xs]=.ok (fT (ju (ws.zip xs) (0,1)),false)from⟨_,h,rfl⟩
  have zl:(ws.zip xs).length=xs.length:=by rw[List.length_zip,ol,Nat.min_self]
  have i1:aW (bf (.sh ws)) (.int 1)=.ok (aJ ws,false):=rfl
  walk_at "d"
  refine kJ [3] (λt:Int × Int=>[(2,.sh (fT t))]) (λk t=>t=ju ((ws.zip xs).take k) (0,1)/\Fq (1+91*k) t) (0,1) ⟨rfl,by decide,by decide,by decide,by decide,rfl⟩ rfl (λk v t hk i=>?_) (λv t i=>?_)
  .have fx:=hq _ (List.getElem_mem hk)
   have fw:=ho.2 _ (List.getElem_mem (ol▸hk))
   have f:=xZ fw fx
   have e1:=mul_eq fw fx (by lia)
   have e2:=add_eq i.2 f (by lia)
   have g1:aW (aJ xs) (.int k)=.ok (fT xs[k],false):=mq (by simp[hk])
   have g2:aW (aJ ws) (.int k)=.ok (fT (ws[k]'(ol▸hk)),false):=mq (by simp[ol▸hk])
   walk_at "p"
   refine⟨_,⟨?_,(X6 i.2 f).up (by lia)⟩,exV rfl⟩
   rw[i.1,List.take_add_one,List.getElem?_eq_getElem (by lia)]
   unfold ju
   rw[List.foldl_append]
   simp
  .rw[i.1,List.take_of_length_le (by lia)]
   walk_at "p"
 |product =>
  suffices h:uK [bf .product,aJ xs]=.ok (fT (jw xs (1,1)),false)from⟨_,h,rfl⟩
  walk_at "d"
  refine kE [4] (λt:Int × Int=>[(2,.sh (fT t))]) (λk t=>t=jw (xs.take k) (1,1)/\Fq (1+45*k) t) (1,1) ⟨rfl,by decide,by decide,by decide,by decide,rfl⟩ rfl (λk x v t gx i=>?_) (λv t i=>?_)
  .have kl:=(List.getElem?_eq_some_iff.mp gx).1
   have fx:=hq x (List.mem_of_getElem? gx)
   have e1:=mul_eq i.2 fx (by lia)
   walk_at "p"
   refine⟨_,⟨?_,(xZ i.2 fx).up (by lia)⟩,exV rfl⟩
   rw[i.1,List.take_add_one,gx]
   unfold jw
   rw[List.foldl_append]
   rfl
  .rw[i.1,List.take_length]
   walk_at "p"
 |least=>obtain⟨_,e,v,zs,h,rfl⟩:=pl rfl; exact⟨v,e,zs,h⟩
 |greatest=>obtain⟨_,e,v,zs,h,rfl⟩:=pl rfl; exact⟨v,e,zs,h⟩
 |mid k=>obtain⟨_,e,v,zs,h,rfl⟩:=pl rfl; exact⟨v,e,zs,h⟩
theorem aaj{xs:LZ}(hx:∀x∈xs,Wo x)(h1:1<=xs.length)(h2:xs.length<=12)(ho:cF xs.length r):uK [bf r,aJ xs]=.ok (fT (wv r xs),false):=by
 obtain⟨v,e,h⟩:=ajv hx h1 h2 ho
 rw[YL hx h]
 exact e
theorem ajw(hL:Lk rows.length m ds as):((List.range rows.length).map λk=>fT (gU aF (1,1) (rows.getD k []) (ds.getD k 0)))=(bR aF (1,1) rows ds).map fT:=by unfold bR; rw[List.map_map]; rfl
theorem aak(hB:Bk m rows)(hL:Lk rows.length m ds as)(ho:cF rows.length r):yq [aU rows,bf r,jx ds as]=.ok (.lst (bJ (loV r rows ds as) (hiV r rows ds as) m),true):=by
 have h1:=hB.1
 have h4:=hB.2.1
 have b3:=hB.2.2.1
 have b4:=hB.2.2.2.1
 have ll:=oh (od:=aF) (one:=(1,1)) hL.1
 have l0:=(hB.row h1).2.1
 have hl:=hL.1
 have z1:Lh [aU rows,jx ds as]=.ok (.lst (gs rows (sA aF rows ds as)),true):=ajs hB hL
 walk_at "d"
 refine rE [5,6] (λk=>[(4,.ow ((List.range k).map λk=>fT (gU aF (1,1) (rows.getD k []) (ds.getD k 0))))]) rfl (λk v hk=>?_) (λv=>?_)
 .obtain⟨_,q1,q2⟩:=hB.row hk
  obtain⟨oo,eo,_⟩:=Dt q2 (by lia)
  have lg:=ajo (L:=(aF (rows.getD k [])).take (ds.getD k 0)) (m:=m) (λx hx=>by rw[<-q1]; exact List.mem_range.mp (oo.1.mem_iff.mp (List.mem_of_mem_take hx))) (by lia)
  have dm:=hL.2.1 (ds.getD k 0) (by rw[List.getD_eq_getElem?_getD,List.getElem?_eq_getElem (hl▸hk)]; exact List.getElem_mem _)
  walk_at "p"
  rw[List.range_succ,List.map_append]
  refine congrArg (λy=>_++[fT y]) ?_
  have lt:((aF (rows.getD k [])).take (ds.getD k 0)).length=ds.getD k 0:=by rw[List.length_take,oo.1.length_eq,List.length_range,q1]; lia
  rw[List.getLastD_eq_getLast?,List.getLast?_eq_getElem?,lt]
  unfold gU
  split
  .rw[List.getElem?_take,if_pos (by lia),<-List.getD_eq_getElem?_getD]
  .rfl
 walk_at "p"
 rw[ajw hL,l0]
 refine rE [8,9,10] (λk=>[(7,.ow (bJ (loV r rows ds as) (hiV r rows ds as) k))]) rfl (λt v ht=>?_) (λv=>?_)
 .have e1:=aaj (Dg (s:=sA aF rows ds as) hB ht) (by rw[gW]; exact h1) (by rw[gW]; lia) (by rw[gW]; exact ho)
  have e2:=aaj (KQ (s:=sA aF rows ds as) hB ht ll (yj hB hL)) (by rw[iY]; exact h1) (by rw[iY]; lia) (by rw[iY]; exact ho)
  unfold lo at e1
  unfold hi at e2
  rw[uE]at e1 e2
  have bl:=YJ (m:=t) (a:=loV r rows ds as) (b:=hiV r rows ds as)
  walk_at "p"
  exact YK
 walk_at "p"
end
end K32
end
section
namespace BH
open PySem L2
theorem abn(n:Nat):agB (.int (n:Nat)) (.int 1)=.ok (.int ((n &&& 1:Nat):Int),false):=rfl
theorem abm(n t:Nat):Vp (.int (n:Nat)) (.int (t:Nat))=.ok (.int ((n / 2 ^ t:Nat):Int),false):=by
 have e:((n:Int) / 2 ^ ((t:Int)).toNat)=((n / 2 ^ t:Nat):Int):=by rw[Int.toNat_natCast]; push_cast; rfl
 rw[<-e]
 unfold Vp pA
 exact if_pos (decide_eq_true (Int.natCast_nonneg t))
end BH
end
section
namespace K32
open PySem L2 BH
section
variable {m:Nat}{a b:Nat->Int × Int}{ys:List Nat}
theorem ajx(a b:Int × Int):eqT (fT a) (fT b)=decide (a=b):=by
 show((a.1 == b.1)&&((a.2 == b.2)&&true))=_
 rw[Bool.and_true,Bool.eq_iff_iff,Bool.and_eq_true,beq_iff_eq,beq_iff_eq,decide_eq_true_eq,Prod.ext_iff]
theorem abo(x y:Int × Int):gJ (fT x) (fT y)=.ok (.bl (!decide (x=y)),false):=by
 unfold gJ
 rw[if_pos ⟨by rw[Kq]; lia,by rw[Kq]; lia⟩,ajx]
theorem aal{M N:Nat}{x y:Int × Int}(hx:Fq M x)(hy:Fq N y):x=y↔x.1*y.2=y.1*x.2:=by
 obtain⟨x1,x2,x3,x4,x5⟩:=hx
 obtain⟨y1,y2,y3,y4,y5⟩:=hy
 exact⟨λq=>by rw[q],λq=>X5 x3 y3 x5 y5 (by unfold le2; lia) (by unfold le2; lia)⟩
variable {m:Nat}{a b:Nat->Int × Int}
noncomputable def mH(a b:Nat->Int × Int)(i j:Nat):Bool:=if a i=a j then if b i=b j then decide (i<j)else aM (b j) (b i)else aM (a j) (a i)
theorem Lr{i j:Nat}(hf:∀t,t<m->Fq 400 (a t)/\Fq 400 (b t))(hi:i<m)(hj:j<m):mH a b i j=true↔eV a b i j:=by
 have e1:=aal (hf i hi).1 (hf j hj).1
 have e2:=aal (hf i hi).2 (hf j hj).2
 unfold mH eV aM
 by_cases c1:a i=a j
 .have d1:=e1.mp c1
  rw[if_pos c1]
  by_cases c2:b i=b j
  .have d2:=e2.mp c2
   rw[if_pos c2,decide_eq_true_iff]
   lia
  .have d2:¬_:=λq=>c2 (e2.mpr q)
   rw[if_neg c2,decide_eq_true_iff]
   lia
 .have d1:¬_:=λq=>c1 (e1.mpr q)
  rw[if_neg c1,decide_eq_true_iff]
  lia
noncomputable def dF(m:Nat)(ys:List Nat)(k:Nat):List Nat:=(List.range m).filter λt=>!decide (t∈ys.take k)
theorem rJ{t k:Nat}:t∈dF m ys k↔t<m/\t∉ys.take k:=by
 unfold dF
 simp
theorem aam(ho:ou a b m ys){k:Nat}(hk:k<ys.length):ys[k]∈dF m ys k/\∀z∈dF m ys k,z≠ys[k]->eV a b ys[k] z:=by
 have nd:ys.Nodup:=ho.1.nodup_iff.mpr List.nodup_range
 have my:∀t,t∈ys↔t<m:=λt=>by rw[ho.1.mem_iff,List.mem_range]
 have pw:=List.pairwise_iff_getElem.mp ho.2
 refine⟨rJ.mpr ⟨(my _).mp (List.getElem_mem hk),λq=>?_⟩,λz mz ne=>?_⟩
 .obtain⟨j,hj,e⟩:=List.mem_take_iff_getElem.mp q
  exact absurd e (List.pairwise_iff_getElem.mp nd j k (by lia) hk (by lia))
 .obtain⟨zm,zn⟩:=rJ.mp mz
  obtain⟨j,hj,rfl⟩:=List.mem_iff_getElem.mp ((my z).mpr zm)
  refine pw k j hk hj ?_
  rcases Nat.lt_trichotomy k j with c|c|c
  .exact c
  .subst c; exact absurd rfl ne
  .exact absurd (List.mem_take_iff_getElem.mpr ⟨j,by lia,rfl⟩) zn
theorem ajy{k:Nat}(hk:k<ys.length):(dF m ys k).filter (λt=>!decide (t=ys[k]))=dF m ys (k+1):=by
 unfold dF
 rw[List.filter_filter]
 congr 1
 funext t
 rw[List.take_succ_eq_append_getElem hk,Bool.eq_iff_iff]
 have q:t∈ys.take k++[ys[k]]↔t∈ys.take k\/t=ys[k]:=by rw[List.mem_append,List.mem_singleton]
 rw[Bool.and_eq_true,Bool.not_eq_true',Bool.not_eq_true',Bool.not_eq_true',decide_eq_false_iff_not,decide_eq_false_iff_not,decide_eq_false_iff_not,q,not_or]
 exact⟨λh=>⟨h.2,h.1⟩,λh=>⟨h.2,h.1⟩⟩
theorem ajz(hf:∀t,t<m->Fq 400 (a t)/\Fq 400 (b t))(ho:ou a b m ys){k x:Nat}(hk:k<ys.length)(hx:x∈dF m ys k):(dF m ys k).foldl (λs t=>if mH a b t s=true then t else s) x=ys[k]:=by
 obtain⟨h1,h2⟩:=aam ho hk
 have ym:=(rJ.mp h1).1
 have no:∀{i j:Nat},i<m->j<m->¬eV a b i j->mH a b i j=false:=λhi hj n=>Bool.eq_false_iff.mpr λq=>n ((Lr hf hi hj).mp q)
 refine Di (no ym ym (eV.irr _)) _ x (.inl h1) (λz mz ne=>?_) λne=>(Lr hf ym (rJ.mp hx).1).mpr (h2 x hx ne)
 have zm:=(rJ.mp mz).1
 exact⟨(Lr hf ym zm).mpr (h2 z mz ne),no zm ym (h2 z mz ne).aiL⟩
theorem abp(i j:Nat):gJ (iT i) (iT j)=.ok (.bl (!decide (i=j)),false):=by
 refine DK.trans ?_
 rw[show decide ((i:Int)=j)=decide (i=j)from decide_eq_decide.mpr (by lia)]
theorem ajA{i j:Nat}(hf:∀t,t<m->Fq 400 (a t)/\Fq 400 (b t))(hi:i<m)(hj:j<m):Z2 [.lst (bJ a b m),iT i,iT j]=.ok (.bl (mH a b i j),false):=by
 have e1:=uM (hf j hj).1 (hf i hi).1 (by lia)
 have e2:=uM (hf j hj).2 (hf i hi).2 (by lia)
 unfold mH
 by_cases c1:a i=a j
 .rw[if_pos c1]
  by_cases c2:b i=b j
  .rw[if_pos c2]
   walk_at "d"
   rw[show decide ((i:Int)<j)=decide (i<j)from decide_eq_decide.mpr (by lia)]; rfl
  .rw[if_neg c2]
   walk_at "d"
 .rw[if_neg c1]
  walk_at "d"
theorem ajB(hf:∀t,t<m->Fq 400 (a t)/\Fq 400 (b t))(hm:m<=12){zs:List Nat}(hz:∀t∈zs,t<m):∃bb,Li [.lst (bJ a b m),.lst (zs.map iT)]=.ok (.bl bb,false)/\(bb=true↔mF a b m zs):=by
 suffices h:∃z,Li [.lst (bJ a b m),.lst (zs.map iT)]=.ok z/\∃bb:Bool,(bb=true↔mF a b m zs)/\z=(.bl bb,false) by
  obtain⟨_,e,bb,h,rfl⟩:=h
  exact⟨bb,e,h⟩
 walk_at "e"
 refine kE [2,3] (λ_:Unit=>[]) (λk _=>∀t∈zs.take k,∀o,o<m->o∉zs->aM (a t) (b o)=false) () (λ_ h=>by cases h) rfl (λk t v _ g i=>?_) (λv _ i=>?_)
 .have mt:=List.mem_of_getElem? g
  have ht:=hz t mt
  walk_at "p"
  refine kJ [3] (λ_:Unit=>[]) (λj _=>∀o,o<j->o∉zs->aM (a t) (b o)=false) () (λ_ h=>by lia) rfl (λo v _ ho j=>?_) (λv _ j=>⟨(),λt' h=>?_,exV rfl⟩)
  .have e:=uM (hf t ht).1 (hf o ho).2 (by lia)
   have nx:(o∉zs->aM (a t) (b o)=false)->∀p,p<o+1->p∉zs->aM (a t) (b p)=false:=λh p hp n=>by
    by_cases q:p=o
    .subst q; exact h n
    .exact j p (by lia) n
   by_cases c:o∈zs
   .walk_at "p"
    exact⟨(),nx λh=>(h c).elim,exV rfl⟩
   .by_cases c2:aM (a t) (b o)=true
    .walk_at "p"
     exact⟨_,rfl,false,⟨λh=>(by cases h),λh=>(by rw[h t mt o ho c]at c2; cases c2)⟩,rfl⟩
    .have c2:=Bool.eq_false_iff.mpr c2
     walk_at "p"
     exact⟨(),nx λ_=>c2,exV rfl⟩
  .rw[List.take_add_one,g]at h
   rcases List.mem_append.mp h with h|h
   .exact i t' h
   .obtain rfl:t'=t:=by simpa using h
    exact j
 .rw[List.take_length]at i
  walk_at "p"
  exact⟨_,rfl,true,⟨λ_=>i,λ_=>rfl⟩,rfl⟩
theorem ajC(hf:∀t,t<m->Fq 400 (a t)/\Fq 400 (b t))(hm:m<=12)(ho:ou a b m ys){c:Nat}(hc:c<=m):∃bb,p7 [.lst (bJ a b m),iT c]=.ok (mG bb (fH m (ys.take c)),bb)/\(bb=true↔mF a b m (ys.take c)):=by
 have ln:ys.length=m:=by rw[ho.1.length_eq,List.length_range]
 obtain⟨bb,e1,h1⟩:=ajB hf hm (zs:=ys.take c) λt ht=>by simpa using ho.1.mem_iff.mp (List.mem_of_mem_take ht)
 refine⟨bb,?_,h1⟩
 have es:=Zh (c:=c) ho.1 hm
 have l0:dF m ys 0=List.range m:=List.filter_eq_self.mpr λt _=>by simp
 have ll:∀k,(dF m ys k).length<=12:=λk=>by have:=List.length_filter_le (λt=>!decide (t∈ys.take k)) (List.range m); rw[List.length_range]at this; exact Nat.le_trans this hm
 walk_at "d"
 rw[<-l0]
 refine xV [4,5] (λk:Nat=>[(2,.sh (.lst ((dF m ys k).map iT))),(3,.ow ((ys.take k).map iT))]) (λk=>k<=c) (λk=>c-k) 0 (Nat.zero_le _) rfl (by show c-0<(c:Int).natAbs+1; lia) λv k hk=>?_
 have lk:(ys.take k).length=k:=by rw[List.length_take]; lia
 by_cases z:k<c
 .have hk':k<ys.length:=by lia
  obtain⟨y1,y2⟩:=aam ho hk'
  have l1:0<(dF m ys k).length:=List.length_pos_of_mem y1
  have lx:=ll k
  have g0:aW (.lst ((dF m ys k).map iT)) (.int 0)=.ok (iT ((dF m ys k).getD 0 0),false):=jA (k:=0) 0 l1
  have m0:(dF m ys k).getD 0 0∈dF m ys k:=by rw[List.getD_eq_getElem?_getD,List.getElem?_eq_getElem l1]; exact List.getElem_mem _
  apply kO
  walk_at "p"
  refine kE [5] (λx:Nat=>[(4,.sh (iT x))]) (λj x=>x∈dF m ys k/\x=((dF m ys k).take j).foldl (λs t=>if mH a b t s=true then t else s) ((dF m ys k).getD 0 0)) _ ⟨m0,rfl⟩ rfl (λj t v x g i=>?_) (λv x i=>?_)
  .have mt:=List.mem_of_getElem? g
   have e:=ajA hf (rJ.mp mt).1 (rJ.mp i.1).1
   have st:((dF m ys k).take (j+1)).foldl (λs t=>if mH a b t s=true then t else s) ((dF m ys k).getD 0 0)=if mH a b t x=true then t else x:=by rw[List.take_add_one,g,i.2,List.foldl_append]; rfl
   by_cases q:mH a b t x=true
   .rw[if_pos q]at st
    walk_at "p"
    exact⟨t,⟨mt,st.symm⟩,exV rfl⟩
   .rw[if_neg q]at st
    have q:=Bool.eq_false_iff.mpr q
    walk_at "p"
    exact⟨x,⟨i.1,st.symm⟩,exV rfl⟩
  .obtain rfl:x=ys[k]:=by rw[i.2,List.take_length]; exact ajz hf ho hk' m0
   walk_at "p"
   refine⟨k+1,by lia,by lia,exV ?_⟩
   rw[<-ajy hk',List.take_succ_eq_append_getElem hk',List.map_append]
   rfl
 .obtain rfl:k=c:=by lia
  cases bb <;> apply kO <;> walk_at "p"
end
end K32
end
section
namespace BH
open PySem L2
section
variable {m:Nat}{rows:List (LZ)}{ds:List Nat}{as:List (Nat × Nat)}{r:Ru}{a b:Nat->Int × Int}{ys:List Nat}
theorem ajD(hB:Bk m rows)(hD:Bd B rows):Od aF m (bO B rows):=Od.of (N:=45) (by rw[pY]; exact hB.1) (by rw[pY]; exact hB.2.1) hB.2.2.1 hB.2.2.2.1 (λl ml=>by
   obtain⟨l',jy,rfl⟩:=List.mem_map.mp ml
   rw[List.length_map]
   exact(hB.2.2.2.2 l' jy).1) (λl ml=>by
   obtain⟨l',jy,rfl⟩:=List.mem_map.mp ml
   refine Fq.frs λy my=>?_
   obtain⟨x,mx,rfl⟩:=List.mem_map.mp my
   exact(uG ((hB.2.2.2.2 l' jy).2 x mx) (hD.2.2 l' jy x mx) hD.1 hD.2.1).1) (by lia)
noncomputable abbrev jz(B k:Int)(rows:List (LZ))(r:Ru):Tr:=.tup [aU (bO B rows),bf (gY k r),fT (B,1)]
theorem ajE(hB:Bk m rows)(hD:∃D,Bd D rows)(ho:cF rows.length r)(hS:rH r):∃B k:Int,Bd B rows/\yc [aU rows,bf r]=.ok (jz B k rows r,false)/\∀ds as c,Lk rows.length m ds as->∃ys bb,ou (loV r rows ds as) (hiV r rows ds as) m ys/\iW [jz B k rows r,iT c,jx ds as]=.ok (mG bb (fH m (ys.take c)),bb)/\(bb=true↔mF (loV r rows ds as) (hiV r rows ds as) m (ys.take c)):=by
 obtain⟨B,k,rK,ho',hk,e1⟩:=aiB hB hD ho hS
 refine⟨B,k,rK,e1,λds as c hL=>?_⟩
 obtain⟨a,b,e2,hs⟩:=aiA (k:=k) hB rK hL ho ho'
 have hm:m<=12:=by have:=hB.2.2.2.1; lia
 obtain⟨ys,bb,h1,e3,h2⟩:=aiJ (λt ht=>(hs t ht).2.2) hm c
 have hC:1<=kZ k B rows.length r:=aiK hk rK.1 _ _
 have sa:gh (kZ k B rows.length r) m (loV r rows ds as) a:=λt ht=>⟨(hs t ht).1,(YQ hB ho ht).2.2.2.1,(hs t ht).2.2.1.2.2.1⟩
 have sb:gh (kZ k B rows.length r) m (hiV r rows ds as) b:=λt ht=>⟨(hs t ht).2.1,(YS hB hL ho ht).2.2.2.1,(hs t ht).2.2.2.2.2.1⟩
 refine⟨ys,bb,gh.ord hC sa sb h1,?_,h2.trans (gh.sure hC sa sb λt ht=>by simpa using h1.1.mem_iff.mp (List.mem_of_mem_take ht))⟩
 walk_at "d"
theorem ajF(ho:ou a b m ys)(hab:∀t,t<m->a t=b t)(c:Nat):mF a b m (ys.take c):=λt mt o hom on=>by
 have od:o∈ys.drop c:=by
  have:=ho.1.mem_iff.mpr (List.mem_range.mpr hom)
  rw[<-List.take_append_drop c ys]at this
  exact(List.mem_append.mp this).resolve_left on
 have pw:=ho.2
 rw[<-List.take_append_drop c ys]at pw
 have:=(eV.ge ((List.pairwise_append.mp pw).2.2 t mt o od)).1
 rw[<-hab o hom]
 exact this
theorem ajG(hB:Bk m rows)(hd:∀k,k<rows.length->ds.getD k 0=m)(ht:t<m):loV r rows ds as t=hiV r rows ds as t:=by
 unfold loV hiV
 refine congrArg (wv r) (List.ext_getElem (by rw[gW,iY]) λk h1 h2=>?_)
 have hk:k<rows.length:=by rw[gW]at h1; exact h1
 have e1:=ais (s:=sA aF rows ds as) (t:=t) hk
 have e2:=ait (s:=sA aF rows ds as) (cZ:=bR aF (1,1) rows ds) (t:=t) hk
 rw[List.getD_eq_getElem?_getD,List.getElem?_eq_getElem h1]at e1
 rw[List.getD_eq_getElem?_getD,List.getElem?_eq_getElem h2]at e2
 have s1:sA aF rows ds as k t=true:=by
  unfold sA sn
  have f:=hB.od
  have ln:=hB.row hk
  have l1:=f.ln _ ln.1
  rw[hd k hk,List.take_of_length_le (by lia)]
  obtain⟨ys,e,fa⟩:=CV (N:=40) (rows.getD k []) (Wo.frs ln.2.2) (by rw[ln.2.1]; have:=hB.2.2.2.1; lia) (by lia) (by rw[ln.2.1]; have:=hB.2.2.2.1; lia)
  rw[Df fa,decide_eq_true (show t∈ys from fa.1.mem_iff.mpr (List.mem_range.mpr (by rw[ln.2.1]; exact ht))),Bool.true_or]
 rw[if_pos s1]at e1 e2
 exact e1.trans e2.symm
end
end BH
end
section
namespace L2
open PySem
section
variable {ρ ρ1 ρ2:En}{fa:EF}{T:Tr}{us ts:List Tr}{x:Rv}{b c:Bool}{i j m n:Nat}{p:List Nat}{u v:Int}{Q:Fl->En->Prop}
theorem abq(c : ρ[i]?=some (.sh (.int u)))(h:fa ρ=.ok (x,ρ1))(d:dr ρ1 x=.ok (.int v))(e : ρ1.set i (.sh (.int (u+v))) = ρ2)(k:Q .nx ρ2):W (Dj i fa ρ) Q:=by
 subst e
 refine⟨_,_,?_,k⟩
 unfold Dj
 rw[c]
 exact bk h (bk d (bk rfl rfl))
theorem wAx(h:fa ρ=.ok (x,ρ))(d:dr ρ x=.ok (.int (n:Nat)))(c : ρ[i]?=some (.ow ts))(l:ts[n]?=some (.int u))(e : ρ.set i (.ow (ts.set n (.int (u+v)))) = ρ2)(k:Q .nx ρ2):W (Zk i fa v ρ) Q:=by
 subst e
 have c1:con ρ i=.ok ts:=by unfold con; rw[c]
 have c2:cM i (ts.set n (.int (u+v))) ρ = ρ.set i (.ow (ts.set n (.int (u+v)))):=by unfold cM; rw[c]
 refine⟨_,_,bk c1 (bk h (bk d (bk (a:=(n:Int)) rfl (bk c1 ((if_pos (Int.natCast_nonneg n)).trans ?_))))),k⟩
 rw[Int.toNat_natCast,l]
 exact congrArg (λr=>Rs.ok (Fl.nx,r)) c2
theorem wPm(c : ρ[i]?=some (.dp ts))(g:je (.lst ts) p=some (.lst us))(n:bD us=true)(n':bh T=true)(l:us.length<=100000)(e : ρ.set i (.dp (stL ts p (us++[T]))) = ρ2)(k:Q .nx ρ2):W (Zq i p T ρ) Q:=by
 subst e
 refine⟨_,_,bk (a:=ts) (by unfold cH; rw[c]) ?_,k⟩
 rw[g]
 exact if_pos (by rw[n,n',decide_eq_true l]; rfl)
theorem wPc(c : ρ[i]?=some (.dp ts))(g:je (.lst ts) p=some (.lst us))(n:bD us=true)(e : ρ.set i (.dp (stL ts p [])) = ρ2)(k:Q .nx ρ2):W (Zr i p ρ) Q:=by
 subst e
 refine⟨_,_,bk (a:=ts) (by unfold cH; rw[c]) ?_,k⟩
 rw[g]
 exact if_pos n
theorem wRv(c : ρ[i]?=some (.dp ts))(f:ts.all Dl=true)(ij:i≠j)(l:j < ρ.length)(e:(ρ.set j .un).set i (.dp (ts.map pZ)) = ρ2)(k:Q .nx ρ2):W (K7 i j ρ) Q:=by
 subst e
 exact⟨_,_,bk (a:=ts) (by unfold cH; rw[c]) (if_pos (by rw[f,decide_eq_true ij,decide_eq_true l]; rfl)),k⟩
theorem xVv(e:vw ρ = ρ2)(h:fa ρ2=.ok (.v T false,ρ1))(n:bh T=true):K8 fa ρ=.ok (.v T false,ρ):=by
 subst e
 unfold K8
 rw[h]
 exact if_pos n
end
end L2
end
section
namespace K32
open PySem L2 BH
theorem Ls{p:Nat->Bool}:∀{n:Nat},p n=true->∃R,R<=n/\p R=true/\∀k,k<R->p k=false
 | 0,h=>⟨0,Nat.le_refl _,h,λk hk=>absurd hk (Nat.not_lt_zero _)⟩
 |n+1,h=>by
  by_cases q:∃k,k<=n/\p k=true
  .obtain⟨k,hk,e⟩:=q
   obtain⟨R,h1,h2,h3⟩:=Ls e
   exact⟨R,by lia,h2,h3⟩
  .exact⟨n+1,Nat.le_refl _,h,λk hk=>Bool.eq_false_iff.mpr λe=>q ⟨k,by lia,e⟩⟩
noncomputable def jc(zs:List Nat)(R n:Nat):Sl:=if n=R then .dp (zs.map iT)else .sh .non
theorem uN(zs:List Nat):bD (zs.map iT)=true:=sV λt ht=>by
 obtain⟨x,_,rfl⟩:=List.mem_map.mp ht
 rfl
theorem ajH{form:Tr}{g:Nat->Tr}{N R c:Nat}{zs:List Nat}(hN:N<=1000)(hR:R<N)(h0:∀n,n<R->iW [form,iT c,g n]=.ok (.non,false))(h1:iW [form,iT c,g R]=.ok (.lst (zs.map iT),true)):Zu [form,iT c,.lst ((List.range N).map g)]=.ok (.tup [.int R,.lst (zs.map iT)],false):=by
 have gg:∀n,n<N->aW (.lst ((List.range N).map g)) (.int (n:Nat))=.ok (g n,false):=λn hn=>nZ (by simp[hn])
 have g0:aW (.lst ((List.range N).map g)) (.int 0)=.ok (g 0,false):=gg 0 (by lia)
 have nz:=uN zs
 have nf:fK (.lst (zs.map iT),true)=true:=nz
 apply L2.dFn; (dsimp only[L2.fJ,List.map,List.length,List.replicate,List.append,HAppend.hAppend,Append.append,Nat.reduceSub,Nat.reduceAdd] <;> exact rfl)
 iterate 6 walk_at "1"
 refine xW (λ_:Unit=>[(4,jc zs R 0)]) (λ_=>True) ?_ λ_ _=>?_
 .rcases Nat.eq_zero_or_pos R with z|z
  .have Lw:iW [form,iT c,g 0]=.ok (.lst (zs.map iT),true):=z▸h1
   walk_at "r"
   exact⟨rfl,(),trivial,by rw[show jc zs R 0=.dp (zs.map iT)from if_pos z.symm]; rfl⟩
  .have Lw:=h0 0 z
   walk_at "r"
   exact⟨rfl,(),trivial,by rw[show jc zs R 0=.sh .non from if_neg (by lia)]; rfl⟩
 dsimp only[pt,List.map,List.set]
 walk_at "r"
 refine xV [] (λn:Nat=>[(3,.sh (.int n)),(4,jc zs R n)]) (λn=>n<=R) (λn=>R-n) 0 (Nat.zero_le _) rfl ?_ λv n hn=>?_
 .show R-0<((List.range N).map g).length+1
  rw[List.length_map,List.length_range]
  lia
 .dsimp only[pt,List.map,List.set]
  rcases Nat.lt_or_ge n R with q|q
  .rw[show jc zs R n=.sh .non from if_neg (by lia)]
   have gn:aW (.lst ((List.range N).map g)) (.int ((n:Int)+1))=.ok (g (n+1),false):=gg (n+1) (by lia)
   rcases Nat.lt_or_ge (n+1) R with q2|q2
   .have hs:=h0 (n+1) q2
    apply kO
    walk_at "r"
    all_goals exact⟨n+1,q,by lia,exV (by rw[show jc zs R (n+1)=.sh .non from if_neg (by lia)]; rfl)⟩
   .obtain rfl:n+1=R:=by lia
    apply kO
    walk_at "r"
    all_goals exact⟨n+1,q,by lia,exV (by rw[show jc zs (n+1) (n+1)=.dp (zs.map iT)from if_pos rfl]; rfl)⟩
  .obtain rfl:n=R:=by lia
   rw[show jc zs n n=.dp (zs.map iT)from if_pos rfl]
   apply kO
   walk_at "r"
section
variable {m c:Nat}{rows:List (LZ)}{r:Ru}{f:List Nat->List Nat × Bool}
abbrev ajI(m c:Nat)(rows:List (LZ))(r:Ru)(form:Tr)(f:List Nat->List Nat × Bool):Prop:=∀ds,Lk rows.length m ds []->iW [form,iT c,jx ds []]=.ok (mG (f ds).2 (f ds).1,(f ds).2)/\p7 [.lst (bJ (loV r rows ds []) (hiV r rows ds []) m),iT c]=.ok (mG (f ds).2 (f ds).1,(f ds).2)/\((∀k,k<rows.length->ds.getD k 0=m)->(f ds).2=true)/\(f ds).1.length<=12
theorem aan(hB:Bk m rows)(hD:∃D,Bd D rows)(ho:cF rows.length r)(hS:rH r)(hc:c<=m):∃B k:Int,Bd B rows/\yc [aU rows,bf r]=.ok (jz B k rows r,false)/\∃f,ajI m c rows r (jz B k rows r) f:=by
 obtain⟨B,k,h1,h2,h3⟩:=ajE hB hD ho hS
 suffices q:∀ds,∃y:List Nat × Bool,Lk rows.length m ds []->iW [jz B k rows r,iT c,jx ds []]=.ok (mG y.2 y.1,y.2)/\p7 [.lst (bJ (loV r rows ds []) (hiV r rows ds []) m),iT c]=.ok (mG y.2 y.1,y.2)/\((∀k,k<rows.length->ds.getD k 0=m)->y.2=true)/\y.1.length<=12 by
  obtain⟨f,hf⟩:=Classical.skolem.mp q
  exact⟨B,k,h1,h2,f,hf⟩
 intro ds
 by_cases hL:Lk rows.length m ds []
 .obtain⟨ys,bb,o,e,i⟩:=h3 ds [] c hL
  have hm:m<=12:=by have:=hB.2.2.2.1; lia
  obtain⟨b2,e2,i2⟩:=ajC (λt ht=>⟨(YQ hB ho ht).2,(YS hB hL ho ht).2⟩) hm o hc
  obtain rfl:b2=bb:=Bool.eq_iff_iff.mpr (i2.trans i.symm)
  exact⟨(fH m (ys.take c),b2),λ_=>⟨e,e2,λhd=>i.mpr (ajF o (λt ht=>ajG hB hd ht) c),by
   have:=List.length_filter_le (λt=>decide (t∈ys.take c)) (List.range m)
   rw[List.length_range]at this
   exact Nat.le_trans this hm⟩⟩
 .exact⟨([],false),λh=>(hL h).elim⟩
theorem Lk.rep{L m n:Nat}(h:n<=m):Lk L m (List.replicate L n) []:=⟨List.length_replicate,λd hd=>(List.mem_replicate.mp hd).2▸h,.nil,Nat.zero_le _,λp hp=>by cases hp⟩
noncomputable abbrev Ly(L n:Nat):Tr:=.tup [.lst (List.replicate L (iT n)),.lst []]
theorem aao{L n:Nat}:Ly L n=jx (List.replicate L n) []:=by
 unfold jx
 rw[List.map_replicate]
 rfl
theorem mulR{T:Tr}{n:Nat}(h:n<=1000):lC (.lst [T]) (.int (n:Int))=.ok (.lst (List.replicate n T),true):=(if_pos ⟨by lia,Nat.le_of_ble_eq_true rfl⟩).trans (by rw[Int.toNat_natCast]; simp)
noncomputable abbrev p8(R:Nat)(zs:List Nat):Tr:=.tup [.int R,.lst (zs.map iT)]
theorem aap(hB:Bk m rows)(hD:∃D,Bd D rows)(ho:cF rows.length r)(hS:rH r)(hc:c<=m):∃R zs,K9 [aU rows,bf r,iT c]=.ok (p8 R zs,false)/\Z9 [aU rows,bf r,iT c]=.ok (p8 R zs,false)/\zs.length<=12:=by
 obtain⟨B,k,rK,e1,f,hf⟩:=aan hB hD ho hS hc
 have nd:=Zi hB ho hc
 have h1:=hB.1
 have h4:=hB.2.1
 have b4:=hB.2.2.2.1
 have l0:=(hB.row h1).2.1
 have top:(f (List.replicate rows.length m)).2=true:=(hf _ (Lk.rep (Nat.le_refl _))).2.2.1 λk hk=>by rw[List.getD_eq_getElem?_getD,List.getElem?_replicate,if_pos hk]; rfl
 obtain⟨R,r1,r2,r3⟩:=Ls (p:=λn=>(f (List.replicate rows.length n)).2) (n:=m) top
 have s0:∀n,n<=m->iW [jz B k rows r,iT c,Ly rows.length n]=.ok (mG (f (List.replicate rows.length n)).2 (f (List.replicate rows.length n)).1,(f (List.replicate rows.length n)).2):=λn hn=>aao▸(hf _ (Lk.rep hn)).1
 have e2:=ajH (form:=jz B k rows r) (g:=Ly rows.length) (N:=m+1) (R:=R) (c:=c) (zs:=(f (List.replicate rows.length R)).1) (by lia) (by lia) (λn hn=>by rw[s0 n (by lia),r3 n hn]; rfl) (by rw[s0 R r1,r2]; rfl)
 have gm:∀n:Nat,lC (.lst [.int (n:Int)]) (.int (rows.length:Int))=.ok (.lst (List.replicate rows.length (iT n)),true):=λn=>mulR (by lia)
 refine⟨R,(f (List.replicate rows.length R)).1,?_,?_,(hf _ (Lk.rep r1)).2.2.2⟩
 .rw[<-l0]at e2
  walk_at "m"
  exact gm x
  walk_at "r"
 .walk_at "d"
  have cut:∀n,n<=m->yq [aU rows,bf r,.tup [.lst (List.replicate rows.length (iT n)),.lst []]]=.ok (.lst (bJ (loV r rows (List.replicate rows.length n) []) (hiV r rows (List.replicate rows.length n) []) m),true):=λn hn=>(congrArg (λt=>yq [aU rows,bf r,t]) aao).trans (aak hB (Lk.rep hn) ho)
  refine kJ [3,4] (λ_:Unit=>[]) (λn _=>n<=R) () (Nat.zero_le _) rfl (λn v _ hn i=>?_) (λv _ i=>?_)
  .have gn:=gm n
   have eb:=cut n (by lia)
   rcases Nat.lt_or_ge n R with q|q
   .have es:p7 [.lst (bJ (loV r rows (List.replicate rows.length n) []) (hiV r rows (List.replicate rows.length n) []) m),iT c]=.ok (.non,false):=by rw[(hf _ (Lk.rep (by lia))).2.1,r3 n q]; rfl
    walk_at "p"
    exact⟨(),q,exV rfl⟩
   .obtain rfl:n=R:=by lia
    have es:p7 [.lst (bJ (loV r rows (List.replicate rows.length n) []) (hiV r rows (List.replicate rows.length n) []) m),iT c]=.ok (.lst ((f (List.replicate rows.length n)).1.map iT),true):=by rw[(hf _ (Lk.rep (by lia))).2.1,r2]; rfl
    walk_at "p"
  .exfalso
   lia
end
section
variable {m c:Nat}{B:Int}{rows:List (LZ)}{ds:List Nat}{r:Ru}
noncomputable abbrev ig(rows:List (LZ))(ds:List Nat)(k:Nat):Int × Int:=gU aF (1,1) (rows.getD k []) (ds.getD k 0)
def uP(L m:Nat)(ds:List Nat):Prop:=∃k,k<L/\ds.getD k 0<m
def oE(la:Nat->Int × Int)(L m:Nat)(ds:List Nat)(x:Nat):Prop:=x<L/\ds.getD x 0<m/\∀z,z<L->ds.getD z 0<m->z≠x->aM (la z) (la x)=true\/(aM (la x) (la z)=false/\x<z)
theorem ajJ(hB:Bk m rows)(hD:Bd B rows)(hL:Lk rows.length m ds [])(hu:uP rows.length m ds):∃x,oE (ig rows ds) rows.length m ds x/\CQ [aJ (bR aF (B,1) (bO B rows) ds),.lst (ds.map iT),iT m]=.ok (iT x,false):=by
 have h4:=hB.2.1
 have ll:=oh (od:=aF) (one:=(1,1)) hL.1
 have hw:=yj hB hL
 have hd:=Zb hD hB hL
 have fe:=(uF (N:=45) (l:=(bR aF (1,1) rows ds).map (sc B)) (Fq.frs λy my=>by
  obtain⟨x,mx,rfl⟩:=List.mem_map.mp my
  exact(uG (hw x mx) (hd x mx) hD.1 hD.2.1).1) (by rw[List.length_map]; lia) (by lia) (by rw[List.length_map]; lia)).2
 have fl:=(Dt hw (by lia)).1
 rw[KR (λx mx=>⟨hw x mx,hd x mx⟩) (by lia) hD.1 hD.2.1]at fe
 rw[Y9 (Za hB hD)]
 generalize aF (bR aF (1,1) rows ds)=ys at fe fl
 have my:∀t,t∈ys↔t<rows.length:=λt=>by rw[fl.1.mem_iff,List.mem_range,ll]
 have ly:ys.length<=100000:=by rw[fl.1.length_eq,List.length_range]; lia
 obtain⟨k,k1,k2⟩:=hu
 have ul:0<(ys.filter λt=>decide (ds.getD t 0<m)).length:=List.length_pos_of_mem (List.mem_filter.mpr ⟨(my k).mpr k1,decide_eq_true k2⟩)
 have pw:=List.Pairwise.filter (λt=>decide (ds.getD t 0<m)) fl.2
 have mu:∀t,t∈(ys.filter λt=>decide (ds.getD t 0<m))↔t<rows.length/\ds.getD t 0<m:=λt=>by rw[List.mem_filter,my,decide_eq_true_iff]
 have hl:=hL.1
 have fq:(λt=>decide ((ds.getD t 0:Int)<(m:Int)))=λt=>decide (ds.getD t 0<m):=funext λt=>decide_eq_decide.mpr (by lia)
 have g0:aW (.lst ((ys.filter λt=>decide ((ds.getD t 0:Int)<(m:Int))).map iT)) (.int 0)=.ok (iT ((ys.filter λt=>decide (ds.getD t 0<m)).getD 0 0),false):=by
  rw[fq]
  exact jA (k:=0) 0 ul
 refine⟨(ys.filter λt=>decide (ds.getD t 0<m)).getD 0 0,?_,?_⟩
 .generalize (ys.filter λt=>decide (ds.getD t 0<m))=us at pw mu ul
  cases us with
  |nil=>cases ul
  |cons x us =>
   obtain⟨x1,x2⟩:=(mu x).mp (List.mem_cons_self ..)
   refine⟨x1,x2,λz z1 z2 (ne:z≠x)=>?_⟩
   change aM _ (ig rows ds x)=true\/(aM (ig rows ds x) _=false/\x<z)
   have mz:=(List.mem_cons.mp ((mu z).mpr ⟨z1,z2⟩)).resolve_left ne
   have q:=(List.pairwise_cons.mp pw).1 z mz
   unfold kW at q
   rw[yh hl x1,yh hl z1]at q
   unfold aM
   rcases q with q|q
   .exact .inl (decide_eq_true q)
   .exact .inr ⟨decide_eq_false (by lia),q.2⟩
 .walk_at "d"
  exact hl▸(my x).mp hx
  walk_at "r"
theorem aaq:∀(ds:List Nat) (x:Nat),x<ds.length->(ds.set x (ds.getD x 0+1)).sum=ds.sum+1
 | [],_,h=>by cases h
 |d::ds,0,_=>by simp; lia
 |d::ds,x+1,h=>by
  have:=aaq ds x (by simpa using h)
  simp at this ⊢
  lia
theorem aar{m:Nat}:∀(ds:List Nat),(∀d∈ds,d<=m)->ds.sum<=ds.length*m/\((∃k,k<ds.length/\ds.getD k 0<m)->ds.sum<ds.length*m)
 | [],_=>⟨Nat.zero_le _,λ⟨_,h,_⟩=>by cases h⟩
 |d::ds,h=>by
  obtain⟨h1,h2⟩:=List.forall_mem_cons.mp h
  obtain⟨i1,i2⟩:=aar ds h2
  have e:(ds.length+1)*m=ds.length*m+m:=Nat.succ_mul ..
  rw[List.sum_cons,List.length_cons,e]
  refine⟨by lia,λ⟨k,k1,k2⟩=>?_⟩
  cases k with
  |zero=>have k2:d<m:=k2; lia
  |succ k=>have:=i2 ⟨k,by simpa using k1,k2⟩; lia
noncomputable def rM(g:List Nat->List Nat)(d:List Nat):Nat->List Nat
 | 0=>d
 |k+1=>g (rM g d k)
theorem reach{L m:Nat}{p:List Nat->Bool}{x:List Nat->Nat}(hx:∀ds,Lk L m ds []->uP L m ds->x ds<L/\ds.getD (x ds) 0<m)(hp:∀ds,Lk L m ds []->(∀k,k<L->ds.getD k 0=m)->p ds=true):∃T,T<=L*m/\p (rM (λds=>ds.set (x ds) (ds.getD (x ds) 0+1)) (List.replicate L 0) T)=true/\∀k,k<=T->Lk L m (rM (λds=>ds.set (x ds) (ds.getD (x ds) 0+1)) (List.replicate L 0) k) []/\(k<T->p (rM (λds=>ds.set (x ds) (ds.getD (x ds) 0+1)) (List.replicate L 0) k)=false/\uP L m (rM (λds=>ds.set (x ds) (ds.getD (x ds) 0+1)) (List.replicate L 0) k)):=by
 generalize hD:rM (λds=>ds.set (x ds) (ds.getD (x ds) 0+1)) (List.replicate L 0)=D
 have d0:D 0=List.replicate L 0:=by rw[<-hD]; rfl
 have d1:∀k,D (k+1)=(D k).set (x (D k)) ((D k).getD (x (D k)) 0+1):=λk=>by rw[<-hD]; rfl
 have un:∀ds,Lk L m ds []->p ds=false->uP L m ds:=λds hL q=>Classical.byContradiction λn=>by
  rw[hp ds hL λk hk=>by
   have:=hL.2.1 (ds.getD k 0) (getM (d:=0) (show k<ds.length by have:=hL.1; lia))
   have:¬ds.getD k 0<m:=λh=>n ⟨k,hk,h⟩
   lia]at q
  cases q
 have st:∀k,(∀j,j<k->p (D j)=false)->Lk L m (D k) []/\(D k).sum=k:=λk=>by
  induction k with
  |zero=>exact λ_=>d0▸⟨Lk.rep (Nat.zero_le _),by simp⟩
  |succ k ih =>
   intro h
   obtain⟨i1,i2⟩:=ih λj hj=>h j (by lia)
   obtain⟨x1,x2⟩:=hx _ i1 (un _ i1 (h k (by lia)))
   rw[d1]
   refine⟨⟨by rw[List.length_set]; exact i1.1,λd hd=>?_,.nil,Nat.zero_le _,λp hp=>by cases hp⟩,by rw[aaq _ _ (by have:=i1.1; lia),i2]⟩
   rcases List.mem_or_eq_of_mem_set hd with q|q
   .exact i1.2.1 d q
   .lia
 have ex:∃n,n<=L*m/\p (D n)=true:=Classical.byContradiction λn=>by
  have no:∀j,j<=L*m->p (D j)=false:=λj hj=>Bool.eq_false_iff.mpr λq=>n ⟨j,hj,q⟩
  obtain⟨i1,i2⟩:=st (L*m) λj hj=>no j (by lia)
  obtain⟨k,k1,k2⟩:=un _ i1 (no _ (Nat.le_refl _))
  have:=(aar _ i1.2.1).2 ⟨k,by have:=i1.1; lia,k2⟩
  rw[i1.1]at this
  lia
 obtain⟨n,n1,n2⟩:=ex
 obtain⟨T,t1,t2,t3⟩:=Ls (p:=λn=>p (D n)) n2
 exact⟨T,by lia,t2,λk hk=>have a:=(st k λj hj=>t3 j (by lia)).1; ⟨a,λq=>⟨t3 k q,un _ a (t3 k q)⟩⟩⟩
end
section
variable {m c:Nat}{rows:List (LZ)}{ds:List Nat}{r:Ru}
noncomputable abbrev qd(ds zs:List Nat):Tr:=.tup [.tup [.lst (ds.map iT),.lst []],.lst (zs.map iT)]
noncomputable def bsT:Option Nat->Tr
 |none=>.non
 |some b=>iT b
noncomputable def Lz(la:Nat->Int × Int):Option Nat->Tr
 |none=>.non
 |some b=>fT (la b)
def HI(la:Nat->Int × Int)(L y j:Nat)(s:Option Nat):Prop:=(j<=y->s=none\/∃b,s=some b/\b<L/\aM (la b) (la y)=true)/\(y<j->s=some y)
section
variable {la:Nat->Int × Int}{L y j b:Nat}{s:Option Nat}
theorem HI.lt(h:HI la L y j (some b))(p:oE la L m ds y):b<L:=by
 rcases Nat.lt_or_ge y j with q|q
 .cases h.2 q
  exact p.1
 .rcases h.1 q with q|⟨b',e,q,_⟩
  .cases q
  .cases e
   exact q
theorem HI.skip(h:HI la L y j s)(p:oE la L m ds y)(u:¬ds.getD j 0<m):HI la L y (j+1) s :=
 have ne:j≠y:=λe=>u (e▸p.2.1)
 ⟨λq=>h.1 (by lia),λq=>h.2 (by lia)⟩
theorem oE.at(p:oE la L m ds y)(hj:j<L)(u:ds.getD j 0<m)(q:j<y):aM (la j) (la y)=true:=by
 rcases p.2.2 j hj u (by lia)with a|a
 .exact a
 .lia
theorem HI.new(h:HI la L y j none)(p:oE la L m ds y)(hj:j<L)(u:ds.getD j 0<m):HI la L y (j+1) (some j):=by
 rcases Nat.lt_trichotomy j y with q|q|q
 .exact⟨λ_=>.inr ⟨j,rfl,hj,p.at hj u q⟩,λ_=>by lia⟩
 .exact⟨λ_=>by lia,λ_=>by rw[q]⟩
 .cases h.2 q
theorem ajK{x y:Int × Int}(h:aM x y=true):aM y x=false:=by
 unfold aM at h ⊢
 have:=of_decide_eq_true h
 exact decide_eq_false (by lia)
theorem HI.up(h:HI la L y j (some b))(p:oE la L m ds y)(hj:j<L)(u:ds.getD j 0<m)(c:aM (la b) (la j)=true):HI la L y (j+1) (some j):=by
 rcases Nat.lt_trichotomy j y with q|q|q
 .exact⟨λ_=>.inr ⟨j,rfl,hj,p.at hj u q⟩,λ_=>by lia⟩
 .exact⟨λ_=>by lia,λ_=>by rw[q]⟩
 .cases h.2 q
  rcases p.2.2 j hj u (by lia)with a|a
  .rw[ajK a]at c
   cases c
  .rw[a.1]at c
   cases c
theorem HI.keep(h:HI la L y j (some b))(c:aM (la b) (la j)=false):HI la L y (j+1) (some b):=by
 rcases Nat.lt_trichotomy j y with q|q|q
 .exact⟨λ_=>h.1 (by lia),λ_=>by lia⟩
 .rcases h.1 (by lia)with a|⟨b',e,_,a⟩
  .cases a
  .cases e
   rw[<-q,c]at a
   cases a
 .exact⟨λ_=>by lia,λ_=>h.2 q⟩
end
theorem aas(hB:Bk m rows)(hD:∃D,Bd D rows)(ho:cF rows.length r)(hS:rH r)(hc:c<=m):∃ds zs,La [aU rows,bf r,iT c]=.ok (qd ds zs,false)/\aae [aU rows,bf r,iT c]=.ok (qd ds zs,false)/\zs.length<=12:=by
 obtain⟨B,w,rK,e1,f,hf⟩:=aan hB hD ho hS hc
 have nd:=Zi hB ho hc
 have h1:=hB.1
 have h4:=hB.2.1
 have b4:=hB.2.2.2.1
 have l0:=(hB.row h1).2.1
 have q:∀ds,∃x,Lk rows.length m ds []->uP rows.length m ds->oE (ig rows ds) rows.length m ds x/\CQ [aJ (bR aF (B,1) (bO B rows) ds),.lst (ds.map iT),iT m]=.ok (iT x,false):=λds=>by
  by_cases a:Lk rows.length m ds []/\uP rows.length m ds
  .obtain⟨x,h⟩:=ajJ hB rK a.1 a.2
   exact⟨x,λ_ _=>h⟩
  .exact⟨0,λa1 a2=>(a ⟨a1,a2⟩).elim⟩
 obtain⟨x,hx⟩:=Classical.skolem.mp q
 obtain⟨T,t1,t2,t3⟩:=reach (p:=λds=>(f ds).2) (x:=x) (λds a1 a2=>⟨(hx ds a1 a2).1.1,(hx ds a1 a2).1.2.1⟩) λds a1=>(hf ds a1).2.2.1
 generalize hDD:rM (λds=>ds.set (x ds) (ds.getD (x ds) 0+1)) (List.replicate rows.length 0)=D at t2 t3
 have d0:(D 0).map iT=List.replicate rows.length (iT 0):=by rw[<-hDD]; exact List.map_replicate
 have d1:∀k,D (k+1)=(D k).set (x (D k)) ((D k).getD (x (D k)) 0+1):=λk=>by rw[<-hDD]; rfl
 have d2:∀k,(D (k+1)).map iT=((D k).map iT).set (x (D k)) (.int (((D k).getD (x (D k)) 0:Int)+1)):=λk=>by rw[d1,List.map_set]; rfl
 have t48:rows.length*m<=48:=Nat.mul_le_mul h4 b4
 have dl:∀k,k<=T->(D k).length=rows.length:=λk hk=>(t3 k hk).1.1
 have sF:∀n,n<=T->iW [jz B w rows r,iT c,.tup [.lst ((D n).map iT),.lst []]]=.ok (mG (f (D n)).2 (f (D n)).1,(f (D n)).2):=λn hn=>(hf _ (t3 n hn).1).1
 have s0:∀n,n<T->iW [jz B w rows r,iT c,.tup [.lst ((D n).map iT),.lst []]]=.ok (.non,false):=λn hn=>by rw[sF n (by lia),((t3 n (by lia)).2 hn).1]; rfl
 have s1:iW [jz B w rows r,iT c,.tup [.lst ((D T).map iT),.lst []]]=.ok (.lst ((f (D T)).1.map iT),true):=by rw[sF T (Nat.le_refl _),t2]; rfl
 have sL:=(hf _ (t3 T (Nat.le_refl _)).1).2.2.2
 have gm:lC (.lst [.int 0]) (.int (rows.length:Int))=.ok (.lst ((D 0).map iT),true):=d0▸mulR (by lia)
 have xb:∀n,n<T->x (D n)<rows.length:=λn hn=>(hx _ (t3 n (by lia)).1 ((t3 n (by lia)).2 hn).2).1.1
 have gx:∀n,n<T->((D n).map iT)[x (D n)]?=some (.int ((D n).getD (x (D n)) 0:Nat)):=λn hn=>by
  have:=xb n hn
  have:=dl n (by lia)
  rw[List.getElem?_map,List.getD_eq_getElem?_getD,List.getElem?_eq_getElem (by lia)]
  rfl
 refine⟨D T,(f (D T)).1,?_,?_,sL⟩
 .generalize (f (D T)).1=zs at s1 sL ⊢
  have nz:=uN zs
  have nf:fK (.lst (zs.map iT),true)=true:=nz
  have sn:∀n,n<T->jc zs T n=.sh .non:=λn h=>if_neg (Nat.ne_of_lt h)
  have sT:jc zs T T=.dp (zs.map iT):=if_pos rfl
  apply L2.dFn; (dsimp only[L2.fJ,List.map,List.length,List.replicate,List.append,HAppend.hAppend,Append.append,Nat.reduceSub,Nat.reduceAdd] <;> exact rfl)
  iterate 42 walk_at "1"
  refine xW (λ_:Unit=>[(5,jc zs T 0)]) (λ_=>True) ?_ λ_ _=>?_
  .rcases Nat.eq_zero_or_pos T with z|z
   .have Lw:iW [jz B w rows r,iT c,.tup [.lst ((D 0).map iT),.lst []]]=.ok (.lst (zs.map iT),true):=z▸s1
    walk_at "r"
    exact⟨rfl,(),trivial,by rw[show jc zs T 0=.dp (zs.map iT)from z▸sT]; rfl⟩
   .have Lw:=s0 0 z
    walk_at "r"
    exact⟨rfl,(),trivial,by rw[sn 0 z]; rfl⟩
  dsimp only[pt,List.map,List.set]
  walk_at "r"
  refine xV [6] (λn:Nat=>[(4,.ow ((D n).map iT)),(5,jc zs T n)]) (λn=>n<=T) (λn=>T-n) 0 (Nat.zero_le _) rfl (by show T-0<100; lia) λv n hn=>?_
  dsimp only[pt,List.map,List.set]
  rcases Nat.lt_or_ge n T with q|q
  .rw[sn n q]
   have el:KC [aU (bO B rows),.lst ((D n).map iT),fT (B,1)]=.ok (aJ (bR aF (B,1) (bO B rows) (D n)),true):=YH (ajD hB rK) (by rw[pY]; exact dl n hn) (t3 n hn).1.2.1
   have em:CQ [aJ (bR aF (B,1) (bO B rows) (D n)),.lst ((D n).map iT),.int ((rows.getD 0 []).length:Nat)]=.ok (iT (x (D n)),false):=by
    rw[l0]
    exact(hx _ (t3 n hn).1 ((t3 n hn).2 q).2).2
   have fl:([Rv.v (aU (bO B rows)) false,Rv.s 4,Rv.v (fT (B,1)) false].any pH && !fK (aJ (bR aF (B,1) (bO B rows) (D n)),true))=false:=by
    rw[show fK (aJ (bR aF (B,1) (bO B rows) (D n)),true)=true from Lp _]
    rfl
   have gn:=gx n q
   apply kO
   iterate 64 walk_at "1"
   refine xW (λ_:Unit=>[(5,jc zs T (n+1))]) (λ_=>True) ?_ λ_ _=>?_
   .rcases Nat.lt_or_ge (n+1) T with q2|q2
    .have es:iW [jz B w rows r,iT c,.tup [.lst (((D n).map iT).set (x (D n)) (.int (((D n).getD (x (D n)) 0:Nat)+1))),.lst []]]=.ok (.non,false):=by rw[<-d2]; exact s0 _ q2
     walk_at "r"
     exact⟨rfl,(),trivial,by rw[sn _ q2]; rfl⟩
    .obtain rfl:n+1=T:=Nat.le_antisymm q q2
     have es:iW [jz B w rows r,iT c,.tup [.lst (((D n).map iT).set (x (D n)) (.int (((D n).getD (x (D n)) 0:Nat)+1))),.lst []]]=.ok (.lst (zs.map iT),true):=by rw[<-d2]; exact s1
     walk_at "r"
     exact⟨rfl,(),trivial,by rw[sT]; rfl⟩
   dsimp only[pt,List.map,List.set]
   walk_at "r"
   exact⟨n+1,q,Nat.sub_lt_sub_left q (Nat.lt_succ_self n),exV (by rw[d2]; rfl)⟩
  .obtain rfl:n=T:=Nat.le_antisymm hn q
   rw[sT]
   have nD:=uN (D n)
   apply kO
   walk_at "r"
 .have bE:∀n,n<=T->yq [aU rows,bf r,.tup [.lst ((D n).map iT),.lst []]]=.ok (.lst (bJ (loV r rows (D n) []) (hiV r rows (D n) []) m),true):=λn hn=>by
   rw[show(Tr.tup [.lst ((D n).map iT),.lst []])=jx (D n) []from rfl]
   exact aak hB (t3 n hn).1 ho
  have lE:∀n,n<T->p7 [.lst (bJ (loV r rows (D n) []) (hiV r rows (D n) []) m),iT c]=.ok (.non,false):=λn hn=>by rw[(hf _ (t3 n (by lia)).1).2.1,((t3 n (by lia)).2 hn).1]; rfl
  have lT:p7 [.lst (bJ (loV r rows (D T) []) (hiV r rows (D T) []) m),iT c]=.ok (.lst ((f (D T)).1.map iT),true):=by rw[(hf _ (t3 T (Nat.le_refl _)).1).2.1,t2]; rfl
  have xH:∀n,n<T->oE (ig rows (D n)) rows.length m (D n) (x (D n)):=λn hn=>(hx _ (t3 n (by lia)).1 ((t3 n (by lia)).2 hn).2).1
  have r1:rows.length*(rows.getD 0 []).length+1<=1000:=by rw[l0]; lia
  clear hx q hf s0 s1 sF e1
  walk_at "d"
  refine kJ [4,5,6,7,8,9] (λn:Nat=>[(3,.sh (.lst ((D n).map iT)))]) (λk n=>n=k/\n<=T) 0 ⟨rfl,Nat.zero_le _⟩ rfl (λn v n' hn i=>?_) (λv n' i=>?_)
  .obtain⟨rfl,i2⟩:=i
   have eb:=bE n' i2
   rcases Nat.lt_or_ge n' T with q|q
   .have es:=lE n' q
    have h0:=xH n' q
    have dn:=dl n' i2
    walk_at "p"
    have wq:∀b,b<rows.length->Fq 400 (ig rows (D n') b):=λb hb=>by
     have:=yj hB (t3 n' i2).1 _ (getM (d:=(0,1)) (show b<(bR aF (1,1) rows (D n')).length by rw[oh dn]; exact hb))
     rw[yh dn hb]at this
     exact Wo.fq this
    refine kJ [8,9] (λs:Option Nat=>[(6,.sh (bsT s)),(7,.sh (Lz (ig rows (D n')) s))]) (λj s=>HI (ig rows (D n')) rows.length (x (D n')) j s) none ⟨λ_=>.inl rfl,λh=>by cases h⟩ rfl (λj v2 s hj i=>?_) (λv2 s i=>?_)
    .by_cases u:(D n').getD j 0<m
     .obtain⟨_,q1,q2⟩:=hB.row hj
      obtain⟨oo,eo,_⟩:=Dt q2 (by lia)
      have wj:=wq j hj
      walk_at "p"
      refine xW (λ_:Unit=>[(9,.sh (fT (ig rows (D n') j)))]) (λ_=>True) ?_ λ_ _=>?_
      .by_cases p:0<(D n').getD j 0
       .have g2:sX (.int ((D n').getD j 0:Nat)) (.int 1)=.ok (.int (((D n').getD j 0-1:Nat):Int),false):=by rw[Int.ofNat_sub p]; rfl
        have lo:(D n').getD j 0-1<(aF (rows.getD j [])).length:=by rw[oo.1.length_eq,List.length_range,q1]; lia
        have i1:=jA (f:=iT) (l:=aF (rows.getD j [])) (k:=(D n').getD j 0-1) 0 lo
        have lt:(aF (rows.getD j [])).getD ((D n').getD j 0-1) 0<(rows.getD j []).length:=List.mem_range.mp (oo.1.mem_iff.mp (getM (d:=0) lo))
        have w:ig rows (D n') j=(rows.getD j []).getD ((aF (rows.getD j [])).getD ((D n').getD j 0-1) 0) (0,1):=if_pos p
        walk_at "r"
        exact⟨rfl,(),trivial,by rw[w]; rfl⟩
       .have w:ig rows (D n') j=(1,1):=if_neg p
        walk_at "r"
        exact⟨rfl,(),trivial,by rw[w]; rfl⟩
      cases s with
      |none =>
       walk_at "p"
       exact⟨some j,i.new h0 hj u,exV rfl⟩
      |some b =>
       have gb:Ld [Lz (ig rows (D n')) (some b),fT (ig rows (D n') j)]=_:=uM (wq b (i.lt h0)) wj (by lia)
       by_cases cc:aM (ig rows (D n') b) (ig rows (D n') j)=true
       .walk_at "p"
        exact⟨some j,i.up h0 hj u cc,exV rfl⟩
       .have cc:=Bool.eq_false_iff.mpr cc
        walk_at "p"
        exact⟨some b,i.keep cc,exV rfl⟩
     .have u':¬(D n').getD j 0<(rows.getD 0 []).length:=by rw[l0]; exact u
      walk_at "p"
      exact⟨s,i.skip h0 u,exV rfl⟩
    .obtain rfl:s=some (x (D n')):=i.2 h0.1
     have xl:x (D n')<(D n').length:=dn▸h0.1
     have ga:m8 (.int (x (D n'):Nat)) (.int 1)=.ok (.int ((x (D n')+1:Nat):Int),false):=rfl
     have eqD:(List.map iT (List.take (x (D n')) (D n'))++[Tr.int (((D n').getD (x (D n')) 0:Nat)+1)])++cut (List.map iT (D n')) (some ((x (D n')+1:Nat):Int)) none=List.map iT (D (n'+1)):=by
      rw[ahP,d2,List.set_eq_take_append_cons_drop,if_pos (by rw[List.length_map]; exact xl),List.map_take,List.append_assoc]
      rfl
     dsimp only[bsT,Lz]
     walk_at "p"
     .rw[<-List.length_append,eqD,List.length_map,dl _ q]
      lia
     walk_at "r"
     exact⟨n'+1,⟨rfl,q⟩,exV (by rw[<-eqD]; rfl)⟩
   .obtain rfl:n'=T:=by lia
    walk_at "p"
    done
  .exfalso
   obtain⟨e,i2⟩:=i
   rw[l0]at e
   lia
end
section
variable {m:Nat}{rows:List (LZ)}
theorem ajL:(rows.map aJ).map pZ=(rows.map List.reverse).map aJ:=by
 rw[List.map_map,List.map_map]
 refine List.map_congr_left λl _=>?_
 show Tr.lst (l.map fT).reverse=Tr.lst (l.reverse.map fT)
 rw[List.map_reverse]
theorem Bk.rev(hB:Bk m rows):Bk m (rows.map List.reverse):=by
 obtain⟨b1,b2,b3,b4,b5⟩:=hB
 refine⟨by rw[List.length_map]; exact b1,by rw[List.length_map]; exact b2,b3,b4,λl ml=>?_⟩
 obtain⟨l',jy,rfl⟩:=List.mem_map.mp ml
 have:=b5 l' jy
 exact⟨by rw[List.length_reverse]; exact this.1,λx mx=>this.2 x (List.mem_reverse.mp mx)⟩
theorem Bd.rev(h:∃D,Bd D rows):∃D,Bd D (rows.map List.reverse):=by
 obtain⟨D,d1,d2,d3⟩:=h
 refine⟨D,d1,d2,λl ml x mx=>?_⟩
 obtain⟨l',jy,rfl⟩:=List.mem_map.mp ml
 exact d3 l' jy x (List.mem_reverse.mp mx)
theorem ajM(ns:List Int):uL [.lst (ns.map .int)]=.ok (.bl true,false):=by
 obtain⟨m,rows,hB,hD,h8,h4,e1⟩:=ajr ns 0 (L:=4) (M:=12) (by lia) (by lia)
 obtain⟨x7,c7,_⟩:=cell_eq ns 7
 obtain⟨x8,c8,_⟩:=cell_eq ns 8
 obtain⟨x9,c9,_⟩:=cell_eq ns 9
 obtain⟨r,q1,o1,oS⟩:=ajt x7 hB.1 hB.2.1
 obtain⟨b1,b2,b3,b4,b5⟩:=id hB
 have dB:=ahR rows
 have gR:gJ (.lst (rows.map aJ)) (aU rows)=.ok (.bl false,false):=XS (T:=aU rows) (by lia)
 have l0:=(hB.row b1).2.1
 have el:eY (aJ (rows.getD 0 []))=.ok (.int m,false):=by rw[oJ,l0]
 have ea:m8 (.int (m:Nat)) (.int 1)=.ok (.int ((m+1:Nat):Int),false):=rfl
 have ec:Lj [aU rows]=.ok (.lst (rows.map aJ),true):=aai (rows:=rows) (by lia)
 have LC:∀(R:Nat) (zs ds us:List Nat),dep (.lst [p8 R zs,qd ds us])<=40:=λR zs ds us=>by
  rw[rF,kY,kY,uD,CW,CW,kY,kY,kY,kY,uD,rF,rF,CW,kY,kY,uD,rF,rF,yg,yg,yg,uD]
  show _<=_
  simp[dep]
 have gF:∀(R:Nat) (zs ds us:List Nat),gJ (.lst [p8 R zs,qd ds us]) (.lst [p8 R zs,qd ds us])=.ok (.bl false,false):=λR zs ds us=>XS (LC R zs ds us)
 walk_at "d"
 refine xW (λcs=>[(4,.sh (.lst (cs.map iT)))]) (λcs:List Nat=>cs≠[]/\cs.length<=13/\∀c∈cs,c<=m) ?_ λcs i=>?_
 .have l1:m+1<=1000:=by lia
  have m0:((List.range (m+1)).length:Int)≠0:=by rw[List.length_range]; lia
  by_cases z:6<(rows.getD 0 []).length
  .obtain⟨a1,a2⟩:=iV x8 ((List.range (m+1)).length:Int) (by rw[List.length_range]; lia)
   obtain⟨a3,a4⟩:=iV x9 4 (by lia)
   obtain⟨u,hu⟩:=Int.eq_ofNat_of_zero_le a1
   obtain⟨w,hw⟩:=Int.eq_ofNat_of_zero_le a3
   walk_at "r"
   refine⟨rfl,[u,w],⟨by simp,by simp,λc hc=>?_⟩,by rw[hu,hw]; rfl⟩
   rw[hu,List.length_range]at a2
   rw[hw]at a4
   rcases List.mem_cons.mp hc with rfl|hc
   .lia
   .rw[List.mem_singleton.mp hc]
    lia
  .walk_at "r"
   exact⟨rfl,List.range (m+1),⟨by simp,by rw[List.length_range]; lia,λc hc=>by have:=List.mem_range.mp hc; lia⟩,rfl⟩
 obtain⟨i1,i2,i3⟩:=i
 have nd:∀R:Nat,bh (.int (R:Int))=true:=λ_=>rfl
 walk_at "p"
 refine kE [5,6,7,8] (λ_:Unit=>[]) (λ_ _=>True) () trivial rfl (λk c v _ gc _=>?_) (λv _ _=>?_)
 .have hc:=i3 c (List.mem_of_getElem? gc)
  obtain⟨R,zs,r1,r2,r3⟩:=aap hB hD o1 oS hc
  obtain⟨ds,us,p1,p2,p3⟩:=aas hB hD o1 oS hc
  have r1:K9 [.lst (rows.map aJ),bf r,iT c]=.ok (p8 R zs,false):=r1
  have p1:La [.lst (rows.map aJ),bf r,iT c]=.ok (qd ds us,false):=p1
  have gZ:=gF R zs ds us
  have n0:bD []=true:=rfl
  have n1:=uN zs
  have n2:=uN us
  have n3:=uN ds
  have l1:(zs.map iT).length<=100000:=by rw[List.length_map]; lia
  have l2:(us.map iT).length<=100000:=by rw[List.length_map]; lia
  walk_at "p"
  refine rE [7,8] (λ_=>[]) rfl (λt v ht=>?_) (λv=>?_)
  .walk_at "p"
   done
  .walk_at "p"
   exact⟨(),trivial,exV rfl⟩
 .have hc:=i3 (cs.getD 0 0) (getM (d:=0) (List.length_pos_iff.mpr i1))
  have cl:(rows.map List.reverse).length=rows.length:=List.length_map ..
  obtain⟨R,zs,r1,r2,r3⟩:=aap (Bk.rev hB) (Bd.rev hD) (cl▸o1) oS hc
  obtain⟨ds,us,p1,p2,p3⟩:=aas (Bk.rev hB) (Bd.rev hD) (cl▸o1) oS hc
  have ec2:=aai (rows:=rows.map List.reverse) (by lia)
  unfold aU at r1 r2 p1 p2 ec2
  rw[<-ajL]at r1 r2 p1 p2 ec2
  have g0:aW (.lst (cs.map iT)) (.int 0)=.ok (iT (cs.getD 0 0),false):=jA (k:=0) 0 (List.length_pos_iff.mpr i1)
  have fa:(rows.map aJ).all Dl=true:=List.all_eq_true.mpr λt ht=>by
   obtain⟨l,_,rfl⟩:=List.mem_map.mp ht
   exact Lp l
  have gZ:ji (.lst [p8 R zs,qd ds us]) (.lst [p8 R zs,qd ds us])=.ok (.bl true,false):=by
   unfold ji
   rw[if_pos ⟨LC R zs ds us,LC R zs ds us⟩,vg]
  walk_at "p"
  .dsimp only[List.set]
  walk_at "r"
  done
end
end K32
end
section
namespace L2
open PySem PySem.Spec PyProof.Rows PySem.W
noncomputable def aat:List Ty:=[.int,.bool,.str,.tuple,.list]
noncomputable def aau(K:Frag)(cs:List Str)(p:Str->Addr->Bool):Bool:=cs.all λc=>match nsIn K mainGlobals c with
 |some (some (.ref C))=>p c C
 |_=>true
theorem ajN{K:Frag}{cs:List Str}{p:Str->Addr->Bool}(h:aau K cs p=true){c:Str}(m:c∈cs){C:Addr}(n:nsIn K mainGlobals c=some (some (.ref C))):p c C=true:=by
 have:=List.all_eq_true.mp h c m
 rw[n]at this
 exact this
noncomputable def LK(K:Frag)(C:Addr):Bool:=findIn K (.ref C) "__getattribute__" == some (some (.builtin "BaseException.__getattribute__"))&&findIn K (.ref C) "__getattr__" == some none&&findIn K (.ref C) "__class__" == some (some (.builtin "object.__class__"))&&mroIn K C (.type "object") == some true&&mroIn K C (.type "BaseException") == some true&&(clsIn K C).isSome
theorem ajO{K:Frag}{C:Addr}(h:LK K C=true):pq K C:=by
 unfold LK at h
 simp only[Bool.and_eq_true]at h
 obtain⟨⟨⟨⟨⟨h1,h2⟩,h3⟩,h4⟩,h5⟩,h6⟩:=h
 exact⟨beq_iff_eq.mp h1,beq_iff_eq.mp h2,beq_iff_eq.mp h3,beq_iff_eq.mp h4,beq_iff_eq.mp h5,h6⟩
theorem mX.of{K:Frag}(h:(aau K zJ λ_ C=>LK K C&&aat.all λy=>kitOne K (.ref C) (.type y.name) == some false)=true):mX K:=λc m C n=>by
 obtain⟨x1,x2⟩:=an.mp (ajN h m n)
 exact⟨λa=>adT (ajO x1),λy=>beq_iff_eq.mp (List.all_eq_true.mp x2 y (by cases y <;> simp[aat]))⟩
theorem ajP{P:Program}{w:World}{K:FZ}{mg mb:Str->Option Value}{CX:iz}{k:Nat}{fa a:Addr}{x:Str}{sp:Sp}{s₁ : Shared}{vs:List Value}{ns:List Int}
  (KX:K.In s₁.heap) (hns:s₁.heap.Ns mainGlobals mg) (hb:s₁.heap.Ns builtinsNs mb) (hbb:∀x:Str,x ≠ "__name__" -> mb x=bootBuiltins x) (hlim:s₁.heap.NoLimit) (hg:s₁.gens = #[])
  (ha:s₁.heap.get? a=some {cls:=.type "list",data:=.seq vs.toArray }) (hi:IntsAre vs ns) (hl:ns.length<=sizeLine) (hr:dW k callerA)
  (hT:∀x∈eZ,∀c b,tabIn K x=some (c,b)->CodeHd s₁.heap c b/\s₁.heap.get? b=some (tabObj #[])) (rN:noTabs K=true) (hB:nC mg s₁.heap)
  (F:∀base:Heap,K.In base->base.Ns mainGlobals mg->(∀x∈eZ,∀c b,tabIn K x=some (c,b)->CodeHd base c b)->nC mg base->∃fd:FuncData,(∀(s:Shared) (u:Value),K.In s.heap->BindsTo s fd ⟨[u],[]⟩ [(x,u)])/\jf P w K mg base CX k fa fd [x] sp)
  (hsp:∀H:Hp,bK (au K) H->iG K H a (ns.map V.int)->sp [.ref a] H (λv _=>v=.bl true) λ_ _ _=>False)
  (LQ:∀H e s',CX [] H s₁ (λ_ _ _=>False) e s'->False) :
  codeAny (model P w) callerA (.call (.ref fa) ⟨[.ref a],[]⟩) (λr s'=>r=.ok (.ret (.bool true))/\OldK s₁.heap s'.heap/\s'.os=s₁.os/\AllBare s'.gens) s₁ := by
 have rv:=Fo hi
 have lenV:=hi.length
 -- from an abstract heap in which nothing but the script may be tracked
 have hT':∀b,Tb (au K) b->∃c,CodeHd s₁.heap c b/\s₁.heap.get? b=some (tabObj #[]):=λb ⟨x,hx,c,e⟩=>⟨c,hT x hx c b (Sy e)⟩
 have core:∀H:Hp,(∀b,H b=none\/(∃o xs,H b=some (.cQ o (.lst xs)))\/(H b=some (.cJ #[])/\Tb (au K) b))->bK (au K) H->iG K H a (ns.map V.int)->cL P w H s₁.heap->(∀b,H b≠none->b=a\/Tb (au K) b)->(H a≠none->K.lookup a=none) ->
   codeAny (model P w) callerA (.call (.ref fa) ⟨[.ref a],[]⟩) (λr s'=>r=.ok (.ret (.bool true))/\OldK s₁.heap s'.heap/\s'.os=s₁.os/\AllBare s'.gens) s₁ := by
  intro H hO hTb hS hok hA hK
  have Du:∀{b:Addr} {o:Obj},s₁.heap.get? b=some o->H b=none->(mL s₁.heap H).get? b=some o:=λe n=>abu e n
  have vd:∀{b:Addr} {o:Obj} {es:Array DictEntry} {ep:Nat},s₁.heap.get? b=some o->o.data=.dict es ep->H b=none:=λ{b o es ep} e d=>by
   cases q:H b with
   |none=>rfl
   |some u =>
    rcases hA b (by rw[q]; simp)with e'|e'
    .subst e'
     rw[ha]at e; cases e
     have d':Data.seq vs.toArray _=Data.dict es ep:=d
     cases d'
    .obtain⟨c,_,z⟩:=hT' b e'
     rw[z]at e; cases e
     cases d
  have Dv:∀{b:Addr} {m:Str->Option Value},s₁.heap.Ns b m->(mL s₁.heap H).Ns b m:=λ{b m} ⟨o,es,ep,e,d,r⟩=>⟨o,es,ep,Du e (vd e d),d,r⟩
  have hKb:K.In (mL s₁.heap H):=λb o e=>Du (KX b o e) (by
   cases q:H b with
   |none=>rfl
   |some u =>
    rcases hA b (by rw[q]; simp)with e'|e'
    .subst e'
     rw[hK (by rw[q]; simp)]at e; cases e
    .obtain⟨c,_,z⟩:=hT' b e'
     have z2:=KX b o e
     rw[z]at z2
     cases z2
     have h2:=List.all_eq_true.mp rN (b,_) (mem_of_lookupK e)
     exact absurd (show false=true from h2) Bool.false_ne_true)
  have hM:Mod K mg (mL s₁.heap H):=⟨hKb,Dv hns,⟨mb,Dv hb,hbb⟩,let⟨mc,h1,h2⟩:=hlim; ⟨mc,Dv h1,h2⟩⟩
  have e0:yZ P w K mg (mL s₁.heap H) callerA [] s₁ H:=⟨rfl,hM,λb o e=>abv e,Nat.le_of_eq (abt _ _),trivial,λb hb=>absurd (show b∈([]:List Addr)from hb) (by simp),hok,.of_eq hg⟩
  have free:∀{b:Addr} {o:Obj},s₁.heap.get? b=some o->o.cls ≠ .none->(∀its n,o.data ≠ .seq its n)->H b=none:=λ{b o} e n1 n2=>by
   cases q:H b with
   |none=>rfl
   |some u =>
    rcases hA b (by rw[q]; simp)with e'|e'
    .subst e'
     rw[ha]at e; cases e
     exact(n2 _ _ rfl).elim
    .obtain⟨c,_,z⟩:=hT' b e'
     rw[z]at e; cases e
     exact(n1 rfl).elim
  obtain⟨fd,hbind,F1⟩:=F _ hKb (Dv hns) (λx hx c b e=>by
   obtain⟨o,vs',file,tf,flags,tg,inF,text,tt,e1,r1,r2,r3⟩:=(hT x hx c b e).1
   exact⟨o,vs',file,tf,flags,tg,inF,text,tt,Du e1 (free e1 (by rw[r1]; intro z; cases z) (λ_ _ z=>by rw[r2]at z; cases z)),r1,r2,r3⟩) (by
   obtain⟨bm,ob,b1,b2,b3,b4,b5,b6,b7⟩:=hB
   exact⟨bm,ob,b1,b2,b3,Du b4 (free b4 (by rw[b5]; intro z; cases z) (λ_ _ z=>by rw[b7]at z; cases z)),b5,b6,b7⟩)
  refine codeAny_mono (F1.run callerA [] s₁ H ⟨[.ref a],[]⟩ [.ref a] [.ref a] _ _ hr e0 (hbind s₁ (.ref a) KX) (.cons rfl .nil) (hsp H hTb hS)) λr s' h=>?_
  cases r with
  |error e=>exact(LQ H e s' h).elim
  |ok fl =>
   cases fl with
   |next=>exact False.elim h
   |brk=>exact False.elim h
   |cont=>exact False.elim h
   |ret u =>
    obtain⟨v,H',os,bare,un,hok',r',q⟩:=h
    have q':v=.bl true:=q
    subst q'
    obtain rfl:u=Value.bool true:=r'
    refine⟨rfl,⟨λb o e=>?_,λb o e=>un.there b o e (by simp)⟩,os,bare⟩
    cases q:H b with
    |none=>exact .inl (un.keep b o e q (by intro z; exact absurd (show b∈([]:List Addr)from z) (by simp)) (by simp))
    |some u =>
     rcases hO b with z|⟨ob,xs,z⟩|⟨z,zt⟩
     .rw[q]at z; cases z
     .have z2:=un.jP b ob _ z
      obtain⟨e1,_⟩:=hok b _ z
      obtain⟨e2,_⟩:=hok' b _ z2
      rw[e]at e1; cases e1
      exact .inl e2
     .obtain⟨more,z2⟩:=un.jQ b _ z
      have e1:s₁.heap.get? b=some (tabObj #[]):=hok b _ z
      have e2:s'.heap.get? b=some (tabObj (#[]++more)):=hok' b _ z2
      rw[e]at e1; cases e1
      obtain⟨c,hc,_⟩:=hT' b zt
      exact .inr (.inl ⟨(hc.tab e).isCodeTable,rfl,#[],more,rfl,e2⟩)
 classical
 have aav:∀H:Hp,(∀b,Tb (au K) b->H b=some (.cJ #[]))->bK (au K) H:=λH h x hx c b e=>⟨#[],h b ⟨x,hx,c,e⟩,trivial,λpos v z=>by cases z⟩
 have nTa:¬Tb (au K) a:=λz=>by
  obtain⟨c,_,e⟩:=hT' a z
  rw[ha]at e
  cases e
 cases hk:K.lookup a with
 |some o =>
  have e:=KX a o hk
  rw[ha]at e
  cases e
  refine core (λb=>if Tb (au K) b then some (.cJ #[])else none) (λb=>?_) (aav _ λb z=>if_pos z) (.inr ⟨vs.toArray,_,hk,by rw[List.size_toArray,lenV]; exact hl,by simpa using rv⟩) (λb u z=>?_) (λb z=>?_) λz=>?_
  .by_cases q:Tb (au K) b
   .exact .inr (.inr ⟨if_pos q,q⟩)
   .exact .inl (if_neg q)
  .by_cases q:Tb (au K) b
   .have z':=(if_pos q).symm.trans z
    cases z'
    obtain⟨c,_,e⟩:=hT' b q
    exact e
   .have z':=(if_neg q).symm.trans z
    cases z'
  .by_cases q:Tb (au K) b
   .exact .inr q
   .exact absurd (if_neg q) z
  .exact absurd (if_neg nTa) z
 |none =>
  refine core (λb=>if b=a then some (.cQ {cls:=.type "list",data:=.seq vs.toArray } (.lst (ns.map V.int)))else if Tb (au K) b then some (.cJ #[])else none) (λb=>?_) (aav _ λb z=>by
   have nb:¬b=a:=λq=>nTa (by rw[<-q]; exact z)
   exact(if_neg nb).trans (if_pos z)) (.inl (.inr ⟨{cls:=.type "list",data:=.seq vs.toArray },if_pos rfl⟩)) (λb u z=>?_) (λb z=>?_) λ_=>hk
  .by_cases hb:b=a
   .exact .inr (.inl ⟨_,_,if_pos hb⟩)
   .by_cases q:Tb (au K) b
    .exact .inr (.inr ⟨(if_neg hb).trans (if_pos q),q⟩)
    .exact .inl ((if_neg hb).trans (if_neg q))
  .by_cases hb:b=a
   .have z':=(if_pos hb).symm.trans z
    cases z'
    subst hb
    exact⟨ha,by rw[List.length_map]; exact hl,vs,_,rv,ha⟩
   .have z':=(if_neg hb).symm.trans z
    by_cases q:Tb (au K) b
    .have z':=(if_pos q).symm.trans z'
     cases z'
     obtain⟨c,_,e⟩:=hT' b q
     exact e
    .have z':=(if_neg q).symm.trans z'
     cases z'
  .by_cases hb:b=a
   .exact .inl hb
   .by_cases q:Tb (au K) b
    .exact .inr q
    .exact absurd ((if_neg hb).trans (if_neg q)) z
theorem ajQ{l:PySem.W.OpenLaw}{n k:Nat}{q:Program}{loose:List Str}{XP:(Str->Option Value)->Heap->Prop}{YP:World->Heap->Prop}{d:DefRec}{K:Params->FZ}{CX:World->iz}{sp:World->Sp}{x:Str}
  (hn:l.most=some n) (hn2:n<=sizeLine) (hdf:d.params.defaults=[]) (hr:dW k callerA)
  (yr:∀x∈eZ,((recsOf q).find? (λe=>e.name == x)).isSome=true\/∀w:World,nsIn (K w.params) mainGlobals x=some none) (rN:∀w:World,noTabs (K w.params)=true)
  (hY:∀(w:World) (h:Heap),YP w h->(K w.params).In h)
  (F:∀(w:World) (mg:Str->Option Value) (fa:Addr) (h:Heap),(K w.params).In h->h.Ns mainGlobals mg->mg d.name=some (.ref fa) ->
   ∀base:Heap,(K w.params).In base->base.Ns mainGlobals mg->(∀x∈eZ,∀c b,tabIn (K w.params) x=some (c,b)->CodeHd base c b)->nC mg base->∃fd:FuncData,(∀(s:Shared) (u:Value),(K w.params).In s.heap->BindsTo s fd ⟨[u],[]⟩ [(x,u)])/\jf l.prog w (K w.params) mg base (CX w) k fa fd [x] (sp w))
  (hsp:∀(w:World) (H:Hp) (a:Addr) (ns:List Int),ns.length<=n->bK (au (K w.params)) H->iG (K w.params) H a (ns.map V.int)->sp w [.ref a] H (λv _=>v=.bl true) λ_ _ _=>False)
  (LQ:∀(w:World) (H:Hp) (s:Shared) (e:Value) (s':Shared),CX w [] H s (λ_ _ _=>False) e s'->False) :
  PySem.W.WalkO q loose XP YP l.row.toRowW d [] (λf vs=>PySem.call f vs):=by
 refine Q8.adz hn hdf λw s₀ s₁ mg mb fa o pm cd doc a vs ns G Y ho hd hcd hmg hobj hints hlen hg=>?_
 have KX:=hY w _ Y
 have hT:∀x∈eZ,∀c b,tabIn (K w.params) x=some (c,b)->CodeHd s₁.heap c b/\s₁.heap.get? b=some (tabObj #[]):=λx hx c b e=>by
  rcases yr x hx with z|z
  .obtain⟨d,z⟩:=Option.isSome_iff_exists.mp z
   exact tab_of G.T KX z e
  .rw[ae6 (z w)]at e; cases e
 have hB:nC mg s₁.heap:=by
  obtain⟨bm,ob,b1,b2,b3,b4,b5,b6⟩:=G.T.bmain
  refine⟨bm,ob,b1,b2,λz=>?_,b3,b4,b5,b6⟩
  obtain⟨o,es,ep,e,hd,_⟩:=G.T.g
  rw[z,e]at b3; cases b3
  rw[hd]at b6; cases b6
 exact ajP KX G.T.g G.T.b G.T.builtins G.T.nolimit hg hobj hints (Nat.le_trans hlen hn2) hr hT (rN w) hB (F w mg fa _ KX G.T.g hmg) (λH hO hS=>hsp w H a ns hlen hO hS) λH e s'=>LQ w H s₁ e s'
end L2
end
section
namespace K32
open PySem L2 BH PySem.W
section
variable {K:Frag}{mg:Str->Option Value}{h:Heap}
theorem ajR{x:Str}{st:Stmt}(X:K.In h)(G:h.Ns mainGlobals mg){f:Addr}{od an:Option Addr}{sl:Array (Option Value)}{oc kV dc pm cd ct:Value}
  (a:nsIn K mainGlobals x=some (some (.ref f))) (l:K.lookup f=some ⟨oc,od,.func (fnOf x x (jX st) (gC st) (bU st) .none kV dc pm an cd ct),sl⟩) (c:codeIn K cd x=true) (k:keepIn K (.ref f)=true):At K mg x st :=
 ⟨f,_,Q9 (st:=st) l c k,mg_of X G a⟩
theorem aaw{x:Str}{st:Stmt}(X:K.In h)(G:h.Ns mainGlobals mg){f c:Addr}{od an:Option Addr}{sl:Array (Option Value)}{oc kV dc pm ct:Value}
  (a:nsIn K mainGlobals x=some (some (.ref f))) (l:K.lookup f=some ⟨oc,od,.func (fnOf x x (jX st) (gC st) (bU st) .none kV dc pm an (.ref c) ct),sl⟩) (cc:codeIn K (.ref c) x=true) (k:keepIn K (.ref f)=true):tE K mg x st c :=
 ⟨f,_,Q9 (st:=st) l cc k,mg_of X G a,rfl⟩
theorem aax{x:Str}{i:Int}{tk:Tok}(X:K.In h)(G:h.Ns mainGlobals mg)(a:nsIn K mainGlobals x=some (some (.int i tk))):Gk K mg x (.int i) (.int i):=⟨.int i tk,mg_of X G a,by first|exact rfl|exact⟨_,rfl⟩,λ_=>.int i⟩
theorem yt{H:Hp}{a:Addr}{od:Option Addr}{its:Array Value}{n:Nat}{sl:Array (Option Value)}{xs:List V}{vs:List Value}{ts:List Tr}(l:K.lookup a=some ⟨.type "tuple",od,.seq its n,sl⟩) (e:its.toList=vs) (hl:vs.length<=1000) (r:Vals xs vs) (rr:aA (au K) H xs ts):Rep (au K) H (.ref a) (.tup ts):=by
 refine .tup (xs:=xs) (.inr ⟨_,its,n,ad6 l rfl,rfl,rfl,?_,by rw[e]; exact r⟩) rr
 rw[<-Array.length_toList,e]
 exact Nat.le_of_lt (Ft hl)
theorem ajS(X:K.In h)(G:h.Ns mainGlobals mg){a r1 r2 r3:Addr}{od o1 o2 o3:Option Addr}{its i1 i2 i3:Array Value}{n n1 n2 n3:Nat}{sl Ro sl2 FW:Array (Option Value)}{t1 t2 t3:Tok}
  (m:nsIn K mainGlobals "BARE_RULES" = some (some (.ref a))) (l:K.lookup a=some ⟨.type "tuple",od,.seq its n,sl⟩) (e:its.toList=[.ref r1,.ref r2,.ref r3])
  (l1:K.lookup r1=some ⟨.type "tuple",o1,.seq i1 n1,Ro⟩) (e1:i1.toList=[.str "least" t1]) (l2:K.lookup r2=some ⟨.type "tuple",o2,.seq i2 n2,sl2⟩) (e2:i2.toList=[.str "greatest" t2]) (l3:K.lookup r3=some ⟨.type "tuple",o3,.seq i3 n3,FW⟩) (e3:i3.toList=[.str "product" t3]):Gk K mg "BARE_RULES" (.ref a) (.tup [(.tup [(.str "least")]),(.tup [(.str "greatest")]),(.tup [(.str "product")])]):=by
 refine⟨_,mg_of X G m,rfl,λH=>yt (xs:=[.ref r1,.ref r2,.ref r3]) l e (Nat.le_of_ble_eq_true rfl) (.cons rfl (.cons rfl (.cons rfl .nil))) ?_⟩
 exact .cons (yt (xs:=[.str "least"]) l1 e1 (Nat.le_of_ble_eq_true rfl) (.cons ⟨_,rfl⟩ .nil) (.cons (.str _) .nil)) (.cons (yt (xs:=[.str "greatest"]) l2 e2 (Nat.le_of_ble_eq_true rfl) (.cons ⟨_,rfl⟩ .nil) (.cons (.str _) .nil)) (.cons (yt (xs:=[.str "product"]) l3 e3 (Nat.le_of_ble_eq_true rfl) (.cons ⟨_,rfl⟩ .nil) (.cons (.str _) .nil)) .nil))
theorem ajT(X:K.In h)(G:h.Ns mainGlobals mg){x:Str}{a:Addr}{od:Option Addr}{its:Array Value}{n:Nat}{sl:Array (Option Value)}{i j:Int}{t1 t2:Tok}
  (m:nsIn K mainGlobals x=some (some (.ref a))) (l:K.lookup a=some ⟨.type "tuple",od,.seq its n,sl⟩) (e:its.toList=[.int i t1,.int j t2]):Gk K mg x (.ref a) (.tup [.int i,.int j]) :=
 ⟨_,mg_of X G m,rfl,λH=>yt (xs:=[.int i,.int j]) l e (Nat.le_of_ble_eq_true rfl) (.cons ⟨_,rfl⟩ (.cons ⟨_,rfl⟩ .nil)) (.cons (.int _) (.cons (.int _) .nil))⟩
def Dw(K:Frag)(n:Nat)(F:FP):Sp:=λvs H Q E=>∃G ts,vs.length=n/\aA (au K) G vs ts/\Same G H/\bK (au K) H/\(∀b,Tb (au K) b->G b=none)/\∃p,F ts=.ok p/\∀v G' H',VN (au K) H G' H' v p.1 p.2->Q v H'
theorem ajU{K:Frag}{cl:Str->Addr}{n:Nat}{F:FP}(vs:List V)(H:Hp)(Q:VK)(E:XK)(h:Dw K n F vs H Q E):pD K cl n F vs H Q E:=by
 obtain⟨G,ts,h1,h2,h3,h4,h5,p,h6,h7⟩:=h
 refine⟨G,ts,h1,h2,h3,h4,h5,?_⟩
 rw[h6]
 exact λv G' H' _=>h7 v G' H'
theorem ajV{K:Frag}{H:Hp}(t:bK (au K) H)(h:iG K H a xs):∃G,Same G H/\(∀b,Tb (au K) b->G b=none)/\aG (au K) G a xs:=by
 rcases h with h|h
 .refine⟨λb=>if b=a then H b else none,λb o q=>?_,λb z=>?_,.inl ?_⟩
  .dsimp only at q
   split at q
   .exact q
   .cases q
  .dsimp only
   split
   .rename_i e
    subst e
    obtain⟨ps,y⟩:=t.cJ z
    rcases h with h|⟨o,h⟩ <;> (rw[y]at h; cases h)
   .rfl
  .have e:(if a=a then H a else none)=H a:=if_pos rfl
   unfold Rd at h ⊢
   dsimp only
   rw[e]
   exact h
 .exact⟨λ_=>none,λ_ _ z=>(by cases z),λ_ _=>rfl,iG.toN (.inr h)⟩
end
section
variable {P:Program}{w:World}{K:Frag}{mg:Str->Option Value}{base:Heap}
theorem ajW(M:∀x∈(["abs", "all", "bool", "enumerate", "int", "isinstance", "len", "list", "range", "sorted", "tuple", "zip"]:List Str),mg x=none) (O:∀x∈(["NoBottom", "NoBook", "NoRule", "NoCount"]:List Str),∃k,PyProof.Rows.OwnCls x k Aq "ValueError.__new__" mg base) (XT:mX K) (ajX:At K mg "is_whole" (top 7)) (ajY:At K mg "common_divisor" (top 8)) (ajZ:At K mg "fraction_of" (top 9)) (aj0:At K mg "frac_sum" (top 10)) (aj1:At K mg "frac_times" (top 11)) (aj2:At K mg "frac_below" (top 12)) (aj3:At K mg "is_fraction" (top 13)) (aj4:At K mg "common_bottom" (top 14)) (aj5:At K mg "tops_on_one_bottom" (top 15)) {nY aj6:Addr} (aj7:tE K mg "falling_places" (top 16) nY) (aj8:vW K mg base "falling_places" nY aj6) (aj9:At K mg "is_worth" (top 20)) (akb:At K mg "are_worths" (top 21)) (akc:At K mg "is_book" (top 22)) (akd:At K mg "is_count" (top 23)) (ake:At K mg "need_book" (top 24)) (akf:At K mg "read_orders" (top 25)) (akg:At K mg "are_weights" (top 28)) (akh:At K mg "is_rule" (top 29)) (aki:At K mg "shares_worth" (top 30)) (akj:At K mg "product_worth" (top 31)) (akk:At K mg "place_of" (top 32)) (akl:At K mg "worth_by" (top 33)) (akm:At K mg "need_book_and_rule" (top 34)) (akn:At K mg "whole_form" (top 35)) (ako:At K mg "need_count" (top 37)) (akp:At K mg "need_book_rule_and_count" (top 38)) (akq:At K mg "worths_of" (top 39)) (akr:At K mg "seen_by" (top 42)) (aks:At K mg "last_worths" (top 43)) (akt:At K mg "bounds_by" (top 44)) (aku:At K mg "bounds_of" (top 45)) (akv:At K mg "weakest_and_rival" (top 46)) (akx:At K mg "are_sure" (top 47)) {Dc aky:Addr} (akz:tE K mg "order_of_bounds" (top 48) Dc) (akA:vW K mg base "order_of_bounds" Dc aky) (akB:At K mg "sure_by" (top 49)) (akC:At K mg "sure_in" (top 50)) (akD:At K mg "first_sure" (top 52)) (akE:At K mg "by_rounds" (top 53)) (akF:At K mg "most_hopeful" (top 54)) (akG:At K mg "by_hope" (top 55)) (akH:At K mg "_law_cell" (top 57)) (akI:At K mg "_law_frac" (top 58)) (akJ:At K mg "_law_add" (top 59)) (akK:At K mg "_law_mul" (top 60)) (akL:At K mg "_law_below" (top 61)) (akM:At K mg "_law_book" (top 62)) (akN:At K mg "_law_rule" (top 63)) (akO:At K mg "_law_worth" (top 64)) (akP:At K mg "_law_order" (top 65)) (akQ:At K mg "_law_seen" (top 66)) (akR:At K mg "_law_bounds" (top 67)) (akS:At K mg "_law_are_sure" (top 68)) (akT:At K mg "_law_ahead" (top 69)) (akU:At K mg "_law_sure" (top 70)) (akV:At K mg "_law_copied" (top 71)) (akW:At K mg "_law_rounds" (top 72)) (akX:At K mg "_law_hope" (top 73)) (akY:At K mg "law" (top 74)) {akZ:V} (ak0:Gk K mg "MOST_LISTS" akZ (.int 4)) {ak1:V} (ak2:Gk K mg "MOST_THINGS" ak1 (.int 12)) {ak3:V} (ak4:Gk K mg "BARE_RULES" ak3 (.tup [(.tup [(.str "least")]),(.tup [(.str "greatest")]),(.tup [(.str "product")])])) {ak5:V} (ak6:Gk K mg "NOTHING" ak5 (.tup [(.int 0),(.int 1)])):jC P w K mg base 11 "law" ["_law_script"] (Dw K 1 uL):=by
 have kn:=Kn.mk' (P:=P) (w:=w) M O XT
 have h:∀y∈[Ey.gk "MOST_LISTS" (.int 4),Ey.gk "MOST_THINGS" (.int 12),Ey.gk "BARE_RULES" (.tup [(.tup [(.str "least")]),(.tup [(.str "greatest")]),(.tup [(.str "product")])]),Ey.gk "NOTHING" (.tup [(.int 0),(.int 1)])],Ey.lJ ⟨P,w,K,mg,base,clz mg⟩ y:=List.forall_mem_cons.mpr ⟨⟨_,ak0⟩,List.forall_mem_cons.mpr ⟨⟨_,ak2⟩,List.forall_mem_cons.mpr ⟨⟨_,ak4⟩,List.forall_mem_cons.mpr ⟨⟨_,ak6⟩,λ_ z=>nomatch z⟩⟩⟩⟩
 have h:=aV Wj kn h ajX
 have h:=aV V8 kn h ajY
 have h:=aV Wa kn h ajZ
 have h:=aV Wd kn h aj0
 have h:=aV Wg kn h aj1
 have h:=aV Wh kn h aj2
 have h:=aV Wl kn h aj3
 have h:=aV Wy kn h aj4
 have h:=aV WK kn h aj5
 have h:=Vo ["fractions", "tops"] WL kn h aj7 aj8
 have h:=aV Wq kn h aj9
 have h:=aV Wt kn h akb
 have h:=aV Ww kn h akc
 have h:=aV Xf kn h akd
 have h:=aV WQ kn h ake
 have h:=aV Xm kn h akf
 have h:=aV WX kn h akg
 have h:=aV W0 kn h akh
 have h:=aV W3 kn h aki
 have h:=aV W5 kn h akj
 have h:=aV W7 kn h akk
 have h:=aV W9 kn h akl
 have h:=aV Xb kn h akm
 have h:=aV Ym kn h akn
 have h:=aV Xh kn h ako
 have h:=aV Xj kn h akp
 have h:=aV Xd kn h akq
 have h:=aV Xp kn h akr
 have h:=aV Yj kn h aks
 have h:=aV Xr kn h akt
 have h:=aV Yl kn h aku
 have h:=aV Xv kn h akv
 have h:=aV Xx kn h akx
 have h:=Vo ["bounds", "lows", "highs"] Yo kn h akz akA
 have h:=aV Yp kn h akB
 have h:=aV Yr kn h akC
 have h:=CG Zt kn h akD
 have h:=CG Zv kn h akE
 have h:=aV Xy kn h akF
 have h:=CG Zx kn h akG
 have h:=aV Zz kn h akH
 have h:=aV ZC kn h akI
 have h:=aV ZD kn h akJ
 have h:=aV ZG kn h akK
 have h:=aV ZL kn h akL
 have h:=aV ZM kn h akM
 have h:=aV ZP kn h akN
 have h:=aV ZQ kn h akO
 have h:=aV ZS kn h akP
 have h:=aV ZV kn h akQ
 have h:=aV ZW kn h akR
 have h:=aV Z0 kn h akS
 have h:=aV Z1 kn h akT
 have h:=aV Z4 kn h akU
 have h:=CG Z6 kn h akV
 have h:=aV Z8 kn h akW
 have h:=aV aad kn h akX
 have h:=aV aag kn h akY
 obtain⟨f,fd,h1,h2⟩:jC P w K mg base 11 "law" ["_law_script"] (pD K (clz mg) 1 uL):=h (Ey.fn "law" ["_law_script"] uL 11) (fm "law" (by kernel_rfl))
 exact⟨f,fd,h1.imp ajU,h2⟩
end
theorem walk{l:OpenLaw}{q:Program}{loose:List Str}{XP:(Str->Option Value)->Heap->Prop}{YP:World->Heap->Prop}{d:DefRec}{K:Params->Frag}(hn:l.most=some 63)(hdf:d.params.defaults=[])(hd:d.name = "law")
  (yr:∀x∈eZ,((PyProof.Rows.recsOf q).find? (λe=>e.name == x)).isSome=true\/∀w:World,nsIn (K w.params) mainGlobals x=some none) (rN:∀w:World,noTabs (K w.params)=true)
  (hY:∀(w:World) (h:Heap),YP w h->(K w.params).In h)
  (F:∀(w:World) (mg:Str->Option Value) (h:Heap),(K w.params).In h->h.Ns mainGlobals mg->∀base:Heap,(K w.params).In base->base.Ns mainGlobals mg->(∀x∈eZ,∀c b,tabIn (K w.params) x=some (c,b)->CodeHd base c b)->nC mg base->jC l.prog w (K w.params) mg base 11 "law" (["_law_script"]:List Str) (Dw (K w.params) 1 uL)) :
  WalkO q loose XP YP l.row.toRowW d [] (λf vs=>PySem.call f vs) :=
 L2.ajQ (n:=63) (k:=11) (x := "_law_script") (CX:=λw=>gD l.prog w) (sp:=λw=>Dw (K w.params) 1 uL) hn (by decide) hdf ⟨rfl,by decide,by decide,rfl⟩ yr rN hY
  (λw mg fa h KX G hm base kb gb hc bm=>by
   obtain⟨f,fd,h1,h2,_,h4⟩:=F w mg h KX G base kb gb hc bm
   rw[hd]at hm
   cases h4.symm.trans hm
   exact⟨fd,λs u ks=>h2 s [u] ks rfl,h1⟩)
  (λw H a ns hl hTb hS=>by
   obtain⟨G,g1,g2,g3⟩:=ajV hTb hS
   exact⟨G,[.lst (ns.map .int)],rfl,.cons (.lst g3 (Jt ns)) .nil,g1,hTb,g2,_,ajM ns,λv G' H' r=>by cases r; rfl⟩)
  λw H s e s' h=>by
   obtain⟨_,_,_,_,_,_,z,_⟩:=h
   exact z
end K32
end
section
namespace PySem.W.Fast
end PySem.W.Fast
inductive PySem.W.Fast:Prop
|tw10047871335842208278
|tw10111171423278019024
|tw10344405497436372345
|tw10357022539316888702
|tw106799774419296745
|tw10771874760814272666
|tw10807546374606665545
|tw10931287992955825661
|tw11121257740889076683
|tw11164744952773920940
|tw11275825556876507637
|tw1150179480674062572
|tw1168352640047219397
|tw11867176725454558383
|tw12067636416113479326
|tw12169435576675838525
|tw12515678630459024671
|tw1259726413811842855
|tw12759697745247777233
|tw12995507825371811000
|tw13161890305566871474
|tw13224929525302307772
|tw13347769396860988320
|tw13436989721752503727
|tw13842274460637454707
|tw13902657710486933415
|tw14137148640269746589
|tw14199125878819454802
|tw14364420060056391185
|tw1448921359700754518
|tw14558071405176178757
|tw14665286408135315932
|tw14688855921456474596
|tw14925799202180871887
|tw14971988063577086559
|tw14978065511244816052
|tw15031288797860130522
|tw15183817959359645165
|tw15299127407142462313
|tw15330074643525936756
|tw15438660767780491567
|tw15634856904020869069
|tw15715143768924086869
|tw15827655427354869051
|tw15946220235832230685
|tw16060556437577394260
|tw16086107281956766530
|tw16116920237809741250
|tw16311299891753348580
|tw16439731738211589827
|tw16530174396397389029
|tw16576160092280287177
|tw16599607267603975981
|tw16617028419625675474
|tw16672790864717978783
|tw16766196578932222059
|tw16878243187790516681
|tw17068690843958203353
|tw17071022911949225034
|tw17297390127710795529
|tw17415328655159871258
|tw17638655548160226055
|tw17683676298859661332
|tw17806773722897975611
|tw17857162984228475869
|tw17909773746532371823
|tw18004737295507584395
|tw18044442339003096341
|tw18120665537371735626
|tw18149319445971247329
|tw18171288429746572413
|tw18282760950930619729
|tw18340066984748447705
|tw1948876581334328781
|tw2040886245860469552
|tw204245838844945083
|tw2115712289701823839
|tw2400072893722503233
|tw2457678349270143653
|tw2591560126434339043
|tw2611748578437254809
|tw271502112138646903
|tw2786622527407798524
|tw2845275457643691246
|tw2867760420109751442
|tw3050637829168189285
|tw3077876726757262655
|tw3152502116146213865
|tw3433341478183882844
|tw3450271883158568594
|tw3472876805782929289
|tw3682044792187328374
|tw3949407494835391200
|tw4214229473944890809
|tw4287301179579104553
|tw4491958774114869632
|tw4579104681556311111
|tw4709303473862162132
|tw4788797825463689812
|tw4800645611538361053
|tw5077116585357541836
|tw5222953171785785914
|tw5321834905013751956
|tw581062110931342712
|tw5812492075493957790
|tw5837579722372864433
|tw5920745192740426272
|tw594471653932135028
|tw5983108222848071628
|tw5999394829105391782
|tw6007158333299088436
|tw6017846268581992654
|tw6061996276995982304
|tw6193096009754659508
|tw6229290616099536691
|tw6384115491830266818
|tw6495928138786937085
|tw6502981687078619886
|tw675260325345227329
|tw6889329633835608389
|tw6921112636528000672
|tw6935424474831727637
|tw7136774276861748197
|tw727928582922756871
|tw7505384923510891018
|tw7687589645548800701
|tw7959547159809511966
|tw8412267068006829600
|tw8497395208341153650
|tw8529344523125589568
|tw8551287767536629122
|tw8707405137499798679
|tw8758576796523766201
|tw9087555103718957964
|tw9087776466881567328
|tw9093125576391909660
|tw9199846636926697985
|tw9222277760792054129
|tw9308014798668099983
|tw9375084375629797940
|tw9427835945497560690
|tw9427905603348266106
|tw9678722477107045243
|tw985708560375124032
|tw9875571822169478591
|tw9924574070445773864
|tw9924910352822145660
|tw9939945779556534029
open PySem PySem.W PyProof.Rows
set_option maxRecDepth 100000 in
set_option maxHeartbeats 0 in
theorem PySem.Challenge.cw_bestheads_k32_rounds_holds : PySem.Challenge.rw_bestheads_k32_rounds.Holds := by
 w_on; o_law; k_head; (case hw=>w_witness2)
 k_fill
 refine K32.walk (l:=PySem.Challenge.rw_bestheads_k32_rounds) rfl rfl rfl ?yr ?rN (λw h Y=>by first|exact PySem.W.km_in_of Y|exact PySem.W.kIn_of Y) ?F
 case yr =>
  intro x hx
  rcases(List.mem_cons.mp hx)with rfl|hx
  .exact .inl (by kernel_rfl)
  .rw[List.mem_singleton.mp hx]
   exact .inl (by kernel_rfl)
 case rN=>intro w; kernel_rfl
 case F =>
  intro w mg h KX G base kb gb hcd hbm
  refine' K32.ajW ?qM ?qO ?qXT ?qd1 ?qd2 ?qd3 ?qd4 ?qd5 ?qd6 ?qd7 ?qd8 ?qd9 ?ak7 ?ak8 ?ak9 ?ala ?alb ?alc ?ald ?ale ?alf ?alg ?alh ?ali ?alj ?alk ?alm ?aln ?alo ?alp ?alq ?alr ?als ?alu ?alv ?alw ?alx ?aly ?alz ?alA ?alB ?alC ?alD ?alE ?alF ?alG ?alH ?alI ?alJ ?alK ?alL ?alM ?alN ?alO ?alP ?alQ ?alR ?alS ?alT ?alU ?alV ?alW ?alX ?alY ?alZ ?al0 ?al1
  case qM=>intro x m; simp only[List.mem_cons,List.not_mem_nil,or_false]at m; rcases m with rfl|rfl|rfl|rfl|rfl|rfl|rfl|rfl|rfl|rfl|rfl|rfl <;> exact mg_none_of KX G (by k_is)
  case qd1|qd2|qd3|qd4|qd5|qd6|qd7|qd8|qd9|ak9|ala|alb|alc|ald|ale|alf|alg|alh|ali|alj|alk|alm|aln|alo|alp|alq|alr|als|alu|alv|alw|alx|alA|alB|alC|alD|alE|alF|alG|alH|alI|alJ|alK|alL|alM|alN|alO|alP|alQ|alR|alS|alT|alU|alV|alW|alX=>exact K32.ajR KX G (by k_is) (by k_is) (by k_is) (by k_is)
  case ak7 =>
   refine' K32.aaw KX G ?al2 ?al3 ?al4 ?al5
   (case al2=>k_is); (case al3=>k_is); (case al4=>k_is); (case al5=>k_is)
  case ak8 =>
   refine' L2.SM (by decide) hcd hbm (L2.Ao ?al6 ?al7 ?LR ?al8 ?Ma ?Mf ?al9 ?Mg ?Mh) ?ama
   (case al6=>k_is); (case al7=>k_is); (case al8=>k_is); (case Mf=>exact rfl); (case al9=>k_is); (case LR=>kernel_rfl); (case Ma=>kernel_rfl); (case Mg=>kernel_rfl); (case Mh=>exact rfl)
   case ama =>
    intro x' hx'
    rcases(List.mem_cons.mp hx')with rfl|hx'
    .exact .inl rfl
    .rw[List.mem_singleton.mp hx']
     refine' .inr λc' z=>absurd ((L2.Sx (L2.Ao ?amb ?amc ?amd ?ame ?amf ?amg ?amh ?ami ?amj)).1.symm.trans z) ?amk
     (case amb=>k_is); (case amc=>k_is); (case ame=>k_is); (case amg=>exact rfl); (case amh=>k_is); (case amd=>kernel_rfl); (case amf=>kernel_rfl); (case ami=>kernel_rfl); (case amj=>exact rfl)
     (case amk=>exact λy=>absurd (Prod.mk.inj (Option.some.inj y)).2 (by decide))
  case aly =>
   refine' K32.aaw KX G ?aml ?amm ?amn ?amo
   (case aml=>k_is); (case amm=>k_is); (case amn=>k_is); (case amo=>k_is)
  case alz =>
   refine' L2.SM (by decide) hcd hbm (L2.Ao ?amq ?amr ?LR ?ams ?Ma ?Mf ?amt ?Mg ?Mh) ?amu
   (case amq=>k_is); (case amr=>k_is); (case ams=>k_is); (case Mf=>exact rfl); (case amt=>k_is); (case LR=>kernel_rfl); (case Ma=>kernel_rfl); (case Mg=>kernel_rfl); (case Mh=>exact rfl)
   case amu =>
    intro x' hx'
    rcases(List.mem_cons.mp hx')with rfl|hx'
    .refine' .inr λc' z=>absurd ((L2.Sx (L2.Ao ?amv ?amw ?amx ?amy ?amz ?amA ?amB ?amC ?amD)).1.symm.trans z) ?amE
     (case amv=>k_is); (case amw=>k_is); (case amy=>k_is); (case amA=>exact rfl); (case amB=>k_is); (case amx=>kernel_rfl); (case amz=>kernel_rfl); (case amC=>kernel_rfl); (case amD=>exact rfl)
     (case amE=>exact λy=>absurd (Prod.mk.inj (Option.some.inj y)).2 (by decide))
    .rw[List.mem_singleton.mp hx']
     exact .inl rfl
  case alY =>
   refine' K32.aax KX G ?amF
   (case amF=>k_is)
  case alZ =>
   refine' K32.aax KX G ?amG
   (case amG=>k_is)
  case al0 =>
   refine' K32.ajS KX G ?qbm ?qbl ?qbe ?amH ?amI ?amJ ?amK ?amL ?amM
   (case qbm=>k_is); (case qbl=>k_is); (case qbe=>rfl); (case amH=>k_is); (case amI=>rfl); (case amJ=>k_is); (case amK=>rfl); (case amL=>k_is); (case amM=>rfl)
  case al1 =>
   refine' K32.ajT KX G ?amN ?amO ?amP
   (case amN=>k_is); (case amO=>k_is); (case amP=>rfl)
  case qXT=>exact L2.mX.of (by kernel_rfl)
  case qO=>intro x m; simp only[List.mem_cons,List.not_mem_nil,or_false]at m; rcases m with rfl|rfl|rfl|rfl <;> exact⟨_,L2.adX kb gb (by k_is) (by k_exc)⟩
#print axioms PySem.Challenge.cw_bestheads_k32_rounds_holds
end