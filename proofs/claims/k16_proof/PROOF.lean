import PyProof.Rows.All
import Wide.All
import Wide.FinOn
import KE.KFromBytes
import KE.KIsAll
import KE.KItem
import KE.KLam
import KE.KNest
import KE.KRevIter
import KE.KSortKey
import KE.KxBytes
import OpenK.KCall
import OpenK.KCls
import OpenK.KDescr
import OpenK.KFacts
import OpenK.KGet
import OpenK.KLine
import OpenK.KMake
import OpenK.KMore
import OpenK.KOwn
import OpenK.KWalk
import OpenK.Peek
import PyProof.EqAt
import PyProof.EqKinds
import PyProof.TupleCall
import KE.KNestM
import PySem.Challenge.RW_fairknife_k16_ways
set_option Elab.async false
set_option linter.all false
set_option maxRecDepth 100000
set_option maxHeartbeats 4000000
def PySem.W.Fast.tw9768856428578662464:PySem.Program:=PySem.Challenge.pw_fairknife_k16_ways
theorem PySem.W.Fast.te9768856428578662464:PySem.Challenge.pw_fairknife_k16_ways=PySem.W.Fast.tw9768856428578662464:=rfl
namespace HQ
open PySem PySem.W PySem.Calls PyProof.Rows
theorem GQ{p q:Program}{loose:List Str}{Xt:Shared->Bool}{α:Type}{Yf:Shared->α}{Ya:World->α}{N:Nat}{H:Params->Heap}{gs:Array GenState}{dr:Drawn}{tk m:Nat}{an:Option Value}
  (e0:∀w:World,(fencedOpening treeTable p w N).map (fun s=>(s.heap,s.gens,s.drawn,s.toks))=some (H w.params,gs,dr,tk))
  (e1:∀w:World,((H w.params).isNs mainGlobals&&gs.size==0,(H w.params).objs.size,(H w.params).nsMap mainGlobals "__annotations__")=(true,m,an))
  (e2:∀(w:World)(os:OsState),∃s M,Nat.ble M N=true/\topRun treeTable p w m an M ⟨H w.params,gs,dr,tk,os⟩ (topStub p)=some s/\
   (staticsOk (importedModules p.main.body) (H w.params) s.heap&&namesBound p s.heap&&gensDone s&&laidKept (H w.params) s.heap)=true/\
   openSeen q loose (importedModules p.main.body) Xt true s=openGood q loose/\Yf s=Ya w):LeftO p q loose Xt Yf Ya N:=fun w=>by
 obtain⟨⟨h,g,d,k,os⟩,a,b⟩:=Option.map_eq_some_iff.mp (e0 w)
 have b':h=H w.params/\g=gs/\d=dr/\k=tk:=by simpa using b
 obtain⟨rfl,rfl,rfl,rfl⟩:=b'
 have z:=e1 w
 simp only[Prod.mk.injEq]at z
 obtain⟨z1,z2,z3⟩:=z
 obtain⟨s,M,le,r,l1,l2,l3⟩:=e2 w os
 have r':=topRun_mono (N-M) _ _ _ _ r
 have hN:M+(N-M)=N:=by have:=Nat.le_of_ble_eq_true le;omega
 rw[hN]at r'
 have t:topFrom treeTable p w N ⟨H w.params,g,d,k,os⟩=some s:=by
  unfold topFrom
  dsimp only
  rw[z1,z2,z3,r']
  dsimp only[Option.bind]
  rw[l1]
 unfold openEnds
 rw[a]
 dsimp only[Option.bind]
 rw[t]
 exact congrArg some (Prod.ext l2 l3)
theorem LR{p:Program}{w:World}{m:Nat}{an:Option Value}{env:Env}{fp posA posB posC:Pos}{n0 nb n1 n2:Nat}{s0 sA r:Shared}{sT s':SharedT}{b:List Stmt}
  (h0:topGo treeTable p w m an n0 s0 (topStub p)=some (sA,⟨denote treeTable (.body b env),.body b env,posA,[topFrame fp]⟩))
  (hb:segRun treeTable p w m an 1 nb sA (blockOf b env (.body b env) posA [topFrame fp])=some (.next,sT.abs,.body b env,posB))
  (h1:segRunT treeTable p w m an 1 n1 sT (piecesOf b env (.body b env) posB [topFrame fp])=some (.next,s',.body b env,posC))
  (h2:topRun treeTable p w m an n2 s'.abs ⟨doneF .next,.body b env,posC,[topFrame fp]⟩=some r):
  topRun treeTable p w m an (n0+(nb+(n1+n2))) s0 (topStub p)=some r:=by
 have k:=piece_app (rest:=[]) (segRun_of h1) (piece_nil (env:=env) h2)
 rw[List.append_nil]at k
 exact go_top h0 (piece_block hb k)
end HQ
namespace HQ
open PySem PySem.W PySem.Calls PyProof.Rows
noncomputable section
abbrev pw:Program:=PySem.Challenge.pw_fairknife_k16_ways
def qv:Program:=view pw [0,2,3,4,5,6,8,9,10,11,12,13,14,15,16,17,19,20,21,22,23,25,26,27,28,29,30,31,32,33,34,36,37,38,39,40,41,42,43,45,46,47,48,49,50,51,52,53,54,55,56,57,58,59,60,61,62,63,64,65,66,68,69,70,71,72,73,74,75,76,77,78]
def xt(s:Shared):Bool:=xlAt qv [] s&&recOk (RowW.records (OpenRow.toRowW (OpenLaw.row PySem.Challenge.rw_fairknife_k16_ways))) s
def Pr:Env:={scope:=pw.main.scope,locals:=mainNs,globals:=mainNs,cells:=[],code:=Value.ref 13,frame:=some 14}
abbrev bT:List Stmt:=behindTheImports pw
abbrev cT:Code:= .body bT Pr
def Va:Pos:={line:=0,col:=0,endLine:=0,endCol:=0}
def Xh:Pos:={line:=0,col:=0,endLine:=0,endCol:=0}
def Xi:Pos:={line:=0,col:=0,endLine:=0,endCol:=0}
def Xj:Pos:={line:=411,col:=0,endLine:=431,endCol:=37}
def Rw:Option Value:=Option.some (Value.ref 6)
def hx0:Params->Obj:=fun P=>{cls:=Value.type "tuple",data:=Data.seq #[]}
def hx1:Params->Obj:=fun P=>{cls:=Value.none,data:=Data.fields #[]}
def hx2:Params->Obj:=fun P=>{cls:=Value.type "code",data:=Data.fields #[Value.str (Str.ofString "<module>") 182,Value.str (Str.ofString "<module>") 183,Value.str (Str.ofString "/claim/cut.py") 184,Value.int 1 0,Value.int 0 0,Value.int 0 0,Value.int 0 0,Value.int 0 0,Value.ref 11,Value.bool Bool.false,Value.int 181 0,Value.ref 12,Value.none,Value.none,Value.none,Value.none,Value.int 185 0,Value.int 1 0,Value.str (Str.ofString "/claim/cut.py") 186]}
def Xf:Params->Obj:=fun P=>{cls:=Value.type "frame",slots:= #[Option.some (Value.ref 13),Option.some (Value.ref 3),Option.some (Value.ref 3),Option.none,Option.some (Value.str (Str.ofString "__main__") 164),Option.none,Option.some (Value.ref 0)]}
def XQ(P:Params):Heap:=⟨⟨[boot_o_0 P,boot_o_1 P,boot_o_2 P,boot_o_3 P,boot_o_4 P,boot_o_5 P,boot_o_6 P,boot_o_7 P,boot_o_8 P,boot_o_9 P,boot_o_10 P,hx0 P,hx1 P,hx2 P,Xf P]⟩,{}⟩
def Ym(P:Params):BT:=(.node (boot_o_0 P) (.node (boot_o_1 P) (.node (boot_o_3 P) (.node (boot_o_7 P) .nil .nil) (.node (hx0 P) .nil .nil)) (.node (boot_o_5 P) (.node (boot_o_9 P) .nil .nil) (.node (hx2 P) .nil .nil))) (.node (boot_o_2 P) (.node (boot_o_4 P) (.node (boot_o_8 P) .nil .nil) (.node (hx1 P) .nil .nil)) (.node (boot_o_6 P) (.node (boot_o_10 P) .nil .nil) (.node (Xf P) .nil .nil))))
def Xl(w:World)(os:OsState):Shared:=⟨XQ w.params,.mk [],{},187,os⟩
def Xm(w:World)(os:OsState):SharedT:=⟨Ym w.params,15,{},.mk [],{},187,os⟩
def Yg(w:World)(os:OsState):Shared:=⟨boot_heap w.params,.mk [],boot_drawn,boot_toks,os⟩
def aT(w:World)(os:OsState):=topGo treeTable pw w 11 Rw 12 (Yg w os) (topStub pw)
def aR(w:World)(os:OsState):Option (Shared×Thread):=some (Xl w os,⟨denote treeTable cT,cT,Xh,[topFrame Va]⟩)
def bL(w:World)(os:OsState):=segRun treeTable pw w 11 Rw 1 1 (Xl w os) (blockOf bT Pr cT Xh [topFrame Va])
def bR(w:World)(os:OsState):Option (Flow×Shared×Code×Pos):=some (.next,(Xm w os).abs,cT,Xi)
def zL(w:World):=((boot_heap w.params).isNs mainGlobals&&(Array.mk ([]:List GenState)).size==0,(boot_heap w.params).objs.size,(boot_heap w.params).nsMap mainGlobals "__annotations__")
def zR:Bool×Nat×Option Value:=(true,11,Rw)
def ul(w:World)(os:OsState):Option ((Flow×Code×Pos)×Shared):=
 (segRunT treeTable pw w 11 Rw 1 4937 (Xm w os) (piecesOf bT Pr cT Xi [topFrame Va])).bind fun x=>
  (topRun treeTable pw w 11 Rw 2 x.2.1.abs ⟨doneF .next,cT,Xj,[topFrame Va]⟩).map fun s=>((x.1,x.2.2.1,x.2.2.2),s)
def zz(s:Shared):=openSeen qv [] (importedModules pw.main.body) xt true s
def eA(w:World)(os:OsState):=(ul w os).map fun y=>(y.1,(staticsOk (importedModules pw.main.body) (boot_heap w.params) y.2.heap&&namesBound pw y.2.heap&&gensDone y.2&&laidKept (boot_heap w.params) y.2.heap))
def eB(w:World)(os:OsState):=(ul w os).map fun y=>(zz y.2).1
def eF(w:World)(os:OsState):=(ul w os).map fun y=>(zz y.2).2.1
def eC(w:World)(os:OsState):=(ul w os).map fun y=>(zz y.2).2.2.1
def eD(w:World)(os:OsState):=(ul w os).map fun y=>(zz y.2).2.2.2.1
def Sh(w:World)(os:OsState):=(ul w os).map fun y=>(zz y.2).2.2.2.2.1
def Sv(w:World)(os:OsState):=(ul w os).map fun y=>(zz y.2).2.2.2.2.2.1
def eG(w:World)(os:OsState):=(ul w os).map fun y=>(zz y.2).2.2.2.2.2.2
def eE(as ts:List Addr)(w:World)(os:OsState):=(ul w os).map fun y=>(as.map y.2.heap.get?,ts.map y.2.heap.get?)
def rA:=(((.next,cT,Xj):Flow×Code×Pos),true)
def rB:=(openGood qv []).1
def rF:=(openGood qv []).2.1
def rC:=(openGood qv []).2.2.1
def rD:=(openGood qv []).2.2.2.1
def Vc:=(openGood qv []).2.2.2.2.1
def Vd:=(openGood qv []).2.2.2.2.2.1
def rG:=(openGood qv []).2.2.2.2.2.2
theorem Vo:aT=aT:=rfl
theorem Vn:aR=aR:=rfl
theorem Vr:bL=bL:=rfl
theorem Vs:bR=bR:=rfl
theorem WW:zL=zL:=rfl
theorem Vu:eA=eA:=rfl
theorem Vv:eB=eB:=rfl
theorem Vz:eF=eF:=rfl
theorem Vw:eC=eC:=rfl
theorem Vx:eD=eD:=rfl
theorem Sq:Sh=Sh:=rfl
theorem Sw:Sv=Sv:=rfl
theorem VB:eG=eG:=rfl
theorem Vy:eE=eE:=rfl
theorem VV:rA=rA:=rfl
theorem Wc:rB=rB:=rfl
theorem Wh:rF=rF:=rfl
theorem Wd:rC=rC:=rfl
theorem Wf:rD=rD:=rfl
theorem Tv:Vc=Vc:=rfl
theorem Tw:Vd=Vd:=rfl
theorem Wi:rG=rG:=rfl
end
end HQ
name_quick qaT for HQ.aT by HQ.Vo
name_quick qaR for HQ.aR by HQ.Vn
name_quick qbL for HQ.bL by HQ.Vr
name_quick qbR for HQ.bR by HQ.Vs
name_quick qzL for HQ.zL by HQ.WW
name_quick qeA for HQ.eA by HQ.Vu
name_quick qeB for HQ.eB by HQ.Vv
name_quick qeF for HQ.eF by HQ.Vz
name_quick qeC for HQ.eC by HQ.Vw
name_quick qeD for HQ.eD by HQ.Vx
name_quick qeD2 for HQ.Sh by HQ.Sq
name_quick qeD3 for HQ.Sv by HQ.Sw
name_quick qeG for HQ.eG by HQ.VB
name_quick qeE for HQ.eE by HQ.Vy
name_quick qrA for HQ.rA by HQ.VV
name_quick qrB for HQ.rB by HQ.Wc
name_quick qrF for HQ.rF by HQ.Wh
name_quick qrC for HQ.rC by HQ.Wd
name_quick qrD for HQ.rD by HQ.Wf
name_quick qrD2 for HQ.Vc by HQ.Tv
name_quick qrD3 for HQ.Vd by HQ.Tw
name_quick qrG for HQ.rG by HQ.Wi
namespace HQ
open PySem PySem.W PySem.Calls PyProof.Rows
theorem Vp:aT=aR:=PySem.W.Fast.qaT_eq.trans ((by kernel_rfl:PySem.W.Fast.qaT=PySem.W.Fast.qaR).trans PySem.W.Fast.qaR_eq.symm)
theorem Vt:bL=bR:=PySem.W.Fast.qbL_eq.trans ((by kernel_rfl:PySem.W.Fast.qbL=PySem.W.Fast.qbR).trans PySem.W.Fast.qbR_eq.symm)
theorem WX:zL=fun _=>zR:=PySem.W.Fast.qzL_eq.trans (by kernel_rfl:PySem.W.Fast.qzL=fun _=>zR)
theorem iW(w:World):(fencedOpening treeTable pw w 9998).map (fun s=>(s.heap,s.gens,s.drawn,s.toks))=some (boot_heap w.params,Array.mk [],boot_drawn,boot_toks):=
 boot_open (by kernel_rfl) (by decide) (fun s=>by kernel_rfl) w
theorem XC:PySem.W.Fast.qeA=fun _ _=>some PySem.W.Fast.qrA:=by kernel_rfl
theorem XD:PySem.W.Fast.qeB=fun _ _=>some PySem.W.Fast.qrB:=by kernel_rfl
theorem XF:PySem.W.Fast.qeC=fun _ _=>some PySem.W.Fast.qrC:=by kernel_rfl
theorem XH:PySem.W.Fast.qeD=fun _ _=>some PySem.W.Fast.qrD:=by kernel_rfl
theorem VD:PySem.W.Fast.qeD2=fun _ _=>some PySem.W.Fast.qrD2:=by kernel_rfl
theorem VF:PySem.W.Fast.qeD3=fun _ _=>some PySem.W.Fast.qrD3:=by kernel_rfl
theorem XJ:PySem.W.Fast.qeF=fun _ _=>some PySem.W.Fast.qrF:=by kernel_rfl
theorem XM:PySem.W.Fast.qeG=fun _ _=>some PySem.W.Fast.qrG:=by kernel_rfl
theorem Kq{as ts:List Addr}{Ya:World->List (Option Obj)×List (Option Obj)}(ev:∀w,PySem.W.Fast.qeE as ts w=fun _=>some (Ya w)):LeftO pw qv [] xt (fun s=>(as.map s.heap.get?,ts.map s.heap.get?)) Ya 9998:=by
 refine GQ (H:=boot_heap) (gs:= .mk []) (m:=11) (an:=Rw) iW (congrFun WX) fun w os=>?_
 have hA:eA w os=some rA:=by rw[PySem.W.Fast.qeA_eq,PySem.W.Fast.qrA_eq,XC]
 have hB:eB w os=some rB:=by rw[PySem.W.Fast.qeB_eq,PySem.W.Fast.qrB_eq,XD]
 have hC:eC w os=some rC:=by rw[PySem.W.Fast.qeC_eq,PySem.W.Fast.qrC_eq,XF]
 have hD:eD w os=some rD:=by rw[PySem.W.Fast.qeD_eq,PySem.W.Fast.qrD_eq,XH]
 have hD2:Sh w os=some Vc:=by rw[PySem.W.Fast.qeD2_eq,PySem.W.Fast.qrD2_eq,VD]
 have hD3:Sv w os=some Vd:=by rw[PySem.W.Fast.qeD3_eq,PySem.W.Fast.qrD3_eq,VF]
 have hF:eF w os=some rF:=by rw[PySem.W.Fast.qeF_eq,PySem.W.Fast.qrF_eq,XJ]
 have hG:eG w os=some rG:=by rw[PySem.W.Fast.qeG_eq,PySem.W.Fast.qrG_eq,XM]
 have hE:eE as ts w os=some (Ya w):=by rw[PySem.W.Fast.qeE_eq];exact congrFun (ev w) os
 unfold eA at hA
 unfold eB at hB
 unfold eC at hC
 unfold eD at hD
 unfold Sh at hD2
 unfold Sv at hD3
 unfold eE at hE
 unfold eF at hF
 unfold eG at hG
 obtain⟨y,hy,e⟩:=Option.map_eq_some_iff.mp hA
 rw[hy]at hB hC hD hD2 hD3 hE hF hG
 unfold ul at hy
 obtain⟨x,hx,e'⟩:=Option.bind_eq_some_iff.mp hy
 obtain⟨s,hs,e''⟩:=Option.map_eq_some_iff.mp e'
 obtain⟨f,s',c',p'⟩:=x
 subst e''
 unfold rA at e
 simp only[Prod.mk.injEq]at e
 obtain⟨⟨rfl,rfl,rfl⟩,e1⟩:=e
 have b1:(zz s).1=(openGood qv []).1:=Option.some.inj hB
 have b2:(zz s).2.1=(openGood qv []).2.1:=Option.some.inj hF
 have b3:(zz s).2.2.1=(openGood qv []).2.2.1:=Option.some.inj hC
 have b4:(zz s).2.2.2.1=(openGood qv []).2.2.2.1:=Option.some.inj hD
 have b42:(zz s).2.2.2.2.1=(openGood qv []).2.2.2.2.1:=Option.some.inj hD2
 have b43:(zz s).2.2.2.2.2.1=(openGood qv []).2.2.2.2.2.1:=Option.some.inj hD3
 have b5:(zz s).2.2.2.2.2.2=(openGood qv []).2.2.2.2.2.2:=Option.some.inj hG
 have e2:zz s=openGood qv []:=Prod.ext b1 (Prod.ext b2 (Prod.ext b3 (Prod.ext b4 (Prod.ext b42 (Prod.ext b43 b5)))))
 exact⟨s,12+(1+(4937+2)),by decide,LR (congrFun (congrFun Vp w) os) (congrFun (congrFun Vt w) os) hx hs,e1,e2,Option.some.inj hE⟩
end HQ
section
open PySem PySem.W PyProof.Rows
section
local macro_rules | `(tactic| o_head $H) => `(tactic| exact (fun (_ : PySem.W.Hook) => by assumption) $H)
set_option maxRecDepth 100000 in
theorem HQ.pre(h:PySem.W.OpenRow.Holds (PySem.W.OpenLaw.row PySem.Challenge.rw_fairknife_k16_ways)):PySem.W.OpenRow.Holds (PySem.W.OpenLaw.row PySem.Challenge.rw_fairknife_k16_ways):=by
 k_head
end
def HQ.hA:List Addr:=[2,3,15,17,18,20,21,22,29,30,31,32,35,42,43,44,47,54,55,56,59,66,67,68,71,78,79,80,83,85,86,88,89,90,92,93,95,96,97,99,100,102,103,104,106,107,109,110,111,113,114,116,117,118,120,121,123,124,125,127,128,130,131,132,134,135,137,138,139,141,142,144,145,146,148,149,151,152,153,155,156,158,159,160,162,163,165,166,167,169,170,172,173,174,176,177,179,180,181,183,184,186,187,188,189,190,192,193,195,196,197,199,200,202,203,204,206,207,209,210,211,213,214,216,217,218,220,221,223,224,225,227,228,230,231,232,234,235,237,238,239,241,242,244,245,246,248,249,251,252,253,255,256,258,259,260,262,263,265,266,267,270,271,279,281,282,284,285,286,288,289,291,292,293,295,296,298,299,300,303,304,305,307,308,310,311,312,314,315,317,318,319,321,322,324,325,326,328,329,331,332,333,335,336,338,339,340,341,342,343,344,347,348,349,350,351,353,354,356,357,358,360,361,363,364,365,368,369,370,373,374,375,377,378,380,381,382,385,386,387,389,390,392,393,394,396,397,399,400,401,403,404,406,407,408,410,411,413,414,415,418,419,420,423,424,425,427,428,430,431,439,441,442,444,445,446,447,448,449,450,453,460,462,463,465,466,467,468,469,472,479,482,483,484,485,486,489,496,499,500,501,502,503,506,513,515,516,518,519,520,521,522,525,532,534,535,537,538,539,540,541,544,551,553,554,556,557,558,559,560,563,565,566,568,569,570,572,573,575,576,577,579,580,582,583,584,586,587,589,590,591,593,594,596,597,598,600,601,603,604,605,607,608,610,611,612,614,615,617,618,619,621,622,624,625,626,628,629,631,632,633,636,637]
def HQ.hT:List Addr:=[240,233,147]
set_option maxRecDepth 100000 in
theorem HQ.ev:∀w:World,PySem.W.Fast.qeE HQ.hA HQ.hT w=fun _=>some ((HQ.pre.heap_1 w.params).map fun p=>some p.2,HQ.hT.map fun _=>some (tabObj #[])):=fun w=>by kernel_rfl
end
namespace L2
open PySem PySem.Spec PyProof.Rows
abbrev Key:=Sum Int Str
def uI:Key->Value->Bool
 | .inl k,v=>Value.isInt k v
 | .inr x,v=>Value.isStrOf x v
def VN(w:World):Key->Int
 | .inl k=>hashInt k
 | .inr x=>hashStr w x
theorem cU:∀{k:Key}{v:Value},uI k v=true->(∃i t,k=Sum.inl i/\v=Value.int i t)\/(∃x t,k=Sum.inr x/\v=Value.str x t)
 | .inl i,v,h=>by
  obtain⟨t,e⟩:=Value.isInt_shape (k:=i) (v:=v) h
  exact .inl ⟨i,t,rfl,e⟩
 | .inr x,v,h=>by
  obtain⟨t,e⟩:=Value.isStrOf_shape (x:=x) (v:=v) h
  exact .inr ⟨x,t,rfl,e⟩
theorem Dv(i:Int)(t:Tok):uI (.inl i) (.int i t)=true:=by simp[uI,Value.isInt]
theorem Dw(x:Str)(t:Tok):uI (.inr x) (.str x t)=true:=by simp[uI,Value.isStrOf]
theorem PL(a b:Int):decide ((Sum.inl a:Key)=Sum.inl b)=(a==b):=by
 by_cases e:a=b
 .subst e;simp
 .have h:¬(Sum.inl a:Key)=Sum.inl b:=fun q=>e (Sum.inl.inj q)
  rw[decide_eq_false h]
  exact(beq_eq_false_iff_ne.mpr e).symm
theorem PQ(a b:Str):decide ((Sum.inr a:Key)=Sum.inr b)=decide (a=b):=by
 by_cases e:a=b
 .subst e;simp
 .have h:¬(Sum.inr a:Key)=Sum.inr b:=fun q=>e (Sum.inr.inj q)
  rw[decide_eq_false h,decide_eq_false e]
theorem PN(a:Int)(b:Str):decide ((Sum.inl a:Key)=Sum.inr b)=false:=decide_eq_false (fun q=>nomatch q)
theorem PP(a:Str)(b:Int):decide ((Sum.inr a:Key)=Sum.inl b)=false:=decide_eq_false (fun q=>nomatch q)
def dU(prog:Program)(w:World):PySem.KeyKind prog w Key where
 is:=uI
 hash:=VN w
 inj:=fun v a b ha hb=>by
  rcases cU ha with⟨i,t,rfl,rfl⟩|⟨x,t,rfl,rfl⟩
  .rcases cU hb with⟨j,u,rfl,e⟩|⟨y,u,rfl,e⟩
   .injection e with e1 _;rw[e1]
   .exact nomatch e
  .rcases cU hb with⟨j,u,rfl,e⟩|⟨y,u,rfl,e⟩
   .exact nomatch e
   .injection e with e1 _;rw[e1]
 byValue:=fun k v h=>by
  rcases cU h with⟨i,t,rfl,rfl⟩|⟨x,t,rfl,rfl⟩<;>rfl
 pyHash:=fun hv h=>by
  rcases cU hv with⟨i,t,rfl,rfl⟩|⟨x,t,rfl,rfl⟩
  .exact wpAny_pyHash_int h
  .exact wpAny_pyHash_str h
 eqBool:=fun hu hv h=>by
  rcases cU hu with⟨i,t,rfl,rfl⟩|⟨x,t,rfl,rfl⟩
  .rcases cU hv with⟨j,u,rfl,rfl⟩|⟨y,u,rfl,rfl⟩
   .rw[PL]at h;exact wpAny_eqBool_int h
   .rw[PN]at h;exact SeqAt.EqAt.int_str i t y u _ _ _ _ h
  .rcases cU hv with⟨j,u,rfl,rfl⟩|⟨y,u,rfl,rfl⟩
   .rw[PP]at h;exact SeqAt.EqAt.str_int x t j u _ _ _ _ h
   .rw[PQ]at h;exact wpAny_eqBool_str h
 «strs»:=fun k x t v h=>by
  rcases cU h with⟨i,u,rfl,e⟩|⟨y,u,rfl,e⟩
  .exact nomatch e
  .injection e with e1 _
   subst e1
   cases v<;>rfl
theorem xG(prog:Program)(w:World)(i:Int)(t:Tok):(dU prog w).is (.inl i) (.int i t)=true:=Dv i t
theorem xH(prog:Program)(w:World)(x:Str)(t:Tok):(dU prog w).is (.inr x) (.str x t)=true:=Dw x t
end L2
namespace L2
open PySem PySem.Spec PyProof.Rows
inductive V where
 |non|bl(b:Bool)|int(i:Int)|str(x:Str)|byt(b:Array UInt8)|flt(b:UInt64)|ref(a:Addr)|ty(n:String)
 deriving DecidableEq
def RelV:V->Value->Prop
 | .non,u=>u=Value.none
 | .bl b,u=>u=Value.bool b
 | .int i,u=>∃t,u=Value.int i t
 | .str x,u=>∃t,u=Value.str x t
 | .byt b,u=>∃t,u=Value.bytes b t
 | .flt b,u=>∃t,u=Value.float b t
 | .ref a,u=>u=Value.ref a
 | .ty n,u=>u=Value.type n
abbrev Vals:List V->List Value->Prop:=Paired RelV
theorem Vals.length{xs:List V}{us:List Value}(r:Vals xs us):xs.length=us.length:=Paired.length r
theorem Vals.get:∀{xs:List V}{us:List Value}{i:Nat}{x:V},Vals xs us->xs[i]? =some x->∃u,us[i]? =some u/\RelV x u
 |_,_,_,_,.nil,e=>by simp at e
 |_,_,0,_,.cons r _,e=>by simp at e;subst e;exact⟨_,rfl,r⟩
 |_,_,i+1,x,.cons _ t,e=>by
  obtain⟨u,h1,h2⟩:=Vals.get (i:=i) (x:=x) t (by simpa using e)
  exact⟨u,by simpa using h1,h2⟩
theorem Vals.set{x:V}{u:Value}(r:RelV x u):∀{xs:List V}{us:List Value}(i:Nat),Vals xs us->Vals (xs.set i x) (us.set i u)
 |_,_,_,.nil=> .nil
 |_,_,0,.cons _ t=> .cons r t
 |_,_,i+1,.cons q t=> .cons q (Vals.set r i t)
theorem Vals.append:∀{xs ys:List V}{us ws:List Value},Vals xs us->Vals ys ws->Vals (xs++ys) (us++ws)
 |_,_,_,_,.nil,s=>s
 |_,_,_,_,.cons r t,s=> .cons r (Vals.append t s)
theorem Vals.take:∀{xs:List V}{us:List Value}(n:Nat),Vals xs us->Vals (xs.take n) (us.take n)
 |_,_,0,_=> .nil
 |_,_,_+1,.nil=> .nil
 |_,_,n+1,.cons r t=> .cons r (Vals.take n t)
theorem Vals.drop:∀{xs:List V}{us:List Value}(n:Nat),Vals xs us->Vals (xs.drop n) (us.drop n)
 |_,_,0,r=>r
 |_,_,_+1,.nil=> .nil
 |_,_,n+1,.cons _ t=>Vals.drop n t
def mZ:Option V->Option Value->Prop
 |some v,some u=>RelV v u
 |none,none=>True
 |_,_=>False
def KV{κ:Type}:List (κ×V)->List (κ×Value)->Prop:=Paired fun(p:κ×V)(q:κ×Value)=>p.1=q.1/\RelV p.2 q.2
def kV:Key->V
 | .inl i=> .int i
 | .inr x=> .str x
inductive HO where
  |lst(xs:List V)
  |tup(xs:List V)
  |dK(kvs:List (Key×V))|dT(kvs:List (List Key×V))
  |set(S:Int->Bool)(n:Nat)
  |ins(C dx:Addr)(fs:List (Str×V))
  |own(x:Addr)
  |xd(fs:List (Str×V))
  |met(f x:Addr)
  |rng(lo hi:Int)
  |frz(o:Obj)(u:HO)
  |tbl(ps:Array Value)
  |ext(φ:Heap->Prop)
abbrev Hp:=Addr->Option HO
def upd(H:Hp)(a:Addr)(o:HO):Hp:=fun b=>if b=a then some o else H b
theorem az{H:Hp}{a:Addr}{o:HO}:upd H a o a=some o:=by unfold upd;rw[if_pos rfl]
theorem aG{H:Hp}{a b:Addr}{o:HO}(h:b≠a):upd H a o b=H b:=by unfold upd;rw[if_neg h]
theorem bW{H:Hp}{a b:Addr}{o u:HO}(h:H a=some o)(h':H b=some u)(d:o≠u):a≠b:=by
 intro e;subst e;rw[h]at h';exact d (Option.some.inj h')
theorem aM{H:Hp}{a b:Addr}{o:HO}(h:H a=some o)(h':H b=none):a≠b:=by
 intro e;subst e;rw[h]at h';cases h'
section
variable (P:Program) (w:World)
def cI(H:Hp)(h:Heap)(a:Addr):HO->Prop
 | .lst xs=>xs.length<=sizeLine/\∃(its:List Value)(n:Nat),Vals xs its/\h.get? a=some {cls:= .type "list",data:= .seq its.toArray n}
 | .tup xs=>xs.length<=sizeLine/\∃its:List Value,Vals xs its/\IsTup h a its.toArray
 | .dK kvs=>kvs.length<=sizeLine/\(a==sysModules)=false/\∃vs,KV kvs vs/\h.DictOf (dU P w) a vs
 | .dT kvs=>kvs.length<=sizeLine/\(a==sysModules)=false/\∃xs:List (List Key×Addr×Value),
   Paired (fun(p:List Key×V)(q:List Key×Addr×Value)=>p.1=q.1/\H q.2.1=some (.tup (p.1.map kV))/\RelV p.2 q.2.2) kvs xs/\
   ∃o es ep,h.get? a=some o/\o.ExactDict/\o.data= .dict es ep/\es.toList=xs.map (entryOfKey (tupleKind (dU P w)))/\(xs.map (·.1)).Nodup
 | .set S n=>h.SetOf (intKind P w) a S n
 | .ins C dx fs=>H dx=some (.own a)/\fs.length<=1000/\dx≠a/\h.get? a=some (PySem.W.instObj C dx)/\
   ∃mA,h.Ns1 dx mA/\(∀f,mZ (fs.lookup f) (mA f))/\PySem.Within mA (fs.map (·.1))
 | .own _=>∃o,h.get? a=some o
 | .xd fs=>∃mA,h.Ns1 a mA/\∀f,mZ (fs.lookup f) (mA f)
 | .rng lo hi=>∃t u v,h.get? a=some {cls:= .type "range",data:= .fields #[.int lo t,.int hi u,.int 1 v]}
 | .frz o u=>h.get? a=some o/\cI H h a u
 | .tbl ps=>h.get? a=some {cls:= .none,data:= .fields ps}
 | .met f x=>h.get? a=some (PySem.W.methodObj (.ref f) (.ref x))
 | .ext φ=>φ h/\(∃o,h.get? a=some o)/\∀h1 h2:Heap,φ h1->(∀o,h1.get? a=some o->h2.get? a=some o)->φ h2
def mL(H:Hp)(h:Heap):Prop:=∀a o,H a=some o->cI P w H h a o
end
section
variable {P:Program} {w:World} {H H':Hp} {h h':Heap} {a:Addr} {o:HO}
theorem cI.lt(x:cI P w H h a o):a<h.objs.size:=by
 cases o with
 |lst xs=>obtain⟨_,_,_,_,e⟩:=x;exact Heap.lt_size e
 |tup xs=>obtain⟨_,_,_,p⟩:=x;exact p.lt
 |dK kvs=>obtain⟨_,_,_,_,o,_,_,e,_⟩:=x;exact Heap.lt_size e
 |dT kvs=>obtain⟨_,_,_,_,o,_,_,e,_⟩:=x;exact Heap.lt_size e
 |set S n=>obtain⟨o,_,_,_,e,_⟩:=x;exact Heap.lt_size e
 |ins C dx fs=>obtain⟨_,_,_,e,_⟩:=x;exact Heap.lt_size e
 |own y=>obtain⟨_,e⟩:=x;exact Heap.lt_size e
 |xd fs=>obtain⟨_,⟨_,_,_,e,_⟩,_⟩:=x;exact Heap.lt_size e
 |rng lo hi=>obtain⟨_,_,_,e⟩:=x;exact Heap.lt_size e
 |frz ob u=>obtain⟨e,_⟩:=x;exact Heap.lt_size e
 |tbl ps=>exact Heap.lt_size (show h.get? a=some _ from x)
 |met f y=>exact Heap.lt_size (show h.get? a=some _ from x)
 |ext φ=>obtain⟨_,⟨_,e⟩,_⟩:=x;exact Heap.lt_size e
theorem Paired.mapP{α β:Type}{F G:α->β->Prop}:∀{l₁:List α}{l₂:List β},Paired F l₁ l₂->(∀a b,F a b->G a b)->Paired G l₁ l₂
 |_,_,.nil,_=> .nil
 |_,_,.cons r t,f=> .cons (f _ _ r) (Paired.mapP t f)
theorem cI.stay(x:cI P w H h a o)(k:∀b u,(b=a\/H b=some (.own a))->h.get? b=some u->h'.get? b=some u)
  (ho:∀b,H b=some (.own a)->H' b=some (.own a))(ht:∀b xs,H b=some (.tup xs)->H' b=some (.tup xs)):cI P w H' h' a o:=by
 induction o with
 |lst xs=>obtain⟨z,its,n,r,e⟩:=x;exact⟨z,its,n,r,k _ _ (.inl rfl) e⟩
 |tup xs=>obtain⟨z,its,r,ob,e,c⟩:=x;exact⟨z,its,r,ob,k _ _ (.inl rfl) e,c⟩
 |dK kvs=>obtain⟨z,y,vs,r,ob,es,ep,e,c⟩:=x;exact⟨z,y,vs,r,ob,es,ep,k _ _ (.inl rfl) e,c⟩
 |dT kvs=>
  obtain⟨z,y,xs,r,ob,es,ep,e,c⟩:=x
  exact⟨z,y,xs,Paired.mapP r fun p q z=>⟨z.1,ht _ _ z.2.1,z.2.2⟩,ob,es,ep,k _ _ (.inl rfl) e,c⟩
 |set S n=>obtain⟨ob,es,ep,t,e,c⟩:=x;exact⟨ob,es,ep,t,k _ _ (.inl rfl) e,c⟩
 |ins C dx fs=>
  obtain⟨d,z,ne,e,mA,⟨od,es,ep,e2,c⟩,r⟩:=x
  exact⟨ho _ d,z,ne,k _ _ (.inl rfl) e,mA,⟨od,es,ep,k _ _ (.inr d) e2,c⟩,r⟩
 |own y=>obtain⟨ob,e⟩:=x;exact⟨ob,k _ _ (.inl rfl) e⟩
 |xd fs=>obtain⟨mA,⟨od,es,ep,e,c⟩,r⟩:=x;exact⟨mA,⟨od,es,ep,k _ _ (.inl rfl) e,c⟩,r⟩
 |rng lo hi=>obtain⟨t,u,v,e⟩:=x;exact⟨t,u,v,k _ _ (.inl rfl) e⟩
 |frz ob u ih=>obtain⟨e,q⟩:=x;exact⟨k _ _ (.inl rfl) e,ih q⟩
 |tbl ps=>
  have e:h.get? a=some {cls:= .none,data:= .fields ps}:=x
  show h'.get? a=some {cls:= .none,data:= .fields ps}
  exact k a _ (.inl rfl) e
 |met f y=>
  have e:h.get? a=some (PySem.W.methodObj (.ref f) (.ref y)):=x
  show h'.get? a=some (PySem.W.methodObj (.ref f) (.ref y))
  exact k a _ (.inl rfl) e
 |ext φ=>obtain⟨p,⟨o,e⟩,st⟩:=x;exact⟨st _ _ p fun o q=>k _ _ (.inl rfl) q,⟨o,k _ _ (.inl rfl) e⟩,st⟩
theorem mL.lt(x:mL P w H h)(e:H a=some o):a<h.objs.size:=(x a o e).lt
theorem mL.fresh(x:mL P w H h)(e:h.objs.size<=a):H a=none:=by
 cases q:H a with
 |none=>rfl
 |some u=>exact absurd (Nat.lt_of_lt_of_le (x.lt q) e) (Nat.lt_irrefl _)
theorem mL.kept(x:mL P w H h)(k:∀b u,h.get? b=some u->h'.get? b=some u):mL P w H h':=fun a o e=>
 (x a o e).stay (fun b u _ q=>k b u q) (fun _ q=>q) fun _ _ q=>q
theorem mL.laid(x:mL P w H h)(k:∀b u,h.get? b=some u->h'.get? b=some u)(hp:h.objs.size<=a)(new:cI P w (upd H a o) h' a o):mL P w (upd H a o) h':=fun b u e=>by
 have hn:=x.fresh hp
 by_cases hb:b=a
 .subst hb;rw[az]at e;cases e;exact new
 .rw[aG hb]at e
  exact(x b u e).stay (fun c v _ q=>k c v q) (fun c q=>by rw[aG (aM q hn)];exact q) fun c xs q=>by rw[aG (aM q hn)];exact q
end
def Rd(H:Hp)(a:Addr)(u:HO):Prop:=H a=some u\/∃o,H a=some (.frz o u)
theorem Rd.ok{P:Program}{w:World}{H:Hp}{h:Heap}{a:Addr}{u:HO}(r:Rd H a u)(x:mL P w H h):cI P w H h a u:=by
 rcases r with r|⟨o,r⟩
 .exact x a u r
 .obtain⟨_,q⟩:=x a _ r
  exact q
def RN:Option HO->Prop
 |some (.lst _)=>True
 |some (.dK _)=>True
 |some (.dT _)=>True
 |some (.set _ _)=>True
 |some (.ins _ _ _)=>True
 |some (.ext _)=>True
 |_=>False
section
variable {P:Program} {w:World} {H:Hp} {h h':Heap} {x e:Addr} {o':HO}
theorem mL.write(ok:mL P w H h)(mu:RN (H x))(he:e=x\/H e=some (.own x))(k:∀b u,b≠e->h.get? b=some u->h'.get? b=some u)(heo:∃u,h'.get? e=some u)
  (new:cI P w (upd H x o') h' x o'):mL P w (upd H x o') h':=fun b u q=>by
 have nown:∀c y,H c=some (.own y)->c≠x:=fun c y r z=>by subst z;rw[r]at mu;exact mu
 have ntup:∀c xs,H c=some (.tup xs)->c≠x:=fun c xs r z=>by subst z;rw[r]at mu;exact mu
 by_cases hb:b=x
 .subst hb;rw[az]at q;cases q;exact new
 .rw[aG hb]at q
  by_cases hbe:b=e
  .have q':H b=some (.own x):=by
    rcases he with z|z
    .exact absurd (hbe.trans z) hb
    .rw[hbe];exact z
   rw[q]at q';cases q'
   obtain⟨v,hv⟩:=heo
   exact⟨v,by rw[hbe];exact hv⟩
  .refine(ok b u q).stay (fun c v hc r=>k c v ?_ r) (fun c r=>by rw[aG (nown c b r)];exact r) fun c xs r=>by rw[aG (ntup c xs r)];exact r
   rcases hc with rfl|hc
   .exact hbe
   .rintro rfl
    rcases he with z|z
    .exact nown c b hc z
    .rw[hc]at z;cases z;exact hb rfl
end
structure Un(fs ex:List Addr)(H H':Hp)(h h':Heap):Prop where
 keep:∀b o,h.get? b=some o->H b=none->b∉fs->b∉ex->h'.get? b=some o
 slot:∀b o,h.get? b=some o->H b=none->b∈fs->b∉ex->∃sl,h'.get? b=some {o with slots:=sl}
 free:∀b o,h.get? b=some o->H b=none->b∉ex->H' b=none
 there:∀b o,h.get? b=some o->b∉ex->∃o',h'.get? b=some o'
 tups:∀b xs,H b=some (.tup xs)->H' b=some (.tup xs)
 frzs:∀b o u,H b=some (.frz o u)->H' b=some (.frz o u)
 tbls:∀b ps,H b=some (.tbl ps)->∃more,H' b=some (.tbl (ps++more))
section
variable {fs fs' ex ex':List Addr} {H H1 H2:Hp} {h h1 h2 h':Heap} {a x e:Addr} {o:HO}
theorem Un.any(u:Un fs ex H H1 h h1){b:Addr}{ob:Obj}(q:h.get? b=some ob)(n:H b=none)(hx:b∉ex):∃sl,h1.get? b=some {ob with slots:=sl}:=by
 by_cases hb:b∈fs
 .exact u.slot b ob q n hb hx
 .exact⟨ob.slots,u.keep b ob q n hb hx⟩
theorem Un.trans(a:Un fs ex H H1 h h1)(b:Un fs ex H1 H2 h1 h2):Un fs ex H H2 h h2 where
 keep:=fun c ob q n hc hx=>b.keep c ob (a.keep c ob q n hc hx) (a.free c ob q n hx) hc hx
 slot:=fun c ob q n hc hx=>by
  obtain⟨sl,e1⟩:=a.slot c ob q n hc hx
  obtain⟨sl',e2⟩:=b.slot c _ e1 (a.free c ob q n hx) hc hx
  exact⟨sl',e2⟩
 free:=fun c ob q n hx=>by
  obtain⟨o',e1⟩:=a.there c ob q hx
  exact b.free c o' e1 (a.free c ob q n hx) hx
 there:=fun c ob q hx=>by
  obtain⟨o',e1⟩:=a.there c ob q hx
  exact b.there c o' e1 hx
 tups:=fun c xs q=>b.tups c xs (a.tups c xs q)
 frzs:=fun c ob xs q=>b.frzs c ob xs (a.frzs c ob xs q)
 tbls:=fun c ps q=>by
  obtain⟨m1,e1⟩:=a.tbls c ps q
  obtain⟨m2,e2⟩:=b.tbls c _ e1
  exact⟨m1++m2,by rw[e2,Array.append_assoc]⟩
theorem Un.kept(k:∀b u,h.get? b=some u->h'.get? b=some u):Un fs ex H H h h':=
 ⟨fun b ob q _ _ _=>k b ob q,fun b ob q _ _ _=>⟨ob.slots,k b ob q⟩,fun _ _ _ n _=>n,fun b ob q _=>⟨ob,k b ob q⟩,fun _ _ q=>q,fun _ _ _ q=>q,fun _ ps q=>⟨#[],by rw[q];simp⟩⟩
theorem Un.refl:Un fs ex H H h h:=Un.kept fun _ _ q=>q
theorem Un.laid(k:∀b u,h.get? b=some u->h'.get? b=some u)(hp:h.objs.size<=a)(hn:H a=none):Un fs ex H (upd H a o) h h' where
 keep:=fun b u q _ _ _=>k b u q
 slot:=fun b u q _ _ _=>⟨u.slots,k b u q⟩
 free:=fun b u q n _=>by rw[aG (Nat.ne_of_lt (Nat.lt_of_lt_of_le (Heap.lt_size q) hp))];exact n
 there:=fun b u q _=>⟨u,k b u q⟩
 tups:=fun b xs q=>by rw[aG (aM q hn)];exact q
 frzs:=fun b u xs q=>by rw[aG (aM q hn)];exact q
 tbls:=fun b ps q=>⟨#[],by rw[aG (aM q hn),q];simp⟩
theorem Un.write(mu:RN (H x))(he:e=x\/H e=some (.own x))(k:∀b u,b≠e->h.get? b=some u->h'.get? b=some u)(heo:∃u,h'.get? e=some u):Un fs ex H (upd H x o) h h':=by
 have hx:∀b,H b=none->b≠x:=fun b n z=>by subst z;rw[n]at mu;exact mu
 have hb:∀b,H b=none->b≠e:=fun b n z=>by
  subst z
  rcases he with r|r
  .exact hx b n r
  .rw[n]at r;cases r
 have hm:∀b u,H b=some u->¬RN (some u)->b≠x:=fun b u q nm z=>by subst z;rw[q]at mu;exact nm mu
 refine⟨fun b u q n _ _=>k b u (hb b n) q,fun b u q n _ _=>⟨u.slots,k b u (hb b n) q⟩,fun b u q n _=>by rw[aG (hx b n)];exact n,fun b u q _=>?_,
  fun b xs q=>by rw[aG (hm b _ q fun z=>z)];exact q,fun b u xs q=>by rw[aG (hm b _ q fun z=>z)];exact q,fun b ps q=>⟨#[],by rw[aG (hm b _ q fun z=>z),q];simp⟩⟩
 by_cases hbe:b=e
 .subst hbe;exact heo
 .exact⟨u,k b u hbe q⟩
end
def Vf(h:Heap)(H:Hp):List Addr:=(List.range h.objs.size).filter fun a=>(H a).isSome
def sO(h:Heap)(H:Hp):Heap:=PySem.W.hideAll h (Vf h H)
theorem Dr(h:Heap)(H:Hp):(sO h H).objs.size=h.objs.size:=PySem.W.hideAll_size _ _
theorem Gw{h:Heap}{H:Hp}{b:Addr}{o:Obj}(e:h.get? b=some o)(n:H b=none):(sO h H).get? b=some o:=
 PySem.W.hideAll_get _ e fun hm=>by
  have q:(H b).isSome=true:=(List.mem_filter.mp hm).2
  rw[n]at q;simp at q
theorem Kv{h:Heap}{H:Hp}{b:Addr}{o:Obj}(e:(sO h H).get? b=some o):h.get? b=some o/\H b=none:=by
 have e':h.get? b=some o:=PySem.W.of_hideAll (Vf h H) e
 refine⟨e',?_⟩
 cases q:H b with
 |none=>rfl
 |some x=>
  have hm:b∈Vf h H:=List.mem_filter.mpr ⟨List.mem_range.mpr (Heap.lt_size e'),by simp[q]⟩
  have z:(sO h H).get? b=none:=PySem.W.hideAll_none (Vf h H) hm
  rw[z]at e;cases e
end L2
namespace L2
open PySem PySem.Spec PyProof.Rows
structure Mod(K:PySem.W.Frag)(mg:Str->Option Value)(base:Heap):Prop where
 kin:K.In base
 glob:base.Ns mainGlobals mg
 blt:∃mb,base.Ns builtinsNs mb/\∀x:Str,x≠"__name__"->mb x=bootBuiltins x
 nolimit:base.NoLimit
structure Cx where
 prog:Program
 w:World
 K:PySem.W.Frag
 mg:Str->Option Value
 base:Heap
 A:Around
 N:List Str
 s₀:Shared
 H₀:Hp
 env:Env
 outer:List Env
 stack:List Env
 ex:List Addr
 fn:Str->Bool
 calm:Bool
 pn:List (Addr×Obj)
 xe:Value->Shared->Prop
def frs(l:List Env):List Addr:=l.filterMap (·.frame)
abbrev Cx.fs(X:Cx):List Addr:=frs X.outer
def UL(sc:Scope)(x:Str):Prop:=sc.names.lookup x=some .local\/sc.names.lookup x=some .cell\/sc.names.lookup x=some .free
def Loc(sc:Scope)(x:Str):Prop:=sc.names.lookup x=some .local\/sc.names.lookup x=some .cell
def Look(env:Env)(h:Heap)(m:Str->Option Value)(x:Str)(u:Value):Prop:=
 (env.kindOf x=some .local/\m x=some u)\/((env.kindOf x=some .cell\/env.kindOf x=some .free)/\∃c,env.cells.lookup x=some c/\h.IsCell c (some u))
structure Cx.Ok(X:Cx):Prop where
 mod:Mod X.K X.mg X.base
 kind:X.env.scope.kind= .function
 glob:X.env.globals=mainGlobals
 blt:X.env.builtins=builtinsNs
 above:X.s₀.heap.objs.size<=X.env.locals
 inj:∀x y c,X.env.cells.lookup x=some c->X.env.cells.lookup y=some c->x=y
 has:∀x,(X.env.kindOf x=some .cell\/X.env.kindOf x=some .free)->∃c,X.env.cells.lookup x=some c
 cab:∀x c,X.fn x=true->X.env.cells.lookup x=some c->X.s₀.heap.objs.size<=c
 hd:X.calm=true->X.A.handled=none
 frames:X.A.frames=some X.stack
 stk:X.stack=X.outer\/(X.stack=X.env::X.outer/\X.env.frame=some X.env.locals)
 exf:∀b∈X.ex,b≠X.env.locals/\∀x c,X.env.cells.lookup x=some c->c≠b
 bs:∀b o,X.base.get? b=some o->X.s₀.heap.get? b=some o/\X.H₀ b=none
 bsz:X.base.objs.size<=X.s₀.heap.objs.size
 noex:∀b o,X.base.get? b=some o->b∉X.ex
 exfs:∀b∈X.ex,b∉X.fs
 funs:X.s₀.heap.FunFrames X.base X.outer
 frf:∀b∈X.fs,X.H₀ b=none
structure Inv(X:Cx)(pins:List (Addr×Obj))(σ:List (Option V))(H:Hp)(s:Shared):Prop where
 ok:X.Ok
 os:s.os=X.s₀.os
 bare:AllBare s.gens
 base:Un X.fs X.ex X.H₀ H X.s₀.heap s.heap
 loc:∃m,s.heap.Ns X.env.locals m/\∀(i:Nat)(x:Str)(v:V),X.N[i]? =some x->σ[i]? =some (some v)->UL X.env.scope x->∃u,RelV v u/\Look X.env s.heap m x u
 cell:∀x c,X.env.cells.lookup x=some c->∃v,s.heap.IsCell c v
 free:H X.env.locals=none
 freeC:∀x c,X.env.cells.lookup x=some c->H c=none
 pin:∀p∈X.pn++pins,s.heap.get? p.1=some p.2/\H p.1=none/\p.1≠X.env.locals/\p.1∉X.fs/\∀v,p.2.data≠ .cell v
 hok:mL X.prog X.w H s.heap
 len:σ.length=X.N.length
section
variable {X:Cx} {pins:List (Addr×Obj)} {σ:List (Option V)} {H H':Hp} {s:Shared} {h':Heap}
theorem Cx.Ok.nofr(ok:X.Ok){b:Addr}{o:Obj}(e:X.base.get? b=some o):b∉X.fs:=fun hb=>by
 have:=(ok.funs.mem hb).1
 rw[e]at this;cases this
theorem Inv.bs(I:Inv X pins σ H s):∀b o,X.base.get? b=some o->s.heap.get? b=some o/\H b=none:=fun b o e=>
 ⟨I.base.keep b o (I.ok.bs b o e).1 (I.ok.bs b o e).2 (I.ok.nofr e) (I.ok.noex b o e),I.base.free b o (I.ok.bs b o e).1 (I.ok.bs b o e).2 (I.ok.noex b o e)⟩
theorem Inv.bk(I:Inv X pins σ H s):∀b o,X.base.get? b=some o->s.heap.get? b=some o:=fun b o e=>(I.bs b o e).1
theorem Inv.mod(I:Inv X pins σ H s):Mod X.K X.mg X.base:=I.ok.mod
theorem Inv.kIn(I:Inv X pins σ H s):X.K.In s.heap:=I.ok.mod.kin.keeps I.bk
theorem Inv.lt(I:Inv X pins σ H s):X.env.locals<s.heap.objs.size:=let⟨_,hn,_⟩:=I.loc;hn.lt
theorem Inv.sz(I:Inv X pins σ H s):X.s₀.heap.objs.size<=s.heap.objs.size:=Nat.le_trans I.ok.above (Nat.le_of_lt I.lt)
theorem Inv.nofs(I:Inv X pins σ H s){a:Addr}(h:s.heap.objs.size<=a):a∉X.fs:=fun hb=>by
 obtain⟨_,o,ho,_⟩:=I.ok.funs.mem hb
 exact absurd (Nat.lt_of_lt_of_le (Heap.lt_size ho) (Nat.le_trans I.sz h)) (Nat.lt_irrefl _)
theorem Inv.cne(I:Inv X pins σ H s):∀x c,X.env.cells.lookup x=some c->c≠X.env.locals:=fun x c e z=>by
 obtain⟨v,o,ho,hd⟩:=I.cell x c e
 obtain⟨m,⟨o',es,ep,ho',hd',_⟩,_⟩:=I.loc
 rw[z,ho']at ho;cases ho;rw[hd']at hd;cases hd
theorem Inv.funs(I:Inv X pins σ H s):s.heap.FunFrames X.base X.outer:=by
 have all:∀(l:List Env),(∀b∈frs l,b∈X.fs)->X.s₀.heap.FunFrames X.base l->s.heap.FunFrames X.base l:=by
  intro l
  induction l with
  |nil=>intro _ _;trivial
  |cons env r ih=>
   intro hs hl
   obtain⟨hk,⟨L,o,hf,hn,ho,hd⟩,hr⟩:=hl
   have hL:L∈X.fs:=hs L (by unfold frs;rw[List.filterMap_cons,hf];exact List.mem_cons_self)
   obtain⟨sl,e⟩:=I.base.slot L o ho (I.ok.frf L hL) hL fun z=>I.ok.exfs L z hL
   exact⟨hk,⟨L,_,hf,hn,e,hd⟩,ih (fun b hb=>hs b (by unfold frs;rw[List.filterMap_cons,hf];exact List.mem_cons_of_mem _ hb)) hr⟩
 exact all X.outer (fun _ hb=>hb) I.ok.funs
theorem Inv.stack(I:Inv X pins σ H s):s.heap.FunFrames X.base X.stack:=by
 rcases I.ok.stk with e|⟨e,hf⟩
 .rw[e];exact I.funs
 .rw[e]
  obtain⟨m,hn,_⟩:=I.loc
  refine .cons (by rw[I.ok.kind];decide) hf hn ?_ I.funs
  exact Heap.get?_none_of_le (Nat.le_trans I.ok.bsz I.ok.above)
theorem Inv.stkSub(I:Inv X pins σ H s):∀b∈frs X.stack,b∈X.env.locals::X.fs:=fun b hb=>by
 rcases I.ok.stk with e|⟨e,hf⟩
 .rw[e]at hb;exact List.mem_cons_of_mem _ hb
 .rw[e]at hb
  unfold frs at hb
  rw[List.filterMap_cons,hf]at hb
  exact hb
theorem Inv.stkFree(I:Inv X pins σ H s):∀b∈frs X.stack,H b=none:=fun b hb=>by
 rcases List.mem_cons.mp (I.stkSub b hb)with e|hb
 .rw[e];exact I.free
 .obtain⟨_,o,ho,_⟩:=I.ok.funs.mem hb
  exact I.base.free b o ho (I.ok.frf b hb) fun z=>I.ok.exfs b z hb
theorem Inv.step{g':Array GenState}{t':Nat}{d':Drawn}{ch:List Addr}(I:Inv X pins σ H s)
  (hch:∀b∈ch,(b∈X.ex\/X.s₀.heap.objs.size<=b)/\b≠X.env.locals/\(∀x c,X.env.cells.lookup x=some c->c≠b)/\∀p∈X.pn++pins,p.1≠b)
  (keep:∀b o,b≠X.env.locals->b∉X.fs->b∉ch->s.heap.get? b=some o->H b=none->h'.get? b=some o)
  (slot:∀b o,b≠X.env.locals->b∈X.fs->b∉ch->s.heap.get? b=some o->H b=none->∃sl,h'.get? b=some {o with slots:=sl})(free:∀b o,b∉ch->s.heap.get? b=some o->H b=none->H' b=none)
  (there:∀b o,b∉ch->s.heap.get? b=some o->∃o',h'.get? b=some o')
  (tups:∀b xs,H b=some (.tup xs)->H' b=some (.tup xs))(frzs:∀b o u,H b=some (.frz o u)->H' b=some (.frz o u))(tbls:∀b ps,H b=some (.tbl ps)->∃more,H' b=some (.tbl (ps++more)))
  (ns:∀m,s.heap.Ns X.env.locals m->h'.Ns X.env.locals m)(hok:mL X.prog X.w H' h')(hg:AllBare g'):
  Inv X pins σ H' {s with heap:=h',gens:=g',drawn:=d',toks:=t'}:=by
 have neL:∀b o,X.s₀.heap.get? b=some o->b≠X.env.locals:=fun b o e=>Nat.ne_of_lt (Nat.lt_of_lt_of_le (Heap.lt_size e) I.ok.above)
 have neC:∀b o,X.s₀.heap.get? b=some o->b∉X.ex->b∉ch:=fun b o e hx hb=>by
  rcases(hch b hb).1 with z|z
  .exact hx z
  .exact absurd (Nat.lt_of_lt_of_le (Heap.lt_size e) z) (Nat.lt_irrefl _)
 have cellK:∀x c,X.env.cells.lookup x=some c->∀v,s.heap.IsCell c v->h'.IsCell c v:=fun x c e v⟨o,ho,hd⟩=>by
  have nch:c∉ch:=fun z=>(hch c z).2.2.1 x c e rfl
  by_cases hc:c∈X.fs
  .obtain⟨sl,q⟩:=slot c o (I.cne x c e) hc nch ho (I.freeC x c e)
   exact⟨_,q,hd⟩
  .exact⟨o,keep c o (I.cne x c e) hc nch ho (I.freeC x c e),hd⟩
 refine⟨I.ok,I.os,hg,⟨fun b o e n hb hx=>?_,fun b o e n hb hx=>?_,fun b o e n hx=>?_,fun b o e hx=>?_,fun b xs e=>tups b xs (I.base.tups b xs e),fun b o xs e=>frzs b o xs (I.base.frzs b o xs e),fun b ps e=>?_⟩,?_,fun x c e=>?_,?_,fun x c e=>?_,fun p hp=>?_,hok,I.len⟩
 .exact keep b o (neL b o e) hb (neC b o e hx) (I.base.keep b o e n hb hx) (I.base.free b o e n hx)
 .obtain⟨sl,e1⟩:=I.base.slot b o e n hb hx
  obtain⟨sl',e2⟩:=slot b _ (neL b o e) hb (neC b o e hx) e1 (I.base.free b o e n hx)
  exact⟨sl',e2⟩
 .obtain⟨o',e1⟩:=I.base.there b o e hx
  exact free b o' (neC b o e hx) e1 (I.base.free b o e n hx)
 .obtain⟨o',e1⟩:=I.base.there b o e hx
  exact there b o' (neC b o e hx) e1
 .obtain⟨m1,e1⟩:=I.base.tbls b ps e
  obtain⟨m2,e2⟩:=tbls b _ e1
  exact⟨m1++m2,by rw[e2,Array.append_assoc]⟩
 .obtain⟨m,hn,hl⟩:=I.loc
  refine⟨m,ns m hn,fun i x v e1 e2 e3=>?_⟩
  obtain⟨u,r,l⟩:=hl i x v e1 e2 e3
  refine⟨u,r,?_⟩
  rcases l with l|⟨k,c,e,z⟩
  .exact .inl l
  .exact .inr ⟨k,c,e,cellK x c e _ z⟩
 .obtain⟨v,z⟩:=I.cell x c e
  exact⟨v,cellK x c e v z⟩
 .obtain⟨m,⟨o,_,_,ho,_⟩,_⟩:=I.loc
  exact free _ o (fun z=>(hch _ z).2.1 rfl) ho I.free
 .obtain⟨v,o,ho,hd⟩:=I.cell x c e
  exact free c o (fun z=>(hch c z).2.2.1 x c e rfl) ho (I.freeC x c e)
 .obtain⟨e,n,ne,nf,d⟩:=I.pin p hp
  have nch:p.1∉ch:=fun z=>(hch p.1 z).2.2.2 p hp rfl
  exact⟨keep p.1 p.2 ne nf nch e n,free p.1 p.2 nch e n,ne,nf,d⟩
theorem Inv.un{t':Nat}(I:Inv X pins σ H s)(u:Un X.fs [] H H' s.heap h')(hok:mL X.prog X.w H' h'):Inv X pins σ H' {s with heap:=h',toks:=t'}:=by
 obtain⟨m,⟨o,es,ep,ho,r⟩,_⟩:=id I.loc
 obtain⟨sl,hL⟩:=u.any ho I.free (by simp)
 exact I.step (g':=s.gens) (d':=s.drawn) (ch:=[]) (fun _ z=>nomatch z) (fun b o _ hb _ e n=>u.keep b o e n hb (by simp)) (fun b o _ hb _ e n=>u.slot b o e n hb (by simp)) (fun b o _ e n=>u.free b o e n (by simp)) (fun b o _ e=>u.there b o e (by simp)) u.tups u.frzs u.tbls (fun m' hm=>by
  obtain⟨o',es',ep',ho',r'⟩:=hm
  rw[ho]at ho';cases ho'
  exact⟨_,es',ep',hL,r'⟩) hok I.bare
theorem Inv.call{g':Array GenState}{t':Nat}{d':Drawn}{ch:List Addr}(I:Inv X pins σ H s)(u:Un (frs X.stack) ch H H' s.heap h')(hok:mL X.prog X.w H' h')(hg:AllBare g')
  (hch:∀b∈ch,(b∈X.ex\/X.s₀.heap.objs.size<=b)/\b≠X.env.locals/\(∀x c,X.env.cells.lookup x=some c->c≠b)/\∀p∈X.pn++pins,p.1≠b):
  Inv X pins σ H' {s with heap:=h',gens:=g',drawn:=d',toks:=t'}:=by
 obtain⟨m,⟨o,es,ep,ho,r⟩,_⟩:=id I.loc
 obtain⟨sl,hL⟩:=u.any ho I.free fun z=>(hch _ z).2.1 rfl
 exact I.step (ch:=ch) hch (fun b o hL hb hc e n=>u.keep b o e n (fun z=>(List.mem_cons.mp (I.stkSub b z)).elim hL hb) hc) (fun b o _ _ hc e n=>u.any e n hc) (fun b o hc e n=>u.free b o e n hc) (fun b o hc e=>u.there b o e hc) u.tups u.frzs u.tbls (fun m' hm=>by
  obtain⟨o',es',ep',ho',r'⟩:=hm
  rw[ho]at ho';cases ho'
  exact⟨_,es',ep',hL,r'⟩) hok hg
theorem Inv.turned{t':Nat}{it:Addr}(I:Inv X pins σ H s)(k:∀b o,b≠it->s.heap.get? b=some o->h'.get? b=some o)(hn:H it=none)(hL:it≠X.env.locals)
  (h1:it∈X.ex\/X.s₀.heap.objs.size<=it)(h2:∀x c,X.env.cells.lookup x=some c->c≠it)(h3:∀p∈X.pn++pins,p.1≠it):Inv X pins σ H {s with heap:=h',toks:=t'}:=by
 have nit:∀b u,H b=some u->b≠it:=fun b u e z=>by rw[z,hn]at e;cases e
 refine I.step (g':=s.gens) (d':=s.drawn) (ch:=[it]) (fun b hb=>?_) (fun b o _ _ hc e _=>k b o (fun z=>hc (by simp[z])) e) (fun b o _ _ hc e _=>⟨o.slots,k b o (fun z=>hc (by simp[z])) e⟩) (fun _ _ _ _ n=>n)
  (fun b o hc e=>⟨o,k b o (fun z=>hc (by simp[z])) e⟩) (fun _ _ e=>e) (fun _ _ _ e=>e) (fun b ps e=>⟨#[],by rw[e];simp⟩) (fun m hm=>?_) (fun b u e=>?_) I.bare
 .have e:b=it:=by simpa using hb
  subst e
  exact⟨h1,hL,h2,h3⟩
 .obtain⟨o,es,ep,ho,r⟩:=hm
  exact⟨o,es,ep,k _ o (Ne.symm hL) ho,r⟩
 .refine(I.hok b u e).stay (fun c v hc q=>k c v ?_ q) (fun _ q=>q) fun _ _ q=>q
  rcases hc with z|z
  .rw[z];exact nit b u e
  .exact nit c _ z
theorem Inv.tok(I:Inv X pins σ H s)(t:Nat):Inv X pins σ H {s with toks:=t}:=I.un (h':=s.heap) (t':=t) Un.refl I.hok
theorem Inv.kept{t':Nat}(I:Inv X pins σ H s)(k:∀b u,s.heap.get? b=some u->h'.get? b=some u):Inv X pins σ H {s with heap:=h',toks:=t'}:=I.un (Un.kept k) (I.hok.kept k)
theorem Inv.laid{a:Addr}{o:HO}{t':Nat}(I:Inv X pins σ H s)(k:∀b u,s.heap.get? b=some u->h'.get? b=some u)(hp:s.heap.objs.size<=a)(new:cI X.prog X.w (upd H a o) h' a o):
  Inv X pins σ (upd H a o) {s with heap:=h',toks:=t'}:=I.un (Un.laid k hp (I.hok.fresh hp)) (I.hok.laid k hp new)
theorem Inv.write{x e:Addr}{o:HO}{t':Nat}(I:Inv X pins σ H s)(mu:RN (H x))(he:e=x\/H e=some (.own x))(k:∀b u,b≠e->s.heap.get? b=some u->h'.get? b=some u)(heo:∃u,h'.get? e=some u)
  (new:cI X.prog X.w (upd H x o) h' x o):Inv X pins σ (upd H x o) {s with heap:=h',toks:=t'}:=I.un (Un.write mu he k heo) (I.hok.write mu he k heo new)
theorem Inv.pins_of{pins':List (Addr×Obj)}(I:Inv X pins σ H s)(h:∀p∈pins',s.heap.get? p.1=some p.2/\H p.1=none/\p.1≠X.env.locals/\p.1∉X.fs/\∀v,p.2.data≠ .cell v):Inv X pins' σ H s:=
 ⟨I.ok,I.os,I.bare,I.base,I.loc,I.cell,I.free,I.freeC,fun p hp=>(List.mem_append.mp hp).elim (fun z=>I.pin p (List.mem_append_left _ z)) (h p),I.hok,I.len⟩
theorem xK{N:List Str}(hN:N.Nodup){i j:Nat}{x:Str}(a:N[i]? =some x)(b:N[j]? =some x):i=j:=by
 obtain⟨h1,e1⟩:=List.getElem?_eq_some_iff.mp a
 obtain⟨h2,e2⟩:=List.getElem?_eq_some_iff.mp b
 exact(List.getElem_inj hN).mp (e1.trans e2.symm)
theorem uQ{M:Model}{A:Around}{E:Value->Shared->Prop}{i:Nat}{x:Str}{v:V}{u:Value}{Q:Unit->Shared->Prop}(I:Inv X pins σ H s)(hN:X.N.Nodup)(hi:X.N[i]? =some x)(hx:Loc X.env.scope x)(r:RelV v u)
  (h:∀s',Inv X pins (σ.set i (some v)) H s'->(∃a,Heap.SameBut a s.heap s'.heap/\(a=X.env.locals\/X.env.cells.lookup x=some a))->Q () s')(hf:X.fn x=true\/X.env.scope.names.lookup x=some .local:=by first|exact .inl rfl|exact .inr rfl|assumption):wpAny M A (storeName X.env x u) Q E s:=by
 obtain⟨m,hn,hl⟩:=id I.loc
 have hcls:(X.env.scope.kind== .class||(X.env.scope.kind== .module&&X.env.locals != X.env.globals))=false:=by rw[I.ok.kind];rfl
 have hiσ:i<σ.length:=by rw[I.len];exact(List.getElem?_eq_some_iff.mp hi).1
 have cne:=I.cne
 have tracked:∀{a:Addr}{h':Heap},(∃o,s.heap.get? a=some o/\H a=none)->Heap.SameBut a s.heap h'->mL X.prog X.w H h':=fun{a h'}ha hs b ob e=>by
  obtain⟨_,_,hfree⟩:=ha
  refine(I.hok b ob e).stay (fun c w' hc q=>(hs.2 c ?_).trans q) (fun _ q=>q) fun _ _ q=>q
  rintro rfl
  rcases hc with rfl|hc
  .rw[hfree]at e;cases e
  .rw[hfree]at hc;cases hc
 rcases hx with hk|hk
 .refine wpAny_storeName_local hk hn (fun h' hn' hs=>?_) hcls
  obtain⟨oL,_,_,hoL,_⟩:=id hn
  refine h _ ⟨I.ok,I.os,I.bare,⟨fun b o e n hb hx=>?_,fun b o e n hb hx=>?_,I.base.free,fun b o e hx=>?_,I.base.tups,I.base.frzs,I.base.tbls⟩,⟨_,hn',fun j y v' e1 e2 e3=>?_⟩,fun y c e=>?_,I.free,I.freeC,fun p hp=>?_,tracked ⟨oL,hoL,I.free⟩ hs,by simpa using I.len⟩ ⟨_,hs,.inl rfl⟩
  .exact(hs.2 b (Nat.ne_of_lt (Nat.lt_of_lt_of_le (Heap.lt_size e) I.ok.above))).trans (I.base.keep b o e n hb hx)
  .obtain⟨sl,e1⟩:=I.base.slot b o e n hb hx
   exact⟨sl,(hs.2 b (Nat.ne_of_lt (Nat.lt_of_lt_of_le (Heap.lt_size e) I.ok.above))).trans e1⟩
  .obtain⟨o',e1⟩:=I.base.there b o e hx
   exact⟨o',(hs.2 b (Nat.ne_of_lt (Nat.lt_of_lt_of_le (Heap.lt_size e) I.ok.above))).trans e1⟩
  .by_cases hj:j=i
   .subst hj
    rw[hi]at e1;cases e1
    rw[List.getElem?_set_self hiσ]at e2
    cases e2
    exact⟨u,r,.inl ⟨hk,by simp⟩⟩
   .rw[List.getElem?_set_ne (Ne.symm hj)]at e2
    obtain⟨u',r',q⟩:=hl j y v' e1 e2 e3
    refine⟨u',r',?_⟩
    rcases q with⟨k,e⟩|⟨k,c,e,z⟩
    .refine .inl ⟨k,?_⟩
     have:y≠x:=fun e=>hj (xK hN e1 (e▸hi))
     simp[this,e]
    .exact .inr ⟨k,c,e,z.sameBut hs (cne y c e)⟩
  .obtain⟨w',z⟩:=I.cell y c e
   exact⟨w',z.sameBut hs (cne y c e)⟩
  .obtain⟨e,n,ne,nf,d⟩:=I.pin p hp
   exact⟨(hs.2 p.1 ne).trans e,n,ne,nf,d⟩
 .have hfn:X.fn x=true:=by
   rcases hf with z|z
   .exact z
   .rw[z]at hk;cases hk
  obtain⟨c,hc⟩:=I.ok.has x (.inl hk)
  obtain⟨w',z⟩:=I.cell x c hc
  refine wpAny_storeName_cell I.ok.kind hk hc z (fun h' hc' hs=>?_)
  obtain⟨oc,hoc,hocd⟩:=id z
  refine h {s with heap:=h'} ⟨I.ok,I.os,I.bare,⟨fun b o e n hb hx=>?_,fun b o e n hb hx=>?_,I.base.free,fun b o e hx=>?_,I.base.tups,I.base.frzs,I.base.tbls⟩,⟨m,hn.sameBut hs (Ne.symm (cne x c hc)),fun j y v' e1 e2 e3=>?_⟩,fun y c' e=>?_,I.free,I.freeC,fun p hp=>?_,tracked ⟨oc,hoc,I.freeC x c hc⟩ hs,by simpa using I.len⟩ ⟨c,hs,.inr hc⟩
  .exact(hs.2 b (Nat.ne_of_lt (Nat.lt_of_lt_of_le (Heap.lt_size e) (I.ok.cab x c hfn hc)))).trans (I.base.keep b o e n hb hx)
  .obtain⟨sl,e1⟩:=I.base.slot b o e n hb hx
   exact⟨sl,(hs.2 b (Nat.ne_of_lt (Nat.lt_of_lt_of_le (Heap.lt_size e) (I.ok.cab x c hfn hc)))).trans e1⟩
  .obtain⟨o',e1⟩:=I.base.there b o e hx
   exact⟨o',(hs.2 b (Nat.ne_of_lt (Nat.lt_of_lt_of_le (Heap.lt_size e) (I.ok.cab x c hfn hc)))).trans e1⟩
  .by_cases hj:j=i
   .subst hj
    rw[hi]at e1;cases e1
    rw[List.getElem?_set_self hiσ]at e2
    cases e2
    exact⟨u,r,.inr ⟨.inl hk,c,hc,hc'⟩⟩
   .rw[List.getElem?_set_ne (Ne.symm hj)]at e2
    obtain⟨u',r',q⟩:=hl j y v' e1 e2 e3
    refine⟨u',r',?_⟩
    rcases q with q|⟨k,c',e,z'⟩
    .exact .inl q
    .refine .inr ⟨k,c',e,z'.sameBut hs ?_⟩
     rintro rfl
     exact hj (xK hN e1 (I.ok.inj _ _ _ e hc▸hi))
  .by_cases hcc:c'=c
   .subst hcc;exact⟨_,hc'⟩
   .obtain⟨w2,z2⟩:=I.cell y c' e
    exact⟨w2,z2.sameBut hs hcc⟩
  .obtain⟨e,n,ne,nf,d⟩:=I.pin p hp
   refine⟨(hs.2 p.1 ?_).trans e,n,ne,nf,d⟩
   intro q
   rw[q,hoc]at e
   have q':oc=p.2:=Option.some.inj e
   exact d w' (by rw[<-q'];exact hocd)
theorem mK{M:Model}{A:Around}{E:Value->Shared->Prop}{i:Nat}{x:Str}{v:V}{u:Value}{Q:Unit->Shared->Prop}(I:Inv X pins σ H s)(hN:X.N.Nodup)(hi:X.N[i]? =some x)(hx:Loc X.env.scope x)(r:RelV v u)
  (h:∀s',Inv X pins (σ.set i (some v)) H s'->Q () s')(hf:X.fn x=true\/X.env.scope.names.lookup x=some .local:=by first|exact .inl rfl|exact .inr rfl|assumption):wpAny M A (storeName X.env x u) Q E s:=
 uQ I hN hi hx r (fun s' I' _=>h s' I') hf
theorem Inv.call'{s':Shared}{ch:List Addr}(I:Inv X pins σ H s)(ho:s'.os=s.os)(u:Un (frs X.stack) ch H H' s.heap s'.heap)(hok:mL X.prog X.w H' s'.heap)(hg:AllBare s'.gens)
  (hch:∀b∈ch,(b∈X.ex\/X.s₀.heap.objs.size<=b)/\b≠X.env.locals/\(∀x c,X.env.cells.lookup x=some c->c≠b)/\∀p∈X.pn++pins,p.1≠b):Inv X pins σ H' s':=by
 obtain⟨h',g',d',t',o'⟩:=s'
 have e:o'=s.os:=ho
 subst e
 exact I.call (g':=g') (t':=t') (d':=d') u hok hg hch
end
abbrev XK:=Value->Option Addr->Hp->Prop
abbrev St:=List (Option V)
abbrev VK:=V->Hp->Prop
abbrev TE:=St->Hp->VK->Prop
abbrev TT:=St->Hp->(Bool->Hp->Prop)->Prop
abbrev TA:=St->Hp->(List V->Hp->Prop)->Prop
structure Ends where
 nx:St->Hp->Prop
 rt:VK
 bk:St->Hp->Prop:=fun _ _=>False
 ct:St->Hp->Prop:=fun _ _=>False
abbrev TS:=Ends->St->Hp->Prop
def EP(X:Cx)(pins:List (Addr×Obj))(σ:St)(Q:VK)(u:Value)(s':Shared):Prop:=∃v H',Inv X pins σ H' s'/\RelV v u/\Q v H'
def TP(X:Cx)(pins:List (Addr×Obj))(σ:St)(Q:Bool->Hp->Prop)(b:Bool)(s':Shared):Prop:=∃H',Inv X pins σ H' s'/\Q b H'
def AP(X:Cx)(pins:List (Addr×Obj))(σ:St)(Q:List V->Hp->Prop)(us:List Value)(s':Shared):Prop:=∃vs H',Inv X pins σ H' s'/\Vals vs us/\Q vs H'
def SP(X:Cx)(pins:List (Addr×Obj))(D:Ends)(f:Flow)(s':Shared):Prop:=
 match f with
 | .next=>∃σ' H',Inv X pins σ' H' s'/\D.nx σ' H'
 | .brk=>∃σ' H',Inv X pins σ' H' s'/\D.bk σ' H'
 | .cont=>∃σ' H',Inv X pins σ' H' s'/\D.ct σ' H'
 | .ret u=>∃v σ' H',Inv X pins σ' H' s'/\RelV v u/\D.rt v H'
def PE(X:Cx)(e:Expr)(t:TE):Prop:=
 ∀(pins:List (Addr×Obj))(s:Shared)(σ:St)(H:Hp)(Q:VK),Inv X pins σ H s->t σ H Q->wpAny (model X.prog X.w) X.A (eval e X.env) (EP X pins σ Q) X.xe s
def PT(X:Cx)(e:Expr)(t:TT):Prop:=
 ∀(pins:List (Addr×Obj))(s:Shared)(σ:St)(H:Hp)(Q:Bool->Hp->Prop),Inv X pins σ H s->t σ H Q->wpAny (model X.prog X.w) X.A (isTrue e X.env (eval e X.env)) (TP X pins σ Q) X.xe s
def PW(X:Cx)(e:Expr)(t:TT):Prop:=
 ∀(whole:Sem Value)(pins:List (Addr×Obj))(s:Shared)(σ:St)(H:Hp)(Q:Bool->Hp->Prop),Inv X pins σ H s->t σ H Q->wpAny (model X.prog X.w) X.A (isTrue e X.env whole) (TP X pins σ Q) X.xe s
theorem PW.pt{X:Cx}{e:Expr}{t:TT}(h:PW X e t):PT X e t:=h _
def PA(X:Cx)(es:List Expr)(t:TA):Prop:=
 ∀(pos:Pos)(pins:List (Addr×Obj))(s:Shared)(σ:St)(H:Hp)(Q:List V->Hp->Prop),Inv X pins σ H s->t σ H Q->wpAny (model X.prog X.w) X.A (spliced (backTo pos (starEach es X.env))) (AP X pins σ Q) X.xe s
def PS(X:Cx)(st:Stmt)(t:TS):Prop:=
 ∀(pins:List (Addr×Obj))(s:Shared)(σ:St)(H:Hp)(D:Ends),Inv X pins σ H s->t D σ H->wpAny (model X.prog X.w) X.A (exec st X.env) (SP X pins D) X.xe s
def lC(X:Cx)(st:List Stmt)(t:TS):Prop:=
 ∀(pins:List (Addr×Obj))(s:Shared)(σ:St)(H:Hp)(D:Ends),Inv X pins σ H s->t D σ H->wpAny (model X.prog X.w) X.A (execs st X.env) (SP X pins D) X.xe s
theorem cZ{α:Type}{t:Sem α}{Q Q':α->Shared->Prop}{M:Model}{A:Around}{E:Value->Shared->Prop}{s:Shared}(h:wpAny M A t Q E s)(hQ:∀a s,Q a s->Q' a s):wpAny M A t Q' E s:=wpAny_mono h hQ fun _ _ x=>x
end L2
namespace L2
open PySem PySem.Spec PyProof.Rows
section
variable {X:Cx}
def Us(i:Nat):TE:=fun σ H Q=>∃v,σ[i]? =some (some v)/\Q v H
def tC(v:V):TE:=fun _ H Q=>Q v H
theorem Qv{i:Nat}{x:Str}{pos:Pos}(hN:X.N[i]? =some x)(hv:UL X.env.scope x)(hd:(x==("__debug__":Str))=false:=by decide)(hcd:(x==("__classdict__":Str))=false:=by decide):PE X (.Name x pos) (Us i):=by
 intro pins s σ H Q I h
 obtain⟨v,e,h⟩:=h
 obtain⟨m,hn,hl⟩:=I.loc
 obtain⟨u,r,l⟩:=hl i x v hN e hv
 have fin:EP X pins σ Q u s:=⟨v,H,I,r,h⟩
 rcases l with⟨hk,hm⟩|⟨hk,c,hc,hcell⟩
 .exact wpAny_Name (wpAny_loadName_local I.ok.kind hk hn hm fin) hd
 .rcases hk with hk|hk
  .exact wpAny_Name (wpAny_loadName_cell I.ok.kind hk hc hcell fin) hd
  .exact wpAny_Name (wpAny_loadName_free I.ok.kind hk hc hcell fin hcd) hd
theorem ao{i j pos}:PE X (.Constant (.int i) j pos) (tC (.int i)):=fun _ _ _ H _ I h=>wpAny_Constant_int ⟨.int i,H,I.tok _,⟨_,rfl⟩,h⟩
theorem xP{b j pos}:PE X (.Constant (.bool b) j pos) (tC (.bl b)):=fun _ _ _ H _ I h=>Constant_bool ⟨.bl b,H,I,rfl,h⟩
theorem kh{j pos}:PE X (.Constant .none j pos) (tC .non):=fun _ _ _ H _ I h=>Constant_none ⟨.non,H,I,rfl,h⟩
def Gl(X:Cx)(x:Str):Prop:=X.env.kindOf x=some .globalImplicit
theorem oV{E:Value->Shared->Prop}{pins:List (Addr×Obj)}{s:Shared}{σ:St}{H:Hp}{x:Str}{u:Value}{pos:Pos}{Q:Value->Shared->Prop}(I:Inv X pins σ H s)(hg:Gl X x)(hm:X.mg x=some u)(h:Q u s)
  (hd:(x==("__debug__":Str))=false:=by decide):wpAny (model X.prog X.w) X.A (eval (.Name x pos) X.env) Q E s:=
 Calls.Name_function_global I.ok.kind hg (Calls.loadGlobal_global (by rw[I.ok.glob];exact I.mod.glob.keeps I.bk) hm h) hd
theorem jm{E:Value->Shared->Prop}{pins:List (Addr×Obj)}{s:Shared}{σ:St}{H:Hp}{x:Str}{u:Value}{pos:Pos}{Q:Value->Shared->Prop}(I:Inv X pins σ H s)(hg:Gl X x)(hm:X.mg x=none)(hv:bootBuiltins x=some u)(h:Q u s)
  (hn:x≠"__name__":=by decide)(hd:(x==("__debug__":Str))=false:=by decide):wpAny (model X.prog X.w) X.A (eval (.Name x pos) X.env) Q E s:=by
 obtain⟨mb,h1,h2⟩:=I.mod.blt
 exact Calls.Name_function_global I.ok.kind hg (Calls.loadGlobal_builtin (by rw[I.ok.glob];exact I.mod.glob.keeps I.bk) hm (by rw[I.ok.blt];exact h1.keeps I.bk) ((h2 x hn).trans hv) h) hd
theorem bD{x:Str}{v:V}{u:Value}{pos:Pos}(hg:Gl X x)(hm:X.mg x=some u)(r:RelV v u)(hd:(x==("__debug__":Str))=false:=by decide):PE X (.Name x pos) (tC v):=
 fun _ _ _ H _ I h=>oV I hg hm ⟨v,H,I,r,h⟩ hd
theorem Ln{x:Str}{v:V}{u:Value}{pos:Pos}(hg:Gl X x)(hm:X.mg x=none)(hv:bootBuiltins x=some u)(r:RelV v u)(hn:x≠"__name__":=by decide)(hd:(x==("__debug__":Str))=false:=by decide):PE X (.Name x pos) (tC v):=
 fun _ _ _ H _ I h=>jm I hg hm hv ⟨v,H,I,r,h⟩ hn hd
variable {a b:Expr} {ta tb:TE} {pos:Pos}
def tB(t:TE):TT:=fun σ H Q=>t σ H fun x H1=>∃c,x= .bl c/\Q c H1
theorem bV{e:Expr}{t:TE}(h:PE X e t)(he:∀whole,isTrue e X.env whole=(do let v<-whole;standAt e.pos;holding [v] (truthy v)):=by intro _;rfl):PT X e (tB t):=by
 intro pins s σ H Q I hw
 refine isTrue_plain (cZ (h pins s σ H _ I hw) fun v s1⟨x,H1,I1,r1,q1⟩=>?_) (he _)
 obtain⟨d,rfl,q⟩:=q1
 cases r1
 exact wpAny_truthy_bool ⟨H1,I1,q⟩
variable {tA tB':TT} {rest:List Expr}
def Wv(t u:TT):TT:=fun σ H Q=>t σ H fun c H1=>if c=true then u σ H1 Q else Q false H1
def Yj(t u:TT):TT:=fun σ H Q=>t σ H fun c H1=>if c=true then Q true H1 else u σ H1 Q
def WM(t:TT):TT:=fun σ H Q=>t σ H fun c H1=>Q (!c) H1
theorem fX(ha:PT X a tA):PW X (.BoolOp .And [a] pos) tA:=by
 intro wh pins s σ H Q I h
 refine isTrue_and (cZ (ha pins s σ H Q I h) fun c s1 e=>?_)
 cases c with
 |true=>exact isTrue_and_nil e
 |false=>exact e
theorem fJ(ha:PT X a tA):PW X (.BoolOp .Or [a] pos) tA:=by
 intro wh pins s σ H Q I h
 refine isTrue_or (cZ (ha pins s σ H Q I h) fun c s1 e=>?_)
 cases c with
 |false=>exact isTrue_or_nil e
 |true=>exact e
theorem jr(ha:PT X a tA)(hb:PW X (.BoolOp .And (b::rest) pos) tB'):PW X (.BoolOp .And (a::b::rest) pos) (Wv tA tB'):=by
 intro wh pins s σ H Q I h
 refine isTrue_and (cZ (ha pins s σ H _ I h) fun c s1⟨H1,I1,q1⟩=>?_)
 cases c with
 |true=>exact hb wh pins s1 σ H1 Q I1 q1
 |false=>exact⟨H1,I1,q1⟩
theorem gB(ha:PT X a tA)(hb:PW X (.BoolOp .Or (b::rest) pos) tB'):PW X (.BoolOp .Or (a::b::rest) pos) (Yj tA tB'):=by
 intro wh pins s σ H Q I h
 refine isTrue_or (cZ (ha pins s σ H _ I h) fun c s1⟨H1,I1,q1⟩=>?_)
 cases c with
 |true=>exact⟨H1,I1,q1⟩
 |false=>exact hb wh pins s1 σ H1 Q I1 q1
theorem cY(ha:PT X a tA):PT X (.UnaryOp .Not a pos) (WM tA):=by
 intro pins s σ H Q I h
 exact isTrue_not (ha pins s σ H (fun c H1=>Q (!c) H1) I h)
def Ug(ta tb:TE):TE:=fun σ H Q=>ta σ H fun x H1=>∃c,x= .bl c/\if c=true then tb σ H1 Q else Q (.bl false) H1
def Um(ta:TE):TE:=fun σ H Q=>ta σ H fun x H1=>∃c,x= .bl c/\Q (.bl (!c)) H1
theorem vU{op}{t:TE}(h:PE X a t):PE X (.BoolOp op [a] pos) t:=fun pins s σ H Q I hw=>BoolOp_one (h pins s σ H Q I hw)
theorem vR(ha:PE X a ta)(hb:PE X (.BoolOp .And (b::rest) pos) tb):PE X (.BoolOp .And (a::b::rest) pos) (Ug ta tb):=by
 intro pins s σ H Q I h
 refine BoolOp_and (cZ (ha pins s σ H _ I h) fun v s1⟨x,H1,I1,r1,q1⟩=>?_)
 obtain⟨c,rfl,q1⟩:=q1
 cases r1
 refine wpAny_truthy_bool ?_
 cases c with
 |true=>exact hb pins s1 σ H1 Q I1 q1
 |false=>exact⟨.bl false,H1,I1,rfl,q1⟩
theorem tu(ha:PE X a ta):PE X (.UnaryOp .Not a pos) (Um ta):=by
 intro pins s σ H Q I h
 refine UnaryOp_ (cZ (ha pins s σ H _ I h) fun v s1⟨x,H1,I1,r1,q1⟩=>?_)
 obtain⟨c,rfl,q1⟩:=q1
 cases r1
 exact not_of (wpAny_truthy_bool ⟨.bl (!c),H1,I1,rfl,q1⟩)
def Yi(t:TT)(ta tb:TE):TE:=fun σ H Q=>t σ H fun c H1=>if c=true then ta σ H1 Q else tb σ H1 Q
theorem xR{c:Expr}(hc:PT X c tA)(ha:PE X a ta)(hb:PE X b tb):PE X (.IfExp c a b pos) (Yi tA ta tb):=by
 intro pins s σ H Q I h
 refine wpAny_IfExp (cZ (hc pins s σ H _ I h) fun d s1⟨H1,I1,q1⟩=>?_)
 cases d with
 |true=>exact ha pins s1 σ H1 Q I1 q1
 |false=>exact hb pins s1 σ H1 Q I1 q1
end
end L2
namespace L2
open PySem PySem.Spec PyProof.Rows
def cJ(K:PySem.W.Frag)(H:Hp)(a:Addr)(xs:List V):Prop:=
 Rd H a (.lst xs)\/
  ∃(o:Obj)(its:Array Value)(n:Nat),K.lookup a=some o/\o.cls= .type "list"/\o.dict=none/\o.data= .seq its n/\its.size<=sizeLine/\Vals xs its.toList
def fD(K:PySem.W.Frag)(H:Hp)(a:Addr)(xs:List V):Prop:=
 Rd H a (.tup xs)\/
  ∃(o:Obj)(its:Array Value)(n:Nat),K.lookup a=some o/\o.cls= .type "tuple"/\o.data= .seq its n/\its.size<=sizeLine/\Vals xs its.toList
def Vq:Value->Option V
 | .none=>some .non
 | .bool b=>some (.bl b)
 | .int i _=>some (.int i)
 | .str x _=>some (.str x)
 | .bytes b _=>some (.byt b)
 | .float b _=>some (.flt b)
 | .ref a=>some (.ref a)
 | .type n=>some (.ty n)
 |_=>none
theorem RelV.abs{x:V}{u:Value}(r:RelV x u):Vq u=some x:=by
 cases x with
 |non=>cases r;rfl
 |bl _=>cases r;rfl
 |int _=>obtain⟨t,rfl⟩:=r;rfl
 |str _=>obtain⟨t,rfl⟩:=r;rfl
 |byt _=>obtain⟨t,rfl⟩:=r;rfl
 |flt _=>obtain⟨t,rfl⟩:=r;rfl
 |ref _=>cases r;rfl
 |ty _=>cases r;rfl
theorem RelV.inj{x y:V}{u:Value}(r:RelV x u)(q:RelV y u):x=y:=Option.some.inj (r.abs.symm.trans q.abs)
theorem Vals.inj:∀{xs ys:List V}{us:List Value},Vals xs us->Vals ys us->xs=ys
 |_,_,_,.nil,.nil=>rfl
 |_,_,_,.cons r t,.cons r' t'=>by rw[r.inj r',Vals.inj t t']
section
variable {X:Cx} {pins:List (Addr×Obj)} {σ:St} {H:Hp} {s:Shared} {a:Addr} {xs ys:List V}
theorem cJ.of{K:PySem.W.Frag}(h:H a=some (.lst xs)):cJ K H a xs:= .inl (.inl h)
theorem fD.of{K:PySem.W.Frag}(h:H a=some (.tup xs)):fD K H a xs:= .inl (.inl h)
theorem Inv.list(I:Inv X pins σ H s)(h:cJ X.K H a xs):∃its:List Value,Vals xs its/\PlainL s.heap a its.toArray/\xs.length<=sizeLine:=by
 rcases h with h|⟨o,its,n,hk,hc,hd,hs,hz,r⟩
 .obtain⟨z,its,n,r,e⟩:=h.ok I.hok
  exact⟨its,r,⟨_,n,e,rfl,rfl,rfl⟩,z⟩
 .refine⟨its.toList,r,⟨o,n,I.kIn a o hk,hc,hd,by simpa using hs⟩,?_⟩
  have e:=r.length
  simp only[Array.length_toList]at e
  omega
theorem Inv.tuple(I:Inv X pins σ H s)(h:fD X.K H a xs):∃its:List Value,Vals xs its/\IsTup s.heap a its.toArray/\xs.length<=sizeLine:=by
 rcases h with h|⟨o,its,n,hk,hc,hs,hz,r⟩
 .obtain⟨z,its,r,p⟩:=h.ok I.hok
  exact⟨its,r,p,z⟩
 .refine⟨its.toList,r,⟨o,I.kIn a o hk,hc,n,by simpa using hs⟩,?_⟩
  have e:=r.length
  simp only[Array.length_toList]at e
  omega
theorem Inv.list_inj(I:Inv X pins σ H s)(h:cJ X.K H a xs)(h':cJ X.K H a ys):xs=ys:=by
 obtain⟨its,r,⟨o,n,e,_,_,d⟩,_⟩:=I.list h
 obtain⟨its',r',⟨o',n',e',_,_,d'⟩,_⟩:=I.list h'
 rw[e]at e';cases e'
 rw[d]at d'
 injection d' with d1 _
 have:its=its':=by simpa using congrArg Array.toList d1
 subst this
 exact r.inj r'
theorem Inv.tuple_inj(I:Inv X pins σ H s)(h:fD X.K H a xs)(h':fD X.K H a ys):xs=ys:=by
 obtain⟨its,r,⟨o,e,_,n,d⟩,_⟩:=I.tuple h
 obtain⟨its',r',⟨o',e',_,n',d'⟩,_⟩:=I.tuple h'
 rw[e]at e';cases e'
 rw[d]at d'
 injection d' with d1 _
 have:its=its':=by simpa using congrArg Array.toList d1
 subst this
 exact r.inj r'
end
abbrev Cx.wish(X:Cx)(E:Value->Shared->Prop):Cx:={X with xe:=E}
abbrev Cx.nox(X:Cx):Cx:=X.wish fun _ _=>False
theorem Cx.Ok.wish{X:Cx}(ok:X.Ok)(E:Value->Shared->Prop):(X.wish E).Ok:=
 ⟨ok.mod,ok.kind,ok.glob,ok.blt,ok.above,ok.inj,ok.has,ok.cab,ok.hd,ok.frames,ok.stk,ok.exf,ok.bs,ok.bsz,ok.noex,ok.exfs,ok.funs,ok.frf⟩
theorem Cx.Ok.unwish{X:Cx}{E:Value->Shared->Prop}(ok:(X.wish E).Ok):X.Ok:=
 ⟨ok.mod,ok.kind,ok.glob,ok.blt,ok.above,ok.inj,ok.has,ok.cab,ok.hd,ok.frames,ok.stk,ok.exf,ok.bs,ok.bsz,ok.noex,ok.exfs,ok.funs,ok.frf⟩
section
variable {X:Cx} {pins:List (Addr×Obj)} {σ:St} {H:Hp} {s:Shared} {E:Value->Shared->Prop}
theorem Inv.wish(I:Inv X pins σ H s)(E:Value->Shared->Prop):Inv (X.wish E) pins σ H s:=⟨I.ok.wish E,I.os,I.bare,I.base,I.loc,I.cell,I.free,I.freeC,I.pin,I.hok,I.len⟩
theorem Inv.unwish(I:Inv (X.wish E) pins σ H s):Inv X pins σ H s:=⟨I.ok.unwish,I.os,I.bare,I.base,I.loc,I.cell,I.free,I.freeC,I.pin,I.hok,I.len⟩
theorem SP.unwish{D:Ends}{f:Flow}{s':Shared}(h:SP (X.wish E) pins D f s'):SP X pins D f s':=by
 cases f with
 |next=>obtain⟨σ',H',I,q⟩:=h;exact⟨σ',H',I.unwish,q⟩
 |brk=>obtain⟨σ',H',I,q⟩:=h;exact⟨σ',H',I.unwish,q⟩
 |cont=>obtain⟨σ',H',I,q⟩:=h;exact⟨σ',H',I.unwish,q⟩
 |ret u=>obtain⟨v,σ',H',I,r,q⟩:=h;exact⟨v,σ',H',I.unwish,r,q⟩
theorem lC.nox{st:List Stmt}{t:TS}(h:lC X.nox st t):lC X st t:=fun pins s σ H D I hw=>
 wpAny_mono (h pins s σ H D (I.wish _) hw) (fun _ _ q=>q.unwish) fun _ _ z=>False.elim z
end
section
variable {X:Cx} {st:Stmt} {rest:List Stmt} {t u:TS} {e:Expr} {te:TE} {pos:Pos}
def Uk:TS:=fun D σ H=>D.nx σ H
def WQ(t u:TS):TS:=fun D σ H=>t {D with nx:=u D} σ H
theorem bc:lC X [] Uk:=fun _ _ σ H _ I h=>wpAny_execs_nil ⟨σ,H,I,h⟩
theorem au(h1:PS X st t)(h2:lC X rest u):lC X (st::rest) (WQ t u):=by
 intro pins s σ H D I h
 refine wpAny_execs_cons (cZ (h1 pins s σ H {D with nx:=u D} I h) fun f s1 q=>?_)
 cases f with
 |next=>
  obtain⟨σ',H',I',q⟩:=q
  exact h2 pins s1 σ' H' D I' q
 |ret v=>exact q
 |brk=>exact q
 |cont=>exact q
theorem aB(h1:PS X st t):lC X [st] t:=by
 intro pins s σ H D I h
 refine wpAny_execs_cons (cZ (h1 pins s σ H D I h) fun f s1 q=>?_)
 cases f with
 |next=>exact wpAny_execs_nil q
 |ret v=>exact q
 |brk=>exact q
 |cont=>exact q
theorem Inv.quiet{pins:List (Addr×Obj)}{σ:St}{H:Hp}{s:Shared}(I:Inv X pins σ H s):interactive X.env=false:=by simp[interactive,I.ok.kind]
def Ui(te:TE):TS:=fun D σ H=>te σ H fun _ H1=>D.nx σ H1
theorem cz(he:PE X e te)(hs:swapsWith e none pos.line X.env=pure false:=by rfl):PS X (.Expr e pos) (Ui te):=by
 intro pins s σ H D I h
 exact wpAny_Expr_any (cZ (he pins s σ H _ I h) fun v s1⟨x,H1,I1,r1,q1⟩=>⟨σ,H1,I1,q1⟩) I.quiet hs
def WP(te:TE):TS:=fun D σ H=>te σ H D.rt
theorem aW(he:PE X e te):PS X (.Return (some e) pos) (WP te):=by
 intro pins s σ H D I h
 exact wpAny_Return_some (cZ (he pins s σ H _ I h) fun v s1⟨x,H1,I1,r1,q1⟩=>⟨x,σ,H1,I1,r1,q1⟩)
def Uq:TS:=fun D _ H=>D.rt .non H
theorem BK:PS X (.Return none pos) Uq:=fun _ _ σ H _ I h=>wpAny_Return_none ⟨.non,σ,H,I,rfl,h⟩
def WD(c:TT)(t u:TS):TS:=fun D σ H=>c σ H fun b H1=>if b=true then t D σ H1 else u D σ H1
theorem bU{c:Expr}{a b:List Stmt}{tc:TT}(hc:PT X c tc)(ha:lC X a t)(hb:lC X b u):PS X (.If c a b pos) (WD tc t u):=by
 intro pins s σ H D I h
 refine wpAny_If (cZ (hc pins s σ H _ I h) fun d s1⟨H1,I1,q1⟩=>?_)
 cases d with
 |true=>exact ha pins s1 σ H1 D I1 q1
 |false=>exact hb pins s1 σ H1 D I1 q1
def Rk:TS:=fun _ _ _=>False
theorem bN{sts:List Stmt}:lC X sts Rk:=fun _ _ _ _ _ _ h=>h.elim
end
abbrev TG:=V->St->Hp->(St->Hp->Prop)->Prop
abbrev Oz:=List V->St->Hp->(St->Hp->Prop)->Prop
def PG(X:Cx)(target:Expr)(t:TG):Prop:=
 ∀(pins:List (Addr×Obj))(s:Shared)(σ:St)(H:Hp)(v:V)(u:Value)(Q:St->Hp->Prop),Inv X pins σ H s->RelV v u->t v σ H Q->
  wpAny (model X.prog X.w) X.A (assign target X.env u) (fun _ s'=>∃σ' H',Inv X pins σ' H' s'/\Q σ' H') X.xe s
def Uz(X:Cx)(ts:List Expr)(t:Oz):Prop:=
 ∀(pins:List (Addr×Obj))(s:Shared)(σ:St)(H:Hp)(vs:List V)(us:List Value)(Q:St->Hp->Prop),Inv X pins σ H s->Vals vs us->t vs σ H Q->
  wpAny (model X.prog X.w) X.A (assignInOrder ((assignEach ts X.env).map (·.2)) us) (fun _ s'=>∃σ' H',Inv X pins σ' H' s'/\Q σ' H') X.xe s
abbrev OD:=V->V->V->Hp->(Hp->Prop)->Prop
def RT(X:Cx)(t:OD):Prop:=
 ∀(pins:List (Addr×Obj))(s:Shared)(σ:St)(H:Hp)(o i v:V)(ov iv u:Value)(Q:Hp->Prop),Inv X pins σ H s->RelV o ov->RelV i iv->RelV v u->t o i v H Q->
  wpAny (model X.prog X.w) X.A (setItem ov iv u) (fun _ s'=>∃H',Inv X pins σ H' s'/\Q H') X.xe s
abbrev UG:=V->V->Hp->VK->Prop
def Xd(X:Cx)(op:Operator)(t:UG):Prop:=
 ∀(pins:List (Addr×Obj))(s:Shared)(σ:St)(H:Hp)(x y:V)(v u:Value)(Q:VK),Inv X pins σ H s->RelV x v->RelV y u->t x y H Q->
  wpAny (model X.prog X.w) X.A (inplaceOp op v u) (EP X pins σ Q) X.xe s
section
variable {X:Cx} {pos:Pos}
def xg(i:Nat):TG:=fun v σ H Q=>Q (σ.set i (some v)) H
theorem bz{i:Nat}{x:Str}(hN:X.N.Nodup)(hi:X.N[i]? =some x)(hx:Loc X.env.scope x)(hf:X.fn x=true\/X.env.scope.names.lookup x=some .local:=by first|exact .inl rfl|exact .inr rfl|assumption):PG X (.Name x pos) (xg i):=by
 intro pins s σ H v u Q I r h
 exact wpAny_assign_Name (mK I hN hi hx r (fun s' I'=>⟨_,H,I',h⟩) hf)
def VG:Oz:=fun vs σ H Q=>vs=[]/\Q σ H
def Sy(t:TG)(u:Oz):Oz:=fun vs σ H Q=>∃v r,vs=v::r/\t v σ H fun σ' H'=>u r σ' H' Q
theorem vV:Uz X [] VG:=by
 intro pins s σ H vs us Q I r h
 obtain⟨e,h⟩:=h
 subst e
 cases r
 exact assignInOrder_nil ⟨σ,H,I,h⟩
theorem jF{e:Expr}{es:List Expr}{t:TG}{u:Oz}(h1:PG X e t)(h2:Uz X es u)
  (hs:(assignEach (e::es) X.env).map (·.2)=assign e X.env::(assignEach es X.env).map (·.2):=by rfl):Uz X (e::es) (Sy t u):=by
 intro pins s σ H vs us Q I r h
 obtain⟨v,vr,e1,h⟩:=h
 subst e1
 cases r with
 |cons r rr=>
  rw[hs]
  refine assignInOrder_cons (cZ (h1 pins s σ H _ _ _ I r h) fun _ s1⟨σ1,H1,I1,q1⟩=>?_)
  exact h2 pins s1 σ1 H1 _ _ Q I1 rr q1
def VJ(K:PySem.W.Frag)(n:Nat)(t:Oz):TG:=fun v σ H Q=>∃a xs,v= .ref a/\fD K H a xs/\xs.length=n/\t xs σ H Q
theorem zF{es:List Expr}{k:Nat}{t:Oz}{n:Nat}(hc:X.calm=true)(h:Uz X es t)
  (hn:(assignEach es X.env).length=n:=by rfl)(hst:(assignEach es X.env).findIdx? (·.1)=none:=by rfl):PG X (.Tuple es k pos) (VJ X.K n t):=by
 intro pins s σ H v u Q I r hw
 obtain⟨a,xs,e1,hq,hl,hw⟩:=hw
 subst e1
 cases r
 obtain⟨its,rv,ht,hz⟩:=I.tuple hq
 refine assign_Tuple_tuple (I.ok.hd hc) ht (by simp[hn,<-hl,rv.length]) hst fun h' hx=>?_
 have I1:Inv X pins σ H {s with heap:=h'}:=I.kept (t':=s.toks) fun b o e=>hx b o (Nat.ne_of_lt (Heap.lt_size e)) e
 exact h pins _ σ H xs _ Q I1 (by simpa using rv) hw
def VH(to ti:TE)(t:OD):TG:=fun v σ H Q=>to σ H fun o H1=>ti σ H1 fun i H2=>t o i v H2 fun H3=>Q σ H3
theorem Qw{o i:Expr}{to ti:TE}{t:OD}(ho:PE X o to)(hi:PE X i ti)(hs:RT X t)
  (ha:∀v,assign (.Subscript o i pos) X.env v=(do
   let ov<-holding [v] (eval o X.env)
   let iv<-holding [v,ov] (eval i X.env)
   standAt pos
   holding [v,ov,iv] (setItem ov iv v)
   release [v,ov,iv] []):=by intro _;rfl):PG X (.Subscript o i pos) (VH to ti t):=by
 intro pins s σ H v u Q I r h
 rw[ha]
 refine wpAny_bind (wpAny_holding (cZ (ho pins s σ H _ I h) fun ov s1⟨x,H1,I1,r1,q1⟩=>?_))
 refine wpAny_bind (wpAny_holding (cZ (hi pins s1 σ H1 _ I1 q1) fun iv s2⟨y,H2,I2,r2,q2⟩=>?_))
 refine wpAny_bind (wpAny_standAt (wpAny_bind (wpAny_holding (cZ (hs pins s2 σ H2 x y v ov iv u _ I2 r1 r2 r q2) fun _ s3⟨H3,I3,q3⟩=>?_))))
 exact wpAny_release ⟨σ,H3,I3,q3⟩
def Rg(te:TE)(g:TG):TS:=fun D σ H=>te σ H fun x H1=>g x σ H1 D.nx
theorem Qy{tg e:Expr}{te:TE}{g:TG}(he:PE X e te)(hg:PG X tg g)(hs:swapsWithSole [tg] e pos.line X.env=pure false:=by rfl)(hw:swappedStores [tg] e X.env=pure none:=by rfl)
  (h1:(assignEach [tg] X.env).map (·.2)=[assign tg X.env]:=by rfl):PS X (.Assign [tg] e pos) (Rg te g):=by
 intro pins s σ H D I h
 refine wpAny_Assign_stores (cZ (he pins s σ H _ I h) fun v s1⟨x,H1,I1,r1,q1⟩=>?_) hs hw
 rw[h1]
 exact cZ (hg pins s1 σ H1 x v _ I1 r1 q1) fun _ s2 q=>q
theorem aN{i:Nat}{x:Str}{e:Expr}{te:TE}{pos':Pos}(hN:X.N.Nodup)(hi:X.N[i]? =some x)(hx:Loc X.env.scope x)(he:PE X e te)(hs:swapsWith e (some (.Name x pos')) pos.line X.env=pure false:=by rfl)(hf:X.fn x=true\/X.env.scope.names.lookup x=some .local:=by first|exact .inl rfl|exact .inr rfl|assumption):
  PS X (.Assign [.Name x pos'] e pos) (Rg te (xg i)):=by
 intro pins s σ H D I h
 refine wpAny_Assign_Name (cZ (he pins s σ H _ I h) fun v s1⟨y,H1,I1,r1,q1⟩=>?_) hs
 exact mK I1 hN hi hx r1 (fun s2 I2=>⟨_,H1,I2,q1⟩) hf
def WN(i j:Nat)(ta:TA):TS:=fun D σ H=>ta σ H fun vs H1=>∃v w,vs=[v,w]/\D.nx ((σ.set i (some v)).set j (some w)) H1
theorem Qz{i j:Nat}{x y:Str}{a b:Expr}{ta:TA}{px py pt:Pos}{kt k2 pt2}(hc:X.calm=true)(hN:X.N.Nodup)(hi:X.N[i]? =some x)(hj:X.N[j]? =some y)(hij:i≠j)
  (hx:X.env.scope.names.lookup x=some .local)(hy:X.env.scope.names.lookup y=some .local)(ha:PA X [a,b] ta)
  (hw:swappedStores [.Tuple [.Name x px,.Name y py] kt pt] (.Tuple [a,b] k2 pt2) X.env=pure (some [x,y]))
  (hs:swapsWithSole [.Tuple [.Name x px,.Name y py] kt pt] (.Tuple [a,b] k2 pt2) pos.line X.env=pure false:=by rfl):
  PS X (.Assign [.Tuple [.Name x px,.Name y py] kt pt] (.Tuple [a,b] k2 pt2) pos) (WN i j ta):=by
 intro pins s σ H D I h
 rw[exec_Assign_arm]
 refine wpAny_bind (wpAny_standAt ?_)
 rw[hs]
 refine wpAny_bind (wpAny_pure ?_)
 rw[if_neg (by decide)]
 refine wpAny_bind (Tuple_ (cZ (ha _ pins s σ H _ I h) fun us s1⟨vs,H1,I1,r1,q1⟩=>?_))
 obtain⟨v,w,e1,q1⟩:=q1
 subst e1
 obtain⟨u1,u2,rfl,rv,rw'⟩:∃u1 u2,us=[u1,u2]/\RelV v u1/\RelV w u2:=by
  cases r1 with
  |cons p q=>
   cases q with
   |cons p' q'=>
    cases q'
    exact⟨_,_,rfl,p,p'⟩
 refine wpAny_newObj_type ?_ (by show 2<=sizeLine;decide)
 have I2:Inv X pins σ H1 {s1 with heap:=s1.heap.push {cls:= .type "tuple",data:= .seq [u1,u2].toArray}}:=I1.kept (t':=s1.toks) fun b o e=>Heap.get?_push_of_some _ e
 rw[hw]
 refine wpAny_bind (wpAny_pure ?_)
 show wpAny (model X.prog X.w) X.A (do rule "assign.swapped-stores";let items<-unpackItems (.ref s1.heap.objs.size) 2 none;assignInOrder [fun v=>bindName X.env y v,fun v=>bindName X.env x v] items.reverse;pure Flow.next) _ _ _
 refine wpAny_bind (wpAny_rule (wpAny_bind (unpackItems_tuple (items:= #[u1,u2]) (I.ok.hd hc) (IsTup.new s1.heap _) fun h' hx'=>?_)))
 have I3:=I2.kept (h':=h') (t':=s1.toks) fun b o e=>hx' b o (Nat.ne_of_lt (Heap.lt_size e)) e
 show wpAny _ _ (assignInOrder [fun v=>bindName X.env y v,fun v=>bindName X.env x v] [u2,u1]>>=fun _=>pure Flow.next) _ _ _
 refine wpAny_bind (assignInOrder_cons (wpAny_bindName (mK I3 hN hj (.inl hy) rw' (fun s2 I4=>?_) (.inr hy))))
 refine assignInOrder_cons (wpAny_bindName (mK I4 hN hi (.inl hx) rv (fun s3 I5=>assignInOrder_nil (wpAny_pure ?_)) (.inr hx)))
 rw[List.set_comm _ _ (Ne.symm hij)]at I5
 exact⟨_,H1,I5,q1⟩
def Ww(i:Nat)(te:TE)(ti:UG):TS:=fun D σ H=>∃x,σ[i]? =some (some x)/\te σ H fun y H1=>ti x y H1 fun z H2=>D.nx (σ.set i (some z)) H2
theorem HW{i:Nat}{x:Str}{e:Expr}{te:TE}{op:Operator}{ti:UG}{pos':Pos}(hN:X.N.Nodup)(hi:X.N[i]? =some x)(hx:Loc X.env.scope x)(he:PE X e te)(ho:Xd X op ti)(hf:X.fn x=true\/X.env.scope.names.lookup x=some .local:=by first|exact .inl rfl|exact .inr rfl|assumption):
  PS X (.AugAssign (.Name x pos') op e pos) (Ww i te ti):=by
 intro pins s σ H D I h
 obtain⟨v,e1,h⟩:=h
 obtain⟨m,hn,hl⟩:=I.loc
 have vis:UL X.env.scope x:=by rcases hx with k|k;exact .inl k;exact .inr (.inl k)
 obtain⟨u,r,l⟩:=hl i x v hi e1 vis
 refine wpAny_AugAssign_Name ?_
 have go:wpAny (model X.prog X.w) X.A (eval e X.env) (fun w s₂=>wpAny (model X.prog X.w) X.A (inplaceOp op u w) (fun r s₃=>wpAny (model X.prog X.w) X.A (storeName X.env x r) (fun _=>SP X pins D .next) X.xe s₃) X.xe s₂) X.xe s:=by
  refine cZ (he pins s σ H _ I h) fun w s1⟨y,H1,I1,r1,q1⟩=>?_
  refine cZ (ho pins s1 σ H1 v y u w _ I1 r r1 q1) fun z s2⟨zv,H2,I2,r2,q2⟩=>?_
  exact mK I2 hN hi hx r2 (fun s3 I3=>⟨_,H2,I3,q2⟩) hf
 rcases l with⟨hk,hm⟩|⟨hk,c,hc,hcell⟩
 .exact wpAny_loadName_local I.ok.kind hk hn hm go
 .rcases hk with hk|hk
  .exact wpAny_loadName_cell I.ok.kind hk hc hcell go
  .rcases hx with k|k
   .have:X.env.scope.names.lookup x=some .free:=hk
    rw[k]at this;cases this
   .have:X.env.scope.names.lookup x=some .free:=hk
    rw[k]at this;cases this
def XR(f:Int->Int->Int):UG:=fun x y H Q=>∃i j,x= .int i/\y= .int j/\Q (.int (f i j)) H
theorem GF:Xd X .Add (XR fun i j=>i+j):=by
 intro pins s σ H x y v u Q I r1 r2 h
 obtain⟨i,j,e1,e2,q⟩:=h
 subst e1;subst e2
 obtain⟨t,rfl⟩:=r1
 obtain⟨t',rfl⟩:=r2
 exact iadd_int ⟨.int _,H,I.tok _,⟨_,rfl⟩,q⟩
end
section
variable {X:Cx} {pos:Pos}
def Jk(c:TT)(tb:TS):TS:=fun D σ H=>∃W:Nat->St->Hp->Prop,(∃m,W m σ H)/\∀m σ H,W m σ H->
 c σ H fun b H1=>if b=true then ∃N:St->Hp->Prop,(∀σ' H',N σ' H'->∃m',m'<m/\W m' σ' H')/\tb {D with nx:=N,ct:=N,bk:=D.nx} σ H1 else D.nx σ H1
theorem pC{c:Expr}{body:List Stmt}{tc:TT}{tb:TS}(hp:PassesOwn (model X.prog X.w) X.A X.env X.xe)(hc:PT X c tc)(hb:lC X body tb):PS X (.While c body [] pos) (Jk tc tb):=by
 intro pins s σ H D I h
 obtain⟨W,⟨m0,w0⟩,turn⟩:=h
 refine wpAny_While (codeAny_whileLoop (fun n s'=>∃σ' H',Inv X pins σ' H' s'/\W n σ' H') ?_ m0 ⟨σ,H,I,w0⟩)
 rintro n s1 ⟨σ1,H1,I1,w1⟩
 refine wpAny_passesOwn hp (cZ (hc pins s1 σ1 H1 _ I1 (turn n σ1 H1 w1)) fun b s2⟨H2,I2,q2⟩=>?_)
 cases b with
 |true=>
  obtain⟨N,hN,q2⟩:=q2
  rw[if_pos rfl]
  refine wpAny_passesOwn hp (cZ (hb pins s2 σ1 H2 _ I2 q2) fun f s3 q3=>?_)
  cases f with
  |next=>
   obtain⟨σ3,H3,I3,n3⟩:=q3
   obtain⟨m',hm,w3⟩:=hN σ3 H3 n3
   exact⟨m',hm,σ3,H3,I3,w3⟩
  |cont=>
   obtain⟨σ3,H3,I3,n3⟩:=q3
   obtain⟨m',hm,w3⟩:=hN σ3 H3 n3
   exact⟨m',hm,σ3,H3,I3,w3⟩
  |brk=>exact q3
  |ret v=>exact q3
 |false=>
  rw[if_neg Bool.false_ne_true]
  exact wpAny_execs_nil ⟨σ1,H2,I2,q2⟩
end
structure It where
 go:Nat->Hp->Prop
 yld:Nat->Hp->V->Hp->Prop
 stop:Nat->Hp->Prop
def oF(X:Cx)(pins:List (Addr×Obj))(H:Hp)(b:Addr):Prop:=
 H b=none/\b≠X.env.locals/\b∉X.fs/\(b∈X.ex\/X.s₀.heap.objs.size<=b)/\(∀x c,X.env.cells.lookup x=some c->c≠b)/\∀p∈X.pn++pins,p.1≠b
theorem Inv.fpOk{X:Cx}{pins:List (Addr×Obj)}{σ:St}{H H':Hp}{s:Shared}{b:Addr}(I:Inv X pins σ H s)(hb:s.heap.objs.size<=b)(hn:H' b=none):oF X pins H' b:=by
 refine⟨hn,Nat.ne_of_gt (Nat.lt_of_lt_of_le I.lt hb),I.nofs hb,.inr (Nat.le_trans I.sz hb),fun x c e z=>?_,fun p hp z=>?_⟩
 .obtain⟨v,q⟩:=I.cell x c e
  exact absurd (Nat.lt_of_lt_of_le q.lt (by rw[z];exact hb)) (Nat.lt_irrefl _)
 .exact absurd (Nat.lt_of_lt_of_le (Heap.lt_size (I.pin p hp).1) (by rw[z];exact hb)) (Nat.lt_irrefl _)
structure Turn(P:Program)(w:World)(K:PySem.W.Frag)(tg:Expr)(J:It)(fp:List Addr)(it:Addr)(tn:Nat->Heap->Prop):Prop where
 mem:it∈fp
 obj:∀i h,tn i h->∀b∈fp,∃o,h.get? b=some o/\∀v,o.data≠ .cell v
 keep:∀i h h',tn i h->(∀b∈fp,∀o,h.get? b=some o->h'.get? b=some o)->tn i h'
 item:∀(X:Cx),X.prog=P->X.w=w->X.K=K->X.calm=true->∀(i:Nat)(pins:List (Addr×Obj))(s:Shared)(σ:St)(H:Hp)(E:Value->Shared->Prop),Inv X pins σ H s->(∀b∈fp,oF X pins H b)->tn i s.heap->J.go i H->
  wpAny (model P w) X.A (pyNext (.ref it)) (fun r s1=>∃u,r=some u/\
   wpAny (model P w) X.A (letOwnedTupleGo tg (.ref it) u) (fun _ s2=>∃x H',Inv X pins σ H' s2/\RelV x u/\J.yld i H x H'/\tn (i+1) s2.heap/\∀b∈fp,H' b=none) E s1) E s
 done:∀(X:Cx),X.prog=P->X.w=w->X.K=K->X.calm=true->∀(i:Nat)(pins:List (Addr×Obj))(s:Shared)(σ:St)(H:Hp)(E:Value->Shared->Prop),Inv X pins σ H s->(∀b∈fp,oF X pins H b)->tn i s.heap->J.stop i H->
  wpAny (model P w) X.A (pyNext (.ref it)) (fun r s1=>r=none/\Inv X pins σ H s1) E s
 self:∀(A:Around)(i:Nat)(s:Shared)(Q:Value->Shared->Prop)(E:Value->Shared->Prop),tn i s.heap->Q (.ref it) s->wpAny (model P w) A (pyIter (.ref it)) Q E s
abbrev TI:=St->Hp->(It->Hp->Prop)->Prop
def PIE(X:Cx)(pins:List (Addr×Obj))(σ:St)(tg:Expr)(R:It->Hp->Prop)(itv:Value)(s2:Shared):Prop:=
 ∃(it:Addr)(fp:List Addr)(tn:Nat->Heap->Prop)(J:It)(H':Hp),itv= .ref it/\Inv X pins σ H' s2/\Turn X.prog X.w X.K tg J fp it tn/\tn 0 s2.heap/\(∀b∈fp,oF X pins H' b)/\R J H'
def PI(X:Cx)(tg iter:Expr)(wi:TI):Prop:=
 ∀(pins:List (Addr×Obj))(s:Shared)(σ:St)(H:Hp)(R:It->Hp->Prop),Inv X pins σ H s->wi σ H R->
  wpAny (model X.prog X.w) X.A (eval iter X.env) (fun v s1=>wpAny (model X.prog X.w) X.A (pyIter v) (PIE X pins σ tg R) X.xe s1) X.xe s
theorem Nz{M:Model}{A:Around}{E:Value->Shared->Prop}{s:Shared}{tg:Expr}{it:Addr}{u:Value}{o:Obj}{n:String}{vs:Array Value}{Q:Unit->Shared->Prop}(ho:s.heap.get? it=some o)(hc:o.cls= .type n)(hd:o.data= .fields vs)
    (hn:["enumerate","zip","dict_itemiterator","dict_reverseitemiterator","odict_iterator","itertools.zip_longest","itertools.pairwise"].contains n=false)(hQ:Q () s):wpAny M A (letOwnedTupleGo tg (.ref it) u) Q E s:=by
  unfold letOwnedTupleGo
  cases tg<;>first
    |exact wpAny_pure hQ
    | (cases u<;>first
        |exact wpAny_pure hQ
        | (refine wpAny_bind (wpAny_load ho ?_)
           rw[hc,hd]
           show wpAny M A (if(["enumerate","zip","dict_itemiterator","dict_reverseitemiterator","odict_iterator","itertools.zip_longest","itertools.pairwise"].contains n&&vs[0]? ==some (rawInt _))=true then _ else _) Q E s
           rw[if_neg (by intro h;rw[hn,Bool.false_and]at h;cases h)]
           exact wpAny_pure hQ))
def Ni(K:PySem.W.Frag)(a:Addr):It:=
 ⟨fun i H=>∃xs x,cJ K H a xs/\xs[i]? =some x,fun i H x H'=>H'=H/\∀xs,cJ K H a xs->xs[i]? =some x,fun i H=>∃xs,cJ K H a xs/\xs.length<=i⟩
def JK(lo:Int)(n:Nat):It:=⟨fun i _=>i<n,fun i H x H'=>H'=H/\x= .int (lo+i),fun i _=>n<=i⟩
theorem EY{P:Program}{w:World}{K:PySem.W.Frag}{tg:Expr}(a it:Addr):Turn P w K tg (Ni K a) [it] it (fun i h=>h.IsListIter it a i) where
 mem:=by simp
 obj:=fun i h st b hb=>by
  have e:b=it:=by simpa using hb
  subst e
  obtain⟨o,e,c,d⟩:=st
  exact⟨o,e,fun v z=>by rw[d]at z;cases z⟩
 keep:=fun i h h' st k=>st.at fun o e=>k it (by simp) o e
 item:=by
  intro X hP hw hK hc i pins s σ H E I hf st hg
  subst hP hw hK
  obtain⟨xs,x,hq,hx⟩:=hg
  obtain⟨its,rv,p,hz⟩:=I.list hq
  obtain⟨u,hu,ru⟩:=rv.get hx
  obtain⟨f0,f1,f2,f3,f4,f5⟩:=hf it (by simp)
  refine wpAny_pyNext_list_item st p.isList (x:=u) (by simpa using hu) fun h' st' sb=>?_
  have I1:Inv X pins σ H {s with heap:=h'}:=I.turned (t':=s.toks) (fun b o hb e=>(sb.2 b hb).trans e) f0 f1 f3 f4 f5
  obtain⟨o,e,c,d⟩:=id st'
  exact⟨u,rfl,Nz (s:={s with heap:=h'}) e c d (by decide) ⟨x,H,I1,ru,⟨rfl,fun ys hy=>by rw[I.list_inj hy hq];exact hx⟩,st',fun b hb=>(hf b hb).1⟩⟩
 done:=by
  intro X hP hw hK hc i pins s σ H E I hf st hg
  subst hP hw hK
  obtain⟨xs,hq,hx⟩:=hg
  obtain⟨its,rv,p,hz⟩:=I.list hq
  obtain⟨f0,f1,f2,f3,f4,f5⟩:=hf it (by simp)
  have hl:=rv.length
  exact wpAny_pyNext_list_end (I.ok.hd hc) st p.isList (by simp;omega) fun h' eb=>⟨rfl,I.turned (t':=s.toks) (fun b o hb e=>eb b o hb e) f0 f1 f3 f4 f5⟩
 self:=fun _ _ _ _ _ st h=>wpAny_pyIter_listiter st h
theorem Ae{P:Program}{w:World}{K:PySem.W.Frag}{tg:Expr}(it:Addr)(lo:Int)(n:Nat):Turn P w K tg (JK lo n) [it] it (fun i h=>IsRangeIter h it (lo+(i:Nat)*1) ((n:Int)-(i:Nat)) 1) where
 mem:=by simp
 obj:=fun i h st b hb=>by
  have e:b=it:=by simpa using hb
  subst e
  exact⟨_,st,fun v z=>by
   have z':Data.fields _=Data.cell v:=z
   cases z'⟩
 keep:=fun i h h' st k=>k it (by simp) _ st
 item:=by
  intro X hP hw hK hc i pins s σ H E I hf st hg
  subst hP hw hK
  obtain⟨f0,f1,f2,f3,f4,f5⟩:=hf it (by simp)
  have W:=Walks.range (prog:=X.prog) (w:=X.w) (I.ok.hd hc) it lo 1 n
  refine W.item i s _ _ hg st fun v h' tk hv st' kk=>?_
  obtain⟨t,rfl⟩:=hv
  have I1:Inv X pins σ H {s with heap:=h',toks:=tk}:=I.turned (fun b o hb e=>kk b o (by simpa using hb) e) f0 f1 f3 f4 f5
  refine⟨_,rfl,Nz (s:={s with heap:=h',toks:=tk}) (n:="range_iterator") st' rfl rfl (by decide) ⟨.int (lo+i),H,I1,⟨t,?_⟩,⟨rfl,rfl⟩,st',fun b hb=>(hf b hb).1⟩⟩
  rw[Int.mul_one]
 done:=by
  intro X hP hw hK hc i pins s σ H E I hf st hg
  subst hP hw hK
  obtain⟨f0,f1,f2,f3,f4,f5⟩:=hf it (by simp)
  exact wpAny_pyNext_range_end (I.ok.hd hc) st (by have:n<=i:=hg;omega) fun h' eb=>⟨rfl,I.turned (t':=s.toks) (fun b o hb e=>eb b o hb e) f0 f1 f3 f4 f5⟩
 self:=fun _ _ _ _ _ st h=>wpAny_pyIter_rangeiter st h
end L2
namespace L2
open PySem PySem.Spec PyProof.Rows
section
variable {X:Cx} {tg:Expr}
def SN(K:PySem.W.Frag)(tl:TE):TI:=fun σ H R=>tl σ H fun x H1=>∃a,x= .ref a/\(∃xs,cJ K H1 a xs)/\R (Ni K a) H1
theorem cu{l:Expr}{tl:TE}(hl:PE X l tl):PI X tg l (SN X.K tl):=by
 intro pins s σ H R I h
 refine cZ (hl pins s σ H _ I h) fun v s1⟨x,H1,I1,r1,q1⟩=>?_
 obtain⟨a,e,⟨xs,hq⟩,q⟩:=q1
 subst e
 cases r1
 obtain⟨its,rv,p,hz⟩:=I1.list hq
 refine wpAny_pyIter_list p.isList ?_
 refine⟨s1.heap.objs.size,[s1.heap.objs.size],_,_,H1,rfl,I1.kept (t':=s1.toks) fun b o e=>Heap.get?_push_of_some _ e,EY a _,⟨_,Heap.get?_push_size _ rfl,rfl,rfl⟩,fun b hb=>?_,q⟩
 have e:b=s1.heap.objs.size:=by simpa using hb
 subst e
 exact I1.fpOk (Nat.le_refl _) (I1.hok.fresh (Nat.le_refl _))
theorem xV{pins:List (Addr×Obj)}{σ:St}{H:Hp}{s:Shared}{R:It->Hp->Prop}{E:Value->Shared->Prop}{lo hi:Int}{t u v:Tok}{tk:Nat}(I:Inv X pins σ H s)(h1: -(2^62)<=lo)(h2:lo<2^62)(h3: -(2^62)<=hi)(h4:hi<2^62)
  (q:R (JK lo (hi-lo).toNat) H):wpAny (model X.prog X.w) X.A (pyIter (.ref s.heap.objs.size)) (PIE X pins σ tg R) E {s with heap:=s.heap.push {cls:= .type "range",data:= .fields #[.int lo t,.int hi u,.int 1 v]},toks:=tk}:=by
 refine wpAny_pyIter_range (IsRange.new ..) (small_one h1 h2 h3 h4) ?_
 have I1:Inv X pins σ H {s with heap:=s.heap.push {cls:= .type "range",data:= .fields #[.int lo t,.int hi u,.int 1 v]},toks:=tk}:=I.kept fun b o e=>Heap.get?_push_of_some _ e
 refine⟨(s.heap.push {cls:= .type "range",data:= .fields #[.int lo t,.int hi u,.int 1 v]}).objs.size,[(s.heap.push {cls:= .type "range",data:= .fields #[.int lo t,.int hi u,.int 1 v]}).objs.size],_,_,H,rfl,
  I1.kept (t':=tk) fun b o e=>Heap.get?_push_of_some _ e,Ae _ lo (hi-lo).toNat,?_,fun b hb=>?_,q⟩
 .have e1:lo+((0:Nat):Int)*1=lo:=by simp
  have e2:(((hi-lo).toNat:Nat):Int)-((0:Nat):Int)=Builtin.Range.rangeSize lo hi 1:=by rw[rangeSize_one];split<;>omega
  show IsRangeIter _ _ (lo+((0:Nat):Int)*1) ((((hi-lo).toNat:Nat):Int)-((0:Nat):Int)) 1
  rw[e1,e2]
  exact Heap.get?_push_size _ rfl
 .have e:b=(s.heap.push {cls:= .type "range",data:= .fields #[.int lo t,.int hi u,.int 1 v]}).objs.size:=by simpa using hb
  subst e
  exact I1.fpOk (Nat.le_refl _) (I1.hok.fresh (Nat.le_refl _))
def SQ(ta:TA):TI:=fun σ H R=>ta σ H fun vs H1=>∃j:Int,vs=[.int j]/\ -(2^62)<=j/\j<2^62/\R (JK 0 j.toNat) H1
def SX(ta:TA):TI:=fun σ H R=>ta σ H fun vs H1=>∃i j:Int,vs=[.int i,.int j]/\(-(2^62)<=i/\i<2^62/\ -(2^62)<=j/\j<2^62)/\R (JK i (j-i).toNat) H1
theorem fV{a:Expr}{ta:TA}{p pos:Pos}(hg:Gl X "range")(hm:X.mg "range"=none)(ha:PA X [a] ta)(hs:starEach [a] X.env=[(false,eval a X.env)]:=by rfl):PI X tg (.Call (.Name "range" p) [a] [] pos) (SQ ta):=by
 intro pins s σ H R I h
 refine Call_ (jm I hg hm boot_range (PyProof.Rows.callWith_type1 (cZ (ha pos pins s σ H _ I h) fun us s1⟨vs,H1,I1,r1,q1⟩=>?_) hs rfl))
 obtain⟨j,e,q1,q2,q⟩:=q1
 subst e
 cases r1 with
 |cons r rr=>
  cases rr
  obtain⟨t,rfl⟩:=r
  exact call_range_1 (xV I1 (by omega) (by omega) q1 q2 (by simpa using q))
theorem qp{a b:Expr}{ta:TA}{p pos:Pos}(hg:Gl X "range")(hm:X.mg "range"=none)(ha:PA X [a,b] ta)(hs:starEach [a,b] X.env=[(false,eval a X.env),(false,eval b X.env)]:=by rfl)(hs2:starEach [b] X.env=[(false,eval b X.env)]:=by rfl):
  PI X tg (.Call (.Name "range" p) [a,b] [] pos) (SX ta):=by
 intro pins s σ H R I h
 refine Call_ (jm I hg hm boot_range (PyProof.Rows.callWith_type1 (cZ (ha pos pins s σ H _ I h) fun us s1⟨vs,H1,I1,r1,q1⟩=>?_) (by rw[hs,hs2]) (by rw[hs2];rfl)))
 obtain⟨i,j,e,⟨q1,q2,q3,q4⟩,q⟩:=q1
 subst e
 cases r1 with
 |cons r rr=>
  cases rr with
  |cons r' rr=>
   cases rr
   obtain⟨t,rfl⟩:=r
   obtain⟨t',rfl⟩:=r'
   exact call_range_2 (xV I1 q1 q2 q3 q4 q)
def Wz(wi:TI)(g:TG)(tb:TS):TS:=fun D σ H=>wi σ H fun J H1=>∃W:Nat->Nat->St->Hp->Prop,(∃m,W 0 m σ H1)/\∀i m σ H,W i m σ H->
 (J.stop i H/\D.nx σ H)\/(J.go i H/\∃N:St->Hp->Prop,(∀σ' H',N σ' H'->∃m',m'<m/\W (i+1) m' σ' H')/\∀x H',J.yld i H x H'->g x σ H' fun σ2 H2=>tb {D with nx:=N,ct:=N,bk:=D.nx} σ2 H2)
def tD(fp:List Addr)(h:Heap):List (Addr×Obj):=fp.filterMap fun b=>(h.get? b).map fun o=>(b,o)
theorem jX{fp:List Addr}{h:Heap}{b:Addr}{o:Obj}(hb:b∈fp)(e:h.get? b=some o):(b,o)∈tD fp h:=List.mem_filterMap.mpr ⟨b,hb,by rw[e];rfl⟩
theorem Ed{fp:List Addr}{h:Heap}{p:Addr×Obj}(hp:p∈tD fp h):p.1∈fp/\h.get? p.1=some p.2:=by
 obtain⟨b,hb,e⟩:=List.mem_filterMap.mp hp
 cases q:h.get? b with
 |none=>rw[q]at e;cases e
 |some o=>
  rw[q]at e
  have e':(b,o)=p:=Option.some.inj e
  subst e'
  exact⟨hb,q⟩
theorem Inv.pinned{pins:List (Addr×Obj)}{σ:St}{H:Hp}{s:Shared}{fp:List Addr}(I:Inv X pins σ H s)(hf:∀b∈fp,oF X pins H b)(ho:∀b∈fp,∃o,s.heap.get? b=some o/\∀v,o.data≠ .cell v):Inv X (pins++tD fp s.heap) σ H s:=
 I.pins_of fun p hp=>(List.mem_append.mp hp).elim (fun z=>I.pin p (List.mem_append_right _ z)) fun z=>by
  obtain⟨hb,e⟩:=Ed z
  obtain⟨f0,f1,f2,_⟩:=hf p.1 hb
  obtain⟨o,e',d⟩:=ho p.1 hb
  rw[e]at e';cases e'
  exact⟨e,f0,f1,f2,d⟩
theorem Inv.unpinned{pins pl:List (Addr×Obj)}{σ:St}{H:Hp}{s:Shared}(I:Inv X (pins++pl) σ H s):Inv X pins σ H s:=I.pins_of fun p hp=>I.pin p (List.mem_append_right _ (List.mem_append_left _ hp))
theorem dB{iter:Expr}{body:List Stmt}{wi:TI}{g:TG}{tb:TS}{pos:Pos}(hp:PassesOwn (model X.prog X.w) X.A X.env X.xe)(hc:X.calm=true)(hi:PI X tg iter wi)(hg:PG X tg g)(hb:lC X body tb)
  (hs:∀x,foldedSetIterable iter X.env x=pure x:=by intro _;rfl):PS X (.For tg iter body [] pos) (Wz wi g tb):=by
 intro pins s σ H D I h
 refine wpAny_For (cZ (hi pins s σ H _ I h) fun v s1 h1=>cZ h1 fun itv s2 h2=>?_) hs
 obtain⟨it,fp,tn,J,H2,e,I2,T,st2,f2,W,⟨m0,w0⟩,turn⟩:=h2
 subst e
 have stat:∀{H':Hp},(∀b∈fp,H' b=none)->∀b∈fp,oF X pins H' b:=fun hn b hb=>⟨hn b hb,(f2 b hb).2⟩
 refine codeAny_forLoop_any (fun n s'=>∃i σ' H',Inv X pins σ' H' s'/\tn i s'.heap/\(∀b∈fp,H' b=none)/\W i n σ' H') ?_ m0 ⟨0,σ,H2,I2,st2,fun b hb=>(f2 b hb).1,w0⟩
 rintro n s3 ⟨i,σ3,H3,I3,st3,fr3,w3⟩
 rcases turn i n σ3 H3 w3 with⟨stop,qn⟩|⟨go,N,hN,step⟩
 .refine wpAny_passesOwn hp (cZ (T.done X rfl rfl rfl hc i pins s3 σ3 H3 X.xe I3 (stat fr3) st3 stop) fun r s4⟨hr,I4⟩=>?_)
  subst hr
  exact wpAny_execs_nil ⟨σ3,H3,I4,qn⟩
 .refine wpAny_passesOwn hp (cZ (T.item X rfl rfl rfl hc i pins s3 σ3 H3 X.xe I3 (stat fr3) st3 go) fun r s4⟨u,hr,h4⟩=>?_)
  subst hr
  refine wpAny_passesOwn hp (cZ h4 fun _ s5⟨x,H5,I5,r5,y5,st5,fr5⟩=>?_)
  have I5':=I5.pinned (stat fr5) (T.obj _ _ st5)
  refine wpAny_passesOwn hp (cZ (hg _ s5 σ3 H5 x u _ I5' r5 (step x H5 y5)) fun _ s6⟨σ6,H6,I6,q6⟩=>?_)
  refine wpAny_passesOwn hp (cZ (hb _ s6 σ6 H6 _ I6 q6) fun f s7 q7=>?_)
  have again:∀{σ7:St}{H7:Hp},Inv X (pins++tD fp s5.heap) σ7 H7 s7->N σ7 H7->∃m,m<n/\∃i σ' H',Inv X pins σ' H' s7/\tn i s7.heap/\(∀b∈fp,H' b=none)/\W i m σ' H':=fun{σ7 H7}I7 n7=>by
   obtain⟨m',hm,w7⟩:=hN σ7 H7 n7
   refine⟨m',hm,i+1,σ7,H7,I7.unpinned,T.keep _ _ _ st5 fun b hb o e=>(I7.pin (b,o) (List.mem_append_right _ (List.mem_append_right _ (jX hb e)))).1,fun b hb=>?_,w7⟩
   obtain⟨o,e,d⟩:=T.obj _ _ st5 b hb
   exact(I7.pin (b,o) (List.mem_append_right _ (List.mem_append_right _ (jX hb e)))).2.1
  cases f with
  |next=>obtain⟨σ7,H7,I7,n7⟩:=q7;exact again I7 n7
  |cont=>obtain⟨σ7,H7,I7,n7⟩:=q7;exact again I7 n7
  |brk=>obtain⟨σ7,H7,I7,q7⟩:=q7;exact⟨σ7,H7,I7.unpinned,q7⟩
  |ret v=>obtain⟨x7,σ7,H7,I7,r7,q7⟩:=q7;exact⟨x7,σ7,H7,I7.unpinned,r7,q7⟩
end
theorem dh{K:PySem.W.Frag}{a:Addr}{xs:List V}{g:TG}{tb:TS}{D:Ends}{σ:St}{H:Hp}(Pv:Nat->St->Hp->Prop)(h0:Pv 0 σ H)(hl:∀i σ H,i<=xs.length->Pv i σ H->cJ K H a xs)
  (hs:∀i x σ H,xs[i]? =some x->Pv i σ H->g x σ H fun σ2 H2=>tb {D with nx:=Pv (i+1),ct:=Pv (i+1),bk:=D.nx} σ2 H2)(hd:∀σ H,Pv xs.length σ H->D.nx σ H):
  ∃W:Nat->Nat->St->Hp->Prop,(∃m,W 0 m σ H)/\∀i m σ H,W i m σ H->
   ((Ni K a).stop i H/\D.nx σ H)\/((Ni K a).go i H/\∃N:St->Hp->Prop,(∀σ' H',N σ' H'->∃m',m'<m/\W (i+1) m' σ' H')/\∀x H',(Ni K a).yld i H x H'->g x σ H' fun σ2 H2=>tb {D with nx:=N,ct:=N,bk:=D.nx} σ2 H2):=by
 refine⟨fun i m σ H=>m=xs.length-i/\i<=xs.length/\Pv i σ H,⟨xs.length,by simp,Nat.zero_le _,h0⟩,?_⟩
 rintro i m σ H ⟨rfl,hi,p⟩
 have q:=hl i σ H hi p
 by_cases hlt:i<xs.length
 .refine .inr ⟨⟨xs,xs[i],q,by simp[hlt]⟩,Pv (i+1),fun σ' H' p'=>⟨xs.length-(i+1),by omega,rfl,hlt,p'⟩,fun x H' y=>?_⟩
  obtain⟨e,y⟩:=y
  subst e
  exact hs i x σ _ (y xs q) p
 .have e:i=xs.length:=by omega
  subst e
  exact .inl ⟨⟨xs,q,Nat.le_refl _⟩,hd σ H p⟩
theorem jC{lo:Int}{n:Nat}{g:TG}{tb:TS}{D:Ends}{σ:St}{H:Hp}(Pv:Nat->St->Hp->Prop)(h0:Pv 0 σ H)
  (hs:∀i σ H,i<n->Pv i σ H->g (.int (lo+i)) σ H fun σ2 H2=>tb {D with nx:=Pv (i+1),ct:=Pv (i+1),bk:=D.nx} σ2 H2)(hd:∀σ H,Pv n σ H->D.nx σ H):
  ∃W:Nat->Nat->St->Hp->Prop,(∃m,W 0 m σ H)/\∀i m σ H,W i m σ H->
   ((JK lo n).stop i H/\D.nx σ H)\/((JK lo n).go i H/\∃N:St->Hp->Prop,(∀σ' H',N σ' H'->∃m',m'<m/\W (i+1) m' σ' H')/\∀x H',(JK lo n).yld i H x H'->g x σ H' fun σ2 H2=>tb {D with nx:=N,ct:=N,bk:=D.nx} σ2 H2):=by
 refine⟨fun i m σ H=>m=n-i/\i<=n/\Pv i σ H,⟨n,by simp,Nat.zero_le _,h0⟩,?_⟩
 rintro i m σ H ⟨rfl,hi,p⟩
 by_cases hlt:i<n
 .refine .inr ⟨hlt,Pv (i+1),fun σ' H' p'=>⟨n-(i+1),by omega,rfl,hlt,p'⟩,fun x H' y=>?_⟩
  obtain⟨e,y⟩:=y
  subst e y
  exact hs i σ _ hlt p
 .have e:i=n:=by omega
  subst e
  exact .inl ⟨Nat.le_refl _,hd σ H p⟩
theorem pI{c:TT}{tb:TS}{D:Ends}{σ:St}{H:Hp}(Pv:St->Hp->Prop)(μ:St->Hp->Nat)(h0:Pv σ H)
  (hs:∀σ H,Pv σ H->c σ H fun b H1=>if b=true then tb {D with nx:=fun σ' H'=>Pv σ' H'/\μ σ' H'<μ σ H,ct:=fun σ' H'=>Pv σ' H'/\μ σ' H'<μ σ H,bk:=D.nx} σ H1 else D.nx σ H1)
  (mono:∀σ H Q Q',(∀b H1,Q b H1->Q' b H1)->c σ H Q->c σ H Q'):Jk c tb D σ H:=by
 refine⟨fun m σ H=>m=μ σ H/\Pv σ H,⟨_,rfl,h0⟩,?_⟩
 rintro m σ H ⟨rfl,p⟩
 refine mono σ H _ _ (fun b H1 q=>?_) (hs σ H p)
 cases b with
 |true=>exact⟨_,fun σ' H'⟨p',l⟩=>⟨_,l,rfl,p'⟩,q⟩
 |false=>exact q
end L2
namespace L2
open PySem PySem.Spec PyProof.Rows
abbrev R2:=V->V->Hp->VK->Prop
def qK(X:Cx)(f:Value->Value->Sem Value)(r:R2):Prop:=
 ∀(pins:List (Addr×Obj))(s:Shared)(σ:St)(H:Hp)(x y:V)(v u:Value)(Q:VK),Inv X pins σ H s->RelV x v->RelV y u->r x y H Q->
  wpAny (model X.prog X.w) X.A (f v u) (EP X pins σ Q) X.xe s
def Vm(X:Cx)(f:Value->Sem Value)(r:V->Hp->VK->Prop):Prop:=
 ∀(pins:List (Addr×Obj))(s:Shared)(σ:St)(H:Hp)(x:V)(v:Value)(Q:VK),Inv X pins σ H s->RelV x v->r x H Q->
  wpAny (model X.prog X.w) X.A (f v) (EP X pins σ Q) X.xe s
def nu(X:Cx)(f:Value)(r:List V->Hp->VK->Prop):Prop:=
 ∀(pins:List (Addr×Obj))(s:Shared)(σ:St)(H:Hp)(xs:List V)(us:List Value)(Q:VK),Inv X pins σ H s->Vals xs us->r xs H Q->
  wpAny (model X.prog X.w) X.A (call f us) (EP X pins σ Q) X.xe s
def Ve(r:R2)(ta tb:TE):TE:=fun σ H Q=>ta σ H fun x H1=>tb σ H1 fun y H2=>r x y H2 Q
def Yl(r:V->Hp->VK->Prop)(ta:TE):TE:=fun σ H Q=>ta σ H fun x H1=>r x H1 Q
def rI(C:Int->Int->Prop)(g:Int->Int->V):R2:=fun x y H Q=>∃i j,x= .int i/\y= .int j/\C i j/\Q (g i j) H
def Ry(g:Int->Int->V):R2:=fun x y H Q=>∃i j,x= .int i/\y= .int j/\Q (g i j) H
def rU(g:Int->V):V->Hp->VK->Prop:=fun x H Q=>∃i,x= .int i/\Q (g i) H
section
variable {X:Cx} {a b c:Expr} {ta tb tc:TE} {pos:Pos}
theorem Ph(ha:PE X a ta)(hb:PE X b tb){pins:List (Addr×Obj)}{s:Shared}{σ:St}{H:Hp}{R:V->V->Hp->Prop}(I:Inv X pins σ H s)
  (h:ta σ H fun x H1=>tb σ H1 fun y H2=>R x y H2){Q:Value->Shared->Prop}{f:Value->Value->Sem Value}
  (hf:∀v u s2 x y H2,Inv X pins σ H2 s2->RelV x v->RelV y u->R x y H2->wpAny (model X.prog X.w) X.A (f v u) Q X.xe s2):
  wpAny (model X.prog X.w) X.A (eval a X.env) (fun v s₁=>wpAny (model X.prog X.w) X.A (eval b X.env) (fun u s₂=>wpAny (model X.prog X.w) X.A (f v u) Q X.xe s₂) X.xe s₁) X.xe s:=by
 refine cZ (ha pins s σ H _ I h) fun v s1⟨x,H1,I1,r1,q1⟩=>?_
 refine cZ (hb pins s1 σ H1 _ I1 q1) fun u s2⟨y,H2,I2,r2,q2⟩=>?_
 exact hf v u s2 x y H2 I2 r1 r2 q2
theorem bj{op:Operator}{r:R2}(ho:qK X (binaryOp op) r)(ha:PE X a ta)(hb:PE X b tb):PE X (.BinOp a op b pos) (Ve r ta tb):=by
 intro pins s σ H Q I h
 exact wpAny_BinOp (Ph ha hb I h fun v u s2 x y H2 I2 rx ry q=>ho pins s2 σ H2 x y v u Q I2 rx ry q)
theorem By{op:UnaryOp}{r:V->Hp->VK->Prop}(ho:Vm X (unaryOp op) r)(ha:PE X a ta):PE X (.UnaryOp op a pos) (Yl r ta):=by
 intro pins s σ H Q I h
 exact UnaryOp_ (cZ (ha pins s σ H _ I h) fun v s1⟨x,H1,I1,r1,q1⟩=>ho pins s1 σ H1 x v Q I1 r1 q1)
theorem Tr{f:Value->Value->Sem Value}{C:Int->Int->Prop}{g:Int->Int->Int}
  (rule:∀(i j:Int)(t u:Tok)(s:Shared)(Q:Value->Shared->Prop)(E:Value->Shared->Prop),C i j->Q (.int (g i j) s.toks) {s with toks:=s.toks+1}->wpAny (model X.prog X.w) X.A (f (.int i t) (.int j u)) Q E s):
  qK X f (rI C fun i j=> .int (g i j)):=by
 intro pins s σ H x y v u Q I rx ry h
 obtain⟨i,j,rfl,rfl,hc,q⟩:=h
 obtain⟨t,rfl⟩:=rx
 obtain⟨t',rfl⟩:=ry
 exact rule i j t t' s _ _ hc ⟨.int (g i j),H,I.tok _,⟨_,rfl⟩,q⟩
theorem Tt{f:Value->Value->Sem Value}{g:Int->Int->Int}
  (rule:∀(i j:Int)(t u:Tok)(s:Shared)(Q:Value->Shared->Prop)(E:Value->Shared->Prop),Q (.int (g i j) s.toks) {s with toks:=s.toks+1}->wpAny (model X.prog X.w) X.A (f (.int i t) (.int j u)) Q E s):
  qK X f (Ry fun i j=> .int (g i j)):=by
 intro pins s σ H x y v u Q I rx ry h
 obtain⟨i,j,rfl,rfl,q⟩:=h
 obtain⟨t,rfl⟩:=rx
 obtain⟨t',rfl⟩:=ry
 exact rule i j t t' s _ _ ⟨.int (g i j),H,I.tok _,⟨_,rfl⟩,q⟩
theorem Tq{f:Value->Value->Sem Value}{g:Int->Int->Bool}
  (rule:∀(i j:Int)(t u:Tok)(s:Shared)(Q:Value->Shared->Prop)(E:Value->Shared->Prop),Q (.bool (g i j)) s->wpAny (model X.prog X.w) X.A (f (.int i t) (.int j u)) Q E s):
  qK X f (Ry fun i j=> .bl (g i j)):=by
 intro pins s σ H x y v u Q I rx ry h
 obtain⟨i,j,rfl,rfl,q⟩:=h
 obtain⟨t,rfl⟩:=rx
 obtain⟨t',rfl⟩:=ry
 exact rule i j t t' s _ _ ⟨.bl (g i j),H,I,rfl,q⟩
def Vg(i j:Int):Prop:=0<j/\j<1073741824
def Ov(i j:Int):Prop:=(-(2^64)<i/\i<2^64)\/(-(2^64)<j/\j<2^64)
theorem Ov.ok{i j:Int}(h:Ov i j):IntMulOk i j:=by
 rcases h with⟨h1,h2⟩|⟨h1,h2⟩
 .exact .of_left (intBits_le_64 h1 h2)
 .exact .of_right (intBits_le_64 h1 h2)
theorem iD:qK X (binaryOp .Add) (Ry fun i j=> .int (i+j)):=Tt fun _ _ _ _ _ _ _ q=>add_int q
theorem lV:qK X (binaryOp .Sub) (Ry fun i j=> .int (i-j)):=Tt fun _ _ _ _ _ _ _ q=>sub_int q
theorem zx:qK X (binaryOp .Mult) (rI Ov fun i j=> .int (i*j)):=Tr fun _ _ _ _ _ _ _ hc q=>mul_int q hc.ok
theorem mR:qK X (binaryOp .FloorDiv) (rI Vg fun i j=> .int (i/j)):=Tr fun i j _ _ _ _ _ hc q=>by
 have h1:(0:Int)<j:=hc.1
 have h2:j<1073741824:=hc.2
 exact floordiv_int (by omega) (by rw[Int.fdiv_eq_ediv_of_nonneg i (by omega)];exact q) (.inl (PyProof.noPylong_small (by omega)))
theorem dH:qK X (binaryOp .Mod) (rI (fun _ j=>0<j) fun i j=> .int (i%j)):=Tr fun i j _ _ _ _ _ hc q=>by
 have h1:(0:Int)<j:=hc
 exact mod_int' (by omega) (by rw[Int.fmod_eq_emod_of_nonneg i (by omega)];exact q)
theorem Yo{f:Value->Sem Value}{g:Int->Int}
  (rule:∀(i:Int)(t:Tok)(s:Shared)(Q:Value->Shared->Prop)(E:Value->Shared->Prop),Q (.int (g i) s.toks) {s with toks:=s.toks+1}->wpAny (model X.prog X.w) X.A (f (.int i t)) Q E s):
  Vm X f (rU fun i=> .int (g i)):=by
 intro pins s σ H x v Q I rx h
 obtain⟨i,rfl,q⟩:=h
 obtain⟨t,rfl⟩:=rx
 exact rule i t s _ _ ⟨.int (g i),H,I.tok _,⟨_,rfl⟩,q⟩
theorem wI:Vm X (unaryOp .USub) (rU fun i=> .int (-i)):=Yo fun _ _ _ _ _ q=>neg_int q
end
def Ua:V->V->Bool
 | .non,.non=>true| .non,.int _=>true| .int _,.non=>true| .non,.bl _=>true| .bl _,.non=>true| .non,.str _=>true| .str _,.non=>true
 | .int _,.int _=>true| .bl _,.bl _=>true| .str _,.str _=>true| .byt _,.byt _=>true
 | .int _,.str _=>true| .str _,.int _=>true| .bl _,.str _=>true| .str _,.bl _=>true
 |_,_=>false
def Yd:R2:=fun x y H Q=>Ua x y=true/\Q (.bl (decide (x=y))) H
def Ye:R2:=fun x y H Q=>Ua x y=true/\Q (.bl (!decide (x=y))) H
theorem Ax{i j:Int}:decide (V.int i=V.int j)=(i==j):=by
 rw[Bool.eq_iff_iff]
 simp
theorem Gh{i j:Bool}:decide (V.bl i=V.bl j)=(i==j):=by
 rw[Bool.eq_iff_iff]
 simp
theorem Ay{i j:Str}:decide (V.str i=V.str j)=(i==j):=by
 rw[Bool.eq_iff_iff]
 simp
theorem Aw{i j:Array UInt8}:decide (V.byt i=V.byt j)=(i.toList==j.toList):=by
 rw[Bool.eq_iff_iff]
 cases i
 cases j
 simp
section
variable {X:Cx} {a b c:Expr} {ta tb tc:TE} {pos:Pos}
theorem cB{pins:List (Addr×Obj)}{σ:St}{H:Hp}{s:Shared}{Q:VK}{k k':Bool}(I:Inv X pins σ H s)(q:Q (.bl k) H)(e:k=k'):EP X pins σ Q (.bool k') s:=by
 subst e
 exact⟨.bl k,H,I,rfl,q⟩
theorem iW:qK X (compareOp .Eq) Yd:=by
 intro pins s σ H x y v u Q I rx ry h
 obtain⟨hs,q⟩:=h
 cases x with
 |non=>
  cases rx
  cases y with
  |non=>cases ry;exact PySem.EqNone.eq_none_none (cB I q (by simp))
  |bl j=>cases ry;exact PySem.EqNone.eq_none_bool (cB I q (by simp))
  |int j=>obtain⟨t',rfl⟩:=ry;exact PySem.EqNone.eq_none_int (cB I q (by simp))
  |str j=>obtain⟨t',rfl⟩:=ry;exact PySem.EqNone.eq_none_str (cB I q (by simp))
  |_=>exact absurd (show false=true from hs) Bool.false_ne_true
 |bl i=>
  cases rx
  cases y with
  |non=>cases ry;exact PySem.EqNone.eq_bool_none (cB I q (by simp))
  |bl j=>cases ry;exact eq_bool (cB I q Gh)
  |str j=>obtain⟨t',rfl⟩:=ry;exact PySem.EqMixed.eq_bool_str (cB I q (by simp))
  |_=>exact absurd (show false=true from hs) Bool.false_ne_true
 |int i=>
  obtain⟨t,rfl⟩:=rx
  cases y with
  |non=>cases ry;exact PySem.EqNone.eq_int_none (cB I q (by simp))
  |int j=>obtain⟨t',rfl⟩:=ry;exact eq_int (cB I q Ax)
  |str j=>obtain⟨t',rfl⟩:=ry;exact PySem.EqMixed.eq_int_str (cB I q (by simp))
  |_=>exact absurd (show false=true from hs) Bool.false_ne_true
 |str i=>
  obtain⟨t,rfl⟩:=rx
  cases y with
  |non=>cases ry;exact PySem.EqNone.eq_str_none (cB I q (by simp))
  |bl j=>cases ry;exact PySem.EqMixed.eq_str_bool (cB I q (by simp))
  |int j=>obtain⟨t',rfl⟩:=ry;exact PySem.EqMixed.eq_str_int (cB I q (by simp))
  |str j=>obtain⟨t',rfl⟩:=ry;exact eq_str (cB I q Ay)
  |_=>exact absurd (show false=true from hs) Bool.false_ne_true
 |byt i=>
  obtain⟨t,rfl⟩:=rx
  cases y with
  |byt j=>obtain⟨t',rfl⟩:=ry;exact PySem.W.eq_bytes (cB I q Aw)
  |_=>exact absurd (show false=true from hs) Bool.false_ne_true
 |_=>cases y<;>exact absurd (show false=true from hs) Bool.false_ne_true
theorem Bv:qK X (compareOp .NotEq) Ye:=by
 intro pins s σ H x y v u Q I rx ry h
 obtain⟨hs,q⟩:=h
 cases x with
 |non=>
  cases rx
  cases y with
  |non=>cases ry;exact PySem.EqNone.ne_none_none (cB I q (by simp))
  |bl j=>cases ry;exact PySem.EqNone.ne_none_bool (cB I q (by simp))
  |int j=>obtain⟨t',rfl⟩:=ry;exact PySem.EqNone.ne_none_int (cB I q (by simp))
  |str j=>obtain⟨t',rfl⟩:=ry;exact PySem.EqNone.ne_none_str (cB I q (by simp))
  |_=>exact absurd (show false=true from hs) Bool.false_ne_true
 |bl i=>
  cases rx
  cases y with
  |non=>cases ry;exact PySem.EqNone.ne_bool_none (cB I q (by simp))
  |bl j=>cases ry;exact ne_bool (cB I q (congrArg not Gh))
  |str j=>obtain⟨t',rfl⟩:=ry;exact PySem.EqMixed.ne_bool_str (cB I q (by simp))
  |_=>exact absurd (show false=true from hs) Bool.false_ne_true
 |int i=>
  obtain⟨t,rfl⟩:=rx
  cases y with
  |non=>cases ry;exact PySem.EqNone.ne_int_none (cB I q (by simp))
  |int j=>obtain⟨t',rfl⟩:=ry;exact ne_int (cB I q (congrArg not Ax))
  |str j=>obtain⟨t',rfl⟩:=ry;exact PySem.EqMixed.ne_int_str (cB I q (by simp))
  |_=>exact absurd (show false=true from hs) Bool.false_ne_true
 |str i=>
  obtain⟨t,rfl⟩:=rx
  cases y with
  |non=>cases ry;exact PySem.EqNone.ne_str_none (cB I q (by simp))
  |bl j=>cases ry;exact PySem.EqMixed.ne_str_bool (cB I q (by simp))
  |int j=>obtain⟨t',rfl⟩:=ry;exact PySem.EqMixed.ne_str_int (cB I q (by simp))
  |str j=>obtain⟨t',rfl⟩:=ry;exact ne_str (cB I q (congrArg not Ay))
  |_=>exact absurd (show false=true from hs) Bool.false_ne_true
 |byt i=>
  obtain⟨t,rfl⟩:=rx
  cases y with
  |byt j=>obtain⟨t',rfl⟩:=ry;exact PySem.W.ne_bytes (cB I q (congrArg not Aw))
  |_=>exact absurd (show false=true from hs) Bool.false_ne_true
 |_=>cases y<;>exact absurd (show false=true from hs) Bool.false_ne_true
theorem gQ:qK X (compareOp .Lt) (Ry fun i j=> .bl (decide (i<j))):=Tq fun _ _ _ _ _ _ _ q=>lt_int q
theorem sZ:qK X (compareOp .Gt) (Ry fun i j=> .bl (decide (j<i))):=Tq fun _ _ _ _ _ _ _ q=>gt_int q
theorem Qo:qK X (compareOp .Is) (fun x y H Q=>y= .non/\Q (.bl (decide (x= .non))) H):=by
 intro pins s σ H x y v u Q I rx ry h
 obtain⟨rfl,q⟩:=h
 cases ry
 refine is_none_gen (cB I q ?_)
 cases x<;>first
  | (cases rx;rfl)
  | (obtain⟨t,rfl⟩:=rx;rfl)
theorem vN:qK X (compareOp .IsNot) (fun x y H Q=>y= .non/\Q (.bl (!decide (x= .non))) H):=by
 intro pins s σ H x y v u Q I rx ry h
 obtain⟨rfl,q⟩:=h
 cases ry
 refine isnot_none_gen (cB I q ?_)
 cases x<;>first
  | (cases rx;rfl)
  | (obtain⟨t,rfl⟩:=rx;rfl)
theorem bx(b:Expr){op:CmpOp}(h:op≠ .In:=by decide)(h2:op≠ .NotIn:=by decide):behindInMarks op b=false:=by
 have e1:(op==CmpOp.In)=false:=by cases op<;>first|rfl|exact absurd rfl h
 have e2:(op==CmpOp.NotIn)=false:=by cases op<;>first|rfl|exact absurd rfl h2
 cases b<;>simp[behindInMarks,e1,e2]
theorem jZ{op:CmpOp}{r:R2}(ho:qK X (compareOp op) r)(ha:PE X a ta)(hb:PE X b tb)(hm:behindInMarks op b=false):PE X (.Compare a [op] [b] pos) (Ve r ta tb):=by
 intro pins s σ H Q I h
 exact wpAny_Compare1 (Ph ha hb I h fun v u s2 x y H2 I2 rx ry q=>ho pins s2 σ H2 x y v u Q I2 rx ry q) hm
def Ur(t:TE):TT:=fun σ H Q=>t σ H fun x H'=>∃k,x= .bl k/\Q k H'
theorem aY{op:CmpOp}{r:R2}(ho:qK X (compareOp op) r)(ha:PE X a ta)(hb:PE X b tb)(hm:behindInMarks op b=false):PT X (.Compare a [op] [b] pos) (Ur (Ve r ta tb)):=by
 intro pins s σ H Q I h
 refine wpAny_isTrue_Compare1 (cZ (ha pins s σ H _ I h) fun v s1⟨x,H1,I1,r1,q1⟩=>cZ (hb pins s1 σ H1 _ I1 q1) fun u s2⟨y,H2,I2,r2,q2⟩=>
  cZ (ho pins s2 σ H2 x y v u _ I2 r1 r2 q2) fun c s3⟨z,H3,I3,r3,k,e,q3⟩=>?_) hm
 subst e
 cases r3
 exact wpAny_truthy_bool ⟨H3,I3,q3⟩
theorem vG:(sizeLine:Nat)<2^63:=by rw[sizeLine_eq];decide
theorem vals1{x:V}{us:List Value}(r:Vals [x] us):∃u,us=[u]/\RelV x u:=by
 cases r with
 |cons r1 r2=>cases r2;exact⟨_,rfl,r1⟩
end
end L2
namespace L2
open PySem PySem.Spec PyProof.Rows
structure yF(h:Heap)(x dx C:Addr)(mA:Str->Option Value):Prop where
 obj:h.get? x=some (PySem.W.instObj C dx)
 ns:h.Ns1 dx mA
 ne:dx≠x
theorem DW{h:Heap}{dx:Addr}{mA:Str->Option Value}(n:h.Ns1 dx mA):∃od,h.get? dx=some od/\∀name,PySem.W.lookIn name od=some (mA name):=by
 obtain⟨o,es,ep,ho,hd,hk,_,hm⟩:=n
 refine⟨o,ho,fun name=>?_⟩
 have e:=hm name
 unfold nsFind findBy at e
 rw[<-Array.find?_toList]at e
 unfold PySem.W.lookIn
 rw[hd]
 dsimp only
 split
 .rename_i y q
  rw[q]at e
  exact congrArg some e
 .rename_i q
  rw[q]at e
  have a:es.toList.any (·.refKey)=false:=by
   rw[List.any_eq_false]
   intro y hy
   obtain⟨z,t,hkey⟩:=hk y (Array.mem_toList_iff.mp hy)
   simp[DictEntry.refKey,hkey]
  have a':¬es.toList.any (·.refKey)=true:=by rw[a];exact Bool.false_ne_true
  rw[if_neg a']
  exact congrArg some e
theorem yF.look{h:Heap}{x dx C:Addr}{mA:Str->Option Value}(I:yF h x dx C mA):∃od,PySem.W.InstAt h x (PySem.W.instObj C dx) C (some od)/\∀name,PySem.W.lookIn name od=some (mA name):=
 let⟨od,ho,hl⟩:=DW I.ns
 ⟨od,⟨I.obj,rfl,rfl,ho⟩,hl⟩
section
variable {prog:Program} {w:World} {A:Around} {E:Value->Shared->Prop} {s:Shared} {K:PySem.W.Frag} {x dx C f:Addr} {mA:Str->Option Value} {name:Str} {v:Value}
theorem Kg{expr:Bool}{Q:Value->Shared->Prop}(X:K.In s.heap)(I:yF s.heap x dx C mA)(hg:PySem.W.plainGet K C name=true)(hh:PySem.W.hasDictIn K C=true)
  (ha:PySem.W.findIn K (.ref C) name=some none)(hv:mA name=some v)(hv':PySem.W.handedIn v=true)(h:Q v {s with toks:=s.toks+1}):
  wpAny (model prog w) A (getAttr (.ref x) name expr) Q E s:=by
 obtain⟨od,J,hl⟩:=I.look
 exact PySem.W.get_value X J (PySem.W.plainGet_of hg).1 (PySem.W.findObj_own hh ha rfl (by rw[hl,hv])) hv' h
theorem Gv{pl:Sem Bool}{Q:Value×List Value->Shared->Prop}(X:K.In s.heap)(I:yF s.heap x dx C mA)(hg:PySem.W.plainGet K C name=true)
  (hf:PySem.W.findIn K (.ref C) name=some (some (.ref f)))(ht:PySem.W.isFn K (.ref f)=true)(hv:mA name=none)(h:Q (.ref f,[.ref x]) s):
  wpAny (model prog w) A (getMethod (.ref x) name pl) Q E s:=by
 obtain⟨od,J,hl⟩:=I.look
 exact PySem.W.method_fn X J (PySem.W.plainGet_of hg).1 (PySem.W.plainGet_of hg).2 hf (beq_iff_eq.mp ht) (by show(PySem.W.lookIn name od).map (·.isSome)=some false;rw[hl,hv];rfl) h
theorem Ms{ns:List Str}{Q:Unit->Shared->Prop}(X:K.In s.heap)(I:yF s.heap x dx C mA)
  (hs:PySem.W.findIn K (.ref C) "__setattr__"=some (some (.builtin "object.__setattr__")))(hp:PySem.W.plainOver K C=true)(ht:PySem.W.takerIn K C name=some none)(hh:PySem.W.hasDictIn K C=true)
  (hw:PySem.Within mA ns)(hsz:ns.length<=sizeLine)
  (h:∀h',yF h' x dx C (fun y=>if y=name then some v else mA y)->Heap.SameBut dx s.heap h'->Q () {s with heap:=h',toks:=s.toks+2}):
  wpAny (model prog w) A (setAttr (.ref x) name v) Q E s:=by
 obtain⟨od,J,hl⟩:=I.look
 refine PySem.W.set_plain X J hs (PySem.W.osa_open (s:={s with toks:=s.toks+1}) (r:=none) X J hp ht fun b=>?_)
 obtain⟨cd,hc,hd'⟩:=PySem.W.any_some hh
 have hx:s.heap.get? x=some ⟨.ref C,some dx,.plain,#[]⟩:=I.obj
 refine wpAny_bind (wpAny_pure (wpAny_bind (wpAny_bind (wpAny_loadPart hx (wpAny_bind (PySem.W.Looks.here (s:={s with toks:=s.toks+1}) (PySem.W.looks_clsIn X hc) ?_))))))
 rw[hd']
 refine wpAny_pure (a:=some dx) (wpAny_bind (wpAny_pure (wpAny_bind ?_)))
 refine wpAny_nsSet1 (s:={s with toks:=s.toks+1}) I.ns fun h' hn2 hs2=>?_
 obtain⟨oD,esD,epD,hoD,hdD,hcD⟩:=hn2.count (PySem.Within.cons name v hw)
 refine wpAny_bind (wpAny_lookBehind hoD (by rw[hdD];exact pastItsLine_dict (Nat.le_trans hcD (by rw[List.length_cons];omega))) ?_)
 exact wpAny_pure (h _ ⟨(hs2.2 _ (Ne.symm I.ne)).trans I.obj,hn2,I.ne⟩ hs2)
theorem Hd{R:Result->Shared->Prop}{vs:List Value}{kw:List (Str×Value)}(X:K.In s.heap)(hm:PySem.W.makesIn K C=true)
  (hi:PySem.W.findIn K (.ref C) "__init__"=some (some (.ref f)))(hf:PySem.W.typeIn K (.ref f)=some (.type "function"))
  (h:codeAny (model prog w) (A.under (.builtin "type.__call__" ⟨.ref C::vs,kw⟩)) (.call (.ref f) ⟨.ref (s.heap.objs.size+1)::vs,kw⟩) (PySem.W.InitBack (s.heap.objs.size+1) R)
   {s with heap:=(s.heap.push PySem.W.emptyDict).push (PySem.W.instObj C s.heap.objs.size)}):
  codeAny (model prog w) A (.call (.ref C) ⟨vs,kw⟩) R s:=by
 obtain⟨hh,g,d,t,os⟩:=s
 exact PySem.W.make_core (PySem.W.makes_of X hm) (PySem.W.looks_findIn X hi) (fun self=>PySem.W.bind_fn X self hf) (.inl rfl) h
theorem DY{R:Result->Shared->Prop}(X:K.In s.heap)(hm:PySem.W.makesIn K C=true)
  (hi:PySem.W.findIn K (.ref C) "__init__"=some (some (.builtin "object.__init__")))
  (hb:∀self,PySem.W.Looks (model prog w) s.heap (bindSpecial (.builtin "object.__init__") self) (.builtin "object.__init__",[self]))
  (h:codeAny (model prog w) (A.under (.builtin "type.__call__" ⟨[.ref C],[]⟩)) (.call (.builtin "object.__init__") ⟨[.ref (s.heap.objs.size+1)],[]⟩) (PySem.W.InitBack (s.heap.objs.size+1) R)
   {s with heap:=(s.heap.push PySem.W.emptyDict).push (PySem.W.instObj C s.heap.objs.size)}):
  codeAny (model prog w) A (.call (.ref C) ⟨[],[]⟩) R s:=by
 obtain⟨hh,g,d,t,os⟩:=s
 exact PySem.W.make_core (PySem.W.makes_of X hm) (PySem.W.looks_findIn X hi) hb (.inr ⟨rfl,rfl⟩) h
end
def iG(f:Str)(v:V):List (Str×V)->List (Str×V)
 |[]=>[(f,v)]
 | (g,x)::r=>if g=f then(g,v)::r else(g,x)::iG f v r
theorem qO(f g:Str)(v:V):∀fs:List (Str×V),(iG f v fs).lookup g=if g=f then some v else fs.lookup g
 |[]=>by
  show List.lookup g [(f,v)]=_
  by_cases h:g=f
  .have hb:(g==f)=true:=beq_iff_eq.mpr h
   simp only[List.lookup,hb,if_pos h]
  .have hb:(g==f)=false:=beq_eq_false_iff_ne.mpr h
   simp only[List.lookup,hb,if_neg h]
 | (k,x)::r=>by
  have ih:=qO f g v r
  rw[show iG f v ((k,x)::r)=(if k=f then(k,v)::r else(k,x)::iG f v r)from rfl]
  by_cases hk:k=f
  .rw[if_pos hk]
   by_cases h:g=k
   .have hb:(g==k)=true:=beq_iff_eq.mpr h
    simp only[List.lookup,hb,if_pos (h.trans hk)]
   .have hb:(g==k)=false:=beq_eq_false_iff_ne.mpr h
    simp only[List.lookup,hb,if_neg (fun e:g=f=>h (e.trans hk.symm))]
  .rw[if_neg hk]
   by_cases h:g=k
   .have hb:(g==k)=true:=beq_iff_eq.mpr h
    simp only[List.lookup,hb,if_neg (fun e:g=f=>hk (h.symm.trans e))]
   .have hb:(g==k)=false:=beq_eq_false_iff_ne.mpr h
    simp only[List.lookup,hb]
    exact ih
theorem qd(f:Str)(v:V):∀fs:List (Str×V),f∈(iG f v fs).map (·.1)/\∀g,g∈fs.map (·.1)->g∈(iG f v fs).map (·.1)
 |[]=>⟨by simp[iG],fun g h=>by simp at h⟩
 | (k,x)::r=>by
  obtain⟨i1,i2⟩:=qd f v r
  rw[show iG f v ((k,x)::r)=(if k=f then(k,v)::r else(k,x)::iG f v r)from rfl]
  by_cases hk:k=f
  .rw[if_pos hk]
   subst hk
   exact⟨by simp,fun g h=>by simpa using h⟩
  .rw[if_neg hk]
   refine⟨?_,fun g h=>?_⟩
   .rw[List.map_cons]
    exact List.mem_cons_of_mem _ i1
   .rw[List.map_cons]at h ⊢
    rcases List.mem_cons.mp h with e|e
    .exact List.mem_cons.mpr (.inl e)
    .exact List.mem_cons_of_mem _ (i2 g e)
theorem qN(f:Str)(v:V):∀fs:List (Str×V),(iG f v fs).length<=fs.length+1
 |[]=>by simp[iG]
 | (k,x)::r=>by
  have ih:=qN f v r
  rw[show iG f v ((k,x)::r)=(if k=f then(k,v)::r else(k,x)::iG f v r)from rfl]
  by_cases hk:k=f
  .rw[if_pos hk,List.length_cons,List.length_cons];omega
  .rw[if_neg hk,List.length_cons,List.length_cons];omega
theorem mZ.some_of{v:V}{o:Option Value}(r:mZ (some v) o):∃u,o=some u/\RelV v u:=by
 cases o with
 |none=>exact(show False from r).elim
 |some u=>exact⟨u,rfl,r⟩
theorem mZ.none_of{o:Option Value}(r:mZ none o):o=none:=by
 cases o with
 |none=>rfl
 |some u=>exact(show False from r).elim
theorem Dq{v:V}{u:Value}(r:RelV v u):PySem.W.handedIn u=true:=by
 cases v with
 |non=>cases (show u=Value.none from r);rfl
 |bl b=>cases (show u=Value.bool b from r);rfl
 |int i=>obtain⟨t,e⟩:=(show ∃t,u=Value.int i t from r);cases e;rfl
 |str x=>obtain⟨t,e⟩:=(show ∃t,u=Value.str x t from r);cases e;rfl
 |byt b=>obtain⟨t,e⟩:=(show ∃t,u=Value.bytes b t from r);cases e;rfl
 |flt b=>obtain⟨t,e⟩:=(show ∃t,u=Value.float b t from r);cases e;rfl
 |ref a=>cases (show u=Value.ref a from r);rfl
 |ty n=>cases (show u=Value.type n from r);rfl
section
variable {P:Program} {w:World} {H H':Hp} {h h':Heap} {a C dx:Addr} {fs fs':List (Str×V)}
theorem rn(hok:mL P w H h)(e:H a=some (.ins C dx fs)):∃mA,yF h a dx C mA/\(∀f,mZ (fs.lookup f) (mA f))/\PySem.Within mA (fs.map (·.1))/\fs.length<=1000/\H dx=some (.own a):=by
 obtain⟨d,z,ne,ob,mA,n,r,q⟩:=(show cI P w H h a (.ins C dx fs)from hok a _ e)
 exact⟨mA,⟨ob,n,ne⟩,r,q,z,d⟩
end
structure tY(K:PySem.W.Frag)(C:Addr):Prop where
 pg:PySem.W.plainGet K C Str.empty=true
 hd:PySem.W.hasDictIn K C=true
 po:PySem.W.plainOver K C=true
 sa:PySem.W.findIn K (.ref C) "__setattr__"=some (some (.builtin "object.__setattr__"))
theorem tY.get{K:PySem.W.Frag}{C:Addr}(c:tY K C)(f:Str):PySem.W.plainGet K C f=true:=c.pg
def lg(K:PySem.W.Frag)(C:Addr)(f:Str):Prop:=PySem.W.findIn K (.ref C) f=some none
theorem lg.taker{K:PySem.W.Frag}{C:Addr}{f:Str}(n:lg K C f):PySem.W.takerIn K C f=some none:=by
 unfold PySem.W.takerIn
 rw[show PySem.W.findIn K (.ref C) f=some none from n]
 rfl
structure Meth(K:PySem.W.Frag)(C:Addr)(m:Str)(f:Addr):Prop where
 at_:PySem.W.findIn K (.ref C) m=some (some (.ref f))
 fn:PySem.W.isFn K (.ref f)=true
 kp:PySem.W.keepIn K (.ref f)=true
section
variable {X:Cx} {pins:List (Addr×Obj)} {σ:St} {H:Hp} {s:Shared} {a C dx:Addr} {fs:List (Str×V)} {f:Str} {v:V} {A:Around} {E:Value->Shared->Prop}
theorem yO{b:Bool}{Q:Value->Shared->Prop}(I:Inv X pins σ H s)(e:H a=some (.ins C dx fs))(c:tY X.K C)(n:lg X.K C f)(l:fs.lookup f=some v)
  (h:∀u s',Inv X pins σ H s'->RelV v u->Q u s'):wpAny (model X.prog X.w) A (getAttr (.ref a) f b) Q E s:=by
 obtain⟨mA,O,r,_,_,_⟩:=rn I.hok e
 obtain⟨u,hu,ru⟩:=mZ.some_of (v:=v) (o:=mA f) (by rw[<-l];exact r f)
 exact Kg I.kIn O (c.get f) c.hd n hu (Dq ru) (h u _ (I.tok _) ru)
theorem sJ{m:Str}{g:Addr}{pl:Sem Bool}{Q:Value×List Value->Shared->Prop}(I:Inv X pins σ H s)(e:H a=some (.ins C dx fs))(c:tY X.K C)(k:Meth X.K C m g)(l:fs.lookup m=none)
  (h:Q (.ref g,[.ref a]) s):wpAny (model X.prog X.w) A (getMethod (.ref a) m pl) Q E s:=by
 obtain⟨mA,O,r,_,_,_⟩:=rn I.hok e
 have hn:mA m=none:=mZ.none_of (by rw[<-l];exact r m)
 exact Gv I.kIn O (c.get m) k.at_ k.fn hn h
theorem zQ{y:V}{u:Value}{Q:Unit->Shared->Prop}(I:Inv X pins σ H s)(e:H a=some (.ins C dx fs))(c:tY X.K C)(n:lg X.K C f)(hl:fs.length<1000)(ry:RelV y u)
  (h:∀s',Inv X pins σ (upd H a (.ins C dx (iG f y fs))) s'->Q () s'):wpAny (model X.prog X.w) A (setAttr (.ref a) f u) Q E s:=by
 obtain⟨mA,O,r,wi,_,ho⟩:=rn I.hok e
 have hz:(fs.map (·.1)).length<=sizeLine:=by rw[List.length_map,sizeLine_eq];omega
 refine Ms I.kIn O c.sa c.po n.taker c.hd wi hz fun h' O' sb=>h _ ?_
 have hd:∃o,h'.get? dx=some o:=let⟨o,_,_,e',_⟩:=O'.ns;⟨o,e'⟩
 refine I.write (x:=a) (e:=dx) (by rw[e];exact True.intro) (.inr ho) (fun b q hb z=>(sb.2 b hb).trans z) hd ?_
 refine⟨by rw[aG O.ne];exact ho,?_,O.ne,O'.obj,_,O'.ns,fun g=>?_,fun g hg=>?_⟩
 .have:=qN f y fs;omega
 .show mZ ((iG f y fs).lookup g) (if g=f then some u else mA g)
  rw[qO]
  by_cases q:g=f
  .rw[if_pos q,if_pos q];exact ry
  .rw[if_neg q,if_neg q];exact r g
 .by_cases q:g=f
  .rw[q];exact(qd f y fs).1
  .refine(qd f y fs).2 g (wi g fun z=>hg ?_)
   show(if g=f then some u else mA g)=none
   rw[if_neg q];exact z
theorem Inv.made(I:Inv X pins σ H s):Inv X pins σ (upd (upd H s.heap.objs.size (.own (s.heap.objs.size+1))) (s.heap.objs.size+1) (.ins C s.heap.objs.size []))
  {s with heap:=(s.heap.push PySem.W.emptyDict).push (PySem.W.instObj C s.heap.objs.size)}:=by
 have e1:(s.heap.push PySem.W.emptyDict).get? s.heap.objs.size=some PySem.W.emptyDict:=Heap.get?_push_size s.heap rfl
 have e2:((s.heap.push PySem.W.emptyDict).push (PySem.W.instObj C s.heap.objs.size)).get? (s.heap.objs.size+1)=some (PySem.W.instObj C s.heap.objs.size):=by
  have:=Heap.get?_push_size (s.heap.push PySem.W.emptyDict) (o:=PySem.W.instObj C s.heap.objs.size) rfl
  rwa [Heap.size_push]at this
 have e3:(s.heap.push PySem.W.emptyDict).Ns s.heap.objs.size (fun _=>none):=⟨PySem.W.emptyDict,#[],_,e1,rfl,(fun e he=>absurd he (by simp)),fun _=>rfl⟩
 have I1:=I.laid (a:=s.heap.objs.size) (o:= .own (s.heap.objs.size+1)) (h':=s.heap.push PySem.W.emptyDict) (t':=s.toks) (fun b u q=>Heap.get?_push_of_some _ q) (Nat.le_refl _) ⟨_,e1⟩
 refine I1.laid (a:=s.heap.objs.size+1) (o:= .ins C s.heap.objs.size []) (t':=s.toks) (fun b u q=>Heap.get?_push_of_some _ q) (Nat.le_of_eq (Heap.size_push _ _)) ?_
 have ne:s.heap.objs.size≠s.heap.objs.size+1:=Nat.ne_of_lt (Nat.lt_succ_self _)
 refine⟨by rw[aG ne,az],Nat.zero_le _,ne,e2,fun _=>none,(Heap.Ns1.of_empty e3).at fun o q=>Heap.get?_push_of_some _ q,fun _=>True.intro,fun y hy=>absurd rfl hy⟩
theorem JW{prog:Program}{w:World}{env:Env}{e:Expr}{f:Str}{pos:Pos}{s:Shared}{Q:Value->Shared->Prop}(hb:attributeBase e f env (eval e env)=eval e env)
  (h:wpAny (model prog w) A (eval e env) (fun o s₁=>wpAny (model prog w) A (getAttr o f true) Q E s₁) E s):wpAny (model prog w) A (eval (.Attribute e f pos) env) Q E s:=
 Attribute_any_ h (by rw[arm_eval_Attribute,hb])
end
def Wy(K:PySem.W.Frag)(ta:TE)(f:Str):TE:=fun σ H Q=>ta σ H fun x H1=>∃a C dx fs v,x= .ref a/\H1 a=some (.ins C dx fs)/\tY K C/\lg K C f/\fs.lookup f=some v/\Q v H1
def Wr(K:PySem.W.Frag)(ta tv:TE)(f:Str):TS:=fun D σ H=>tv σ H fun y H1=>ta σ H1 fun x H2=>∃a C dx fs,x= .ref a/\H2 a=some (.ins C dx fs)/\tY K C/\lg K C f/\fs.length<1000/\
 D.nx σ (upd H2 a (.ins C dx (iG f y fs)))
section
variable {X:Cx} {o e value:Expr} {f:Str} {pos pos' tpos:Pos} {ta tv:TE}
theorem zA(he:PE X e ta)(hb:attributeBase e f X.env (eval e X.env)=eval e X.env):PE X (.Attribute e f pos) (Wy X.K ta f):=by
 intro pins s σ H Q I h
 refine JW hb (cZ (he pins s σ H _ I h) fun u s1⟨x,H1,I1,rx,a,C,dx,fs,v,ex,ea,c,n,l,q⟩=>?_)
 subst ex
 obtain rfl:u=Value.ref a:=rx
 exact yO I1 ea c n l fun u' s2 I2 ru=>⟨v,H1,I2,ru,q⟩
theorem HX(ha:PE X o ta)(hv:PE X value tv)(hs:swapsWith value (some (.Attribute o f pos')) pos.line X.env=pure false):PS X (.Assign [.Attribute o f pos'] value pos) (Wr X.K ta tv f):=by
 intro pins s σ H D I h
 refine plainObj_wpAny_Assign_Attribute (cZ (hv pins s σ H _ I h) fun u s1⟨y,H1,I1,ry,q⟩=>cZ (ha pins s1 σ H1 _ I1 q) fun ov s2⟨x,H2,I2,rx,a,C,dx,fs,ex,ea,c,n,l,q2⟩=>?_) hs
 subst ex
 obtain rfl:ov=Value.ref a:=rx
 exact zQ I2 ea c n l ry fun s3 I3=>⟨σ,_,I3,q2⟩
end
section
variable {X:Cx} {pins:List (Addr×Obj)} {σ:St} {H:Hp} {s:Shared} {A:Around} {E:Value->Shared->Prop} {Q:Value->Shared->Prop} {c:Value} {b:Bool}
inductive nQ(K:PySem.W.Frag)(H:Hp):V->Value->Prop where
 |non:nQ K H .non (.type "NoneType")
 |bl (x:Bool):nQ K H (.bl x) (.type "bool")
 |int (i:Int):nQ K H (.int i) (.type "int")
 |str (x:Str):nQ K H (.str x) (.type "str")
 |flt (x:UInt64):nQ K H (.flt x) (.type "float")
 |lst {a:Addr} {xs:List V} (e:H a=some (.lst xs)):nQ K H (.ref a) (.type "list")
 |frz {a:Addr} {o:Obj} {xs:List V} (e:H a=some (.frz o (.lst xs))):nQ K H (.ref a) (.type "list")
 |tup {a:Addr} {xs:List V} (e:H a=some (.tup xs)):nQ K H (.ref a) (.type "tuple")
 |dK {a:Addr} {kvs:List (Key×V)} (e:H a=some (.dK kvs)):nQ K H (.ref a) (.type "dict")
 |dT {a:Addr} {kvs:List (List Key×V)} (e:H a=some (.dT kvs)):nQ K H (.ref a) (.type "dict")
 |ins {a C dx:Addr} {fs:List (Str×V)} (e:H a=some (.ins C dx fs)) (cl:tY K C) (ha:PySem.W.findIn K (.ref C) "__class__"=some (some (.builtin "object.__class__")))
   (hn:PySem.W.specialIn K (.builtin "object.__class__") "__get__"=some (some (.builtin "getset_descriptor.__get__"))) (htk:PySem.W.takesIn K (.builtin "object.__class__")=some true)
   (hm:PySem.W.mroIn K C (.type "object")=some true):nQ K H (.ref a) (.ref C)
theorem pZ{x:V}{u t:Value}(I:Inv X pins σ H s)(rx:RelV x u)(ty:nQ X.K H x t)(e:PySem.W.kitOne X.K t c=some b)(h:∀tk,Q (.bool b) {s with toks:=tk}):
  wpAny (model X.prog X.w) A (call (.builtin "isinstance") [u,c]) Q E s:=by
 cases ty with
 |non=>cases (show u=Value.none from rx);exact PySem.W.kia_one PySem.W.kitx_none I.kIn True.intro e (fun z=>nomatch z) h
 |bl y=>cases (show u=Value.bool y from rx);exact PySem.W.kia_one PySem.W.kitx_bool I.kIn True.intro e (fun z=>nomatch z) h
 |int i=>obtain⟨t,q⟩:=(show ∃t,u=Value.int i t from rx);cases q;exact PySem.W.kia_one PySem.W.kitx_int I.kIn True.intro e (fun z=>nomatch z) h
 |str y=>obtain⟨t,q⟩:=(show ∃t,u=Value.str y t from rx);cases q;exact PySem.W.kia_one PySem.W.kitx_str I.kIn True.intro e (fun z=>nomatch z) h
 |flt y=>obtain⟨t,q⟩:=(show ∃t,u=Value.float y t from rx);cases q;exact PySem.W.kia_one PySem.W.kitx_float I.kIn True.intro e (fun z=>nomatch z) h
 | @lst a xs ea=>
  cases (show u=Value.ref a from rx)
  obtain⟨_,_,n,_,h1⟩:=(show cI X.prog X.w H s.heap a (.lst xs)from I.hok a _ ea)
  exact PySem.W.kia_one PySem.W.kitx_list I.kIn ⟨_,h1,rfl⟩ e (fun z=>nomatch z) h
 | @frz a ob xs ea=>
  cases (show u=Value.ref a from rx)
  obtain⟨_,_,_,n,_,h1⟩:=(show cI X.prog X.w H s.heap a (.frz ob (.lst xs))from I.hok a _ ea)
  exact PySem.W.kia_one PySem.W.kitx_list I.kIn ⟨_,h1,rfl⟩ e (fun z=>nomatch z) h
 | @tup a xs ea=>
  cases (show u=Value.ref a from rx)
  obtain⟨_,_,_,p⟩:=(show cI X.prog X.w H s.heap a (.tup xs)from I.hok a _ ea)
  obtain⟨o,h1,h2,_⟩:=p
  exact PySem.W.kia_one PySem.W.kitx_tuple I.kIn ⟨o,h1,h2⟩ e (fun z=>nomatch z) h
 | @dK a kvs ea=>
  cases (show u=Value.ref a from rx)
  obtain⟨_,_,vs,_,p⟩:=(show cI X.prog X.w H s.heap a (.dK kvs)from I.hok a _ ea)
  obtain⟨o,es,ep,h1,h2,_⟩:=p
  exact PySem.W.kia_one PySem.W.kitx_dict I.kIn ⟨o,h1,h2.1⟩ e (fun z=>nomatch z) h
 | @dT a kvs ea=>
  cases (show u=Value.ref a from rx)
  obtain⟨_,_,xs,_,o,es,ep,h1,h2,_⟩:=(show cI X.prog X.w H s.heap a (.dT kvs)from I.hok a _ ea)
  exact PySem.W.kia_one PySem.W.kitx_dict I.kIn ⟨o,h1,h2.1⟩ e (fun z=>nomatch z) h
 | @ins a C dx fs ea cl ha hn htk hm=>
  cases (show u=Value.ref a from rx)
  obtain⟨mA,O,_⟩:=rn I.hok ea
  obtain⟨od,J,_⟩:=O.look
  exact PySem.W.kia_one (PySem.W.kitx_own (cl.get _) cl.hd ha hn htk hm) I.kIn J e (fun z=>nomatch z) h
end
end L2
namespace L2
open PySem PySem.Spec PyProof.Rows
structure aZ(k:Nat)(A:Around):Prop where
 hd:A.handled=none
 dp:A.depth+3*k+5<recursionLimit
 un:A.units+16*k+200<cLine
theorem aZ.mono{j k:Nat}{A:Around}(r:aZ k A)(h:j<=k):aZ j A:=⟨r.hd,by have:=r.dp;omega,by have:=r.un;omega⟩
theorem aZ.deeper{k:Nat}{A:Around}(r:aZ (k+1) A)(env:Env):aZ k (A.deeper env):=
 ⟨r.hd,by have:=r.dp;show A.depth+1+3*k+5<_;omega,by have:=r.un;show A.units+3+16*k+200<_;omega⟩
theorem aZ.in1{k:Nat}{A:Around}(r:aZ (k+1) A):aZ k A.in1:=
 ⟨r.hd,by have:=r.dp;show A.depth+3*k+5<_;omega,by have:=r.un;show A.units+1+16*k+200<_;omega⟩
theorem yU{A:Around}{C:Addr}{us:List Value}{kw:List (Str×Value)}:(A.under (.builtin "type.__call__" ⟨.ref C::us,kw⟩)).depth=A.depth+1:=by
 first|rfl|simp[Around.under,Code.weight,Code.isCreation,Code.isGuard,Code.isCaller,Code.frames,Code.isFrame,guardIds]
theorem yV{A:Around}{C:Addr}{us:List Value}{kw:List (Str×Value)}:(A.under (.builtin "type.__call__" ⟨.ref C::us,kw⟩)).units=A.units+1:=by
 first|rfl|simp[Around.under,Code.cUnits,Code.frames,Code.isFrame]
theorem aZ.make{k:Nat}{A:Around}(r:aZ (k+1) A)(C:Addr)(us:List Value)(kw:List (Str×Value)):aZ k (A.under (.builtin "type.__call__" ⟨.ref C::us,kw⟩)):=
 ⟨r.hd,by have:=r.dp;rw[yU];omega,by have:=r.un;rw[yV];omega⟩
theorem aZ.depth{k:Nat}{A:Around}(r:aZ k A):A.depth<recursionLimit:=by have:=r.dp;omega
theorem aZ.units{k:Nat}{A:Around}(r:aZ k A):A.units+64<cLine:=by have:=r.un;omega
def Ab:TA:=fun _ H Q=>Q [] H
def Ji(ta:TE)(tr:TA):TA:=fun σ H Q=>ta σ H fun x H1=>tr σ H1 fun xs H2=>Q (x::xs) H2
section
variable {X:Cx} {e:Expr} {es:List Expr} {te:TE} {t:TA} {pos:Pos}
theorem ak:PA X [] Ab:=fun _ _ _ _ H Q I h=>Calls.spliced_nil ⟨[],H,I,.nil,h⟩
theorem aj(ha:PE X e te)(hr:PA X es t)(hs:starEach (e::es) X.env=(false,eval e X.env)::starEach es X.env:=by rfl):PA X (e::es) (Ji te t):=by
 intro pos pins s σ H Q I h
 rw[hs]
 show wpAny _ _ (spliced ((false,eval e X.env)::backTo pos (starEach es X.env))) _ _ s
 refine Calls.spliced_cons (cZ (ha pins s σ H _ I h) fun u s1⟨x,H1,I1,r1,q1⟩=>?_)
 exact cZ (hr pos pins s1 σ H1 _ I1 q1) fun us s2⟨xs,H2,I2,r2,q2⟩=>⟨x::xs,H2,I2,.cons r1 r2,q2⟩
def WT(t:TA):TE:=fun σ H Q=>t σ H fun xs H1=>xs.length<=sizeLine/\∀p,H1 p=none->Q (.ref p) (upd H1 p (.tup xs))
def WL(t:TA):TE:=fun σ H Q=>t σ H fun xs H1=>xs.length<=sizeLine/\∀p,H1 p=none->Q (.ref p) (upd H1 p (.lst xs))
theorem bC{x1}(h:PA X es t):PE X (.Tuple es x1 pos) (WT t):=by
 intro pins s σ H Q I hq
 refine wpAny_Tuple_spliced (cZ (h pos pins s σ H _ I hq) fun us s1⟨xs,H1,I1,r,z,q⟩=>⟨by rw[<-r.length];exact z,?_⟩)
 have hf:H1 s1.heap.objs.size=none:=I1.hok.fresh (Nat.le_refl _)
 refine⟨.ref s1.heap.objs.size,upd H1 s1.heap.objs.size (.tup xs),I1.laid (t':=s1.toks) (fun b u e=>Heap.get?_push_of_some _ e) (Nat.le_refl _) ?_,rfl,q _ hf⟩
 exact⟨z,us,r,⟨_,Heap.get?_push_size _ rfl,rfl,_,rfl⟩⟩
theorem cA(h:PA X es t):PE X (.List es pos) (WL t):=by
 intro pins s σ H Q I hq
 refine wpAny_List_spliced (cZ (h pos pins s σ H _ I hq) fun us s1⟨xs,H1,I1,r,z,q⟩=>⟨by rw[<-r.length];exact z,?_⟩)
 have hf:H1 s1.heap.objs.size=none:=I1.hok.fresh (Nat.le_refl _)
 refine⟨.ref s1.heap.objs.size,upd H1 s1.heap.objs.size (.lst xs),I1.laid (t':=s1.toks) (fun b u e=>Heap.get?_push_of_some _ e) (Nat.le_refl _) ?_,rfl,q _ hf⟩
 exact⟨z,us,0,r,Heap.get?_push_size _ rfl⟩
end
abbrev Sp:=List V->Hp->VK->XK->Prop
abbrev JG:=List Env->Hp->Shared->XK->Value->Shared->Prop
structure uc(P:Program)(w:World)(K:PySem.W.Frag)(mg:Str->Option Value)(base:Heap)(A:Around)(outer:List Env)(s:Shared)(H:Hp):Prop where
 frames:A.frames=some outer
 mod:Mod K mg base
 bs:∀b o,base.get? b=some o->s.heap.get? b=some o/\H b=none
 bsz:base.objs.size<=s.heap.objs.size
 funs:s.heap.FunFrames base outer
 frf:∀b∈frs outer,H b=none
 hok:mL P w H s.heap
 bare:AllBare s.gens
def CE(outer:List Env)(P:Program)(w:World)(H:Hp)(s:Shared)(Q:VK)(u:Value)(s':Shared):Prop:=
 ∃v H',s'.os=s.os/\AllBare s'.gens/\Un (frs outer) [] H H' s.heap s'.heap/\mL P w H' s'.heap/\RelV v u/\Q v H'
def CR(CX:JG)(outer:List Env)(P:Program)(w:World)(H:Hp)(s:Shared)(Q:VK)(E:XK)(r:Result)(s':Shared):Prop:=
 match r with
 | .ok (.ret u)=>CE outer P w H s Q u s'
 | .ok _=>False
 | .error e=>CX outer H s E e s'
structure bH(P:Program)(w:World)(K:PySem.W.Frag)(mg:Str->Option Value)(base:Heap)(CX:JG)(k:Nat)(f:Addr)(fd:FuncData)(ps:List Str)(sp:Sp):Prop where
 len:∀vs H Q E,sp vs H Q E->vs.length=ps.length
 run:∀(A:Around)(outer:List Env)(s:Shared)(H:Hp)(args:Args)(us:List Value)(vs:List V)(Q:VK)(E:XK),aZ k A->uc P w K mg base A outer s H->BindsTo s fd args (ps.zip us)->Vals vs us->sp vs H Q E->
  codeAny (model P w) A (.call (.ref f) args) (CR CX outer P w H s Q E) s
theorem bH.imp{P:Program}{w:World}{K:PySem.W.Frag}{mg:Str->Option Value}{base:Heap}{CX:JG}{k:Nat}{f:Addr}{fd:FuncData}{ps:List Str}{sp sp':Sp}(F:bH P w K mg base CX k f fd ps sp)
  (h:∀vs H Q E,sp' vs H Q E->sp vs H Q E):bH P w K mg base CX k f fd ps sp':=
 ⟨fun vs H Q E q=>F.len vs H Q E (h _ _ _ _ q),fun A outer s H args us vs Q E hr he hb hv hs=>F.run A outer s H args us vs Q E hr he hb hv (h _ _ _ _ hs)⟩
theorem uc.make{P:Program}{w:World}{K:PySem.W.Frag}{mg:Str->Option Value}{base:Heap}{A:Around}{outer:List Env}{s:Shared}{H:Hp}(e:uc P w K mg base A outer s H)(C:Addr)(us:List Value)(kw:List (Str×Value)):
  uc P w K mg base (A.under (.builtin "type.__call__" ⟨.ref C::us,kw⟩)) outer s H:=⟨by first|exact e.frames|(simpa [Around.under,Code.envs,Code.isFrame,pushEnvs]using e.frames),e.mod,e.bs,e.bsz,e.funs,e.frf,e.hok,e.bare⟩
section
variable {X:Cx} {pins:List (Addr×Obj)} {σ:St} {H:Hp} {s s':Shared}
theorem Inv.env0(I:Inv X pins σ H s):uc X.prog X.w X.K X.mg X.base X.A X.stack s H:=
 ⟨I.ok.frames,I.ok.mod,I.bs,Nat.le_trans I.ok.bsz I.sz,I.stack,I.stkFree,I.hok,I.bare⟩
theorem Inv.after{Q:VK}{u:Value}(I:Inv X pins σ H s)(h:CE X.stack X.prog X.w H s Q u s'):EP X pins σ Q u s':=by
 obtain⟨v,H',os,bare,un,hok,r,q⟩:=h
 obtain⟨hh,g,d,t,os'⟩:=s'
 obtain rfl:os'=s.os:=os
 exact⟨v,H',I.call (h':=hh) (g':=g) (d':=d) (t':=t) (ch:=[]) un hok bare (fun b z=>absurd z (by simp)),r,q⟩
end
def Cr(sp:Sp)(dvs:List V)(E:XK)(t:TA):TE:=fun σ H Q=>t σ H fun vs H1=>sp (vs++dvs) H1 Q E
def Cu(C:Addr)(m:Str)(sp:Sp)(dvs:List V)(E:XK)(ta:TE)(t:TA):TE:=fun σ H Q=>ta σ H fun x H1=>∃a dx fs,x= .ref a/\H1 a=some (.ins C dx fs)/\fs.lookup m=none/\
 t σ H1 fun vs H2=>sp (x::(vs++dvs)) H2 Q E
def Oh(C:Addr)(sp:Sp)(dvs:List V)(E:XK)(t:TA):TE:=fun σ H Q=>t σ H fun vs H1=>∀x dx,H1 x=none->H1 dx=none->dx≠x->
 sp (.ref x::(vs++dvs)) (upd (upd H1 dx (.own x)) x (.ins C dx [])) (fun v H2=>v= .non/\Q (.ref x) H2) E
def Binds(K:PySem.W.Frag)(fd:FuncData)(ps:List Str)(ds:List Value):Prop:=
 ∀(s:Shared)(us:List Value),K.In s.heap->(us++ds).length=ps.length->BindsTo s fd ⟨us,[]⟩ (ps.zip (us++ds))
theorem Binds.all{K:PySem.W.Frag}{fd:FuncData}{ps:List Str}(h:∀us:List Value,us.length=ps.length->bindArgs fd ⟨us,[]⟩=pure (ps.zip us)):Binds K fd ps []:=fun s us _ hl=>by
 rw[List.append_nil]at hl ⊢
 exact .of_eq (h us hl)
def lG(CX:JG)(X:Cx)(E:XK):Prop:=∀(pins:List (Addr×Obj))(σ:St)(H:Hp)(s:Shared)(e:Value)(s':Shared),Inv X pins σ H s->CX X.stack H s E e s'->X.xe e s'
section
variable {X:Cx} {CX:JG} {k:Nat} {f C:Addr} {fd:FuncData} {ps:List Str} {sp:Sp} {dvs:List V} {ds:List Value} {E:XK} {x m:Str} {p pos apos:Pos} {e o:Expr} {es:List Expr} {ta:TE} {t:TA}
theorem vY{pins:List (Addr×Obj)}{σ:St}{H:Hp}{s:Shared}{Q:VK}{us:List Value}{vs:List V}(F:bH X.prog X.w X.K X.mg X.base CX k f fd ps sp)(hr:aZ k X.A)(hb:Binds X.K fd ps ds)(hd:Vals dvs ds)(hx:lG CX X E)
  (I:Inv X pins σ H s)(r:Vals vs us)(h:sp (vs++dvs) H Q E):wpAny (model X.prog X.w) X.A (call (.ref f) us) (EP X pins σ Q) X.xe s:=by
 have r2:Vals (vs++dvs) (us++ds):=r.append hd
 have hl:(us++ds).length=ps.length:=by rw[<-r2.length];exact F.len _ _ _ _ h
 refine wpAny_call (codeAny_mono (F.run X.A X.stack s H ⟨us,[]⟩ (us++ds) (vs++dvs) Q E hr I.env0 (hb s us I.kIn hl) r2 h) fun r s' hq=>?_)
 cases r with
 |error e=>exact hx pins σ H s e s' I hq
 |ok fl=>
  cases fl with
  |ret u=>exact I.after hq
  |next=>exact False.elim hq
  |brk=>exact False.elim hq
  |cont=>exact False.elim hq
theorem Lp(F:bH X.prog X.w X.K X.mg X.base CX k f fd ps sp)(hr:aZ k X.A)(hg:Gl X x)(hm:X.mg x=some (.ref f))(hk:PySem.W.keepIn X.K (.ref f)=true)(hb:Binds X.K fd ps ds)(hd:Vals dvs ds)(hx:lG CX X E)
  (ha:PA X (e::es) t)(hdb:(x==("__debug__":Str))=false:=by decide)(he:starEach (e::es) X.env=(false,eval e X.env)::starEach es X.env:=by rfl)(hpl:(backTo pos (starEach es X.env)).any (·.1)=false:=by rfl):
  PE X (.Call (.Name x p) (e::es) [] pos) (Cr sp dvs E t):=by
 intro pins s σ H Q I h
 refine wpAny_Call_Name_kw (oV I hg hm ?_ hdb)
 refine PySem.W.callWith_K (h₀:=X.base) I.ok.mod.kin hk (cZ (ha pos pins s σ H _ I h) fun us s1⟨vs,H1,I1,r,q⟩=>⟨I1.kIn,?_⟩) he hpl
 exact vY F hr hb hd hx I1 r q
theorem HN(F:bH X.prog X.w X.K X.mg X.base CX k f fd ps sp)(hr:aZ k X.A)(hg:Gl X x)(hm:X.mg x=some (.ref f))(hk:PySem.W.keepIn X.K (.ref f)=true)(hb:Binds X.K fd ps ds)(hd:Vals dvs ds)(hx:lG CX X E)
  (hdb:(x==("__debug__":Str))=false:=by decide):PE X (.Call (.Name x p) [] [] pos) (Cr sp dvs E Ab):=by
 intro pins s σ H Q I h
 refine wpAny_Call_Name_kw (oV I hg hm ?_ hdb)
 exact PySem.W.callWith_K0 I.kIn hk (vY (us:=[]) F hr hb hd hx I .nil h)
theorem Lw{pl:Sem Bool}(he:PE X o ta)(c:tY X.K C)(hm:Meth X.K C m f)(F:bH X.prog X.w X.K X.mg X.base CX k f fd ps sp)(hr:aZ k X.A)(hb:Binds X.K fd ps ds)(hd:Vals dvs ds)(hx:lG CX X E)(ha:PA X (e::es) t)
  (hst:starEach (e::es) X.env=(false,eval e X.env)::starEach es X.env:=by rfl)(hpl:(backTo pos (starEach es X.env)).any (·.1)=false:=by rfl)
  (ht:eval (.Call (.Attribute o m apos) (e::es) [] pos) X.env=(do
   let ov<-eval o X.env
   standAt apos.atName
   let(f,first)<-holding [ov] (getMethod ov m pl)
   callWith pos f first (backTo pos (starEach (e::es) X.env)) (backToKw pos (keywordEach [] X.env))):=by rfl):
  PE X (.Call (.Attribute o m apos) (e::es) [] pos) (Cu C m sp dvs E ta t):=by
 intro pins s σ H Q I h
 refine PySem.W.methodCall_KW (pl:=pl) (cZ (he pins s σ H _ I h) fun u s1⟨x,H1,I1,rx,a,dx,fs,ex,ea,l,q⟩=>?_) ht
 subst ex
 obtain rfl:u=Value.ref a:=rx
 refine sJ I1 ea c hm l ?_
 refine PySem.W.callWith_K (first:=[.ref a]) (h₀:=X.base) I.ok.mod.kin hm.kp (cZ (ha pos pins s1 σ H1 _ I1 q) fun us s2⟨vs,H2,I2,r,q2⟩=>⟨I2.kIn,?_⟩) hst hpl
 exact vY (us:= .ref a::us) (vs:= .ref a::vs) F hr hb hd hx I2 (.cons rfl r) q2
theorem HS{pl:Sem Bool}(he:PE X o ta)(c:tY X.K C)(hm:Meth X.K C m f)(F:bH X.prog X.w X.K X.mg X.base CX k f fd ps sp)(hr:aZ k X.A)(hb:Binds X.K fd ps ds)(hd:Vals dvs ds)(hx:lG CX X E)
  (ht:eval (.Call (.Attribute o m apos) [] [] pos) X.env=(do
   let ov<-eval o X.env
   standAt apos.atName
   let(f,first)<-holding [ov] (getMethod ov m pl)
   callWith pos f first (backTo pos (starEach [] X.env)) (backToKw pos (keywordEach [] X.env))):=by rfl):
  PE X (.Call (.Attribute o m apos) [] [] pos) (Cu C m sp dvs E ta Ab):=by
 intro pins s σ H Q I h
 refine PySem.W.methodCall_KW (pl:=pl) (cZ (he pins s σ H _ I h) fun u s1⟨x,H1,I1,rx,a,dx,fs,ex,ea,l,q⟩=>?_) ht
 subst ex
 obtain rfl:u=Value.ref a:=rx
 refine sJ I1 ea c hm l ?_
 exact PySem.W.callWith_K0 (first:=[.ref a]) I1.kIn hm.kp (vY (us:=[.ref a]) (vs:=[.ref a]) F hr hb hd hx I1 (.cons rfl .nil) q)
structure Mk(K:PySem.W.Frag)(C f:Addr):Prop where
 makes:PySem.W.makesIn K C=true
 init:PySem.W.findIn K (.ref C) "__init__"=some (some (.ref f))
 fn:PySem.W.isFn K (.ref f)=true
 kp:PySem.W.keepIn K (.ref C)=true
theorem Ii{pins:List (Addr×Obj)}{σ:St}{H:Hp}{s:Shared}{Q:VK}{us:List Value}{vs:List V}(M:Mk X.K C f)(F:bH X.prog X.w X.K X.mg X.base CX k f fd ps sp)(hr:aZ (k+1) X.A)(hb:Binds X.K fd ps ds)(hd:Vals dvs ds)
  (hx:lG CX X E)(I:Inv X pins σ H s)(r:Vals vs us)
  (h:∀x dx,H x=none->H dx=none->dx≠x->sp (.ref x::(vs++dvs)) (upd (upd H dx (.own x)) x (.ins C dx [])) (fun v H2=>v= .non/\Q (.ref x) H2) E):
  wpAny (model X.prog X.w) X.A (call (.ref C) us) (EP X pins σ Q) X.xe s:=by
 have hq:=h (s.heap.objs.size+1) s.heap.objs.size (I.hok.fresh (Nat.le_succ _)) (I.hok.fresh (Nat.le_refl _)) (Nat.ne_of_lt (Nat.lt_succ_self _))
 have I2:=Inv.made (C:=C) I
 have r2:Vals (V.ref (s.heap.objs.size+1)::(vs++dvs)) (Value.ref (s.heap.objs.size+1)::(us++ds)):= .cons rfl (r.append hd)
 have hl:(Value.ref (s.heap.objs.size+1)::us++ds).length=ps.length:=by
  have e:=r2.length
  rw[F.len _ _ _ _ hq]at e
  exact e.symm
 refine wpAny_call (Hd (f:=f) I.kIn M.makes M.init (beq_iff_eq.mp M.fn) (codeAny_mono (F.run _ X.stack _ _ ⟨Value.ref (s.heap.objs.size+1)::us,[]⟩ (Value.ref (s.heap.objs.size+1)::(us++ds)) _ _ E (hr.make C us [])
  (I2.env0.make C us []) (hb _ (Value.ref (s.heap.objs.size+1)::us) I2.kIn hl) r2 hq) fun r s' hq'=>?_))
 cases r with
 |error e=>exact hx pins σ _ _ e s' I2 hq'
 |ok fl=>
  cases fl with
  |ret u=>
   obtain⟨v,H',I3,rv,ev,q3⟩:=I2.after hq'
   subst ev
   exact⟨rv,⟨V.ref (s.heap.objs.size+1),H',I3,rfl,q3⟩⟩
  |next=>exact False.elim hq'
  |brk=>exact False.elim hq'
  |cont=>exact False.elim hq'
theorem Ls(M:Mk X.K C f)(F:bH X.prog X.w X.K X.mg X.base CX k f fd ps sp)(hr:aZ (k+1) X.A)(hg:Gl X x)(hm:X.mg x=some (.ref C))(hb:Binds X.K fd ps ds)(hd:Vals dvs ds)(hx:lG CX X E)
  (ha:PA X (e::es) t)(hdb:(x==("__debug__":Str))=false:=by decide)(he:starEach (e::es) X.env=(false,eval e X.env)::starEach es X.env:=by rfl)(hpl:(backTo pos (starEach es X.env)).any (·.1)=false:=by rfl):
  PE X (.Call (.Name x p) (e::es) [] pos) (Oh C sp dvs E t):=by
 intro pins s σ H Q I h
 refine wpAny_Call_Name_kw (oV I hg hm ?_ hdb)
 refine PySem.W.callWith_K (h₀:=X.base) I.ok.mod.kin M.kp (cZ (ha pos pins s σ H _ I h) fun us s1⟨vs,H1,I1,r,q⟩=>⟨I1.kIn,?_⟩) he hpl
 exact Ii M F hr hb hd hx I1 r q
end
section
variable {X:Cx} {CX:JG} {k:Nat} {f C:Addr} {fd:FuncData} {ps ks:List Str} {sp:Sp} {E:XK} {x m:Str} {p pos apos kpos:Pos} {e o:Expr} {es:List Expr} {kws:List Keyword} {te ta:TE} {t tk:TA} {nm:Option Str}
variable {g:List Value->List Value->List Value} {gV:List V->List V->List V}
end
structure aQ(N P:List Str)(sc:Scope):Prop where
 kind:sc.kind= .function
 co:sc.isCoroutine=false
 gen:sc.isGenerator=false
 nd:N.Nodup
 pre:N.take P.length=P
 par:∀x∈P,sc.names.lookup x=some .local\/sc.names.lookup x=some .cell
 nofree:∀y∈sc.names,y.2≠ .free
theorem uA{kindOf:Str->Option NameKind}{x:Str}:∀{binds:List (Str×Value)}{m:Str->Option Value},(∀v,(x,v)∉binds)->bindL kindOf binds m x=m x
 |[],_,_=>rfl
 | (n,v)::r,m,h=>by
  unfold bindL
  rw[uA fun w hw=>h w (List.mem_cons_of_mem _ hw)]
  split
  .have:x≠n:=by rintro rfl;exact h v List.mem_cons_self
   simp[this]
  .rfl
theorem uw{kindOf:Str->Option NameKind}{x:Str}:∀{binds:List (Str×Value)}{m:Str->Option Value},(∀v,(x,v)∉binds)->bindC kindOf binds m x=m x
 |[],_,_=>rfl
 | (n,v)::r,m,h=>by
  unfold bindC
  rw[uw fun w hw=>h w (List.mem_cons_of_mem _ hw)]
  split
  .rfl
  .have:x≠n:=by rintro rfl;exact h v List.mem_cons_self
   simp[this]
theorem uz{kindOf:Str->Option NameKind}{x:Str}{v:Value}:∀{P:List Str}{vs:List Value}{i:Nat}{m:Str->Option Value},P.Nodup->P[i]? =some x->vs[i]? =some v->kindOf x=some .local->
  bindL kindOf (P.zip vs) m x=some v
 |[],_,_,_,_,h,_,_=>by simp at h
 |_::_,[],_,_,_,_,h,_=>by simp at h
 |p::P,w::vs,0,m,nd,h1,h2,hk=>by
  simp at h1 h2;subst h1;subst h2
  show bindL kindOf ((p,w)::P.zip vs) m p=_
  unfold bindL
  rw[uA fun v hv=>(List.nodup_cons.mp nd).1 (List.of_mem_zip hv).1,if_pos hk]
  simp
 |p::P,w::vs,i+1,m,nd,h1,h2,hk=>by
  show bindL kindOf ((p,w)::P.zip vs) m x=_
  unfold bindL
  exact uz (i:=i) (List.nodup_cons.mp nd).2 (by simpa using h1) (by simpa using h2) hk
theorem ur{kindOf:Str->Option NameKind}{x:Str}{v:Value}:∀{P:List Str}{vs:List Value}{i:Nat}{m:Str->Option Value},P.Nodup->P[i]? =some x->vs[i]? =some v->kindOf x≠some .local->
  bindC kindOf (P.zip vs) m x=some v
 |[],_,_,_,_,h,_,_=>by simp at h
 |_::_,[],_,_,_,_,h,_=>by simp at h
 |p::P,w::vs,0,m,nd,h1,h2,hk=>by
  simp at h1 h2;subst h1;subst h2
  show bindC kindOf ((p,w)::P.zip vs) m p=_
  unfold bindC
  rw[uw fun v hv=>(List.nodup_cons.mp nd).1 (List.of_mem_zip hv).1,if_neg hk]
  simp
 |p::P,w::vs,i+1,m,nd,h1,h2,hk=>by
  show bindC kindOf ((p,w)::P.zip vs) m x=_
  unfold bindC
  exact ur (i:=i) (List.nodup_cons.mp nd).2 (by simpa using h1) (by simpa using h2) hk
def start(N:List Str)(vs:List V):St:=vs.map some++List.replicate (N.length-vs.length) none
def ug(CX:JG)(P:Program)(w:World)(K:PySem.W.Frag)(mg:Str->Option Value)(base:Heap)(N:List Str)(qual:Str)(scope:Scope)(f:Addr)(cd:Value)(A:Around)(outer:List Env)(s:Shared)(H:Hp)(E:XK):Cx where
 prog:=P
 w:=w
 K:=K
 mg:=mg
 base:=base
 A:=A.deeper (envOfC qual scope s.heap.objs.size f cd)
 N:=N
 s₀:=s
 H₀:=H
 env:=envOfC qual scope s.heap.objs.size f cd
 outer:=outer
 stack:=envOfC qual scope s.heap.objs.size f cd::outer
 ex:=[]
 calm:=true
 fn:=fun _=>true
 pn:=[]
 xe:=fun e s'=>wpAny (model P w) (A.deeper (envOfC qual scope s.heap.objs.size f cd)) (leaving (envOfC qual scope s.heap.objs.size f cd) e) (fun _ s''=>CX outer H s E e s'') (fun e' s''=>CX outer H s E e' s'') s'
theorem wV{sc:Scope}{n:Nat}{x:Str}(h:sc.names.lookup x=some .cell):∃c,(cellsFrom n sc.names []).lookup x=some c:=by
 have q:=PySem.W.cellsFrom_some sc.names n [] (.inl h)
 exact Option.isSome_iff_exists.mp q
theorem uF{CX:JG}{P:Program}{w:World}{K:PySem.W.Frag}{mg:Str->Option Value}{base:Heap}{N ps:List Str}{qual:Str}{scope:Scope}{f:Addr}{cd:Value}{A:Around}{outer:List Env}{s s1:Shared}{H:Hp}{E:XK}{us:List Value}{vs:List V}
  (S:aQ N ps scope)(hd:A.handled=none)(e0:uc P w K mg base A outer s H)(hl:vs.length=ps.length)(r:Vals vs us)
  (x:InCallC s s.heap.objs.size (bindL (envOfC qual scope s.heap.objs.size f cd).kindOf (ps.zip us) fun _=>none) (cellsFrom (s.heap.objs.size+1) scope.names []) (bindC (envOfC qual scope s.heap.objs.size f cd).kindOf (ps.zip us) fun _=>none) s1):
  Inv (ug CX P w K mg base N qual scope f cd A outer s H E) [] (start N vs) H s1:=by
 have hpl:ps.length<=N.length:=by have:=congrArg List.length S.pre;rw[List.length_take]at this;omega
 obtain⟨h1,tk,rfl,hk⟩:=x.done
 have noA:∀b:Addr,b∉(ug CX P w K mg base N qual scope f cd A outer s H E).ex:=fun b z=>absurd (show b∈([]:List Addr)from z) (by simp)
 refine⟨⟨e0.mod,S.kind,rfl,rfl,Nat.le_refl _,fun y z c h1 h2=>?_,fun y hy=>?_,fun y c _ h=>?_,fun _=>hd,Around.frames_deeper e0.frames,.inr ⟨rfl,rfl⟩,fun b z=>absurd z (noA b),e0.bs,e0.bsz,fun b _ _=>noA b,fun b z=>absurd z (noA b),e0.funs,e0.frf⟩,
  rfl,e0.bare,Un.kept hk,⟨_,x.toInCall.ns,fun i y v h1 h2 h3=>?_⟩,fun y c h=>⟨_,x.cell y c h⟩,e0.hok.fresh (Nat.le_refl _),fun y c h=>?_,fun p hp=>absurd (show p∈([]:List (Addr×Obj))from hp) (by simp),e0.hok.kept hk,?_⟩
 .exact name_of_addr x.apart (PySem.mem_of_lookup h1) (PySem.mem_of_lookup h2)
 .have hy:scope.names.lookup y=some .cell\/scope.names.lookup y=some .free:=hy
  rcases hy with hy|hy
  .exact wV hy
  .exact absurd rfl (S.nofree _ (PySem.mem_of_lookup hy))
 .exact Nat.le_of_lt (x.above y c (PySem.mem_of_lookup h))
 .have hi:i<vs.length:=by
   unfold start at h2
   by_cases hi:i<vs.length
   .exact hi
   .rw[List.getElem?_append_right (by simpa using hi)]at h2
    rw[List.getElem?_replicate]at h2
    split at h2<;>cases h2
  have ha:vs[i]? =some v:=by
   unfold start at h2
   rw[List.getElem?_append_left (by simpa using hi),List.getElem?_map]at h2
   cases e:vs[i]? with
   |none=>rw[e]at h2;cases h2
   |some a=>rw[e]at h2;cases h2;rfl
  obtain⟨u,hu,rv⟩:=r.get ha
  have hp:ps[i]? =some y:=by
   rw[<-S.pre,List.getElem?_take_of_lt (by omega)];exact h1
  have ndP:ps.Nodup:=by rw[<-S.pre];exact S.nd.sublist (List.take_sublist _ _)
  refine⟨u,rv,?_⟩
  rcases S.par y (List.mem_of_getElem? hp)with k|k
  .exact .inl ⟨k,uz ndP hp hu k⟩
  .obtain⟨c,e⟩:=wV (n:=s.heap.objs.size+1) k
   refine .inr ⟨.inl k,c,e,?_⟩
   have q:=x.cell y c e
   rw[ur ndP hp hu (by show scope.names.lookup y≠_;rw[k];decide)]at q
   exact q
 .exact e0.hok.fresh (Nat.le_of_lt (x.above y c (PySem.mem_of_lookup h)))
 .unfold start
  show _=N.length
  rw[List.length_append,List.length_map,List.length_replicate]
  omega
theorem Ny{CX:JG}{P:Program}{w:World}{K:PySem.W.Frag}{mg:Str->Option Value}{base:Heap}{k:Nat}{f:Addr}{name qual:Str}{params:Arguments}{body:List Stmt}{scope:Scope}{dV kV doc pm cdv ct oc:Value}{an od:Option Addr}
  {osl:Array (Option Value)}{N ps:List Str}{sp:Sp}(lk:K.lookup f=some ⟨oc,od,.func (PySem.W.fnOf name qual params body scope dV kV doc pm an cdv ct),osl⟩)(hcd:PySem.W.codeIn K cdv qual=true)(S:aQ N ps scope)
  (len:∀vs H Q E,sp vs H Q E->vs.length=ps.length)
  (hbody:∀(A:Around)(outer:List Env)(s:Shared)(H:Hp)(vs:List V)(Q:VK)(E:XK),aZ k (A.deeper (envOfC qual scope s.heap.objs.size f cdv))->sp vs H Q E->
   ∃t,lC (ug CX P w K mg base N qual scope f cdv A outer s H E) body t/\t {nx:=fun _ H'=>Q .non H',rt:=Q} (start N vs) H):
  bH P w K mg base CX (k+1) f (PySem.W.fnOf name qual params body scope dV kV doc pm an cdv ct) ps sp:=by
 refine⟨len,fun A outer s H args us vs Q E hr e0 hb r hsp=>?_⟩
 have hl:=len _ _ _ _ hsp
 have KX:K.In s.heap:=e0.mod.kin.keeps fun b o e=>(e0.bs b o e).1
 have lim:s.heap.NoLimit:=e0.mod.nolimit.keeps fun b o e=>(e0.bs b o e).1
 have hkind:∀y∈ps.zip us,scope.names.lookup y.1=some .local\/(scope.names.lookup y.1=some .cell/\((cellsFrom (s.heap.objs.size+1) scope.names []).lookup y.1).isSome=true):=fun⟨n,v⟩hy=>by
  rcases S.par n (List.of_mem_zip hy).1 with q|q
  .exact .inl q
  .exact .inr ⟨q,PySem.W.cellsFrom_some _ _ _ (.inl q)⟩
 refine codeAny_call_function hr.depth (KX _ _ lk) rfl S.co S.gen rfl (PySem.W.codeRec_of KX hcd) (hb _ _ _ _ ?_)
 refine wpAny_newFunctionEnv_cells S.kind hkind fun env he s1 x=>?_
 subst he
 refine⟨lim.keeps x.toInCall.keep,codeAny_func ?_⟩
 obtain⟨t,ht,hq⟩:=hbody A outer s H vs Q E (hr.deeper _) hsp
 have I:Inv (ug CX P w K mg base N qual scope f cdv A outer s H E) [] (start N vs) H s1:=uF S hr.hd e0 hl r x
 refine wpAny_mono (ht [] s1 (start N vs) H _ I hq) (fun fl s' hs=>?_) fun e s' hs=>hs
 have fin:∀{σ':St}{H':Hp}{v:V}{u:Value},Inv (ug CX P w K mg base N qual scope f cdv A outer s H E) [] σ' H' s'->RelV v u->Q v H'->CE outer P w H s Q u s':=
  fun{σ' H' v u}J rv q=>⟨v,H',J.os,J.bare,J.base,J.hok,rv,q⟩
 cases fl with
 |ret u=>
  obtain⟨v,σ',H',J,rv,q⟩:=hs
  exact fin J rv q
 |next=>
  obtain⟨σ',H',J,q⟩:=hs
  exact fin (v:=V.non) (u:=Value.none) J rfl q
 |brk=>
  obtain⟨_,_,_,q⟩:=hs
  exact False.elim q
 |cont=>
  obtain⟨_,_,_,q⟩:=hs
  exact False.elim q
end L2
namespace L2
open PySem PySem.Spec PyProof.Rows
section
variable {X:Cx} {x:Str} {p pos:Pos} {e:Expr} {es:List Expr} {t:TA} {id T:String} {r:List V->Hp->VK->Prop}
def Wx(r:List V->Hp->VK->Prop)(t:TA):TE:=fun σ H Q=>t σ H fun vs H1=>r vs H1 Q
theorem aV(hc:nu X (.builtin id) r)(hg:Gl X x)(hm:X.mg x=none)(hv:bootBuiltins x=some (.builtin id))(ha:PA X (e::es) t)(hn:x≠"__name__":=by decide)(hdb:(x==("__debug__":Str))=false:=by decide)
  (he:starEach (e::es) X.env=(false,eval e X.env)::starEach es X.env:=by rfl)(hpl:(backTo pos (starEach es X.env)).any (·.1)=false:=by rfl):PE X (.Call (.Name x p) (e::es) [] pos) (Wx r t):=by
 intro pins s σ H Q I h
 refine wpAny_Call_Name_kw (jm I hg hm hv ?_ hn hdb)
 exact PyProof.Rows.callWith_builtin1 (cZ (ha pos pins s σ H _ I h) fun us s1⟨vs,H1,I1,r1,q1⟩=>hc pins s1 σ H1 vs us Q I1 r1 q1) he hpl
theorem jE(hc:nu X (.type T) r)(hg:Gl X x)(hm:X.mg x=none)(hv:bootBuiltins x=some (.type T))(ha:PA X (e::es) t)(hn:x≠"__name__":=by decide)(hdb:(x==("__debug__":Str))=false:=by decide)
  (he:starEach (e::es) X.env=(false,eval e X.env)::starEach es X.env:=by rfl)(hpl:(backTo pos (starEach es X.env)).any (·.1)=false:=by rfl):PE X (.Call (.Name x p) (e::es) [] pos) (Wx r t):=by
 intro pins s σ H Q I h
 refine wpAny_Call_Name_kw (jm I hg hm hv ?_ hn hdb)
 exact PyProof.Rows.callWith_type1 (cZ (ha pos pins s σ H _ I h) fun us s1⟨vs,H1,I1,r1,q1⟩=>hc pins s1 σ H1 vs us Q I1 r1 q1) he hpl
end
end L2
namespace HT
open PySem PyProof.Rows
section
open PySem.SeqAt
open PySem.AutoSeq1 (wpAny_loadPart')
open PySem.MeetsSeq PySem.MeetsSeq2 PySem.MeetsSeq3
end
section
variable {prog:Program} {w:World} {A:Around} {E:Value->Shared->Prop} {s:Shared}
def sIx(n d:Nat):Option Int->Nat
 |none=>d
 |some v=>if v<0 then(v+(n:Int)).toNat else min v.toNat n
theorem sIx_none(n d:Nat):sIx n d none=d:=rfl
theorem sIx_nat(n d k:Nat):sIx n d (some (k:Int))=min k n:=by
 show(if(k:Int)<0 then((k:Int)+(n:Int)).toNat else min (k:Int).toNat n)=min k n
 rw[if_neg (by omega),Int.toNat_natCast]
end
end HT
namespace L2
open PySem PySem.Spec PyProof.Rows
abbrev TO:=St->Hp->(Option Int->Hp->Prop)->Prop
def PO(X:Cx)(e:Option Expr)(t:TO):Prop:=
 ∀(pins:List (Addr×Obj))(s:Shared)(σ:St)(H:Hp)(Q:Option Int->Hp->Prop),Inv X pins σ H s->t σ H Q->
  wpAny (model X.prog X.w) X.A (evalPart e X.env) (fun u s'=>∃o H',Inv X pins σ H' s'/\IsPart u o/\Q o H') X.xe s
def Mz:TO:=fun _ H Q=>Q none H
def Uo(t:TE):TO:=fun σ H Q=>t σ H fun x H1=>∃i,x= .int i/\Q (some i) H1
theorem intsAre_of{ns:List Int}:∀{us:List Value},Vals (ns.map V.int) us->IntsAre us ns:=by
 induction ns with
 |nil=>intro us r;rw[List.map_nil]at r;cases r;exact .nil
 |cons n ns ih=>
  intro us r
  rw[List.map_cons]at r
  cases r with
  |cons r1 r2=>
   obtain⟨t,e⟩:=r1
   subst e
   exact .cons n t (ih r2)
section
variable {X:Cx} {e:Expr} {te:TE} {lo hi:Option Expr} {tl th:TO} {pos p2:Pos}
theorem rz:PO X none Mz:=by
 intro pins s σ H Q I h
 rw[evalPart_none]
 exact wpAny_pure ⟨none,H,I,.none,h⟩
theorem rE(h:PE X e te):PO X (some e) (Uo te):=by
 intro pins s σ H Q I hw
 rw[evalPart_some]
 refine cZ (h pins s σ H _ I hw) fun u s1⟨x,H1,I1,r1,q1⟩=>?_
 obtain⟨i,rfl,q⟩:=q1
 obtain⟨t,rfl⟩:=r1
 exact⟨some i,H1,I1,.int i t,q⟩
def Xe(X:Cx)(r:V->Option Int->Option Int->Hp->VK->Prop):Prop:=
 ∀(pins:List (Addr×Obj))(s:Shared)(σ:St)(H:Hp)(x:V)(v vl vu:Value)(lo hi:Option Int)(sl:Addr)(Q:VK),Inv X pins σ H s->RelV x v->s.heap.IsSliceOf sl vl vu .none->IsPart vl lo->IsPart vu hi->r x lo hi H Q->
  ∃T id,typeLookup (.type T) "__getitem__"=pure (some (.builtin id))/\s.TypeIs v T/\wpAny (model X.prog X.w) X.A (getItem v (.ref sl)) (EP X pins σ Q) X.xe s
def Yk(r:V->Option Int->Option Int->Hp->VK->Prop)(te:TE)(tl th:TO):TE:=fun σ H Q=>te σ H fun x H1=>tl σ H1 fun l H2=>th σ H2 fun u H3=>r x l u H3 Q
theorem pA{r:V->Option Int->Option Int->Hp->VK->Prop}(hr:Xe X r)(he:PE X e te)(hl:PO X lo tl)(hu:PO X hi th):PE X (.Subscript e (.Slice lo hi none p2) pos) (Yk r te tl th):=by
 intro pins s σ H Q I h
 refine Subscript_ (cZ (he pins s σ H _ I h) fun v s1⟨x,H1,I1,r1,q1⟩=>?_)
 refine wpAny_Slice (cZ (hl pins s1 σ H1 _ I1 q1) fun vl s2⟨l,H2,I2,pl,q2⟩=>cZ (hu pins s2 σ H2 _ I2 q2) fun vu s3⟨u,H3,I3,pu,q3⟩=>?_)
 rw[evalPart_none]
 refine wpAny_pure ?_
 have I4:Inv X pins σ H3 {s3 with heap:=s3.heap.push {cls:= .type "slice",data:= .fields #[vl,vu,.none]}}:=I3.kept (t':=s3.toks) fun b ob q=>Heap.get?_push_of_some _ q
 obtain⟨T,id,hT,ht,hg⟩:=hr pins {s3 with heap:=s3.heap.push {cls:= .type "slice",data:= .fields #[vl,vu,.none]}} σ H3 x v vl vu l u s3.heap.objs.size Q I4 r1 (Heap.IsSliceOf.new ..) pl pu q3
 show wpAny (model X.prog X.w) X.A (subscriptTail e (.Slice lo hi none p2) v (.ref s3.heap.objs.size)) (EP X pins σ Q) X.xe {s3 with heap:=s3.heap.push {cls:= .type "slice",data:= .fields #[vl,vu,.none]}}
 exact tail_any (ops:=[.ref s3.heap.objs.size,v]) ht hT hg (by with_unfolding_all rfl)
def oK(xs:List V)(lo hi:Option Int):List V:=(xs.drop (HT.sIx xs.length 0 lo)).take (HT.sIx xs.length xs.length hi-HT.sIx xs.length 0 lo)
theorem wZ(xs:List V)(lo hi:Option Int):(oK xs lo hi).length<=xs.length:=by
 unfold oK
 rw[List.length_take,List.length_drop]
 omega
end
end L2
namespace L2
open PySem PySem.Spec PyProof.Rows
def Du(n:Nat)(i:Int):Option Nat:=if 0<=i then(if i<n then some i.toNat else none)else if-(n:Int)<=i then some (i+n).toNat else none
def qT{α:Type}(xs:List α)(i:Int):Option α:=(Du xs.length i).bind fun j=>xs[j]?
theorem Bm{n:Nat}{i:Int}{j:Nat}(h:Du n i=some j):seqIndex? i n=some j/\j<n/\ -(n:Int)<=i/\i<n:=by
 unfold Du at h
 by_cases h0:0<=i
 .rw[if_pos h0]at h
  by_cases h1:i<n
  .rw[if_pos h1]at h
   have e:i.toNat=j:=Option.some.inj h
   exact⟨by rw[seqIndex_of h0 h1,e],by omega,by omega,h1⟩
  .rw[if_neg h1]at h;cases h
 .rw[if_neg h0]at h
  by_cases h1: -(n:Int)<=i
  .rw[if_pos h1]at h
   have e:(i+n).toNat=j:=Option.some.inj h
   exact⟨by rw[seqIndex_neg (by omega) h1,e],by omega,h1,by omega⟩
  .rw[if_neg h1]at h;cases h
theorem Am{α:Type}{xs:List α}{i:Int}{v:α}(h:qT xs i=some v):∃j,seqIndex? i xs.length=some j/\xs[j]? =some v/\j<xs.length/\ -(xs.length:Int)<=i/\i<xs.length:=by
 unfold qT at h
 cases e:Du xs.length i with
 |none=>rw[e]at h;cases h
 |some j=>
  rw[e]at h
  obtain⟨h1,h2,h3,h4⟩:=Bm e
  exact⟨j,h1,h,h2,h3,h4⟩
theorem bZ{α:Type}{xs:List α}{j:Nat}{v:α}(h:xs[j]? =some v):qT xs (j:Int)=some v:=by
 have hj:j<xs.length:=(List.getElem?_eq_some_iff.mp h).1
 have e:Du xs.length (j:Int)=some j:=by
  unfold Du
  rw[if_pos (by omega),if_pos (by omega)];simp
 unfold qT;rw[e];exact h
theorem su{α:Type}(xs:List α)(v:α):qT (xs++[v]) (-1)=some v:=by
 have hl:(xs++[v]).length=xs.length+1:=by simp
 have e:Du (xs++[v]).length (-1)=some xs.length:=by
  unfold Du
  rw[hl,if_neg (by decide),if_pos (by omega)]
  congr 1
  omega
 unfold qT
 rw[e]
 show(xs++[v])[xs.length]? =some v
 simp
def JR(b:Expr):Prop:=∀o i,subscripted b false o i=operate [o,i] (getItem o i)
def Vi(X:Cx)(r:R2):Prop:=
 ∀(value slice:Expr)(pins:List (Addr×Obj))(s:Shared)(σ:St)(H:Hp)(x y:V)(v u:Value)(Q:VK),Inv X pins σ H s->RelV x v->RelV y u->r x y H Q->
  subscripted slice false v u=operate [v,u] (getItem v u)->wpAny (model X.prog X.w) X.A (subscriptTail value slice v u) (EP X pins σ Q) X.xe s
def Xb(X:Cx)(id:String)(r:V->List V->Hp->VK->Prop):Prop:=
 ∀(pins:List (Addr×Obj))(s:Shared)(σ:St)(H:Hp)(x:V)(xs:List V)(v:Value)(us:List Value)(Q:VK),Inv X pins σ H s->RelV x v->Vals xs us->r x xs H Q->
  wpAny (model X.prog X.w) X.A (call (.builtin id) (v::us)) (EP X pins σ Q) X.xe s
section
variable {X:Cx} {a b:Expr} {ta tb:TE} {pos:Pos}
theorem aD{r:R2}(hr:Vi X r)(ha:PE X a ta)(hb:PE X b tb)(hs:JR b):PE X (.Subscript a b pos) (Ve r ta tb):=by
 intro pins s σ H Q I h
 exact Subscript_ (Ph ha hb I h fun v u s2 x y H2 I2 rx ry q=>hr a b pins s2 σ H2 x y v u Q I2 rx ry q (hs _ _))
def Wk(K:PySem.W.Frag):R2:=fun x y H Q=>∃p xs i v,x= .ref p/\y= .int i/\cJ K H p xs/\qT xs i=some v/\Q v H
def Wl(K:PySem.W.Frag):R2:=fun x y H Q=>∃p xs i v,x= .ref p/\y= .int i/\fD K H p xs/\qT xs i=some v/\Q v H
theorem aP:Vi X (Wk X.K):=by
 intro value slice pins s σ H x y v u Q I rx ry h hs
 obtain⟨p,xs,i,z,rfl,rfl,hq,he,q⟩:=h
 cases rx
 obtain⟨t,rfl⟩:=ry
 obtain⟨its,r,pl,hz⟩:=I.list hq
 obtain⟨j,h1,h2,h3,h4,h5⟩:=Am he
 obtain⟨w,ew,rw'⟩:=r.get h2
 have hl:=r.length
 have hn:=vG
 have fin:EP X pins σ Q w s:=⟨z,H,I,rw',q⟩
 by_cases h0:0<=i
 .have hj:i.toNat=j:=by
   rw[seqIndex_of h0 h5]at h1
   exact Option.some.inj h1
  exact item_listR pl.isList h0 (by omega) (by rw[hj];simpa using ew) fin hs
 .have hj:(i+(its.toArray.size:Int)).toNat=j:=by
   rw[seqIndex_neg (by omega) h4]at h1
   rw[List.size_toArray,<-hl]
   exact Option.some.inj h1
  exact subscriptTail_builtinR (x:=w) pl.isList.typeIs slot_list_getitem.lookup
   (wpAny_getItem_list_neg (Q:=fun r s'=>r=w/\EP X pins σ Q r s') pl.isList (by omega) (by rw[List.size_toArray]<;>omega) (by omega) (by rw[hj];simpa using ew) ⟨rfl,fin⟩) hs
theorem aK:Vi X (Wl X.K):=by
 intro value slice pins s σ H x y v u Q I rx ry h hs
 obtain⟨p,xs,i,z,rfl,rfl,hq,he,q⟩:=h
 cases rx
 obtain⟨t,rfl⟩:=ry
 obtain⟨its,r,pl,hz⟩:=I.tuple hq
 obtain⟨j,h1,h2,h3,h4,h5⟩:=Am he
 obtain⟨w,ew,rw'⟩:=r.get h2
 have hl:=r.length
 have hn:=vG
 have fin:EP X pins σ Q w s:=⟨z,H,I,rw',q⟩
 exact subscriptTail_builtinR (x:=w) pl.typeIs slot_tuple_getitem.lookup
  (getItem_tuple (j:=j) (Q:=fun r s'=>r=w/\EP X pins σ Q r s') pl (by omega) (by omega) (by rw[List.size_toArray,<-hl];exact h1) (by simpa using ew) ⟨rfl,fin⟩) hs
theorem yW(its:List Value)(n j:Nat)(u:Value):Obj.mapSeq (·.setIfInBounds j u) {cls:= .type "list",data:= .seq its.toArray n}={cls:= .type "list",data:= .seq (its.set j u).toArray n}:=by
 simp[Obj.mapSeq]
theorem Inv.lst{pins:List (Addr×Obj)}{σ:St}{H:Hp}{s:Shared}{p:Addr}{xs:List V}(I:Inv X pins σ H s)(h:H p=some (.lst xs)):
  ∃(its:List Value)(n:Nat),Vals xs its/\s.heap.get? p=some {cls:= .type "list",data:= .seq its.toArray n}/\xs.length<=sizeLine:=by
 obtain⟨z,its,n,r,e⟩:=I.hok p _ h
 exact⟨its,n,r,e,z⟩
theorem Inv.lstUpd{pins:List (Addr×Obj)}{σ:St}{H:Hp}{s:Shared}{p:Addr}{xs ys:List V}{its its':List Value}{n n':Nat}{f:Obj->Obj}(I:Inv X pins σ H s)(h:H p=some (.lst xs))
  (ho:s.heap.get? p=some {cls:= .type "list",data:= .seq its.toArray n})(hf:f {cls:= .type "list",data:= .seq its.toArray n}={cls:= .type "list",data:= .seq its'.toArray n'})(r:Vals ys its')(hz:ys.length<=sizeLine)(t:Nat):
  Inv X pins σ (upd H p (.lst ys)) {s with heap:=s.heap.update p f,toks:=t}:=by
 have e:(s.heap.update p f).get? p=some {cls:= .type "list",data:= .seq its'.toArray n'}:=by
  rw[Heap.get?_update_self f ho (by rw[hf]<;>rfl),hf]
 refine I.write (x:=p) (e:=p) (by rw[h];trivial) (.inl rfl) (fun b u hb q=>(Heap.get?_update_other _ _ (Ne.symm hb)).trans q) ⟨_,e⟩ ?_
 exact⟨hz,its',n',r,e⟩
def Tz:V->V->V->Hp->(Hp->Prop)->Prop:=fun o i v H Q=>∃p xs k j,o= .ref p/\i= .int k/\H p=some (.lst xs)/\Du xs.length k=some j/\Q (upd H p (.lst (xs.set j v)))
theorem set_list:RT X Tz:=by
 intro pins s σ H o i v ov iv u Q I ro ri rv h
 obtain⟨p,xs,k,j,rfl,rfl,hp,hj,q⟩:=h
 cases ro
 obtain⟨t,rfl⟩:=ri
 obtain⟨its,n,r,ho,hz⟩:=I.lst hp
 obtain⟨h1,h2,h3,h4⟩:=Bm hj
 have hl:=r.length
 have hn:=vG
 have I':Inv X pins σ (upd H p (.lst (xs.set j v))) {s with heap:=s.heap.update p (Obj.mapSeq (·.setIfInBounds j u))}:=
  I.lstUpd hp ho (yW its n j u) (r.set rv j) (by rw[List.length_set];exact hz) s.toks
 by_cases h0:0<=k
 .have hk:k.toNat=j:=by
   rw[seqIndex_of h0 h4]at h1
   exact Option.some.inj h1
  exact PySem.W.ki_setAt ho h0 (by omega) (by rw[List.size_toArray,<-hl];exact h4) (by rw[hk];exact⟨_,I',q⟩)
 .have hk:(k+(its.toArray.size:Int)).toNat=j:=by
   rw[seqIndex_neg (by omega) h3]at h1
   rw[List.size_toArray,<-hl]
   exact Option.some.inj h1
  exact PySem.W.ki_setBack ho (by omega) (by rw[List.size_toArray,<-hl];exact h3) (by omega) (by rw[hk];exact⟨_,I',q⟩)
theorem wA(lo hi:Option Int)(n:Nat):(sliceBounds lo hi none n).1=((HT.sIx n 0 lo:Nat):Int)/\(sliceBounds lo hi none n).2.1=((HT.sIx n n hi:Nat):Int)/\(sliceBounds lo hi none n).2.2=1:=by
 refine⟨?_,?_,rfl⟩
 .cases lo with
  |none=>simp[sliceBounds,HT.sIx]
  |some i=>
   simp only[sliceBounds,HT.sIx,Option.getD_none,show(1:Int)>0 by decide,if_true]
   by_cases h:i<0
   .simp only[h,if_true]<;>omega
   .simp only[h,if_false]<;>omega
 .cases hi with
  |none=>simp[sliceBounds,HT.sIx]
  |some i=>
   simp only[sliceBounds,HT.sIx,Option.getD_none,show(1:Int)>0 by decide,if_true]
   by_cases h:i<0
   .simp only[h,if_true]<;>omega
   .simp only[h,if_false]<;>omega
theorem um(its:List Value)(lo hi:Option Int):slicePick its.toArray lo hi none=((its.drop (HT.sIx its.length 0 lo)).take (HT.sIx its.length its.length hi-HT.sIx its.length 0 lo)).toArray:=by
 obtain⟨h1,h2,h3⟩:=wA lo hi its.toArray.size
 unfold slicePick
 rw[h1,h2,h3]
 simp only[sliceRange_one,pick_run,List.size_toArray]<;>rfl
def Wq(K:PySem.W.Frag):V->Option Int->Option Int->Hp->VK->Prop:=fun x lo hi H Q=>∃a xs,x= .ref a/\cJ K H a xs/\∀p,H p=none->Q (.ref p) (upd H p (.lst (oK xs lo hi)))
theorem rP:Xe X (Wq X.K):=by
 intro pins s σ H x v vl vu lo hi sl Q I rx hs pl pu h
 obtain⟨a,xs,rfl,hx,q⟩:=h
 cases rx
 obtain⟨its,r,ht,hz⟩:=I.list hx
 have hlen:=r.length
 refine⟨"list",_,slot_list_getitem.lookup,ht.isList.typeIs,?_⟩
 refine wpAny_getItem_list_slice ht.isList hs pl pu .none (by simp) ?_ (by rw[List.size_toArray]<;>omega)
 rw[um,<-hlen]
 refine⟨.ref s.heap.objs.size,_,I.laid (t':=s.toks) (o:= .lst (oK xs lo hi)) (fun b ob q=>Heap.get?_push_of_some _ q) (Nat.le_refl _) ?_,rfl,q _ (I.hok.fresh (Nat.le_refl _))⟩
 exact⟨Nat.le_trans (wZ xs lo hi) hz,_,0,(r.drop (HT.sIx xs.length 0 lo)).take (HT.sIx xs.length xs.length hi-HT.sIx xs.length 0 lo),Heap.get?_push_size _ rfl⟩
def oO:V->Bool
 | .non=>true
 | .bl _=>true
 | .int _=>true
 | .str _=>true
 |_=>false
def Nx:V->V->Bool
 | .non,.non=>true
 | .bl a,.bl b=>a==b
 | .bl a,.int b=>(if a then 1 else 0)==b
 | .int a,.bl b=>a==(if b then 1 else 0)
 | .int a,.int b=>a==b
 | .str a,.str b=>a==b
 |_,_=>false
theorem Pu{A:Around}{s:Shared}{y x:V}{u v:Value}(ry:RelV y u)(rx:RelV x v)(fy:oO y=true)(fx:oO x=true):SeqAt.EqAt A s u v (Nx y x):=by
 cases y with
 |non=>
  cases ry
  cases x with
  |non=>cases rx;exact SeqAt.EqAt.same _
  |bl b=>cases rx;exact SeqAt.EqAt.none_bool b
  |int b=>obtain⟨t,rfl⟩:=rx;exact SeqAt.EqAt.none_int b t
  |str b=>obtain⟨t,rfl⟩:=rx;exact SeqAt.EqAt.none_str b t
  |_=>exact absurd (show false=true from fx) Bool.false_ne_true
 |bl a=>
  cases ry
  cases x with
  |non=>cases rx;exact SeqAt.EqAt.bool_none a
  |bl b=>cases rx;exact SeqAt.EqAt.bool_bool a b
  |int b=>obtain⟨t,rfl⟩:=rx;exact SeqAt.EqAt.bool_int a b t
  |str b=>obtain⟨t,rfl⟩:=rx;exact SeqAt.EqAt.bool_str a b t
  |_=>exact absurd (show false=true from fx) Bool.false_ne_true
 |int a=>
  obtain⟨t',rfl⟩:=ry
  cases x with
  |non=>cases rx;exact SeqAt.EqAt.int_none a t'
  |bl b=>cases rx;exact SeqAt.EqAt.int_bool a t' b
  |int b=>obtain⟨t,rfl⟩:=rx;exact SeqAt.EqAt.int_int a t' b t
  |str b=>obtain⟨t,rfl⟩:=rx;exact SeqAt.EqAt.int_str a t' b t
  |_=>exact absurd (show false=true from fx) Bool.false_ne_true
 |str a=>
  obtain⟨t',rfl⟩:=ry
  cases x with
  |non=>cases rx;exact SeqAt.EqAt.str_none a t'
  |bl b=>cases rx;exact SeqAt.EqAt.str_bool a t' b
  |int b=>obtain⟨t,rfl⟩:=rx;exact SeqAt.EqAt.str_int a t' b t
  |str b=>obtain⟨t,rfl⟩:=rx;exact SeqAt.EqAt.str_str a t' b t
  |_=>exact absurd (show false=true from fx) Bool.false_ne_true
 |_=>exact absurd (show false=true from fy) Bool.false_ne_true
def yL(x:V)(u:Value):Bool:=match u with
 | .none=>Nx .non x
 | .bool b=>Nx (.bl b) x
 | .int i _=>Nx (.int i) x
 | .str z _=>Nx (.str z) x
 |_=>false
theorem Gs{x y:V}{u:Value}(r:RelV y u)(f:oO y=true):yL x u=Nx y x:=by
 cases y with
 |non=>cases r;rfl
 |bl b=>cases r;rfl
 |int i=>obtain⟨t,rfl⟩:=r;rfl
 |str z=>obtain⟨t,rfl⟩:=r;rfl
 |_=>exact absurd (show false=true from f) Bool.false_ne_true
theorem oH{x:V}:∀{xs:List V}{us:List Value},Vals xs us->xs.all oO=true->us.any (yL x)=xs.any fun y=>Nx y x
 |_,_,.nil,_=>rfl
 |y::xs,u::us,.cons r t,f=>by
  rw[List.all_cons,Bool.and_eq_true]at f
  rw[List.any_cons,List.any_cons,Gs r f.1,oH t f.2]
theorem lR{A:Around}{s:Shared}{x:V}{v:Value}(rx:RelV x v)(fx:oO x=true):∀{xs:List V}{us:List Value},Vals xs us->xs.all oO=true->∀u∈us,SeqAt.EqAt A s u v (yL x u)
 |_,_,.nil,_=>fun u hu=>by cases hu
 |y::xs,u::us,.cons r t,f=>fun u' hu=>by
  rw[List.all_cons,Bool.and_eq_true]at f
  rcases List.mem_cons.mp hu with rfl|hu
  .rw[Gs r f.1];exact Pu r rx f.1 fx
  .exact lR rx fx t f.2 u' hu
def inV(x:V)(xs:List V):Bool:=xs.any fun y=>Nx y x
def Xk(K:PySem.W.Frag)(neg:Bool):R2:=fun x y H Q=>∃p xs,y= .ref p/\(cJ K H p xs\/fD K H p xs)/\oO x=true/\xs.all oO=true/\Q (.bl (if neg then !inV x xs else inV x xs)) H
theorem Ep:qK X (compareOp .In) (Xk X.K false):=by
 intro pins s σ H x y v u Q I rx ry h
 obtain⟨p,xs,rfl,hq,fx,fs,q⟩:=h
 cases ry
 rcases hq with hq|hq
 .obtain⟨its,r,pl,hz⟩:=I.list hq
  refine SeqAt.in_listAt (yL x) pl.isList (fun w hw=>lR rx fx r fs w (by simpa using hw)) ⟨.bl _,H,I,rfl,?_⟩
  rw[show its.toArray.any (yL x)=its.any (yL x)by simp,oH r fs]
  exact q
 .obtain⟨its,r,pl,hz⟩:=I.tuple hq
  refine SeqAt.in_tupleAt (yL x) pl (fun w hw=>lR rx fx r fs w (by simpa using hw)) ⟨.bl _,H,I,rfl,?_⟩
  rw[show its.toArray.any (yL x)=its.any (yL x)by simp,oH r fs]
  exact q
theorem vM:qK X (compareOp .NotIn) (Xk X.K true):=by
 intro pins s σ H x y v u Q I rx ry h
 obtain⟨p,xs,rfl,hq,fx,fs,q⟩:=h
 cases ry
 rcases hq with hq|hq
 .obtain⟨its,r,pl,hz⟩:=I.list hq
  refine SeqAt.notIn_listAt (yL x) pl.isList (fun w hw=>lR rx fx r fs w (by simpa using hw)) ⟨.bl _,H,I,rfl,?_⟩
  rw[show its.toArray.any (yL x)=its.any (yL x)by simp,oH r fs]
  exact q
 .obtain⟨its,r,pl,hz⟩:=I.tuple hq
  refine SeqAt.notIn_tupleAt (yL x) pl (fun w hw=>lR rx fx r fs w (by simpa using hw)) ⟨.bl _,H,I,rfl,?_⟩
  rw[show its.toArray.any (yL x)=its.any (yL x)by simp,oH r fs]
  exact q
theorem aU:nu X (.builtin "len") (fun xs H Q=>∃p ys,xs=[.ref p]/\(cJ X.K H p ys\/fD X.K H p ys)/\Q (.int ys.length) H):=by
 intro pins s σ H xs us Q I r h
 obtain⟨p,ys,rfl,hq,q⟩:=h
 obtain⟨u,rfl,rx⟩:=vals1 r
 cases rx
 have hn:=vG
 rcases hq with hq|hq
 .obtain⟨its,r',pl,hz⟩:=I.list hq
  have hlen:=r'.length
  exact Calls.call_len_list pl.isList (by simp only[List.size_toArray]<;>omega) ⟨.int ys.length,H,I.tok _,⟨s.toks+1,by rw[List.size_toArray,hlen]⟩,q⟩
 .obtain⟨its,r',pl,hz⟩:=I.tuple hq
  have hlen:=r'.length
  exact len_tuple pl (by simp only[List.size_toArray]<;>omega) ⟨.int ys.length,H,I.tok _,⟨s.toks+1,by rw[List.size_toArray,hlen]⟩,q⟩
theorem jP:nu X (.type "list") (fun xs H Q=>∃p ys,xs=[.ref p]/\(cJ X.K H p ys\/fD X.K H p ys)/\∀l,H l=none->Q (.ref l) (upd H l (.lst ys))):=by
 intro pins s σ H xs us Q I r h
 obtain⟨p,ys,rfl,hq,q⟩:=h
 obtain⟨u,rfl,rx⟩:=vals1 r
 cases rx
 have fin:∀(its:List Value),Vals ys its->ys.length<=sizeLine->∀(h':Heap)(c':Nat),(∀b o',s.heap.get? b=some o'->h'.get? b=some o')->
   h'.get? s.heap.objs.size=some {cls:= .type "list",dict:=none,data:= .seq its.toArray c',slots:= #[]}->EP X pins σ Q (.ref s.heap.objs.size) {s with heap:=h'}:=fun its r' hz h' c' kp e=>
  ⟨.ref s.heap.objs.size,_,I.laid (t':=s.toks) kp (Nat.le_refl _) (show cI X.prog X.w _ h' _ (.lst ys)from⟨hz,its,c',r',e⟩),rfl,q _ (I.hok.fresh (Nat.le_refl _))⟩
 rcases hq with hq|hq
 .obtain⟨its,r',pl,hz⟩:=I.list hq
  have hlen:=r'.length
  obtain⟨o,ho,hc,n,hd⟩:=pl.isList
  exact call_list_seq p (.inl rfl) ho hc hd (fun h' c' kp e=>fin its r' hz h' c' kp e) (by simp only[List.size_toArray]<;>omega)
 .obtain⟨its,r',pl,hz⟩:=I.tuple hq
  have hlen:=r'.length
  obtain⟨o,ho,hc,n,hd⟩:=pl
  exact call_list_seq p (.inr rfl) ho hc hd (fun h' c' kp e=>fin its r' hz h' c' kp e) (by simp only[List.size_toArray]<;>omega)
def Xn(K:PySem.W.Frag)(T:String)(x:V)(H:Hp):Prop:=match x with
 | .str _=>T="str"
 | .int _=>T="int"
 | .ref p=>(T="list"/\∃xs,cJ K H p xs)\/(T="tuple"/\∃o,K.lookup p=some o/\o.cls= .type "tuple"/\o.dict=none)\/
   (T="dict"/\((∃kvs,H p=some (.dK kvs))\/∃kvs,H p=some (.dT kvs)))\/(T="set"/\∃S n,H p=some (.set S n))
 |_=>False
theorem Rp{pins:List (Addr×Obj)}{σ:St}{H:Hp}{s:Shared}{T:String}{x:V}{v:Value}(I:Inv X pins σ H s)(r:RelV x v)(ty:Xn X.K T x H):
  s.TypeIs v T/\∀a,v= .ref a->∃ob,s.heap.get? a=some ob/\ob.dict=none:=by
 cases x with
 |str z=>
  obtain⟨t,rfl⟩:=r
  cases (show T="str" from ty)
  exact⟨typeIs_str s z t,fun _ e=>nomatch e⟩
 |int i=>
  obtain⟨t,rfl⟩:=r
  cases (show T="int" from ty)
  exact⟨typeIs_int s i t,fun _ e=>nomatch e⟩
 |ref p=>
  cases r
  rcases ty with⟨rfl,xs,hq⟩|⟨rfl,o,hk,hc,hd⟩|⟨rfl,hk⟩|⟨rfl,S,n,hk⟩
  .obtain⟨its,_,pl,_⟩:=I.list hq
   refine⟨pl.isList.typeIs,fun a e=>?_⟩
   cases e
   obtain⟨o,n,e,c,hd,_⟩:=pl
   exact⟨o,e,hd⟩
  .refine⟨⟨o,I.kIn p o hk,hc⟩,fun a e=>?_⟩
   cases e
   exact⟨o,I.kIn _ o hk,hd⟩
  .have z:∃o,s.heap.get? p=some o/\o.ExactDict:=by
    rcases hk with⟨kvs,hk⟩|⟨kvs,hk⟩
    .obtain⟨_,_,_,_,o,_,_,e,ex,_⟩:=I.hok p _ hk
     exact⟨o,e,ex⟩
    .obtain⟨_,_,_,_,o,_,_,e,ex,_⟩:=I.hok p _ hk
     exact⟨o,e,ex⟩
   obtain⟨o,e,ex⟩:=z
   refine⟨⟨o,e,ex.1⟩,fun a e2=>?_⟩
   cases e2
   exact⟨o,e,ex.2.1⟩
  .obtain⟨o,_,_,_,e,ex,_⟩:=I.hok p _ hk
   refine⟨⟨o,e,ex.1⟩,fun a e2=>?_⟩
   cases e2
   exact⟨o,e,ex.2.1⟩
 |_=>exact False.elim ty
def Yh(K:PySem.W.Frag)(T:String)(r:V->List V->Hp->VK->Prop)(to:TE)(t:TA):TE:=fun σ H Q=>to σ H fun x H1=>Xn K T x H1/\t σ H1 fun xs H2=>r x xs H2 Q
variable {o e:Expr} {es:List Expr} {to:TE} {t:TA} {name:Str} {apos cpos:Pos} {T id:String} {r:V->List V->Hp->VK->Prop}
theorem iY(pa:PlainAttrs T)(slot:Slot T name id)(hty:typeOf (.builtin id)=pure (.type "method_descriptor"))(hm:Xb X id r)(ho:PE X o to)(ha:PA X (e::es) t)
  (hbase:attributeBase o name X.env (eval o X.env)=eval o X.env:=by rfl)
  (hfew:((backTo cpos (starEach (e::es) X.env)).all (fun x=> !x.1)&&(backToKw cpos (keywordEach [] X.env)).all (fun x=>x.1.isSome)
   &&decide ((e::es).length+([]:List Keyword).length+(if([]:List Keyword).isEmpty then 0 else 1)<30))=true:=by rfl)
  (hline:(apos.endLine==cpos.line)=true:=by rfl)(hs:starEach (e::es) X.env=(false,eval e X.env)::starEach es X.env:=by rfl)(hplain:(backTo cpos (starEach es X.env)).any (·.1)=false:=by rfl):
  PE X (.Call (.Attribute o name apos) (e::es) [] cpos) (Yh X.K T r to t):=by
 intro pins s σ H Q I h
 refine wpAny_Call_method_late hbase hfew hline rfl (cZ (ho pins s σ H _ I h) fun v s1⟨x,H1,I1,r1,ty,q1⟩=>?_)
 obtain⟨h1,h2⟩:=Rp I1 r1 ty
 refine⟨T,id,pa,slot,hty,h1,h2,?_⟩
 have hA:=ha cpos pins s1 σ H1 _ I1 q1
 rw[hs]at hA ⊢
 refine Calls.callWith_builtin (by show(false||(backTo cpos (starEach es X.env)).any (·.1))=false;rw[hplain]<;>rfl) (Calls.evalArgs_plain ?_)
 exact cZ hA fun us s2⟨vs,H2,I2,r2,q2⟩=>hm pins s2 σ H2 x vs v us Q I2 r1 r2 q2
end
end L2
namespace L2
open PySem PySem.Spec PyProof.Rows
def Uy(X:Cx)(id:String)(r:V->List V->Hp->VK->Prop):Prop:=
 ∀(pins:List (Addr×Obj))(s:Shared)(σ:St)(H:Hp)(x:V)(xs:List V)(v:Value)(us:List Value)(Q:VK),Inv X pins σ H s->RelV x v->Vals xs us->r x xs H Q->
  wpAny (model X.prog X.w) X.A (call (.builtin id) (v::us)) (EP X pins σ Q) X.xe s
theorem Vals.one:∀{x:V}{us:List Value},Vals [x] us->∃u,us=[u]/\RelV x u
 |_,_,.cons r .nil=>⟨_,rfl,r⟩
theorem Vals.two:∀{x y:V}{us:List Value},Vals [x,y] us->∃u v,us=[u,v]/\RelV x u/\RelV y v
 |_,_,_,.cons r (.cons q .nil)=>⟨_,_,rfl,r,q⟩
theorem Vals.eraseIdx:∀{xs:List V}{us:List Value}(i:Nat),Vals xs us->Vals (xs.eraseIdx i) (us.eraseIdx i)
 |_,_,_,.nil=> .nil
 |_,_,0,.cons _ t=>t
 |_,_,i+1,.cons r t=> .cons r (Vals.eraseIdx i t)
theorem Vals.reverse{xs:List V}{us:List Value}(h:Vals xs us):Vals xs.reverse us.reverse:=by
 induction h with
 |nil=>exact .nil
 |cons r t ih=>rw[List.reverse_cons,List.reverse_cons];exact Vals.append ih (.cons r .nil)
theorem qe{α:Type}:∀(l:List α)(i:Nat),(l.eraseIdx i).length<=l.length
 |[],_=>Nat.le_refl _
 |_::_,0=>Nat.le_succ _
 |_::r,i+1=>Nat.succ_le_succ (qe r i)
section
variable {X:Cx} {pins:List (Addr×Obj)} {σ:St} {H:Hp} {s:Shared} {l b:Addr} {xs ys zs:List V}
theorem Inv.lset{its its':List Value}{n:Nat}{f:Array Value->Array Value}{t':Nat}(I:Inv X pins σ H s)(hH:H l=some (.lst xs))
  (e:s.heap.get? l=some {cls:= .type "list",data:= .seq its.toArray n})(hf:f its.toArray=its'.toArray)(hv:Vals ys its')(hz:ys.length<=sizeLine):
  Inv X pins σ (upd H l (.lst ys)) {s with heap:=s.heap.update l (Obj.mapSeq f),toks:=t'}:=by
 have q:=PySem.IsL.update e f
 rw[hf]at q
 refine I.write (x:=l) (e:=l) (by rw[hH];exact trivial) (.inl rfl) (fun b' u hb hu=>(Heap.get?_update_other s.heap (Obj.mapSeq f) (Ne.symm hb)).trans hu) ⟨_,q⟩ ?_
 exact⟨hz,its',_,hv,q⟩
theorem Inv.lnew{its:List Value}{t':Nat}(I:Inv X pins σ H s)(hv:Vals ys its)(hz:ys.length<=sizeLine):
  Inv X pins σ (upd H s.heap.objs.size (.lst ys)) {s with heap:=s.heap.push {cls:= .type "list",data:= .seq its.toArray},toks:=t'}:=
 I.laid (fun _ _ q=>Heap.get?_push_of_some _ q) (Nat.le_refl _) ⟨hz,its,0,hv,Heap.get?_push_size _ rfl⟩
theorem Inv.fresh(I:Inv X pins σ H s):H s.heap.objs.size=none:=I.hok.fresh (Nat.le_refl _)
theorem Inv.lstM(I:Inv X pins σ H s)(hH:H l=some (.lst xs)):xs.length<=sizeLine/\∃(its:List Value)(n:Nat),Vals xs its/\xs.length=its.length/\s.heap.get? l=some {cls:= .type "list",data:= .seq its.toArray n}:=by
 obtain⟨z,its,n,r,e⟩:=I.hok l _ hH
 exact⟨z,its,n,r,r.length,e⟩
theorem Hl{n:Nat}(h:n<=sizeLine):Builtin.List.listTooLong n=false:=by
 unfold Builtin.List.listTooLong
 exact decide_eq_false (by omega)
end
section
variable {X:Cx}
def Lx:V->List V->Hp->VK->Prop:=fun x vs H Q=>∃l xs y,x= .ref l/\vs=[y]/\H l=some (.lst xs)/\xs.length<sizeLine/\Q .non (upd H l (.lst (xs++[y])))
theorem di:Uy X "list.append" Lx:=by
 intro pins s σ H x vs v us Q I rx rv h
 obtain⟨l,xs,y,rfl,rfl,hH,hz,q⟩:=h
 cases rx
 obtain⟨u,rfl,ru⟩:=rv.one
 obtain⟨z,its,n,r,hl,e⟩:=I.lstM hH
 refine call_meets F.slot_list_append ⟨_,e,rfl⟩ F.entry_list_append (F.args_list_append_2 _ _) (PySem.list_append l its.toArray n u (by rw[List.size_toArray];omega)) ⟨e,?_⟩
 refine⟨.non,_,I.lset (its':=its++[u]) hH e (by simp) (r.append (.cons ru .nil)) ?_,rfl,q⟩
 rw[List.length_append,List.length_singleton]
 omega
def QC:V->List V->Hp->VK->Prop:=fun x vs H Q=>∃l xs i k y,x= .ref l/\vs=[.int i]/\H l=some (.lst xs)/\ -(2^63)<=i/\i<2^63/\seqIndex? i xs.length=some k/\xs[k]? =some y/\Q y (upd H l (.lst (xs.eraseIdx k)))
theorem xJ:Uy X "list.pop" QC:=by
 intro pins s σ H x vs v us Q I rx rv h
 obtain⟨l,xs,i,k,y,rfl,rfl,hH,h1,h2,hk,hy,q⟩:=h
 cases rx
 obtain⟨u,rfl,ru⟩:=rv.one
 obtain⟨t,rfl⟩:=ru
 obtain⟨z,its,n,r,hl,e⟩:=I.lstM hH
 obtain⟨w,hw,rw'⟩:=r.get hy
 refine call_meets F.slot_list_pop ⟨_,e,rfl⟩ F.entry_list_pop (F.args_list_pop_2 _ _)
  (MeetsSeq.list_pop_at l its.toArray n i t k w (fitsIndex_both h1 h2) (by rw[List.size_toArray,<-hl];exact hk) (by rw[<-Array.getElem?_toList];exact hw) (by rw[List.size_toArray];omega)) ⟨e,?_⟩
 refine⟨y,_,I.lset (its':=its.eraseIdx k) hH e ?_ (r.eraseIdx k) ?_,rw',q⟩
 .show its.toArray.eraseIdxIfInBounds k=(its.eraseIdx k).toArray
  rw[List.eraseIdxIfInBounds_toArray]
 .have:=qe xs k
  omega
def We:R2:=fun x y H Q=>∃l b xs zs,x= .ref l/\y= .ref b/\H l=some (.lst xs)/\H b=some (.lst zs)/\xs.length+zs.length<=sizeLine/\∀p,H p=none->Q (.ref p) (upd H p (.lst (xs++zs)))
theorem zu:qK X (binaryOp .Add) We:=by
 intro pins s σ H x y v u Q I rx ry h
 obtain⟨l,b,xs,zs,rfl,rfl,hH,hB,hz,q⟩:=h
 cases rx
 cases ry
 obtain⟨z,its,n,r,hl,e⟩:=I.lstM hH
 obtain⟨z2,its2,n2,r2,hl2,e2⟩:=I.lstM hB
 refine PySem.P.add_list e e2 ?_ (by rw[List.size_toArray,List.size_toArray];omega)
 have ea:its.toArray++its2.toArray=(its++its2).toArray:=by simp
 rw[ea]
 exact⟨.ref _,_,I.lnew (t':=s.toks) (r.append r2) (by rw[List.length_append];omega),rfl,q _ I.fresh⟩
end
section
variable {prog:Program} {w:World} {A:Around} {E:Value->Shared->Prop} {s:Shared}
set_option maxRecDepth 100000 in
end
section
variable {X:Cx}
end
end L2
namespace Att
open PySem PySem.W PySem.Calls PyProof.Rows
theorem qU{P:Params}{h:Heap}:∀(ns:List Int)(vs:List Value),WellAll P h vs (ns.map WData.int)->IntsAre vs ns:=by
 intro ns
 induction ns with
 |nil=>
  intro vs w
  rw[List.map_nil]at w
  cases w
  exact .nil
 |cons n ns ih=>
  intro vs w
  rw[List.map_cons]at w
  cases w with
  |cons a b=>
   cases a
   exact .cons _ _ (ih _ b)
theorem Ey{l:OpenLaw}{n:Nat}(hn:l.most=some n){P:Params}{h:Heap}{args:List WData}{vals:List Value}
  (hpre:l.row.toRowW.claim.pre args=true)(hwl:WellAll P h vals args):
  ∃a vs ns,vals=[Value.ref a]/\args=[WData.list (ns.map WData.int)]/\h.get? a=some {cls:= .type "list",data:= .seq vs.toArray}/\IntsAre vs ns/\ns.length<=n:=by
 have hsh:WShape.hasAll [] args [.list .int]=true:=(pre_splitW hpre).1
 have hc:l.pre.holds [] {args:=args}=true:=(pre_splitW hpre).2
 obtain⟨d,r,rfl,h1,h2⟩:=hasAllW_cons hsh
 obtain rfl:=hasAllW_nil h2
 obtain⟨xs,rfl,h3⟩:=hasW_list h1
 obtain⟨ns,rfl⟩:=items_int h3
 have hlen:ns.length<=n:=by
  unfold OpenLaw.pre at hc
  have h4:(WTm.not (.lt (.lit (.int (n:Int))) (.len (.arg 0)))).holds [] {args:=[.list (ns.map .int)]}=true:=by
   have h4:=(holds_andW hc).1
   rw[hn]at h4
   exact h4
  have h5:=condW_of h4 (w_not (w_lt w_lit (w_len_list (w_arg rfl))))
  rw[List.length_map]at h5
  refine Nat.le_of_not_lt fun q=>?_
  have q':(n:Int)<((ns.length:Nat):Int):=by omega
  first
   | (rw[decide_eq_true q']at h5;exact absurd h5 (by decide))
   | (simp at h5;omega)
 cases hwl with
 |cons w1 w2=>
  cases w2
  cases w1 with
  |list ho hall=>exact⟨_,_,ns,rfl,rfl,ho,qU ns _ hall,hlen⟩
theorem Es(l:OpenLaw)(args:List WData):l.row.toRowW.claim.post args (.bool true) args=true:=
 postW_of (r:=l.row.toRowW) (X:=(true==true))
  (show WShape.has [] (.bool true) .bool=true by first|rfl|decide|simp[WShape.has,WShape.arms,WShape.armsAll])
  (show(WTm.eq .res (.lit (.bool true))).value [] {args:=args,res:=some (.bool true),after:=args}=some (.bool (true==true))from w_eq_bool (w_res rfl) w_lit) rfl
theorem attach_call{l:OpenLaw}{n:Nat}{q:Program}{loose:List Str}{XP:(Str->Option Value)->Heap->Prop}{YP:World->Heap->Prop}{d:DefRec}
  (hn:l.most=some n)(hdf:d.params.defaults=[])
  (call:∀(w:World)(s₀ s₁:Shared)(mg mb:Str->Option Value)(fa:Addr)(o:Obj)(pm cd doc:Value)(a:Addr)(vs:List Value)(ns:List Int),
   Ground q loose [] XP w s₀ mg mb s₁.heap->YP w s₁.heap->
   s₁.heap.get? fa=some o->o.data= .func (docDef d.name d.params d.body d.scope pm cd doc)->s₁.heap.CodeRec cd d.name->mg d.name=some (.ref fa)->
   s₁.heap.get? a=some {cls:= .type "list",data:= .seq vs.toArray}->IntsAre vs ns->ns.length<=n->s₁.gens= #[]->
   codeAny (model l.prog w) callerA (.call (.ref fa) ⟨[.ref a],[]⟩) (fun r s'=>r= .ok (.ret (.bool true))/\OldK s₁.heap s'.heap/\s'.os=s₁.os/\AllBare s'.gens) s₁):
  WalkO q loose XP YP l.row.toRowW d [] (fun f vs=>PySem.call f vs):=by
 intro w s₀ s₁ mg mb G Y fa o pm cd doc dV kV ho hd hcd hD hmg hg args vals as hpre hlay hrd hwl hlo
 obtain rfl:dV= .none:=Dflts.none hD hdf
 obtain rfl:kV= .none:=Dflts.noKw hD
 obtain⟨a,vs,ns,rfl,rfl,hobj,hints,hlen⟩:=Ey hn hpre hwl
 refine enter_call (codeAny_mono (call w s₀ s₁ mg mb fa o pm cd doc a vs ns G Y ho (fd_plain hd) hcd hmg hobj hints hlen hg) fun r s' hq=>?_)
 obtain⟨rfl,h2,h3,h4⟩:=hq
 exact⟨.inl ⟨.bool true,.bool true,[],rfl,fun _=>rfl,.bool true,Es l _,fun _=>⟨List.Pairwise.nil,fun _ hm=>(nomatch hm)⟩⟩,h2,h3,h4⟩
section
variable {prog:Program} {w:World} {A:Around} {E:Value->Shared->Prop} {s:Shared} {K:Frag}
end
end Att
namespace L2
open PySem PySem.Spec PyProof.Rows
theorem qG:∀{vs:List Value}{ns:List Int},IntsAre vs ns->Vals (ns.map V.int) vs
 |_,_,.nil=> .nil
 |_,_,.cons n t h=> .cons ⟨t,rfl⟩ (qG h)
end L2
namespace L2
open PySem PySem.Spec PyProof.Rows
end L2
namespace L2
open PySem PySem.Spec PyProof.Rows
def inClass(s:Stmt)(j:Nat):Stmt:=match s with
 | .ClassDef _ _ _ body _ _ _ _ _ _ _=>body.getD j (.Pass ⟨0,0,0,0⟩)
 |_=> .Pass ⟨0,0,0,0⟩
def du(s:Stmt):Arguments:=match s with
 | .FunctionDef _ a _ _ _ _ _ _ _ _=>a
 |_=>{posonlyargs:=[],args:=[],vararg:=none,kwonlyargs:=[],kw_defaults:=[],kwarg:=none,defaults:=[]}
def bK(s:Stmt):List Stmt:=match s with
 | .FunctionDef _ _ b _ _ _ _ _ _ _=>b
 |_=>[]
def aJ(s:Stmt):Scope:=match s with
 | .FunctionDef _ _ _ _ _ _ sc _ _ _=>sc
 |_=>{kind:= .function,names:=[],isGenerator:=false,isCoroutine:=false}
abbrev dj:JG:=fun _ _ _ _ _ _=>False
abbrev E0:XK:=fun _ _ _=>False
theorem xO{X:Cx}:lG dj X E0:=fun _ _ _ _ _ _ _ h=>h.elim
structure tZ(K:PySem.W.Frag)(x qual:Str)(st:Stmt)(f:Addr)(fd:FuncData):Prop where
 ex:∃(oc:Value)(od:Option Addr)(kV doc pm:Value)(an:Option Addr)(cdv ct:Value)(osl:Array (Option Value)),
  fd=PySem.W.fnOf x qual (du st) (bK st) (aJ st) .none kV doc pm an cdv ct/\K.lookup f=some ⟨oc,od,.func fd,osl⟩/\PySem.W.codeIn K cdv qual=true
 kp:PySem.W.keepIn K (.ref f)=true
section
variable {P:Program} {w:World} {K:PySem.W.Frag} {mg:Str->Option Value} {base:Heap}
theorem tZ.ok{x qual:Str}{st:Stmt}{f:Addr}{fd:FuncData}{N ps:List Str}{k:Nat}{sp:Sp}(F:tZ K x qual st f fd)(S:aQ N ps (aJ st))(len:∀vs H Q E,sp vs H Q E->vs.length=ps.length)
  (hbody:∀(cdv:Value)(A:Around)(outer:List Env)(s:Shared)(H:Hp)(vs:List V)(Q:VK)(E:XK),aZ k (A.deeper (envOfC qual (aJ st) s.heap.objs.size f cdv))->sp vs H Q E->
   ∃t,lC (ug dj P w K mg base N qual (aJ st) f cdv A outer s H E).nox (bK st) t/\t {nx:=fun _ H'=>Q .non H',rt:=Q} (start N vs) H):bH P w K mg base dj (k+1) f fd ps sp:=by
 obtain⟨oc,od,kV,doc,pm,an,cdv,ct,osl,rfl,lk,hcd⟩:=F.ex
 refine Ny lk hcd S len fun A outer s H vs Q E hr hsp=>?_
 obtain⟨t,h,q⟩:=hbody cdv A outer s H vs Q E hr hsp
 exact⟨t,h.nox,q⟩
theorem tZ.binds{x qual:Str}{st:Stmt}{f:Addr}{fd:FuncData}{ps:List Str}(F:tZ K x qual st f fd)
  (h:∀(kV doc pm:Value)(an:Option Addr)(cdv ct:Value)(us:List Value),us.length=ps.length->bindArgs (PySem.W.fnOf x qual (du st) (bK st) (aJ st) .none kV doc pm an cdv ct) ⟨us,[]⟩=pure (ps.zip us)):Binds K fd ps []:=by
 obtain⟨oc,od,kV,doc,pm,an,cdv,ct,osl,rfl,lk,hcd⟩:=F.ex
 exact .all (h kV doc pm an cdv ct)
theorem sI{x qual:Str}{st:Stmt}{f:Addr}{oc:Value}{od an:Option Addr}{osl:Array (Option Value)}{kV doc pm cdv ct:Value}(l:K.lookup f=some ⟨oc,od,.func (PySem.W.fnOf x qual (du st) (bK st) (aJ st) .none kV doc pm an cdv ct),osl⟩)
  (c:PySem.W.codeIn K cdv qual=true)(k:PySem.W.keepIn K (.ref f)=true):tZ K x qual st f (PySem.W.fnOf x qual (du st) (bK st) (aJ st) .none kV doc pm an cdv ct):=⟨⟨oc,od,kV,doc,pm,an,cdv,ct,osl,rfl,l,c⟩,k⟩
end
theorem iU{A:Around}{k:Nat}(hr:aZ k A):A.units+1<cLine:=Nat.lt_of_le_of_lt (Nat.add_le_add_left (by decide:1<=64) _) hr.units
section
variable {X:Cx}
theorem pv(i:Nat){x:Str}{pos:Pos}(hN:X.N[i]? =some x:=by rfl)(hv:UL X.env.scope x:=by first|exact Or.inl rfl|exact Or.inr (Or.inl rfl)|exact Or.inr (Or.inr rfl))(hd:(x==("__debug__":Str))=false:=by decide)
  (hcd:(x==("__classdict__":Str))=false:=by decide):PE X (.Name x pos) (Us i):=Qv hN hv hd hcd
end
theorem dY{A B:Prop}(h:B):if false=true then A else B:=by
 rw[if_neg Bool.false_ne_true]
 exact h
theorem jk{A B:Prop}(h:A):if true=true then A else B:=by
 rw[if_pos rfl]
 exact h
theorem fH{c A B:Prop}[Decidable c](h1:c->A)(h2:¬c->B):if c then A else B:=by
 by_cases h:c
 .rw[if_pos h]
  exact h1 h
 .rw[if_neg h]
  exact h2 h
theorem jD{c A B:Prop}[Decidable c](hc:c)(h:B):if(!decide c)=true then A else B:=by
 rw[decide_eq_true hc]
 exact dY h
def aF(H H':Hp):Prop:=∀b o,H b=some o->H' b=some o
theorem aF.refl(H:Hp):aF H H:=fun _ _ h=>h
theorem aF.trans{H H1 H2:Hp}(a:aF H H1)(b:aF H1 H2):aF H H2:=fun c o h=>b c o (a c o h)
theorem aF.free{H H':Hp}(e:aF H H'){l:Addr}(h:H' l=Option.none):H l=Option.none:=by
 cases q:H l with
 |none=>rfl
 |some o=>
  rw[e l o q]at h
  cases h
theorem aF.seq{K:PySem.W.Frag}{H H':Hp}{a:Addr}{xs:List V}(e:aF H H')(h:cJ K H a xs):cJ K H' a xs:=by
 rcases h with(h|⟨o,h⟩)|h
 .exact .inl (.inl (e _ _ h))
 .exact .inl (.inr ⟨o,e _ _ h⟩)
 .exact .inr h
end L2
namespace L2
open PySem PySem.Spec PyProof.Rows
def Sm(i:Int):Prop:=i.natAbs.log2<4000
theorem Sm.of_lt{i:Int}(h:i.natAbs<2^4000):Sm i:=by
 unfold Sm
 by_cases h0:i.natAbs=0
 .rw[h0]
  exact Nat.lt_of_le_of_lt (Nat.le_of_eq (by decide:Nat.log2 0=0)) (by decide)
 .exact(Nat.log2_lt h0).mpr h
theorem Sm.lt{i:Int}(h:Sm i):i.natAbs<2^4000:=by
 unfold Sm at h
 by_cases h0:i.natAbs=0
 .rw[h0]
  exact Nat.two_pow_pos _
 .exact(Nat.log2_lt h0).mp h
theorem Sm.of_bits{i:Int}{n:Nat}(h:i.natAbs<2^n)(hn:n<=4000):Sm i:=
 .of_lt (Nat.lt_of_lt_of_le h (Nat.pow_le_pow_right (by decide) hn))
theorem Sm.bits{i:Int}(h:Sm i):Builtin.Int.intBits i<=2^20:=by
 unfold Builtin.Int.intBits
 have:(4000:Nat)<=2^20:=by decide
 have h':i.natAbs.log2<4000:=h
 split<;>omega
section
variable {X:Cx}
def RD(i j:Int):Prop:=Sm i/\Sm j
def RC(_ j:Int):Prop:=0<j/\Sm j
theorem cF:qK X (binaryOp .Mult) (rI RD fun i j=> .int (i*j)):=Tr fun _ _ _ _ _ _ _ hc q=>mul_int q (IntMulOk.of_bits hc.1.bits hc.2.bits)
theorem oZ:qK X (binaryOp .FloorDiv) (rI RC fun i j=> .int (i/j)):=Tr fun i j _ _ _ _ _ hc q=>by
 have e:Int.fdiv i j=i/j:=Int.fdiv_eq_ediv_of_nonneg i (Int.le_of_lt hc.1)
 refine floordiv_int (by have:=hc.1;omega) ?_ (.inl (PyProof.noPylong_of_log2 (Nat.lt_trans hc.2 (by decide))))
 rw[e]
 exact q
inductive UJ(K:PySem.W.Frag)(H:Hp):V->Value->Prop where
 |of {x:V} {t:Value} (h:nQ K H x t):UJ K H x t
 |sqT {a:Addr} {xs:List V} (h:fD K H a xs):UJ K H (.ref a) (.type "tuple")
 |sqL {a:Addr} {xs:List V} (h:cJ K H a xs):UJ K H (.ref a) (.type "list")
def QB(K:PySem.W.Frag):List V->Hp->VK->Prop:=fun xs H Q=>match xs with
 |[x,.ty T]=>∃t b,UJ K H x t/\PySem.W.kitOne K t (.type T)=some b/\Q (.bl b) H
 |_=>False
theorem FW:nu X (.builtin "isinstance") (QB X.K):=by
 intro pins s σ H xs us Q I r h
 unfold QB at h
 split at h
 .rename_i x T
  obtain⟨t,b,ty,e,q⟩:=h
  obtain⟨u,v,rfl,ru,rv⟩:=r.two
  cases (show v=Value.type T from rv)
  have fin:∀tk,EP X pins σ Q (.bool b) {s with toks:=tk}:=fun tk=>⟨.bl b,H,I.tok tk,rfl,q⟩
  cases ty with
  |of h=>exact pZ I ru h e fin
  | @sqT a ys h=>
   cases (show u=Value.ref a from ru)
   obtain⟨its,_,p,_⟩:=I.tuple h
   obtain⟨o,h1,h2,_⟩:=p
   exact PySem.W.kia_one PySem.W.kitx_tuple I.kIn ⟨o,h1,h2⟩ e (fun z=>nomatch z) fin
  | @sqL a ys h=>
   cases (show u=Value.ref a from ru)
   obtain⟨its,_,p,_⟩:=I.list h
   obtain⟨o,n,h1,h2,_⟩:=p
   exact PySem.W.kia_one PySem.W.kitx_list I.kIn ⟨o,h1,h2⟩ e (fun z=>nomatch z) fin
 .exact h.elim
def WF(K:PySem.W.Frag)(T:String)(te:TE):TE:=Wx (QB K) (Ji te (Ji (tC (.ty T)) Ab))
theorem lW{e:Expr}{te:TE}{T:String}{tx:Str}{p p2 pos:Pos}(he:PE X e te)(hg:Gl X "isinstance")(hm:X.mg "isinstance"=none)(hg2:Gl X tx)(hm2:X.mg tx=none)
  (hv:bootBuiltins tx=some (.type T))(hn:tx≠"__name__":=by decide)(hd:(tx==("__debug__":Str))=false:=by decide)
  (h1:starEach [e,.Name tx p2] X.env=(false,eval e X.env)::starEach [.Name tx p2] X.env:=by rfl):
  PE X (.Call (.Name "isinstance" p) [e,.Name tx p2] [] pos) (WF X.K T te):=
 aV (FW (X:=X)) hg hm PyProof.Rows.boot_isinstance (aj he (aj (Ln (v:= .ty T) hg2 hm2 hv rfl hn hd) ak) h1) (he:=h1)
theorem Kl(K:PySem.W.Frag):PySem.W.kitOne K (.type "int") (.type "int")=some true:=rfl
theorem vD(K:PySem.W.Frag):PySem.W.kitOne K (.type "int") (.type "bool")=some false:=by kernel_rfl
theorem kit_tuple(K:PySem.W.Frag):PySem.W.kitOne K (.type "tuple") (.type "tuple")=some true:=rfl
theorem sV(K:PySem.W.Frag):PySem.W.kitOne K (.type "list") (.type "list")=some true:=rfl
end
def BR(_:Hp)(x:V)(i:Int):Prop:=x= .int i
def mC{α β:Type}(K:PySem.W.Frag)(R:Hp->V->α->Prop)(S:Hp->V->β->Prop)(H:Hp)(x:V)(d:α×β):Prop:=∃p y z,x= .ref p/\fD K H p [y,z]/\R H y d.1/\S H z d.2
def NZ{α:Type}(K:PySem.W.Frag)(R:Hp->V->α->Prop)(H:Hp)(x:V)(ds:List α):Prop:=∃p ys,x= .ref p/\cJ K H p ys/\Paired (R H) ys ds
structure wM{α:Type}[DecidableEq α](K:PySem.W.Frag)(R:Hp->V->α->Prop)(d:Nat):Prop where
 inj:∀{X:Cx}{pins:List (Addr×Obj)}{σ:St}{H:Hp}{s:Shared}{x:V}{a b:α},X.K=K->Inv X pins σ H s->R H x a->R H x b->a=b
 eq:∀{X:Cx}{pins:List (Addr×Obj)}{σ:St}{H:Hp}{s:Shared}{A:Around}{x y:V}{u v:Value}{a b:α},X.K=K->Inv X pins σ H s->A.units+d<cLine->R H x a->R H y b->RelV x u->RelV y v->SeqAt.EqAt A s u v (decide (a=b))
theorem Paired.get{α β:Type}{F:α->β->Prop}:∀{xs:List α}{ys:List β},Paired F xs ys->∀(i:Nat)(x:α)(y:β),xs[i]? =some x->ys[i]? =some y->F x y
 |_,_,.nil,i,x,y,h,_=>by simp at h
 |_,_,.cons r _,0,x,y,h1,h2=>by
  simp at h1 h2
  subst h1 h2
  exact r
 |_,_,.cons _ t,i+1,x,y,h1,h2=>Paired.get t i x y (by simpa using h1) (by simpa using h2)
theorem cM{K:PySem.W.Frag}:wM K BR 0 where
 inj:=fun _ _ h1 h2=>by
  have h:V.int _=V.int _:=h1.symm.trans h2
  exact V.int.inj h
 eq:=fun{X pins σ H s A x y u v a b}_ _ _ h1 h2 r1 r2=>by
  cases (show x= .int a from h1)
  cases (show y= .int b from h2)
  obtain⟨t,rfl⟩:=(show ∃t,u=Value.int a t from r1)
  obtain⟨t',rfl⟩:=(show ∃t,v=Value.int b t from r2)
  have e:(a==b)=decide (a=b):=Bool.beq_eq_decide_eq a b
  rw[<-e]
  exact SeqAt.EqAt.int_int a t b t'
section
variable {α β:Type} [DecidableEq α] [DecidableEq β] {K:PySem.W.Frag} {R:Hp->V->α->Prop} {S:Hp->V->β->Prop} {d:Nat} {X:Cx} {pins:List (Addr×Obj)} {σ:St} {H:Hp} {s:Shared} {A:Around}
theorem in1_units(A:Around):A.in1.units=A.units+1:=rfl
theorem pair_items(hR:wM K R d)(hS:wM K S d)(hK:X.K=K)(I:Inv X pins σ H s)(hu:A.units+(d+1)<cLine){y z y' z':V}{its its':List Value}{c c':α×β}(r:Vals [y,z] its)(r':Vals [y',z'] its')
  (h1:R H y c.1)(h2:S H z c.2)(h1':R H y' c'.1)(h2':S H z' c'.2):
  ∃e:Nat->Bool,(∀j(q1:j<its.toArray.size)(q2:j<its'.toArray.size),SeqAt.EqAt A.in1 s its.toArray[j] its'.toArray[j] (e j))/\((List.range (min its.toArray.size its'.toArray.size)).all e&&its.toArray.size==its'.toArray.size)=decide (c=c'):=by
 obtain⟨u1,u2,rfl,q1,q2⟩:=r.two
 obtain⟨u1',u2',rfl,q1',q2'⟩:=r'.two
 have hu':A.in1.units+d<cLine:=by rw[in1_units];omega
 have e1:=hR.eq (A:=A.in1) hK I hu' h1 h1' q1 q1'
 have e2:=hS.eq (A:=A.in1) hK I hu' h2 h2' q2 q2'
 refine⟨fun j=>match j with|0=>decide (c.1=c'.1)|_=>decide (c.2=c'.2),fun j z1 z2=>?_,?_⟩
 .match j,z1,z2 with
  |0,_,_=>exact e1
  |1,_,_=>exact e2
 .obtain⟨a,b⟩:=c
  obtain⟨a',b'⟩:=c'
  show(((List.range 2).all _)&&true)=_
  rw[show List.range 2=[0,1]from rfl,Bool.and_true]
  simp only[List.all_cons,List.all_nil,Bool.and_true,Prod.mk.injEq]
  exact(Bool.decide_and _ _).symm
theorem tG(hR:wM K R d)(hS:wM K S d):wM K (mC K R S) (d+1) where
 inj:=fun{X pins σ H s x c c'}hK I h h'=>by
  obtain⟨p,y,z,rfl,q,h1,h2⟩:=h
  obtain⟨p',y',z',e,q',h1',h2'⟩:=h'
  cases e
  subst hK
  have e:=I.tuple_inj q q'
  injection e with e1 e2
  injection e2 with e2 _
  subst e1 e2
  exact Prod.ext (hR.inj rfl I h1 h1') (hS.inj rfl I h2 h2')
 eq:=fun{X pins σ H s A x y u v c c'}hK I hu h h' r r'=>by
  obtain⟨p,y,z,rfl,q,h1,h2⟩:=h
  obtain⟨p',y',z',rfl,q',h1',h2'⟩:=h'
  cases (show u=Value.ref p from r)
  cases (show v=Value.ref p' from r')
  by_cases hp:p=p'
  .subst hp
   subst hK
   have e:=I.tuple_inj q q'
   injection e with e1 e2
   injection e2 with e2 _
   subst e1 e2
   have e:c=c':=Prod.ext (hR.inj rfl I h1 h1') (hS.inj rfl I h2 h2')
   rw[decide_eq_true e]
   exact SeqAt.EqAt.same _
  .have q0:fD X.K H p [y,z]:=hK▸q
   have q0':fD X.K H p' [y',z']:=hK▸q'
   obtain⟨its,rr,pt,_⟩:=I.tuple q0
   obtain⟨its',rr',pt',_⟩:=I.tuple q0'
   obtain⟨e,he,ee⟩:=pair_items hR hS hK I hu rr rr' h1 h2 h1' h2'
   rw[<-ee]
   exact SeqAt.EqAt.of_refs hp (SeqAt.RcAt.tuples pt pt' (by omega) he)
theorem DX(hR:wM K R d)(hK:X.K=K)(I:Inv X pins σ H s)(hu:A.units+(d+1)<cLine){ys ys':List V}{its its':List Value}{ds ds':List α}(r:Vals ys its)(r':Vals ys' its')
  (h:Paired (R H) ys ds)(h':Paired (R H) ys' ds'):
  ∀j(q1:j<its.toArray.size)(q2:j<its'.toArray.size),SeqAt.EqAt A.in1 s its.toArray[j] its'.toArray[j] (decide (ds[j]? =ds'[j]?)):=by
 intro j q1 q2
 rw[List.size_toArray]at q1 q2
 have hu':A.in1.units+d<cLine:=by rw[in1_units];omega
 have l1:=r.length
 have l2:=h.length
 have l1':=r'.length
 have l2':=h'.length
 have g1:ys[j]? =some (ys[j]'(by omega)):=List.getElem?_eq_getElem _
 have g2:ds[j]? =some (ds[j]'(by omega)):=List.getElem?_eq_getElem _
 have g1':ys'[j]? =some (ys'[j]'(by omega)):=List.getElem?_eq_getElem _
 have g2':ds'[j]? =some (ds'[j]'(by omega)):=List.getElem?_eq_getElem _
 obtain⟨u,gu,ru⟩:=r.get g1
 obtain⟨u',gu',ru'⟩:=r'.get g1'
 have a1:=Paired.get h j _ _ g1 g2
 have a1':=Paired.get h' j _ _ g1' g2'
 have eu:its.toArray[j]=u:=by
  rw[List.getElem_toArray]
  exact Option.some.inj ((List.getElem?_eq_getElem q1).symm.trans gu)
 have eu':its'.toArray[j]=u':=by
  rw[List.getElem_toArray]
  exact Option.some.inj ((List.getElem?_eq_getElem q2).symm.trans gu')
 rw[eu,eu',g2,g2']
 have e:=hR.eq (A:=A.in1) hK I hu' a1 a1' ru ru'
 have ed:decide (some (ds[j]'(by omega))=some (ds'[j]'(by omega)))=decide ((ds[j]'(by omega))=(ds'[j]'(by omega))):=by
  simp only[Option.some.injEq]
 rw[ed]
 exact e
theorem Fz{ds ds':List α}(hl:ds.length=ds'.length):(List.range ds.length).all (fun j=>decide (ds[j]? =ds'[j]?))=decide (ds=ds'):=by
 by_cases h:ds=ds'
 .subst h
  simp
 .rw[decide_eq_false h]
  cases e:(List.range ds.length).all (fun j=>decide (ds[j]? =ds'[j]?))with
  |false=>rfl
  |true=>
   exfalso
   refine h (List.ext_getElem? fun j=>?_)
   by_cases hj:j<ds.length
   .exact of_decide_eq_true (List.all_eq_true.mp e j (List.mem_range.mpr hj))
   .rw[List.getElem?_eq_none (by omega),List.getElem?_eq_none (by omega)]
theorem QD(hR:wM K R d)(hK:X.K=K)(I:Inv X pins σ H s)(hu:A.units+(d+1)<cLine){p p':Addr}{ys ys':List V}{ds ds':List α}(q:cJ K H p ys)(q':cJ K H p' ys')
  (h:Paired (R H) ys ds)(h':Paired (R H) ys' ds'):SeqAt.RcAt A s (.ref p) (.ref p') (decide (ds=ds'))/\SeqAt.RcNeAt A s (.ref p) (.ref p') (!decide (ds=ds')):=by
 have q0:cJ X.K H p ys:=hK▸q
 have q0':cJ X.K H p' ys':=hK▸q'
 obtain⟨its,rr,pt,_⟩:=I.list q0
 obtain⟨its',rr',pt',_⟩:=I.list q0'
 have l1:=rr.length
 have l2:=h.length
 have l1':=rr'.length
 have l2':=h'.length
 by_cases hl:ds.length=ds'.length
 .have hs:its.toArray.size=its'.toArray.size:=by simp only[List.size_toArray];omega
  have en:its.toArray.size=ds.length:=by simp only[List.size_toArray];omega
  have it:=DX hR hK I hu rr rr' h h'
  have ea:=Fz hl
  refine⟨?_,?_⟩
  .rw[<-ea,<-en]
   exact SeqAt.RcAt.lists pt.isList pt'.isList hs (by omega) it
  .rw[<-ea,<-en]
   exact SeqAt.RcNeAt.lists pt.isList pt'.isList hs (by omega) it
 .have hne:ds≠ds':=fun e=>hl (by rw[e])
  have hs:(its.toArray.size != its'.toArray.size)=true:=by
   simp only[List.size_toArray]
   exact bne_iff_ne.mpr (by omega)
  rw[decide_eq_false hne]
  exact⟨SeqAt.RcAt.lists_lengths pt.isList pt'.isList hs (by omega),SeqAt.RcNeAt.lists_lengths pt.isList pt'.isList hs (by omega)⟩
end
def Wg{α β:Type}[DecidableEq α][DecidableEq β](K:PySem.W.Frag)(R:Hp->V->α->Prop)(S:Hp->V->β->Prop):R2:=fun x y H Q=>∃a b,mC K R S H x a/\mC K R S H y b/\Q (.bl (decide (a=b))) H
def Wn{α β:Type}[DecidableEq α][DecidableEq β](K:PySem.W.Frag)(R:Hp->V->α->Prop)(S:Hp->V->β->Prop):R2:=fun x y H Q=>∃a b,mC K R S H x a/\mC K R S H y b/\Q (.bl (!decide (a=b))) H
def Wm{α:Type}[DecidableEq α](K:PySem.W.Frag)(R:Hp->V->α->Prop):R2:=fun x y H Q=>∃a b,NZ K R H x a/\NZ K R H y b/\Q (.bl (!decide (a=b))) H
section
variable {α β:Type} [DecidableEq α] [DecidableEq β] {R:Hp->V->α->Prop} {S:Hp->V->β->Prop} {d:Nat} {X:Cx}
theorem vK(hR:wM X.K R d)(hS:wM X.K S d)(hu:X.A.units+(d+1)<cLine):qK X (compareOp .Eq) (Wg X.K R S):=by
 intro pins s σ H x y v u Q I rx ry h
 obtain⟨c,c',⟨p,y1,z1,rfl,q,h1,h2⟩,⟨p',y2,z2,rfl,q',h1',h2'⟩,k⟩:=h
 cases (show v=Value.ref p from rx)
 cases (show u=Value.ref p' from ry)
 obtain⟨its,rr,pt,_⟩:=I.tuple q
 obtain⟨its',rr',pt',_⟩:=I.tuple q'
 obtain⟨e,he,ee⟩:=pair_items hR hS rfl I hu rr rr' h1 h2 h1' h2'
 refine SeqAt.eq_tupleAt pt pt' (by omega) he ⟨.bl _,H,I,rfl,?_⟩
 rw[ee]
 exact k
theorem vL(hR:wM X.K R d)(hS:wM X.K S d)(hu:X.A.units+(d+1)<cLine):qK X (compareOp .NotEq) (Wn X.K R S):=by
 intro pins s σ H x y v u Q I rx ry h
 obtain⟨c,c',⟨p,y1,z1,rfl,q,h1,h2⟩,⟨p',y2,z2,rfl,q',h1',h2'⟩,k⟩:=h
 cases (show v=Value.ref p from rx)
 cases (show u=Value.ref p' from ry)
 obtain⟨its,rr,pt,_⟩:=I.tuple q
 obtain⟨its',rr',pt',_⟩:=I.tuple q'
 obtain⟨e,he,ee⟩:=pair_items hR hS rfl I hu rr rr' h1 h2 h1' h2'
 refine SeqAt.RcNeAt.tuples pt pt' (by omega) he X.prog X.w X.xe _ ⟨.bl _,H,I,rfl,?_⟩
 rw[ee]
 exact k
theorem Qp(hR:wM X.K R d)(hu:X.A.units+(d+1)<cLine):qK X (compareOp .NotEq) (Wm X.K R):=by
 intro pins s σ H x y v u Q I rx ry h
 obtain⟨c,c',⟨p,y1,rfl,q,h1⟩,⟨p',y2,rfl,q',h1'⟩,k⟩:=h
 cases (show v=Value.ref p from rx)
 cases (show u=Value.ref p' from ry)
 exact(QD hR rfl I hu q q' h1 h1').2 X.prog X.w X.xe _ ⟨.bl _,H,I,rfl,k⟩
theorem any_range(bs:List Bool):(List.range bs.length).any (fun i=>bs.getD i false)=bs.any id:=by
 rw[Bool.eq_iff_iff,List.any_eq_true,List.any_eq_true]
 constructor
 .rintro ⟨i,hi,e⟩
  have hi:=List.mem_range.mp hi
  rw[List.getD_eq_getElem?_getD,List.getElem?_eq_getElem hi]at e
  exact⟨bs[i],List.getElem_mem hi,e⟩
 .rintro ⟨b,hb,e⟩
  obtain⟨i,hi,rfl⟩:=List.mem_iff_getElem.mp hb
  refine⟨i,List.mem_range.mpr hi,?_⟩
  rw[List.getD_eq_getElem?_getD,List.getElem?_eq_getElem hi]
  exact e
theorem wU(hc:X.calm=true):nu X (.builtin "any") (fun xs H Q=>∃(p:Addr)(bs:List Bool),xs=[.ref p]/\cJ X.K H p (bs.map V.bl)/\Q (.bl (bs.any id)) H):=by
 intro pins s σ H xs us Q I r h
 obtain⟨p,bs,rfl,hq,q⟩:=h
 obtain⟨u,rfl,rx⟩:=r.one
 cases (show u=Value.ref p from rx)
 obtain⟨its,rv,pl,hz⟩:=I.list hq
 have hl:=rv.length
 rw[List.length_map]at hl
 refine call_any_walk (wpAny_pyIter_list pl.isList ?_)
 have hp:p≠s.heap.objs.size:=fun e=>by
  obtain⟨o,n,e1,_⟩:=pl
  exact absurd (Heap.lt_size e1) (by rw[e];exact Nat.lt_irrefl _)
 have old:∀b o,s.heap.get? b=some o->(s.heap.push {cls:= .type "list_iterator",data:= .fields #[.ref p,.int 0 0]}).get? b=some o:=fun b o e=>Heap.get?_push_of_some _ e
 refine⟨s.heap.objs.size,[s.heap.objs.size,p],[s.heap.objs.size],its.toArray.size,_,_,fun i=>bs.getD i false,rfl,
  Walks.list (A:=X.A.in1) (I.ok.hd hc) s.heap.objs.size p hp its.toArray,⟨⟨_,Heap.get?_push_size _ rfl,rfl,rfl⟩,pl.isList.at fun o e=>old p o e⟩,?_,fun h' tk hk=>?_⟩
 .intro i v s2 Q2 E2 hv hq2
  have hv':its[i]? =some v:=by simpa using hv
  have hi:i<its.length:=(List.getElem?_eq_some_iff.mp hv').1
  have g:(bs.map V.bl)[i]? =some (V.bl (bs.getD i false)):=by
   have hb:i<bs.length:=by omega
   rw[List.getElem?_map,List.getD_eq_getElem?_getD,List.getElem?_eq_getElem hb]
   rfl
  obtain⟨u,gu,ru⟩:=rv.get g
  rw[hv']at gu
  cases gu
  cases (show v=Value.bool _ from ru)
  exact wpAny_truthy_bool hq2
 .have en:(List.range its.toArray.size).any (fun i=>bs.getD i false)=bs.any id:=by
   rw[List.size_toArray,<-hl]
   exact any_range bs
  rw[en]
  refine⟨.bl _,H,I.kept (h':=h') (t':=tk) (fun b o e=>hk b o (fun z=>?_) (old b o e)),rfl,q⟩
  have z':b=s.heap.objs.size:=by simpa using z
  exact absurd (Heap.lt_size e) (by rw[z'];exact Nat.lt_irrefl _)
end
end L2
namespace L2
open PySem PySem.Spec PyProof.Rows
section
variable {prog:Program} {w:World} {A:Around} {R:Result->Shared->Prop} {s:Shared}
theorem vg{elt target iter:Expr}{ifs:List Expr}{scope:Scope}{pos:Pos}{it acc:Value}{env:Env}(I:Nat->Shared->Prop)
  (turn:∀n s,I n s->wpAny (model prog w) A (pyNext it) (fun r s₁=>match r with
   |none=>R (.ok .next) s₁
   |some v=>wpAny (model prog w) A (letOwnedTupleGo target it v) (fun _ s₁'=>wpAny (model prog w) A (assign target env v) (fun _ s₂=>
     wpAny (model prog w) A (forIn ifs true fun c r=>if r=true then do let ok<-isTrue c env (eval c env);pure (ForInStep.yield ok)else pure (ForInStep.yield r)) (fun ok s₃=>
      if ok=true then wpAny (model prog w) A (eval elt env) (fun x s₄=>
       wpAny (model prog w) A (call (.builtin "list.append") [acc,x]) (fun _ s₅=>∃m,m<n/\I m s₅) (fun _ _=>False) s₄) (fun _ _=>False) s₃
      else ∃m,m<n/\I m s₃) (fun _ _=>False) s₂) (fun _ _=>False) s₁') (fun _ _=>False) s₁) (fun _ _=>False) s)
  (n:Nat)(h:I n s):
  codeAny (model prog w) A (.compLoop (.ListComp elt [⟨target,iter,ifs,0⟩] scope pos) 0 it acc env) R s:=by
 refine codeAny_loop rfl I (fun n s hI=>?_) n h
 show wpAny _ A ((compTurn (.ListComp elt [⟨target,iter,ifs,0⟩] scope pos) 0 it acc env).onRaise (fun x=>do noteFrame x env;theTreesLotGoes x)) _ _ s
 refine wpAny_noted ?_
 rw[compTurn_list]
 refine wpAny_bind (wpAny_standAt (wpAny_bind (wpAny_mono (turn n s hI) (fun r s₁ h₁=>?_) fun _ _ h'=>h'.elim)))
 cases r with
 |none=>exact wpAny_pure h₁
 |some v=>
  refine wpAny_bind (wpAny_mono h₁ (fun _ s₁' h₁'=>?_) fun _ _ h'=>h'.elim)
  refine wpAny_bind (wpAny_mono h₁' (fun _ s₂ h₂=>wpAny_bind (wpAny_mono h₂ (fun ok s₃ h₃=>?_) fun _ _ h'=>h'.elim)) fun _ _ h'=>h'.elim)
  cases ok with
  |false=>exact wpAny_pure ⟨rfl,h₃⟩
  |true=>
   exact wpAny_bind (wpAny_bind (wpAny_mono h₃ (fun x s₄ h₄=>wpAny_bind (wpAny_mono h₄ (fun _ s₅ h₅=>wpAny_pure (wpAny_pure ⟨rfl,h₅⟩)) fun _ _ h'=>h'.elim)) fun _ _ h'=>h'.elim))
end
structure CS where
 s:Shared
 H:Hp
 fp:List Addr
def dq(X:Cx)(N:List Str)(sc:Scope)(cl:List (Str×Addr))(s:Shared)(H:Hp)(fp:List Addr):Cx where
 prog:=X.prog
 w:=X.w
 K:=X.K
 mg:=X.mg
 base:=X.base
 A:=X.A
 N:=N
 s₀:=s
 H₀:=H
 env:=compEnvC sc cl s.heap.objs.size X.env
 outer:=X.stack
 stack:=X.stack
 ex:=fp
 fn:=fun _=>false
 calm:=X.calm
 pn:=[]
 xe:=fun _ _=>False
def jM(X:Cx)(sc:Scope):List Str->List Nat->Prop
 |[],[]=>True
 |x::F,j::js=>(X.N[j]? =some x/\sc.names.lookup x=some .free/\(X.env.scope.names.lookup x=some .cell\/X.env.scope.names.lookup x=some .free))/\jM X sc F js
 |_,_=>False
def CJ(X:Cx):List (Str×Addr)->Prop
 |[]=>True
 |p::r=>X.env.cells.lookup p.1=some p.2/\CJ X r
structure cD(X:Cx)(sc:Scope)(cl:List (Str×Addr))(F:List Str)(js:List Nat):Prop where
 kind:sc.kind= .function
 cell:∀y∈sc.names,y.2≠ .cell
 names:∀y∈sc.names,y.2= .local->sc.names.lookup y.1=some .local
 clos:closureFor sc X.env=pure cl
 cls:CJ X cl
 has:∀y∈sc.names,y.2= .free->∃c,cl.lookup y.1=some c
 free:jM X sc F js
theorem jM.len{X:Cx}{sc:Scope}:∀{F:List Str}{js:List Nat},jM X sc F js->F.length=js.length
 |[],[],_=>rfl
 |_::_,_::_,h=>congrArg (· +1) (jM.len h.2)
 |[],_::_,h=>h.elim
 |_::_,[],h=>h.elim
theorem jM.get{X:Cx}{sc:Scope}:∀{F:List Str}{js:List Nat}{k:Nat}{x:Str},jM X sc F js->F[k]? =some x->
  ∃j,js[k]? =some j/\X.N[j]? =some x/\sc.names.lookup x=some .free/\(X.env.scope.names.lookup x=some .cell\/X.env.scope.names.lookup x=some .free)
 |[],[],k,x,_,h=>by simp at h
 |y::F,j::js,0,x,h,e=>by
  simp at e
  subst e
  exact⟨j,rfl,h.1⟩
 |y::F,j::js,k+1,x,h,e=>by
  obtain⟨j',e1,e2⟩:=jM.get (k:=k) h.2 (by simpa using e)
  exact⟨j',by simpa using e1,e2⟩
 |[],_::_,_,_,h,_=>h.elim
 |_::_,[],_,_,h,_=>h.elim
theorem CJ.get{X:Cx}:∀{cl:List (Str×Addr)}{x:Str}{c:Addr},CJ X cl->cl.lookup x=some c->X.env.cells.lookup x=some c
 |[],_,_,_,e=>by simp at e
 | (n,a)::r,x,c,h,e=>by
  rw[List.lookup_cons]at e
  cases hx:x==n with
  |true=>
   rw[hx]at e
   have e1:x=n:=beq_iff_eq.mp hx
   have e2:a=c:=Option.some.inj e
   subst e1 e2
   exact h.1
  |false=>
   rw[hx]at e
   exact CJ.get h.2 e
theorem lM{env:Env}:∀{names:List (Str×NameKind)}{x:Str}{k:NameKind},
  (names.map fun(n,k)=>if(k==NameKind.free&&env.scope.kind== .function&&env.kindOf n==some .cell)then(n,NameKind.cell)else(n,k)).lookup x=some k->
  names.lookup x=some k\/(names.lookup x=some .free/\k= .cell)
 |[],_,_,h=>by simp at h
 | (n,k0)::r,x,k,h=>by
  have ih:= @lM env r x k
  have h':List.lookup x ((if(k0==NameKind.free&&env.scope.kind== .function&&env.kindOf n==some .cell)=true then(n,NameKind.cell)else(n,k0))::(r.map fun(n,k)=>if(k==NameKind.free&&env.scope.kind== .function&&env.kindOf n==some .cell)then(n,NameKind.cell)else(n,k)))=some k:=h
  by_cases hc:(k0==NameKind.free&&env.scope.kind== .function&&env.kindOf n==some .cell)=true
  .rw[if_pos hc,List.lookup_cons]at h'
   rw[List.lookup_cons]
   cases hx:x==n with
   |true=>
    rw[hx]at h'
    have e:NameKind.cell=k:=Option.some.inj h'
    have hf:(k0==NameKind.free)=true:=by
     rw[Bool.and_eq_true,Bool.and_eq_true]at hc
     exact hc.1.1
    have hf':k0=NameKind.free:=by simpa using hf
    exact .inr ⟨by rw[hf'],e.symm⟩
   |false=>
    rw[hx]at h'
    exact ih h'
  .rw[if_neg hc,List.lookup_cons]at h'
   rw[List.lookup_cons]
   cases hx:x==n with
   |true=>
    rw[hx]at h'
    exact .inl h'
   |false=>
    rw[hx]at h'
    exact ih h'
theorem gP{env:Env}:∀{names:List (Str×NameKind)}{x:Str},names.lookup x=some .free->
  (names.map fun(n,k)=>if(k==NameKind.free&&env.scope.kind== .function&&env.kindOf n==some .cell)then(n,NameKind.cell)else(n,k)).lookup x=some .cell\/
  (names.map fun(n,k)=>if(k==NameKind.free&&env.scope.kind== .function&&env.kindOf n==some .cell)then(n,NameKind.cell)else(n,k)).lookup x=some .free
 |[],_,h=>by simp at h
 | (n,k0)::r,x,h=>by
  have ih:= @gP env r x
  show List.lookup x ((if(k0==NameKind.free&&env.scope.kind== .function&&env.kindOf n==some .cell)=true then(n,NameKind.cell)else(n,k0))::(r.map fun(n,k)=>if(k==NameKind.free&&env.scope.kind== .function&&env.kindOf n==some .cell)then(n,NameKind.cell)else(n,k)))=some .cell\/
   List.lookup x ((if(k0==NameKind.free&&env.scope.kind== .function&&env.kindOf n==some .cell)=true then(n,NameKind.cell)else(n,k0))::(r.map fun(n,k)=>if(k==NameKind.free&&env.scope.kind== .function&&env.kindOf n==some .cell)then(n,NameKind.cell)else(n,k)))=some .free
  rw[List.lookup_cons]at h
  by_cases hc:(k0==NameKind.free&&env.scope.kind== .function&&env.kindOf n==some .cell)=true
  .rw[if_pos hc,List.lookup_cons]
   cases hx:x==n with
   |true=>exact .inl rfl
   |false=>
    rw[hx]at h
    exact ih h
  .rw[if_neg hc,List.lookup_cons]
   cases hx:x==n with
   |true=>
    rw[hx]at h
    exact .inr h
   |false=>
    rw[hx]at h
    exact ih h
section
variable {X:Cx} {pins:List (Addr×Obj)} {σ:St} {H:Hp} {s:Shared} {sc:Scope} {cl:List (Str×Addr)} {T F:List Str} {js:List Nat} {fp:List Addr}
theorem cD.hasC(C:cD X sc cl F js){x:Str}(h:(relabel sc X.env).names.lookup x=some .cell\/(relabel sc X.env).names.lookup x=some .free):∃c,cl.lookup x=some c:=by
 have key:∀k,(relabel sc X.env).names.lookup x=some k->(k= .cell\/k= .free)->∃c,cl.lookup x=some c:=fun k e hk=>by
  rcases lM e with e|⟨e,_⟩
  .have m:=PySem.mem_of_lookup e
   rcases hk with rfl|rfl
   .exact absurd rfl (C.cell _ m)
   .exact C.has _ m rfl
  .exact C.has _ (PySem.mem_of_lookup e) rfl
 rcases h with h|h
 .exact key _ h (.inl rfl)
 .exact key _ h (.inr rfl)
theorem vo(C:cD X sc cl F js)(I:Inv X pins σ H s)(f:∀b∈fp,oF X pins H b)(fl:∀b∈fp,b<s.heap.objs.size)(N:List Str):(dq X N sc cl s H fp).Ok where
 mod:=I.ok.mod
 kind:=C.kind
 glob:=I.ok.glob
 blt:=I.ok.blt
 above:=Nat.le_refl _
 inj:=fun x y c h1 h2=>I.ok.inj x y c (C.cls.get h1) (C.cls.get h2)
 has:=fun x h=>C.hasC h
 cab:=fun x c h _=>absurd (show false=true from h) Bool.false_ne_true
 hd:=I.ok.hd
 frames:=I.ok.frames
 stk:= .inl rfl
 exf:=fun b hb=>⟨Nat.ne_of_lt (fl b hb),fun x c e=>(f b hb).2.2.2.2.1 x c (C.cls.get e)⟩
 bs:=I.bs
 bsz:=Nat.le_trans I.ok.bsz I.sz
 noex:=fun b o e hb=>by
  rcases(f b hb).2.2.2.1 with z|z
  .exact I.ok.noex b o e z
  .exact absurd (Nat.lt_of_lt_of_le (Heap.lt_size (I.ok.bs b o e).1) z) (Nat.lt_irrefl _)
 exfs:=fun b hb hz=>by
  rcases List.mem_cons.mp (I.stkSub b hz)with e|hz
  .exact(f b hb).2.1 e
  .exact(f b hb).2.2.1 hz
 funs:=I.stack
 frf:=I.stkFree
def nU(n:Nat)(js:List Nat)(σ:St):St:=List.replicate n none++js.map fun j=>(σ[j]?).join
theorem GD(C:cD X sc cl F js)(I:Inv X pins σ H s)(f:∀b∈fp,oF X pins H b)(fl:∀b∈fp,b<s.heap.objs.size){h':Heap}{tk:Nat}{m:Str->Option Value}(hn:h'.Ns s.heap.objs.size m)
  (old:∀b o,s.heap.get? b=some o->h'.get? b=some o):Inv (dq X (T++F) sc cl s H fp) [] (nU T.length js σ) H {s with heap:=h',toks:=tk}:=by
 have el:=C.free.len
 refine⟨vo C I f fl _,rfl,I.bare,Un.kept old,⟨m,hn,fun i x v e1 e2 e3=>?_⟩,fun x c e=>?_,I.hok.fresh (Nat.le_refl _),fun x c e=>I.freeC x c (C.cls.get e),fun p hp=>absurd (show p∈([]:List (Addr×Obj))from hp) (by simp),I.hok.kept old,?_⟩
 .have e1':(T++F)[i]? =some x:=e1
  have hi:T.length<=i:=by
   rcases Nat.lt_or_ge i T.length with hi|hi
   .unfold nU at e2
    rw[List.getElem?_append_left (by simpa using hi),List.getElem?_replicate,if_pos hi]at e2
    cases e2
   .exact hi
  rw[List.getElem?_append_right hi]at e1'
  obtain⟨j,ej,eN,ef,ek⟩:=C.free.get e1'
  unfold nU at e2
  rw[List.getElem?_append_right (by simpa using hi),List.length_replicate,List.getElem?_map,ej]at e2
  have e2':(σ[j]?).join=some v:=Option.some.inj e2
  have e2'':σ[j]? =some (some v):=by
   cases q:σ[j]? with
   |none=>rw[q]at e2';cases e2'
   |some o=>rw[q]at e2';exact congrArg some e2'
  obtain⟨m3,hn3,hl3⟩:=I.loc
  obtain⟨u,r,l⟩:=hl3 j x v eN e2'' (by rcases ek with k|k;exact .inr (.inl k);exact .inr (.inr k))
  refine⟨u,r,?_⟩
  rcases l with⟨k,_⟩|⟨k,c,e,z⟩
  .have k':X.env.scope.names.lookup x=some .local:=k
   rcases ek with q|q<;>rw[q]at k'<;>cases k'
  .have hk:=gP (env:=X.env) ef
   obtain⟨c',hc'⟩:=C.hasC (x:=x) hk
   have:=C.cls.get hc'
   rw[e]at this
   cases this
   obtain⟨o,ho,hd⟩:=z
   exact .inr ⟨hk,c,hc',o,old _ _ ho,hd⟩
 .obtain⟨v,o,ho,hd⟩:=I.cell x c (C.cls.get e)
  exact⟨v,o,old _ _ ho,hd⟩
 .unfold nU
  show _=(T++F).length
  rw[List.length_append,List.length_append,List.length_replicate,List.length_map]
  omega
theorem comp_back(I:Inv X pins σ H s)(f:∀b∈fp,oF X pins H b){N:List Str}{σ':St}{H':Hp}{s1:Shared}(J:Inv (dq X N sc cl s H fp) [] σ' H' s1):Inv X pins σ H' s1:=
 I.call' (s':=s1) (ch:=fp) J.os J.base J.hok J.bare fun b hb=>⟨(f b hb).2.2.2.1,(f b hb).2.1,(f b hb).2.2.2.2.1,(f b hb).2.2.2.2.2⟩
structure CV(X:Cx)(pins:List (Addr×Obj))(H:Hp)(C:Addr):Prop where
 no:H C=none
 loc:C≠X.env.locals
 old:X.s₀.heap.objs.size<=C
 cell:∀x c,X.env.cells.lookup x=some c->c≠C
 pin:∀p∈X.pn++pins,p.1≠C
theorem CV.of(I:Inv X pins σ H s){H':Hp}(h:H' s.heap.objs.size=none):CV X pins H' s.heap.objs.size where
 no:=h
 loc:=Nat.ne_of_gt I.lt
 old:=I.sz
 cell:=fun x c e z=>by
  obtain⟨v,o,ho,_⟩:=I.cell x c e
  exact absurd (Heap.lt_size ho) (by rw[z];exact Nat.lt_irrefl _)
 pin:=fun p hp z=>absurd (Heap.lt_size (I.pin p hp).1) (by rw[z];exact Nat.lt_irrefl _)
theorem CV.let{C:Addr}(G:CV X pins H C)(I:Inv X pins σ H s){h':Heap}(hs:Heap.SameBut C s.heap h'):Inv X pins σ H {s with heap:=h'}:=
 I.turned (t':=s.toks) (fun b o hb e=>(hs.2 b hb).trans e) G.no G.loc (.inr G.old) G.cell G.pin
end
def Fl(X:Cx)(ifs:List Expr)(t:TT):Prop:=
 ∀(pins:List (Addr×Obj))(s:Shared)(σ:St)(H:Hp)(Q:Bool->Hp->Prop),Inv X pins σ H s->t σ H Q->
  wpAny (model X.prog X.w) X.A (forIn ifs true fun c r=>if r=true then do let ok<-isTrue c X.env (eval c X.env);pure (ForInStep.yield ok)else pure (ForInStep.yield r)) (TP X pins σ Q) X.xe s
def Ul:TT:=fun _ H Q=>Q true H
theorem cG{X:Cx}:Fl X [] Ul:=fun _ _ _ H _ I h=>wpAny_tests_nil ⟨H,I,h⟩
theorem xT{X:Cx}{c:Expr}{t:TT}(h:PT X c t):Fl X [c] t:=fun pins s σ H Q I hq=>wpAny_tests_one (h pins s σ H Q I hq)
def Og(n:Nat)(js:List Nat)(wi:TI)(g:CS->TG)(tc:CS->TT)(te:CS->TE):TE:=fun σ H Q=>wi σ H fun J H1=>∀D,H1 D=none->∃W:Nat->Nat->List V->St->Hp->Prop,(∃m,W 0 m [] (nU n js σ) (upd H1 D (.lst [])))/\
 ∀i m ys σ' H',W i m ys σ' H'->H' D=some (.lst ys)/\((J.stop i H'/\Q (.ref D) H')\/(J.go i H'/\ys.length<sizeLine/\∃N:List V->St->Hp->Prop,(∀ys' σ'' H'',N ys' σ'' H''->∃m',m'<m/\W (i+1) m' ys' σ'' H'')/\
  ∀x H2,J.yld i H' x H2->∀c:CS,g c x σ' H2 fun σ2 H3=>tc c σ2 H3 fun b H4=>if b=true then te c σ2 H4 fun v H5=>H5 D=some (.lst ys)/\N (ys++[v]) σ2 (upd H5 D (.lst (ys++[v])))else N ys σ2 H4))
section
variable {X:Cx} {elt tg iter:Expr} {ifs:List Expr} {sc:Scope} {pos:Pos} {cl:List (Str×Addr)} {T F:List Str} {js:List Nat} {wi:TI} {g:CS->TG} {tc:CS->TT} {te:CS->TE} {pins:List (Addr×Obj)} {σ:St}
theorem sE(hc:X.calm=true)(C:cD X sc cl F js)(hg:∀c:CS,PG (dq X (T++F) sc cl c.s c.H c.fp) tg (g c))(hif:∀c:CS,Fl (dq X (T++F) sc cl c.s c.H c.fp) ifs (tc c))(he:∀c:CS,PE (dq X (T++F) sc cl c.s c.H c.fp) elt (te c))
  {H2:Hp}{s2:Shared}{it:Addr}{fp:List Addr}{tn:Nat->Heap->Prop}{J:It}{Q:VK}{RR:Value->Addr->Result->Shared->Prop}(I2:Inv X pins σ H2 s2)(Tn:Turn X.prog X.w X.K tg J fp it tn)(st2:tn 0 s2.heap)(f2:∀b∈fp,oF X pins H2 b)
  (hw:∀D,H2 D=none->∃W:Nat->Nat->List V->St->Hp->Prop,(∃m,W 0 m [] (nU T.length js σ) (upd H2 D (.lst [])))/\
   ∀i m ys σ' H',W i m ys σ' H'->H' D=some (.lst ys)/\((J.stop i H'/\Q (.ref D) H')\/(J.go i H'/\ys.length<sizeLine/\∃N:List V->St->Hp->Prop,(∀ys' σ'' H'',N ys' σ'' H''->∃m',m'<m/\W (i+1) m' ys' σ'' H'')/\
    ∀x H2,J.yld i H' x H2->∀c:CS,g c x σ' H2 fun σ2 H3=>tc c σ2 H3 fun b H4=>if b=true then te c σ2 H4 fun v H5=>H5 D=some (.lst ys)/\N (ys++[v]) σ2 (upd H5 D (.lst (ys++[v])))else N ys σ2 H4)))
  (hRR:∀D C H' s1,Inv X pins σ H' s1->CV X pins H' C->(∃m,s1.heap.Ns C m)->Q (.ref D) H'->RR (.ref D) C (.ok .next) s1):
  wpAny (model X.prog X.w) X.A (newList []) (fun acc s₃=>wpAny (model X.prog X.w) X.A (newFunctionEnv sc X.env.globals cl [] X.env.qual none .none (some X.env)) (fun cenv s₄=>
   codeAny (model X.prog X.w) X.A (.compStart (.ListComp elt [⟨tg,iter,ifs,0⟩] sc pos) 0 (.ref it) acc {cenv with scope:=relabel sc X.env}) (RR acc cenv.locals) s₄) X.xe s₃) X.xe s2:=by
 obtain⟨W,⟨m0,w0⟩,turn⟩:=hw s2.heap.objs.size (I2.hok.fresh (Nat.le_refl _))
 have I3:Inv X pins σ (upd H2 s2.heap.objs.size (.lst [])) {s2 with heap:=s2.heap.push {cls:= .type "list",data:= .seq ([]:List Value).toArray}}:=I2.lnew (t':=s2.toks) .nil (Nat.zero_le _)
 have lt2:∀b∈fp,b<s2.heap.objs.size:=fun b hb=>by
  obtain⟨o,e,_⟩:=Tn.obj 0 _ st2 b hb
  exact Heap.lt_size e
 have f3:∀b∈fp,oF X pins (upd H2 s2.heap.objs.size (.lst [])) b:=fun b hb=>⟨by rw[aG (Nat.ne_of_lt (lt2 b hb))];exact(f2 b hb).1,(f2 b hb).2⟩
 refine wpAny_newObj_type ?_
 have st3:tn 0 ({s2 with heap:=s2.heap.push {cls:= .type "list",data:= .seq ([]:List Value).toArray}}:Shared).heap:=Tn.keep 0 _ _ st2 fun b hb o e=>Heap.get?_push_of_some _ e
 have lt3:∀b∈fp,b<({s2 with heap:=s2.heap.push {cls:= .type "list",data:= .seq ([]:List Value).toArray}}:Shared).heap.objs.size:=fun b hb=>by
  show b<(s2.heap.push _).objs.size
  rw[Heap.size_push]
  exact Nat.lt_succ_of_lt (lt2 b hb)
 generalize ({s2 with heap:=s2.heap.push {cls:= .type "list",data:= .seq ([]:List Value).toArray}}:Shared)=s3 at I3 st3 lt3 ⊢
 refine wpAny_newFunctionEnv C.cell (by intro y hy;simp at hy) (fun h4 hns hsb=>?_) C.kind
 have old:∀b o,s3.heap.get? b=some o->h4.get? b=some o:=fun b o e=>hsb.extBut b o (Nat.ne_of_lt (Heap.lt_size e)) (Heap.get?_push_of_some _ e)
 have st4:tn 0 h4:=Tn.keep 0 _ _ st3 fun b hb o e=>old b o e
 have J4:∀tk,Inv (dq X (T++F) sc cl s3 (upd H2 s2.heap.objs.size (.lst [])) fp) [] (nU T.length js σ) (upd H2 s2.heap.objs.size (.lst [])) {s3 with heap:=h4,toks:=tk}:=fun tk=>GD C I3 f3 lt3 hns old
 have fpX:∀{H':Hp},(∀b∈fp,H' b=none)->∀b∈fp,oF (dq X (T++F) sc cl s3 (upd H2 s2.heap.objs.size (.lst [])) fp) [] H' b:=fun hn b hb=>
  ⟨hn b hb,Nat.ne_of_lt (lt3 b hb),(vo C I3 f3 lt3 (T++F)).exfs b hb,.inl hb,fun x c e=>((vo C I3 f3 lt3 (T++F)).exf b hb).2 x c e,fun p hp=>absurd (show p∈([]:List (Addr×Obj))from hp) (by simp)⟩
 have loop:∀s4:Shared,(∃tk,s4={s3 with heap:=h4,toks:=tk})->
   codeAny (model X.prog X.w) X.A (.compLoop (.ListComp elt [⟨tg,iter,ifs,0⟩] sc pos) 0 (.ref it) (.ref s2.heap.objs.size) (compEnvC sc cl s3.heap.objs.size X.env)) (RR (.ref s2.heap.objs.size) s3.heap.objs.size) s4:=by
  rintro s4 ⟨tk,rfl⟩
  refine vg (fun n s'=>∃i ys σ' H',Inv (dq X (T++F) sc cl s3 (upd H2 s2.heap.objs.size (.lst [])) fp) [] σ' H' s'/\tn i s'.heap/\(∀b∈fp,H' b=none)/\W i n ys σ' H') ?_ m0
   ⟨0,[],_,_,J4 tk,st4,fun b hb=>(f3 b hb).1,w0⟩
  rintro n s5 ⟨i,ys,σ5,H5,I5,st5,fr5,w5⟩
  obtain⟨hD,q⟩:=turn i n ys σ5 H5 w5
  rcases q with⟨stop,q⟩|⟨go,hz,N,hN,step⟩
  .refine cZ (Tn.done (dq X (T++F) sc cl s3 (upd H2 s2.heap.objs.size (.lst [])) fp) rfl rfl rfl hc i [] s5 σ5 H5 (fun _ _=>False) I5 (fpX fr5) st5 stop) fun r s6⟨hr,I6⟩=>?_
   subst hr
   obtain⟨m,hn,_⟩:=id I6.loc
   exact hRR _ _ H5 s6 (comp_back I3 f3 I6) (CV.of I3 I6.free) ⟨m,hn⟩ q
  .refine cZ (Tn.item (dq X (T++F) sc cl s3 (upd H2 s2.heap.objs.size (.lst [])) fp) rfl rfl rfl hc i [] s5 σ5 H5 (fun _ _=>False) I5 (fpX fr5) st5 go) fun r s6⟨u,hr,h6⟩=>?_
   subst hr
   refine cZ h6 fun _ s7⟨x,H7,I7,r7,y7,st7,fr7⟩=>?_
   have I7':=I7.pinned (fpX fr7) (Tn.obj _ _ st7)
   have again:∀{s8:Shared}{σ8:St}{H8:Hp}{ys8:List V},Inv (dq X (T++F) sc cl s3 (upd H2 s2.heap.objs.size (.lst [])) fp) ([]++tD fp s7.heap) σ8 H8 s8->N ys8 σ8 H8->
     ∃m,m<n/\∃i ys σ' H',Inv (dq X (T++F) sc cl s3 (upd H2 s2.heap.objs.size (.lst [])) fp) [] σ' H' s8/\tn i s8.heap/\(∀b∈fp,H' b=none)/\W i m ys σ' H':=fun{s8 σ8 H8 ys8}I8 n8=>by
    obtain⟨m',hm,w8⟩:=hN ys8 σ8 H8 n8
    refine⟨m',hm,i+1,ys8,σ8,H8,I8.unpinned,Tn.keep _ _ _ st7 fun b hb o e=>(I8.pin (b,o) (List.mem_append_right _ (List.mem_append_right _ (jX hb e)))).1,fun b hb=>?_,w8⟩
    obtain⟨o,e,d⟩:=Tn.obj _ _ st7 b hb
    exact(I8.pin (b,o) (List.mem_append_right _ (List.mem_append_right _ (jX hb e)))).2.1
   refine cZ (hg ⟨s3,_,fp⟩ _ s7 σ5 H7 x u _ I7' r7 (step x H7 y7 ⟨s3,upd H2 s2.heap.objs.size (.lst []),fp⟩)) fun _ s8⟨σ8,H8,I8,q8⟩=>?_
   refine cZ (hif ⟨s3,_,fp⟩ _ s8 σ8 H8 _ I8 q8) fun ok s9⟨H9,I9,q9⟩=>?_
   cases ok with
   |false=>
    rw[if_neg Bool.false_ne_true]
    rw[if_neg Bool.false_ne_true]at q9
    exact again I9 q9
   |true=>
    rw[if_pos rfl]
    rw[if_pos rfl]at q9
    refine cZ (he ⟨s3,_,fp⟩ _ s9 σ8 H9 _ I9 q9) fun y s10⟨v10,H10,I10,r10,hD10,n10⟩=>?_
    refine cZ (di _ s10 σ8 H10 (.ref s2.heap.objs.size) [v10] (.ref s2.heap.objs.size) [y] (fun _ H11=>N (ys++[v10]) σ8 H11) I10 rfl (.cons r10 .nil) ⟨_,ys,v10,rfl,rfl,hD10,hz,n10⟩) fun _ s11⟨_,H11,I11,_,n11⟩=>?_
    exact again I11 n11
 exact codeAny_compStart_list (loop _ ⟨_,rfl⟩) (Tn.self X.A 0 _ _ _ st4 (loop _ ⟨_,rfl⟩))
theorem dC(T:List Str)(hc:X.calm=true)(C:cD X sc cl F js)(hi:PI X tg iter wi)
  (hg:∀c:CS,PG (dq X (T++F) sc cl c.s c.H c.fp) tg (g c))(hif:∀c:CS,Fl (dq X (T++F) sc cl c.s c.H c.fp) ifs (tc c))(he:∀c:CS,PE (dq X (T++F) sc cl c.s c.H c.fp) elt (te c))
  (hs:∀x,foldedSetIterable iter X.env x=pure x:=by intro _;rfl):PE X (.ListComp elt [⟨tg,iter,ifs,0⟩] sc pos) (Og T.length js wi g tc te):=by
 intro pins s σ H Q I h
 rw[eval_ListComp]
 refine wpAny_comprehension_free (use:=none) rfl hs C.clos C.kind C.names ?_
 refine cZ (hi pins s σ H _ I h) fun v s1 h1=>cZ h1 fun itv s2 h2=>?_
 obtain⟨it,fp,tn,J,H2,e,I2,Tn,st2,f2,hw⟩:=h2
 subst e
 refine sE (RR:=fun acc C=>compPost (model X.prog X.w) X.A X.xe none (EP X pins σ Q) acc C) hc C hg hif he I2 Tn st2 f2 hw ?_
 intro D C' H' s6 I6 G ⟨m,hn⟩ q
 exact⟨m,hn,fun h' hs'=>⟨.ref D,H',G.let I6 hs',rfl,q⟩⟩
theorem mU(T:List Str){i:Nat}{x:Str}{pos' spos:Pos}(hN:X.N.Nodup)(hiN:X.N[i]? =some x)(hx:Loc X.env.scope x)(hc:X.calm=true)(C:cD X sc cl F js)(hi:PI X tg iter wi)
  (hg:∀c:CS,PG (dq X (T++F) sc cl c.s c.H c.fp) tg (g c))(hif:∀c:CS,Fl (dq X (T++F) sc cl c.s c.H c.fp) ifs (tc c))(he:∀c:CS,PE (dq X (T++F) sc cl c.s c.H c.fp) elt (te c))
  (hsw:swapsWith (.ListComp elt [⟨tg,iter,ifs,0⟩] sc pos) (some (.Name x pos')) spos.line X.env=pure true:=by rfl)
  (hs:∀x,foldedSetIterable iter X.env x=pure x:=by intro _;rfl)(hf:X.fn x=true\/X.env.scope.names.lookup x=some .local:=by first|exact .inl rfl|exact .inr rfl|assumption):
  PS X (.Assign [.Name x pos'] (.ListComp elt [⟨tg,iter,ifs,0⟩] sc pos) spos) (Rg (Og T.length js wi g tc te) (xg i)):=by
 intro pins s σ H D I h
 rw[exec_Assign_Name_used _ _ _ _ hsw]
 refine wpAny_bind (wpAny_standAt (wpAny_bind ?_))
 show wpAny _ X.A (do let _<-comprehension (.ListComp elt [⟨tg,iter,ifs,0⟩] sc pos) sc X.env _ (newList []) false (eval iter X.env) (some (assign (.Name x pos') X.env))) _ _ s
 refine wpAny_bind (wpAny_mono (wpAny_comprehension_free (use:=some (assign (.Name x pos') X.env)) (Q:=fun _ s'=>SP X pins D .next s') rfl hs C.clos C.kind C.names ?_) (fun _ s' hq=>wpAny_pure (wpAny_pure hq)) fun _ _ e=>e)
 refine cZ (hi pins s σ H _ I h) fun v s1 h1=>cZ h1 fun itv s2 h2=>?_
 obtain⟨it,fp,tn,J,H2,e,I2,Tn,st2,f2,hw⟩:=h2
 subst e
 refine sE (Q:=fun x H1=>xg i x σ H1 D.nx) (RR:=fun acc C=>compPost (model X.prog X.w) X.A X.xe (some (assign (.Name x pos') X.env)) (fun _ s'=>SP X pins D .next s') acc C) hc C hg hif he I2 Tn st2 f2 hw ?_
 intro D' C' H' s6 I6 G ⟨m,hn⟩ q
 show wpAny _ X.A (assign (.Name x pos') X.env (.ref D')) _ _ _
 refine wpAny_assign_Name (uQ I6 hN hiN hx (show RelV (.ref D') (.ref D')from rfl) (fun s7 I7⟨a,hs7,ha⟩=>?_) hf)
 have nC:C'≠a:=by
  rcases ha with rfl|ha
  .exact G.loc
  .exact fun e=>G.cell x a ha e.symm
 exact⟨m,hn.sameBut hs7 nC,fun h' hs'=>⟨_,H',G.let I7 hs',q⟩⟩
end
theorem cD.plain{X:Cx}{sc:Scope}(kind:sc.kind= .function)(cell:∀y∈sc.names,y.2≠ .cell)(names:∀y∈sc.names,y.2= .local->sc.names.lookup y.1=some .local)(free:∀y∈sc.names,y.2≠ .free):cD X sc [] [] []:=
 ⟨kind,cell,names,closureFor_none free,trivial,fun y hy e=>absurd e (free y hy),trivial⟩
theorem cL{K:PySem.W.Frag}{a D:Addr}{xs:List V}{g:CS->TG}{tc:CS->TT}{te:CS->TE}{σ0:St}{H0:Hp}{Q:Hp->Prop}(Pv:Nat->List V->St->Hp->Prop)(hz:xs.length<=sizeLine)(h0:Pv 0 [] σ0 H0)
  (hl:∀i ys σ H,i<=xs.length->Pv i ys σ H->cJ K H a xs/\H D=some (.lst ys)/\ys.length<=i)
  (hs:∀i x ys σ H,xs[i]? =some x->Pv i ys σ H->∀c:CS,g c x σ H fun σ2 H2=>tc c σ2 H2 fun b H3=>if b=true then te c σ2 H3 fun v H4=>H4 D=some (.lst ys)/\Pv (i+1) (ys++[v]) σ2 (upd H4 D (.lst (ys++[v])))else Pv (i+1) ys σ2 H3)
  (hd:∀ys σ H,Pv xs.length ys σ H->Q H):
  ∃W:Nat->Nat->List V->St->Hp->Prop,(∃m,W 0 m [] σ0 H0)/\∀i m ys σ' H',W i m ys σ' H'->H' D=some (.lst ys)/\(((Ni K a).stop i H'/\Q H')\/((Ni K a).go i H'/\ys.length<sizeLine/\∃N:List V->St->Hp->Prop,(∀ys' σ'' H'',N ys' σ'' H''->∃m',m'<m/\W (i+1) m' ys' σ'' H'')/\
    ∀x H2,(Ni K a).yld i H' x H2->∀c:CS,g c x σ' H2 fun σ2 H3=>tc c σ2 H3 fun b H4=>if b=true then te c σ2 H4 fun v H5=>H5 D=some (.lst ys)/\N (ys++[v]) σ2 (upd H5 D (.lst (ys++[v])))else N ys σ2 H4)):=by
 refine⟨fun i m ys σ H=>m=xs.length-i/\i<=xs.length/\Pv i ys σ H,⟨xs.length,by simp,Nat.zero_le _,h0⟩,?_⟩
 rintro i m ys σ H ⟨rfl,hi,p⟩
 obtain⟨q,qD,ql⟩:=hl i ys σ H hi p
 refine⟨qD,?_⟩
 by_cases hlt:i<xs.length
 .refine .inr ⟨⟨xs,xs[i],q,by simp[hlt]⟩,by omega,Pv (i+1),fun ys' σ' H' p'=>⟨xs.length-(i+1),by omega,rfl,hlt,p'⟩,fun x H' y c=>?_⟩
  obtain⟨e,y⟩:=y
  subst e
  exact hs i x ys σ _ (y xs q) p c
 .have e:i=xs.length:=by omega
  subst e
  exact .inl ⟨⟨xs,q,Nat.le_refl _⟩,hd ys σ H p⟩
theorem iw{lo:Int}{n:Nat}{D:Addr}{g:CS->TG}{tc:CS->TT}{te:CS->TE}{σ0:St}{H0:Hp}{Q:Hp->Prop}(Pv:Nat->List V->St->Hp->Prop)(hz:n<=sizeLine)(h0:Pv 0 [] σ0 H0)
  (hl:∀i ys σ H,i<=n->Pv i ys σ H->H D=some (.lst ys)/\ys.length<=i)
  (hs:∀i ys σ H,i<n->Pv i ys σ H->∀c:CS,g c (.int (lo+i)) σ H fun σ2 H2=>tc c σ2 H2 fun b H3=>if b=true then te c σ2 H3 fun v H4=>H4 D=some (.lst ys)/\Pv (i+1) (ys++[v]) σ2 (upd H4 D (.lst (ys++[v])))else Pv (i+1) ys σ2 H3)
  (hd:∀ys σ H,Pv n ys σ H->Q H):
  ∃W:Nat->Nat->List V->St->Hp->Prop,(∃m,W 0 m [] σ0 H0)/\∀i m ys σ' H',W i m ys σ' H'->H' D=some (.lst ys)/\(((JK lo n).stop i H'/\Q H')\/((JK lo n).go i H'/\ys.length<sizeLine/\∃N:List V->St->Hp->Prop,(∀ys' σ'' H'',N ys' σ'' H''->∃m',m'<m/\W (i+1) m' ys' σ'' H'')/\
    ∀x H2,(JK lo n).yld i H' x H2->∀c:CS,g c x σ' H2 fun σ2 H3=>tc c σ2 H3 fun b H4=>if b=true then te c σ2 H4 fun v H5=>H5 D=some (.lst ys)/\N (ys++[v]) σ2 (upd H5 D (.lst (ys++[v])))else N ys σ2 H4)):=by
 refine⟨fun i m ys σ H=>m=n-i/\i<=n/\Pv i ys σ H,⟨n,by simp,Nat.zero_le _,h0⟩,?_⟩
 rintro i m ys σ H ⟨rfl,hi,p⟩
 obtain⟨qD,ql⟩:=hl i ys σ H hi p
 refine⟨qD,?_⟩
 by_cases hlt:i<n
 .refine .inr ⟨hlt,by omega,Pv (i+1),fun ys' σ' H' p'=>⟨n-(i+1),by omega,rfl,hlt,p'⟩,fun x H' y c=>?_⟩
  obtain⟨e,y⟩:=y
  subst e y
  exact hs i ys σ _ hlt p c
 .have e:i=n:=by omega
  subst e
  exact .inl ⟨Nat.le_refl _,hd ys σ H p⟩
end L2
namespace L2
open PySem PySem.Spec PyProof.Rows
theorem nj{c A B:Prop}[Decidable c](hc:¬c)(h:B):if decide c=true then A else B:=by
 rw[decide_eq_false hc]
 exact dY h
theorem xx{c A B:Prop}[Decidable c](hc:c)(h:A):if decide c=true then A else B:=by
 rw[decide_eq_true hc]
 exact jk h
theorem aF.upd{H:Hp}{p:Addr}{o:HO}(h:H p=none):aF H (upd H p o):=fun b u e=>by
 rw[aG (aM e h)]
 exact e
theorem aF.sqT{K:PySem.W.Frag}{H H':Hp}{a:Addr}{xs:List V}(e:aF H H')(h:fD K H a xs):fD K H' a xs:=by
 rcases h with(h|⟨o,h⟩)|h
 .exact .inl (.inl (e _ _ h))
 .exact .inl (.inr ⟨o,e _ _ h⟩)
 .exact .inr h
theorem bw{K:PySem.W.Frag}{H:Hp}{p:Addr}{xs:List V}:fD K (upd H p (.tup xs)) p xs:= .of az
theorem dW{K:PySem.W.Frag}{H:Hp}{p:Addr}{xs:List V}:cJ K (upd H p (.lst xs)) p xs:= .of az
theorem Sm.mono{i j:Int}(h:Sm j)(e:i.natAbs<=j.natAbs):Sm i:= .of_lt (Nat.lt_of_le_of_lt e h.lt)
structure bJ(K:PySem.W.Frag)(mg:Str->Option Value)(x:Str)(st:Stmt)(ps:List Str)(f:Addr)(fd:FuncData):Prop where
 fn:tZ K x x st f fd
 nm:mg x=some (.ref f)
 bd:Binds K fd ps []
def Cl(P:Program)(w:World)(K:PySem.W.Frag)(mg:Str->Option Value)(base:Heap)(x:Str)(k:Nat)(ps:List Str)(sp:Sp):Prop:=
 ∃(f:Addr)(fd:FuncData),mg x=some (.ref f)/\PySem.W.keepIn K (.ref f)=true/\Binds K fd ps []/\bH P w K mg base dj k f fd ps sp
theorem bJ.cl{P:Program}{w:World}{K:PySem.W.Frag}{mg:Str->Option Value}{base:Heap}{x:Str}{st:Stmt}{ps:List Str}{f:Addr}{fd:FuncData}{k:Nat}{sp:Sp}(D:bJ K mg x st ps f fd)(h:bH P w K mg base dj k f fd ps sp):Cl P w K mg base x k ps sp:=
 ⟨f,fd,D.nm,D.fn.kp,D.bd,h⟩
section
variable {X:Cx} {x:Str} {k:Nat} {ps:List Str} {sp:Sp} {e:Expr} {es:List Expr} {p pos:Pos} {t:TA}
theorem aO(C:Cl X.prog X.w X.K X.mg X.base x k ps sp)(hr:aZ k X.A)(hg:Gl X x)(ha:PA X (e::es) t)(hdb:(x==("__debug__":Str))=false:=by decide)(he:starEach (e::es) X.env=(false,eval e X.env)::starEach es X.env:=by rfl)
  (hpl:(backTo pos (starEach es X.env)).any (·.1)=false:=by rfl):PE X (.Call (.Name x p) (e::es) [] pos) (Cr sp [] E0 t):=by
 obtain⟨f,fd,h1,h2,h3,h4⟩:=C
 exact Lp h4 hr hg h1 h2 h3 .nil xO ha hdb he hpl
theorem Qs(C:Cl X.prog X.w X.K X.mg X.base x k ps sp)(hr:aZ k X.A)(hg:Gl X x)(hdb:(x==("__debug__":Str))=false:=by decide):PE X (.Call (.Name x p) [] [] pos) (Cr sp [] E0 Ab):=by
 obtain⟨f,fd,h1,h2,h3,h4⟩:=C
 exact HN h4 hr hg h1 h2 h3 .nil xO hdb
end
end L2
namespace FK
def G(a b:Int):Int:=(Int.gcd a b:Nat)
theorem Ff{a b:Int}(h:0<b):0<G a b:=by
 have:Int.gcd a b≠0:=fun e=>by
  have:=(Int.gcd_eq_zero_iff.mp e).2
  omega
 unfold G
 omega
theorem Fi{a:Int}(h:0<=a):G a 0=a:=by
 unfold G
 rw[Int.gcd_zero_right]
 omega
theorem yC(a b:Int):G a b∣a:=Int.gcd_dvd_left ..
theorem qJ(a b:Int):G a b∣b:=Int.gcd_dvd_right ..
theorem RJ{a b:Int}(h:0<b):G a b<=b:=Int.le_of_dvd h (qJ a b)
theorem Fg{a b:Int}(ha:0<=a)(hb:0<b):G b (a%b)=G a b:=by
 unfold G
 have:Int.gcd b (a%b)=Int.gcd a b:=by
  rw[Int.gcd_comm a b]
  obtain⟨m,rfl⟩:=Int.eq_ofNat_of_zero_le ha
  obtain⟨n,rfl⟩:=Int.eq_ofNat_of_zero_le (Int.le_of_lt hb)
  have e:((m:Int)%(n:Int))=((m%n:Nat):Int):=rfl
  rw[e]
  show Nat.gcd n (m%n)=Nat.gcd n m
  rw[Nat.gcd_rec n m,Nat.gcd_comm]
 rw[this]
def lo(a b:Int):Int:=a/G a b
def hi(a b:Int):Int:=b/G a b
theorem Tf(a b:Int):G a b*lo a b=a:=Int.mul_ediv_cancel' (yC a b)
theorem SJ(a b:Int):G a b*hi a b=b:=Int.mul_ediv_cancel' (qJ a b)
theorem SM{a b:Int}(hb:0<b):hi a b<=b:=Int.ediv_le_self _ (Int.le_of_lt hb)
end FK
namespace L2
open PySem PySem.Spec PyProof.Rows
section
variable {κ:Type} [DecidableEq κ]
def eZ(kvs:List (κ×V))(k:κ):Option V:=(kvs.find? fun kv=>decide (kv.1=k)).map (·.2)
def putK(kvs:List (κ×V))(k:κ)(v:V):List (κ×V):=
 if(kvs.any fun kv=>decide (kv.1=k))=true then kvs.map (fun kv=>if kv.1=k then(kv.1,v)else kv)else kvs++[(k,v)]
theorem dR{p:κ×V}{r:List (κ×V)}{k:κ}(e:p.1=k):eZ (p::r) k=some p.2:=by simp[eZ,List.find?_cons,e]
theorem dO{p:κ×V}{r:List (κ×V)}{k:κ}(e:¬p.1=k):eZ (p::r) k=eZ r k:=by simp[eZ,List.find?_cons,e]
theorem pG(k:κ):∀kvs:List (κ×V),(kvs.any fun kv=>decide (kv.1=k))=(eZ kvs k).isSome
 |[]=>rfl
 |p::r=>by
  rw[List.any_cons]
  by_cases e:p.1=k
  .simp only[dR e,decide_eq_true e,Bool.true_or,Option.isSome_some]
  .rw[dO e,decide_eq_false e,Bool.false_or];exact pG k r
theorem yt(k j:κ)(y:V):∀kvs:List (κ×V),eZ (kvs.map fun kv=>if kv.1=k then(kv.1,y)else kv) j=(eZ kvs j).map fun x=>if j=k then y else x
 |[]=>rfl
 |p::r=>by
  have ih:=yt k j y r
  rw[List.map_cons]
  by_cases h:p.1=k
  .rw[if_pos h]
   by_cases e:p.1=j
   .rw[dR (p:=(p.1,y)) e,dR e,Option.map_some,if_pos (e.symm.trans h)]
   .rw[dO (p:=(p.1,y)) e,dO e,ih]
  .rw[if_neg h]
   by_cases e:p.1=j
   .rw[dR (p:=p) e,dR e,Option.map_some,if_neg (fun z=>h (e.trans z))]
   .rw[dO (p:=p) e,dO e,ih]
theorem uU(k j:κ)(y:V):∀kvs:List (κ×V),eZ kvs k=none->eZ (kvs++[(k,y)]) j=if j=k then some y else eZ kvs j
 |[],_=>by
  by_cases e:k=j
  .rw[if_pos e.symm];exact dR (p:=(k,y)) e
  .rw[if_neg (fun z=>e z.symm)];exact dO (p:=(k,y)) e
 |p::r,hn=>by
  rw[List.cons_append]
  have hk:¬p.1=k:=fun z=>by rw[dR z]at hn;cases hn
  rw[dO hk]at hn
  have ih:=uU k j y r hn
  by_cases e:p.1=j
  .rw[dR e,dR e,if_neg (fun z=>hk (e.trans z))]
  .rw[dO e,dO e,ih]
theorem jK(kvs:List (κ×V))(k j:κ)(y:V):eZ (putK kvs k y) j=if j=k then some y else eZ kvs j:=by
 unfold putK
 by_cases a:(kvs.any fun kv=>decide (kv.1=k))=true
 .rw[if_pos a,yt]
  rw[pG]at a
  by_cases e:j=k
  .obtain⟨x,hx⟩:=Option.isSome_iff_exists.mp a
   rw[if_pos e,e,hx,Option.map_some,if_pos rfl]
  .rw[if_neg e]
   cases eZ kvs j with
   |none=>rfl
   |some x=>rw[Option.map_some,if_neg e]
 .rw[if_neg a]
  refine uU k j y kvs ?_
  rw[pG]at a
  cases q:eZ kvs k with
  |none=>rfl
  |some x=>rw[q]at a;exact(a rfl).elim
theorem gj(kvs:List (κ×V))(k:κ)(v:V):(putK kvs k v).length<=kvs.length+1:=by
 unfold putK
 split
 .rw[List.length_map];omega
 .rw[List.length_append,List.length_cons,List.length_nil];omega
theorem mZ.isSome_eq{o:Option V}{u:Option Value}(r:mZ o u):o.isSome=u.isSome:=by
 cases o with
 |none=>cases u with
  |none=>rfl
  |some _=>exact(show False from r).elim
 |some _=>cases u with
  |none=>exact(show False from r).elim
  |some _=>rfl
theorem KV.val{kvs:List (κ×V)}{vs:List (κ×Value)}(r:KV kvs vs)(k:κ):mZ (eZ kvs k) (valueAt vs k):=by
 unfold KV at r
 induction r with
 |nil=>exact True.intro
 | @cons p q ps qs h t ih=>
  obtain⟨h1,h2⟩:=h
  by_cases e:p.1=k
  .have e':q.1=k:=h1.symm.trans e
   have b:valueAt (q::qs) k=some q.2:=by simp[valueAt,List.find?_cons,e']
   rw[dR e,b];exact h2
  .have e':¬q.1=k:=fun z=>e (h1.trans z)
   have b:valueAt (q::qs) k=valueAt qs k:=by simp[valueAt,List.find?_cons,e']
   rw[dO e,b];exact ih
theorem KV.any{kvs:List (κ×V)}{vs:List (κ×Value)}(r:KV kvs vs)(k:κ):(kvs.any fun kv=>decide (kv.1=k))=vs.any fun kv=>decide (kv.1=k):=by
 unfold KV at r
 induction r with
 |nil=>rfl
 |cons h t ih=>rw[List.any_cons,List.any_cons,ih,h.1]
theorem KV.repl{kvs:List (κ×V)}{vs:List (κ×Value)}(r:KV kvs vs)(k:κ){y:V}{u:Value}(ry:RelV y u):
  KV (kvs.map fun kv=>if kv.1=k then(kv.1,y)else kv) (vs.map fun kv=>if kv.1=k then(kv.1,u)else kv):=by
 unfold KV at r ⊢
 induction r with
 |nil=>exact .nil
 | @cons p q ps qs h t ih=>
  rw[List.map_cons,List.map_cons]
  refine .cons ?_ ih
  obtain⟨h1,h2⟩:=h
  by_cases e:p.1=k
  .rw[if_pos e,if_pos (h1.symm.trans e)];exact⟨h1,ry⟩
  .rw[if_neg e,if_neg (fun z=>e (h1.trans z))];exact⟨h1,h2⟩
theorem KV.put{kvs:List (κ×V)}{vs:List (κ×Value)}(r:KV kvs vs)(k:κ){y:V}{u:Value}(ry:RelV y u):KV (putK kvs k y) (stored vs k u):=by
 unfold putK stored
 rw[r.any k]
 by_cases e:(vs.any fun kv=>decide (kv.1=k))=true
 .rw[if_pos e,if_pos e];exact r.repl k ry
 .rw[if_neg e,if_neg e];exact Paired.snoc r ⟨rfl,ry⟩
theorem KV.length{kvs:List (κ×V)}{vs:List (κ×Value)}(r:KV kvs vs):kvs.length=vs.length:=Paired.length r
end
theorem GJ{P:Program}{w:World}{k:Key}{u:Value}(r:RelV (kV k) u):(dU P w).is k u=true:=by
 cases k with
 |inl i=>obtain⟨t,e⟩:=(show ∃t,u=Value.int i t from r);subst e;exact xG P w i t
 |inr x=>obtain⟨t,e⟩:=(show ∃t,u=Value.str x t from r);subst e;exact xH P w x t
theorem uG{P:Program}{w:World}:∀{ks:List Key}{us:List Value},Vals (ks.map kV) us->ItemsAre (dU P w) ks us
 |[],_,r=>by rw[List.map_nil]at r;cases r;exact .nil
 |k::ks,_,r=>by
  rw[List.map_cons]at r
  cases r with
  |cons h t=>exact .cons (GJ h) (uG t)
abbrev KT(H:Hp):List (List Key×V)->List (List Key×Addr×Value)->Prop:=Paired fun p q=>p.1=q.1/\H q.2.1=some (.tup (p.1.map kV))/\RelV p.2 q.2.2
theorem KT.val{H:Hp}{kvs:List (List Key×V)}{xs:List (List Key×Addr×Value)}(r:KT H kvs xs)(k:List Key):mZ (eZ kvs k) ((atKey xs k).map (·.2)):=by
 induction r with
 |nil=>exact True.intro
 | @cons p q ps qs h t ih=>
  obtain⟨h1,_,h2⟩:=h
  by_cases e:p.1=k
  .have e':q.1=k:=h1.symm.trans e
   have b:atKey (q::qs) k=some q.2:=by simp[atKey,List.find?_cons,e']
   rw[dR e,b];exact h2
  .have e':¬q.1=k:=fun z=>e (h1.trans z)
   have b:atKey (q::qs) k=atKey qs k:=by simp[atKey,List.find?_cons,e']
   rw[dO e,b];exact ih
theorem KT.repl{H:Hp}{kvs:List (List Key×V)}{xs:List (List Key×Addr×Value)}(r:KT H kvs xs)(k:List Key){y:V}{u:Value}(ry:RelV y u):
  KT H (kvs.map fun kv=>if kv.1=k then(kv.1,y)else kv) (xs.map (putAt k u)):=by
 induction r with
 |nil=>exact .nil
 | @cons p q ps qs h t ih=>
  rw[List.map_cons,List.map_cons]
  refine .cons ?_ ih
  obtain⟨h1,h2,h3⟩:=h
  unfold putAt
  by_cases e:p.1=k
  .rw[if_pos e,if_pos (h1.symm.trans e)];exact⟨h1,h2,ry⟩
  .rw[if_neg e,if_neg (fun z=>e (h1.trans z))];exact⟨h1,h2,h3⟩
theorem KT.put{H:Hp}{kvs:List (List Key×V)}{xs:List (List Key×Addr×Value)}(r:KT H kvs xs)(k:List Key){b:Addr}{y:V}{u:Value}(hb:H b=some (.tup (k.map kV)))(ry:RelV y u):
  KT H (putK kvs k y) (storedH xs k b u):=by
 have e:(kvs.any fun kv=>decide (kv.1=k))=(atKey xs k).isSome:=by
  rw[pG,(r.val k).isSome_eq,Option.isSome_map]
 unfold putK storedH
 rw[e]
 by_cases q:(atKey xs k).isSome=true
 .rw[if_pos q,if_pos q];exact r.repl k ry
 .rw[if_neg q,if_neg q];exact Paired.snoc r ⟨rfl,hb,ry⟩
theorem KT.keeps{H H':Hp}{kvs:List (List Key×V)}{xs:List (List Key×Addr×Value)}(r:KT H kvs xs)(ht:∀b ys,H b=some (.tup ys)->H' b=some (.tup ys)):KT H' kvs xs:=
 Paired.mapP r fun _ _ z=>⟨z.1,ht _ _ z.2.1,z.2.2⟩
section
variable {P:Program} {w:World} {H:Hp} {h:Heap} {a:Addr}
theorem NT{u:HO}(ok:mL P w H h)(e:Rd H a u):cI P w H h a u:=e.ok ok
theorem Gj{kvs:List (Key×V)}(ok:mL P w H h)(e:Rd H a (.dK kvs)):kvs.length<=sizeLine/\(a==sysModules)=false/\∃vs,KV kvs vs/\h.DictOf (dU P w) a vs:=
 show cI P w H h a (.dK kvs)from NT ok e
theorem RZ{kvs:List (Key×V)}(ok:mL P w H h)(e:H a=some (.dK kvs)):kvs.length<=sizeLine/\(a==sysModules)=false/\∃vs,KV kvs vs/\h.DictOf (dU P w) a vs:=Gj ok (.inl e)
theorem yQ{ks:List Key}(ok:mL P w H h)(e:H a=some (.tup (ks.map kV))):(tupleKind (dU P w)).is h ks a:=by
 obtain⟨_,its,r,o,h1,h2,n,h3⟩:=(show cI P w H h a (.tup (ks.map kV))from ok a _ e)
 exact⟨o,its.toArray,n,h1,h2,h3,by simpa using uG r⟩
theorem Gk{kvs:List (List Key×V)}(ok:mL P w H h)(e:Rd H a (.dT kvs)):kvs.length<=sizeLine/\(a==sysModules)=false/\
  ∃xs,KT H kvs xs/\h.DictOfH (tupleKind (dU P w)) a xs:=by
 obtain⟨z,y,xs,r,o,es,ep,h1,h2,h3,h4,h5⟩:=(show cI P w H h a (.dT kvs)from NT ok e)
 refine⟨z,y,xs,r,o,es,ep,h1,h2,h3,h4,fun x hx=>?_,h5⟩
 have all:∀{l:List (List Key×V)}{m:List (List Key×Addr×Value)},KT H l m->∀x∈m,(tupleKind (dU P w)).is h x.1 x.2.1:=by
  intro l m q
  induction q with
  |nil=>intro x hx;exact nomatch hx
  | @cons p q ps qs hq t ih=>
   intro x hx
   rcases List.mem_cons.mp hx with e|hx
   .subst e
    exact yQ ok (by rw[<-hq.1];exact hq.2.1)
   .exact ih x hx
 exact all r x hx
theorem Sd{kvs:List (List Key×V)}(ok:mL P w H h)(e:H a=some (.dT kvs)):kvs.length<=sizeLine/\(a==sysModules)=false/\
  ∃xs,KT H kvs xs/\h.DictOfH (tupleKind (dU P w)) a xs:=Gk ok (.inl e)
end
def Ow(H:Hp)(a:Addr)(y:V)(r:Option V):Prop:=
 (∃kvs k,Rd H a (.dK kvs)/\y=kV k/\r=eZ kvs k)\/∃kvs k b,Rd H a (.dT kvs)/\y= .ref b/\H b=some (.tup (k.map kV))/\r=eZ kvs k
def JM(H:Hp)(a:Addr)(y v:V)(H':Hp):Prop:=
 (∃kvs k,H a=some (.dK kvs)/\y=kV k/\kvs.length<sizeLine/\H'=upd H a (.dK (putK kvs k v)))\/
 ∃kvs k b,H a=some (.dT kvs)/\y= .ref b/\H b=some (.tup (k.map kV))/\kvs.length<sizeLine/\H'=upd H a (.dT (putK kvs k v))
theorem JM.k{H:Hp}{a:Addr}{kvs:List (Key×V)}{k:Key}{v:V}(e:H a=some (.dK kvs))(hl:kvs.length<sizeLine):JM H a (kV k) v (upd H a (.dK (putK kvs k v))):= .inl ⟨kvs,k,e,rfl,hl,rfl⟩
section
variable {X:Cx} {pins:List (Addr×Obj)} {σ:St} {H:Hp} {s:Shared} {a:Addr} {y v:V} {u r:Value} {o:Option V} {A:Around} {E:Value->Shared->Prop}
theorem Inv.big(I:Inv X pins σ H s):sysModules<s.heap.objs.size:=by
 have h:mainGlobals<s.heap.objs.size:=(I.mod.glob.keeps I.bk).lt
 exact Nat.lt_trans (by decide) h
theorem Di{Q:Value->Shared->Prop}(hu:A.units+1<cLine)(I:Inv X pins σ H s)(g:Ow H a y (some v))(ry:RelV y u)(h:∀w' s',Inv X pins σ H s'->RelV v w'->Q w' s'):
  wpAny (model X.prog X.w) A (getItem (.ref a) u) Q E s:=by
 rcases g with⟨kvs,k,e,ey,l⟩|⟨kvs,k,b,e,ey,eb,l⟩
 .subst ey
  obtain⟨z,hd,vs,rel,dd⟩:=Gj I.hok e
  obtain⟨w',hw,rw'⟩:=mZ.some_of (v:=v) (o:=valueAt vs k) (by rw[l];exact rel.val k)
  exact wpAny_getItem_of (GJ ry) dd.mapOf hw (h w' _ (I.tok _) rw')
 .subst ey
  cases (show u=Value.ref b from ry)
  obtain⟨z,hd,xs,rel,dd⟩:=Gk I.hok e
  obtain⟨w',hw,rw'⟩:=mZ.some_of (v:=v) (o:=(atKey xs k).map (·.2)) (by rw[l];exact rel.val k)
  obtain⟨p,hp,hp2⟩:=Option.map_eq_some_iff.mp hw
  refine wpAny_getItem_heap (tupleKind_room_in1 hu) (yQ I.hok eb) dd hp ?_
  rw[hp2]
  exact h w' _ (I.tok _) rw'
theorem Av{h':Heap}{t':Nat}{ob:HO}(I:Inv X pins σ H s)(mu:RN (H a))(hs:Heap.SameBut a s.heap h')(he:∃q,h'.get? a=some q)(new:cI X.prog X.w (upd H a ob) h' a ob):
  Inv X pins σ (upd H a ob) {s with heap:=h',toks:=t'}:=
 I.write (x:=a) (e:=a) mu (.inl rfl) (fun b q hb z=>(hs.2 b hb).trans z) he new
theorem Pn{P:Program}{w:World}{H':Hp}{h':Heap}{kvs:List (Key×V)}{vs:List (Key×Value)}(z:kvs.length<=sizeLine)(hd:(a==sysModules)=false)(rel:KV kvs vs)(dd:h'.DictOf (dU P w) a vs):
  cI P w H' h' a (.dK kvs):=⟨z,hd,vs,rel,dd⟩
theorem Dj{H':Hp}{Q:Unit->Shared->Prop}(hu:A.units+1<cLine)(I:Inv X pins σ H s)(g:JM H a y v H')(ry:RelV y u)(rv:RelV v r)(h:∀s',Inv X pins σ H' s'->Q () s'):
  wpAny (model X.prog X.w) A (setItem (.ref a) u r) Q E s:=by
 rcases g with⟨kvs,k,e,ey,l,eH⟩|⟨kvs,k,b,e,ey,eb,l,eH⟩
 .subst ey eH
  obtain⟨z,hd,vs,rel,dd⟩:=RZ I.hok e
  have hz:vs.length<=sizeLine:=by rw[<-rel.length];exact z
  have hl:(putK kvs k v).length<=sizeLine:=by have:=gj kvs k v;omega
  refine wpAny_setItem_pairs (hsz:=hz) (GJ ry) dd fun h' dd' hs=>h _ ?_
  have he:∃q,h'.get? a=some q:=let⟨q,_,_,hq,_⟩:=dd';⟨q,hq⟩
  exact Av I (by rw[e];exact True.intro) hs he (Pn hl hd (rel.put k rv) dd')
 .subst ey eH
  cases (show u=Value.ref b from ry)
  obtain⟨z,hd,xs,rel,dd⟩:=Sd I.hok e
  have hz:xs.length<=sizeLine:=by rw[<-Paired.length rel];exact z
  have hl:(putK kvs k v).length<=sizeLine:=by have:=gj kvs k v;omega
  refine wpAny_setItem_heap (hsz:=hz) (tupleKind_room_in1 hu) (yQ I.hok eb) dd fun h' dd' hs=>h _ ?_
  obtain⟨q,es,ep,hq,h2,h3,h4,_,h5⟩:=dd'
  refine Av I (by rw[e];exact True.intro) hs ⟨q,hq⟩ ⟨hl,hd,_,(rel.put k eb rv).keeps fun c ys ec=>?_,q,es,ep,hq,h2,h3,h4,h5⟩
  rw[aG (bW ec e (fun z=>nomatch z))]
  exact ec
end
section
variable {X:Cx} {pins:List (Addr×Obj)} {σ:St} {H:Hp} {s:Shared} {a:Addr} {kvs:List (Key×V)} {k:Key} {u:Value} {A:Around} {E:Value->Shared->Prop}
end
def RQ(i:Expr):Prop:=∀ov iv,subscripted i false ov iv=operate [ov,iv] (getItem ov iv)
theorem Mx{prog:Program}{w:World}{A:Around}{E:Value->Shared->Prop}{s:Shared}{env:Env}{value slice:Expr}{pos:Pos}{T id:String}{Q:Value->Shared->Prop}
  (hl:typeLookup (.type T) "__getitem__"=pure (some (.builtin id)))(hs:RQ slice)
  (h:wpAny (model prog w) A (eval value env) (fun o s₁=>wpAny (model prog w) A (eval slice env) (fun i s₂=>s₂.TypeIs o T/\wpAny (model prog w) A (getItem o i) Q E s₂) E s₁) E s):
  wpAny (model prog w) A (eval (.Subscript value slice pos) env) Q E s:=by
 refine Subscript_ (wpAny_mono h (fun o s₁ h₁=>wpAny_mono h₁ (fun i s₂ h₂=>?_) fun _ _ x=>x) fun _ _ x=>x)
 obtain⟨hT,h₂⟩:=h₂
 unfold subscriptTail
 refine wpAny_bind ?_
 rw[getitemInPython_of_ne hT.not_modules]
 refine wpAny_bind (wpAny_specialOf hT hl ?_)
 have fin:wpAny (model prog w) A (subscripted slice false o i) (fun r s₃=>wpAny (model prog w) A (letTemporaryGo value o r>>=fun _=>pure r) Q E s₃) E s₂:=by
  rw[hs o i]
  exact wpAny_operating (wpAny_mono h₂ (fun r s₃ h₃=>wpAny_bind (wpAny_letTemporaryGo (wpAny_pure h₃))) fun _ _ x=>x)
 first
  |exact wpAny_pure (wpAny_bind fin)
  |exact wpAny_bind (wpAny_pure (wpAny_bind fin))
  |exact wpAny_bind fin
theorem xf{X:Cx}{pins:List (Addr×Obj)}{σ:St}{H:Hp}{s:Shared}{a:Addr}{y:V}{o:Option V}(I:Inv X pins σ H s)(g:Ow H a y o):s.TypeIs (.ref a) "dict":=by
 rcases g with⟨kvs,k,e,_,_⟩|⟨kvs,k,b,e,_,_,_⟩
 .obtain⟨_,_,vs,_,dd⟩:=Gj I.hok e
  exact dd.typeIs
 .obtain⟨_,_,xs,_,dd⟩:=Gk I.hok e
  exact dd.typeIs
def Uh(td ty:TE):TE:=fun σ H Q=>td σ H fun x H1=>ty σ H1 fun y H2=>∃a v,x= .ref a/\Ow H2 a y (some v)/\Q v H2
def TJ(td ty tv:TE):TS:=fun D σ H=>tv σ H fun v H1=>td σ H1 fun x H2=>ty σ H2 fun y H3=>∃a H4,x= .ref a/\JM H3 a y v H4/\D.nx σ H4
section
variable {X:Cx} {o i e value:Expr} {pos pos' tpos:Pos} {td ty tv:TE}
theorem Bx(hu:X.A.units+1<cLine)(ho:PE X o td)(hi:PE X i ty)(hs:RQ i):PE X (.Subscript o i pos) (Uh td ty):=by
 intro pins s σ H Q I h
 refine Mx PySem.F.slot_dict_getitem.lookup hs (cZ (ho pins s σ H _ I h) fun u s1⟨x,H1,I1,rx,q1⟩=>cZ (hi pins s1 σ H1 _ I1 q1) fun iv s2⟨y,H2,I2,ry,a,v,ex,g,q2⟩=>?_)
 subst ex
 obtain rfl:u=Value.ref a:=rx
 exact⟨xf I2 g,Di hu I2 g ry fun w' s3 I3 rw'=>⟨v,H2,I3,rw',q2⟩⟩
theorem rH(hu:X.A.units+1<cLine)(ho:PE X o td)(hi:PE X i ty)(hv:PE X value tv)(hs:swapsWith value (some (.Subscript o i pos')) pos.line X.env=pure false):
  PS X (.Assign [.Subscript o i pos'] value pos) (TJ td ty tv):=by
 intro pins s σ H D I h
 refine wpAny_Assign_Subscript (cZ (hv pins s σ H _ I h) fun r s1⟨v,H1,I1,rv,q1⟩=>cZ (ho pins s1 σ H1 _ I1 q1) fun u s2⟨x,H2,I2,rx,q2⟩=>cZ (hi pins s2 σ H2 _ I2 q2) fun iv s3⟨y,H3,I3,ry,a,H4,ex,g,q3⟩=>?_) hs
 subst ex
 obtain rfl:u=Value.ref a:=rx
 exact Dj hu I3 g ry rv fun s4 I4=>⟨σ,H4,I4,q3⟩
end
theorem Gi{P:Program}{w:World}{H:Hp}(h:Heap)(hb:sysModules<h.objs.size):cI P w H (h.push {cls:= .type "dict",data:= .dict #[]}) h.objs.size (.dK []):=
 ⟨Nat.zero_le _,beq_eq_false_iff_ne.mpr (Ne.symm (Nat.ne_of_lt hb)),[],.nil,Heap.DictOf.new h⟩
def Ri:TE:=fun _ H Q=>∀p,H p=none->Q (.ref p) (upd H p (.dK []))
section
variable {X:Cx} {pos:Pos}
theorem xQ:PE X (.Dict [] [] pos) Ri:=fun pins s σ H Q I h=>
 wpAny_Dict_empty ⟨.ref s.heap.objs.size,_,I.laid (a:=s.heap.objs.size) (o:= .dK []) (t':=s.toks) (fun _ _ q=>Heap.get?_push_of_some _ q) (Nat.le_refl _) (Gi s.heap I.big),rfl,h _ (I.hok.fresh (Nat.le_refl _))⟩
end
end L2
namespace L2
open PySem PySem.Spec PyProof.Rows
section
variable {X:Cx} {o i:Expr} {pos:Pos} {td ty:TE}
end
theorem NK{c A B:Prop}[Decidable c](hc:¬c)(h:A):if(!decide c)=true then A else B:=by
 rw[decide_eq_false hc]
 exact jk h
abbrev JH(K:PySem.W.Frag):=mC K BR BR
theorem JH.sq{K:PySem.W.Frag}{H:Hp}{x:V}{d:Int×Int}(h:JH K H x d):∃p,x= .ref p/\fD K H p [.int d.1,.int d.2]:=by
 obtain⟨p,y,z,rfl,q,rfl,rfl⟩:=h
 exact⟨p,rfl,q⟩
theorem JH.same{K:PySem.W.Frag}{H H':Hp}{x:V}{d:Int×Int}(s:aF H H')(h:JH K H x d):JH K H' x d:=by
 obtain⟨p,y,z,rfl,q,h1,h2⟩:=h
 exact⟨p,y,z,rfl,s.sqT q,h1,h2⟩
theorem Paired.get1{α β:Type}{F:α->β->Prop}:∀{xs:List α}{ys:List β},Paired F xs ys->∀(i:Nat)(x:α),xs[i]? =some x->∃y,ys[i]? =some y/\F x y
 |_,_,.nil,i,x,h=>by simp at h
 |_,_,.cons r _,0,x,h=>by
  simp at h
  subst h
  exact⟨_,rfl,r⟩
 |_,_,.cons _ t,i+1,x,h=>by
  obtain⟨y,e,r⟩:=Paired.get1 t i x (by simpa using h)
  exact⟨y,by simpa using e,r⟩
theorem Paired.app{α β:Type}{F:α->β->Prop}:∀{xs xs':List α}{ys ys':List β},Paired F xs ys->Paired F xs' ys'->Paired F (xs++xs') (ys++ys')
 |_,_,_,_,.nil,s=>s
 |_,_,_,_,.cons r t,s=> .cons r (Paired.app t s)
end L2
namespace FK
end FK
namespace PySem.AutoSeq1
open PySem PySem.Spec
theorem list_extend_tupG(l:Addr)(items:Array Value)(n:Nat)(b:Addr)(items2:Array Value)(n2:Nat)(dd:Option Addr)(sl:Array (Option Value))(hs0:¬(!items.isEmpty&&Builtin.List.listTooLong (items.size+items2.size))=true)(hs1:items.size<=sizeLine)(hs2:items.size+items2.size<=sizeLine+1):
  Meets (Builtin.«list.extend» ⟨[.ref l,.ref b],[]⟩) (fun _ R s=>s.heap.get? l=some {cls:= .type "list",dict:=none,data:= .seq items n,slots:= #[]}/\s.heap.get? b=some {cls:= .type "tuple",dict:=dd,data:= .seq items2 n2,slots:=sl}/\R (.ok (.ret Value.none)) {s with heap:=s.heap.update l (Obj.mapSeq fun x=>x++items2),toks:=s.toks}):=
 .of_wp fun prog w A R s h=>by
  obtain⟨hp,g,d,tk,os⟩:=s;obtain⟨hl,hb,h⟩:=h;have f1:=idx_int;have f2:=sub_tuple_tuple;have f3:=sub_list_list;have f4:=sub_tuple_list;have f5:=sub_list_tuple;
  have hz':(items++items2).size<=sizeLine+1:=by rw[Array.size_append];exact hs2
  wp_walk using (wpAny_updateSeq hl rfl (hz:=hs1) (_hz':=hz')),wpAny_loadPart' hl,wpAny_loadPart' hb;exact⟨_,rfl,h⟩
end PySem.AutoSeq1
namespace L2
open PySem PySem.Spec PyProof.Rows
section
variable {X:Cx}
def HY(K:PySem.W.Frag):V->List V->Hp->VK->Prop:=fun x vs H Q=>∃l b xs zs,x= .ref l/\vs=[.ref b]/\H l=some (.lst xs)/\fD K H b zs/\xs.length+zs.length<=sizeLine/\Q .non (upd H l (.lst (xs++zs)))
theorem yX:Uy X "list.extend" (HY X.K):=by
 intro pins s σ H x vs v us Q I rx rv h
 obtain⟨l,b,xs,zs,rfl,rfl,hH,hB,hz,q⟩:=h
 cases rx
 obtain⟨u,rfl,ru⟩:=rv.one
 cases ru
 obtain⟨z,its,n,r,hl,e⟩:=I.lstM hH
 obtain⟨its2,r2,⟨⟨cls,dd,data,sl⟩,e2,hc,n2,hd⟩,z2⟩:=I.tuple hB
 simp only at hc hd
 subst hc hd
 have hl2:=r2.length
 have hsz:its.toArray.size+its2.toArray.size<=sizeLine:=by rw[List.size_toArray,List.size_toArray];omega
 have hlong:¬(!its.toArray.isEmpty&&Builtin.List.listTooLong (its.toArray.size+its2.toArray.size))=true:=by
  rw[Hl hsz,Bool.and_false]
  exact Bool.false_ne_true
 refine call_meets F.slot_list_extend ⟨_,e,rfl⟩ F.entry_list_extend (F.args_list_extend_2 _ _)
  (AutoSeq1.list_extend_tupG l its.toArray n b its2.toArray n2 dd sl hlong (by rw[List.size_toArray];omega) (by omega)) ⟨e,e2,?_⟩
 refine⟨.non,_,I.lset (its':=its++its2) hH e (by simp) (r.append r2) ?_,rfl,q⟩
 rw[List.length_append]
 omega
theorem jQ:nu X (.builtin "sorted") (fun xs H Q=>∃(p:Addr)(ns:List Int),xs=[.ref p]/\cJ X.K H p (ns.map V.int)/\ns.length<64/\∀(l:Addr)(ns':List Int),H l=none->ns'.Perm ns->ns'.Pairwise (· <= ·)->Q (.ref l) (upd H l (.lst (ns'.map V.int)))):=by
 intro pins s σ H xs us Q I r h
 obtain⟨p,ns,rfl,hq,h64,q⟩:=h
 obtain⟨u,rfl,rx⟩:=r.one
 cases (show u=Value.ref p from rx)
 obtain⟨its,rv,pl,hz⟩:=I.list hq
 have hl:=rv.length
 rw[List.length_map]at hl
 refine sorted_ints pl.isList (intsAre_of rv) (by omega) fun out ns' a1 a2 a3=>?_
 obtain⟨e,he⟩:=sortedAll_at s.heap its out
 refine⟨.ref (s.heap.objs.size+1),_,I.laid (a:=s.heap.objs.size+1) (o:= .lst (ns'.map V.int)) (t':=s.toks) (fun b u z=>sortedAll_old z) (Nat.le_succ _) ⟨?_,out.toList,e,qG a1,?_⟩,rfl,q _ ns' (I.hok.fresh (Nat.le_succ _)) a2 a3⟩
 .rw[List.length_map,a2.length_eq]
  exact Nat.le_of_lt (Nat.lt_trans h64 (by decide))
 .rw[he]
end
end L2
namespace FK
def fr(q:Rat):Int×Int:=(q.num,(q.den:Int))
theorem vA{q r:Rat}(h:fr q=fr r):q=r:=by
 have h1:q.num=r.num:=congrArg Prod.fst h
 have h2:(q.den:Int)=r.den:=congrArg Prod.snd h
 exact Rat.ext h1 (by omega)
theorem Gu(q r:Rat):decide (fr q=fr r)=decide (q=r):=decide_eq_decide.mpr ⟨vA,fun h=>by rw[h]⟩
theorem den_pos(q:Rat):0<(q.den:Int):=by have:=q.den_pos;omega
theorem Hm{q:Rat}(h:0<=q):0<=q.num:=Rat.num_nonneg.mpr h
theorem Px(q:Rat):G q.num q.den=1:=by
 unfold G
 have:=q.reduced
 show((Nat.gcd q.num.natAbs (q.den:Int).natAbs:Nat):Int)=1
 rw[Int.natAbs_natCast,this.gcd_eq_one]
 rfl
theorem q_eq(q:Rat):(q.num:Rat)/((q.den:Int):Rat)=q:=by
 have:=Rat.num_divInt_den q
 rw[Rat.divInt_eq_div]at this
 exact this
theorem jh(q:Rat):((q.den:Int):Rat)≠0:=by
 intro h
 have:=Rat.intCast_inj.mp (show((q.den:Int):Rat)=((0:Int):Rat)from h)
 have:=den_pos q
 omega
theorem sW{a b:Int}(hb:0<b):lo a b=((a:Rat)/(b:Rat)).num/\hi a b=(((a:Rat)/(b:Rat)).den:Int):=by
 rw[<-Rat.divInt_eq_div]
 constructor
 .rw[Rat.num_divInt,Int.sign_eq_one_of_pos hb,Int.one_mul,Int.gcd_comm]
  rfl
 .rw[Rat.den_divInt,if_neg (by omega)]
  unfold hi G
  rw[Int.gcd_comm b a,Int.natCast_ediv]
  congr 1
  omega
theorem BJ(q r:Rat):((q.num*(r.den:Int)+r.num*(q.den:Int):Int):Rat)/(((q.den:Int)*(r.den:Int):Int):Rat)=q+r:=by
 have h1:=q_eq q
 have h2:=q_eq r
 have h3:=jh q
 have h4:=jh r
 rw[Rat.intCast_add,Rat.intCast_mul,Rat.intCast_mul,Rat.intCast_mul]
 grind
theorem Hg(q r:Rat):((q.num*(r.den:Int)-r.num*(q.den:Int):Int):Rat)/(((q.den:Int)*(r.den:Int):Int):Rat)=q-r:=by
 have h1:=q_eq q
 have h2:=q_eq r
 have h3:=jh q
 have h4:=jh r
 rw[Rat.intCast_sub,Rat.intCast_mul,Rat.intCast_mul,Rat.intCast_mul]
 grind
theorem yr(q r:Rat):((q.num*r.num:Int):Rat)/(((q.den:Int)*(r.den:Int):Int):Rat)=q*r:=by
 have h1:=q_eq q
 have h2:=q_eq r
 have h3:=jh q
 have h4:=jh r
 rw[Rat.intCast_mul,Rat.intCast_mul]
 grind
theorem vO{q r:Rat}(h:0<r):((q.num*(r.den:Int):Int):Rat)/(((q.den:Int)*r.num:Int):Rat)=q/r:=by
 have h1:=q_eq q
 have h2:=q_eq r
 have h3:=jh q
 have h4:=jh r
 have h5:(r.num:Rat)≠0:=by
  intro z
  rw[z]at h2
  grind
 rw[Rat.intCast_mul,Rat.intCast_mul]
 grind
theorem vI{q:Rat}(h:0<q):0<q.num:=by
 have:=(Rat.lt_iff 0 q).mp h
 have e:(0:Rat).num=0:=rfl
 have f:((0:Rat).den:Int)=1:=rfl
 rw[e,f,Int.zero_mul,Int.mul_one]at this
 exact this
def Bd(n:Nat)(q:Rat):Prop:=q.num.natAbs<2^n/\q.den<2^n
theorem Bd.mono{m n:Nat}{q:Rat}(h:Bd m q)(e:m<=n):Bd n q:=
 ⟨Nat.lt_of_lt_of_le h.1 (Nat.pow_le_pow_right (by decide) e),Nat.lt_of_lt_of_le h.2 (Nat.pow_le_pow_right (by decide) e)⟩
theorem Bd.of{a b:Int}{n:Nat}(hb:0<b)(ha:a.natAbs<2^n)(hb2:b.natAbs<2^n):Bd n ((a:Rat)/(b:Rat)):=by
 obtain⟨e1,e2⟩:=sW (a:=a) hb
 have g:=Ff (a:=a) hb
 have l1:=Tf a b
 have l2:=SJ a b
 have h1:(lo a b).natAbs<=a.natAbs:=by
  conv=>rhs;rw[<-l1]
  rw[Int.natAbs_mul]
  exact Nat.le_mul_of_pos_left _ (by omega)
 have h2:(hi a b).natAbs<=b.natAbs:=by
  conv=>rhs;rw[<-l2]
  rw[Int.natAbs_mul]
  exact Nat.le_mul_of_pos_left _ (by omega)
 refine⟨?_,?_⟩
 .rw[<-e1]
  omega
 .omega
theorem dw{a b m n:Nat}(h1:a<2^m)(h2:b<2^n):a*b<2^(m+n):=by
 rw[Nat.pow_add]
 rcases Nat.eq_zero_or_pos b with z|z
 .subst z
  have:=Nat.two_pow_pos m
  have:=Nat.two_pow_pos n
  rw[Nat.mul_zero]
  exact Nat.mul_pos ‹_› ‹_›
 .exact Nat.mul_lt_mul_of_lt_of_le h1 (Nat.le_of_lt h2) (Nat.two_pow_pos n)
theorem Bd.add{m n:Nat}{q r:Rat}(h1:Bd m q)(h2:Bd n r):Bd (m+n+1) (q+r):=by
 rw[<-BJ q r]
 have d1:=den_pos q
 have d2:=den_pos r
 have a1:=dw h1.1 h2.2
 have a2:=dw h2.1 h1.2
 have a3:=dw h1.2 h2.2
 refine Bd.of (Int.mul_pos d1 d2) ?_ ?_
 .have:(q.num*(r.den:Int)+r.num*(q.den:Int)).natAbs<=q.num.natAbs*r.den+r.num.natAbs*q.den:=by
   refine Nat.le_trans (Int.natAbs_add_le _ _) ?_
   rw[Int.natAbs_mul,Int.natAbs_mul,Int.natAbs_natCast,Int.natAbs_natCast]
   exact Nat.le_refl _
  rw[Nat.add_comm n m]at a2
  rw[Nat.pow_succ]
  omega
 .rw[Int.natAbs_mul,Int.natAbs_natCast,Int.natAbs_natCast,Nat.pow_succ]
  omega
theorem Bd.neg{n:Nat}{q:Rat}(h:Bd n q):Bd n (-q):=by
 refine⟨?_,?_⟩
 .rw[Rat.neg_num,Int.natAbs_neg]
  exact h.1
 .rw[Rat.neg_den]
  exact h.2
theorem Bd.sub{m n:Nat}{q r:Rat}(h1:Bd m q)(h2:Bd n r):Bd (m+n+1) (q-r):=by
 rw[Rat.sub_eq_add_neg]
 exact h1.add h2.neg
theorem Bd.mul{m n:Nat}{q r:Rat}(h1:Bd m q)(h2:Bd n r):Bd (m+n) (q*r):=by
 rw[<-yr q r]
 refine Bd.of (Int.mul_pos (den_pos q) (den_pos r)) ?_ ?_
 .rw[Int.natAbs_mul]
  exact dw h1.1 h2.1
 .rw[Int.natAbs_mul,Int.natAbs_natCast,Int.natAbs_natCast]
  exact dw h1.2 h2.2
theorem Bd.div{m n:Nat}{q r:Rat}(h:0<r)(h1:Bd m q)(h2:Bd n r):Bd (m+n) (q/r):=by
 rw[<-vO h]
 refine Bd.of (Int.mul_pos (den_pos q) (vI h)) ?_ ?_
 .rw[Int.natAbs_mul,Int.natAbs_natCast]
  exact dw h1.1 h2.2
 .rw[Int.natAbs_mul,Int.natAbs_natCast]
  exact dw h1.2 h2.1
def Gr(D:Nat)(q:Rat):Prop:=∃n:Int,q*(D:Rat)=(n:Rat)
theorem Gr.add{D:Nat}{q r:Rat}(h1:Gr D q)(h2:Gr D r):Gr D (q+r):=by
 obtain⟨a,ha⟩:=h1
 obtain⟨b,hb⟩:=h2
 exact⟨a+b,by rw[Rat.intCast_add];grind⟩
theorem Gr.sub{D:Nat}{q r:Rat}(h1:Gr D q)(h2:Gr D r):Gr D (q-r):=by
 obtain⟨a,ha⟩:=h1
 obtain⟨b,hb⟩:=h2
 exact⟨a-b,by rw[Rat.intCast_sub];grind⟩
theorem Gr.mul{D E:Nat}{q r:Rat}(h1:Gr D q)(h2:Gr E r):Gr (D*E) (q*r):=by
 obtain⟨a,ha⟩:=h1
 obtain⟨b,hb⟩:=h2
 exact⟨a*b,by rw[Rat.intCast_mul,Rat.natCast_mul];grind⟩
theorem Gr.int(D:Nat)(n:Int):Gr D (n:Rat):=⟨n*D,by rw[Rat.intCast_mul];rfl⟩
theorem Gr.zero(D:Nat):Gr D 0:=Gr.int D 0
theorem Gr.one(D:Nat):Gr D 1:=Gr.int D 1
theorem Gr.imul{D:Nat}{q:Rat}(h:Gr D q)(n:Int):Gr D ((n:Rat)*q):=by
 obtain⟨a,ha⟩:=h
 exact⟨n*a,by rw[Rat.intCast_mul];grind⟩
theorem Gr.up{D E:Nat}{q:Rat}(h:Gr D q):Gr (D*E) q:=by
 obtain⟨a,ha⟩:=h
 exact⟨a*E,by rw[Rat.intCast_mul,Rat.natCast_mul,<-ha];show _=_*((E:Int):Rat);rw[Rat.intCast_natCast];grind⟩
theorem Gr.up'{D E:Nat}{q:Rat}(h:Gr E q):Gr (D*E) q:=by
 rw[Nat.mul_comm]
 exact h.up
theorem sX{D:Nat}(h:0<D):(D:Rat)≠0:=by
 intro z
 have:=Rat.natCast_inj.mp (show(D:Rat)=((0:Nat):Rat)from z)
 omega
theorem cQ{D:Nat}(h:0<D):(0:Rat)<(D:Rat):=by
 have:=Rat.natCast_lt_natCast.mpr h
 exact this
theorem Gr.bd{D n:Nat}{q:Rat}(h:Gr D q)(hD:0<D)(h0:0<=q){m:Nat}(hm:q<=(m:Rat))(hs:m*D<2^n)(hs2:D<2^n):Bd n q:=by
 obtain⟨a,ha⟩:=h
 have e:q=((a:Rat)/((D:Int):Rat)):=by
  rw[Rat.intCast_natCast,<-ha]
  have:=sX hD
  grind
 have p:=cQ hD
 rw[e]
 refine Bd.of (by omega) ?_ (by rw[Int.natAbs_natCast];exact hs2)
 have a0:0<=a:=by
  have:(0:Rat)<=(a:Rat):=by
   rw[<-ha]
   exact Rat.mul_nonneg h0 (Rat.le_of_lt p)
  exact Rat.intCast_le_intCast.mp this
 have a1:a<=((m*D:Nat):Int):=by
  have:(a:Rat)<=((m*D:Nat):Int):=by
   rw[<-ha,Rat.intCast_natCast,Rat.natCast_mul]
   exact Rat.mul_le_mul_of_nonneg_right hm (Rat.le_of_lt p)
  exact Rat.intCast_le_intCast.mp this
 omega
end FK
namespace FK
abbrev aA:=List (Rat×Int)
def A:Rat->aA->Rat->Rat
 |_,[],_=>0
 |b,(e,w)::S,x=>(w:Rat)*(max b (min e x)-b)+A e S x
def endOf:Rat->aA->Rat
 |b,[]=>b
 |_,(e,_)::S=>endOf e S
def eV:Rat->aA->Prop
 |_,[]=>True
 |b,(e,w)::S=>b<e/\0<w/\eV e S
theorem yx:∀(b:Rat)(S:aA)(e:Rat)(w:Int)(x:Rat),A b (S++[(e,w)]) x=A b S x+(w:Rat)*(max (endOf b S) (min e x)-endOf b S)
 |b,[],e,w,x=>by
  show(w:Rat)*(max b (min e x)-b)+0=0+(w:Rat)*(max b (min e x)-b)
  grind
 |b,(e',w')::S,e,w,x=>by
  show(w':Rat)*(max b (min e' x)-b)+A e' (S++[(e,w)]) x=(w':Rat)*(max b (min e' x)-b)+A e' S x+(w:Rat)*(max (endOf e' S) (min e x)-endOf e' S)
  rw[yx e' S e w x]
  grind
theorem iz:∀(b:Rat)(S:aA)(e:Rat)(w:Int),endOf b (S++[(e,w)])=e
 |_,[],_,_=>rfl
 |_,(e',_)::S,e,w=>iz e' S e w
theorem Cy{w:Int}(h:0<w):(0:Rat)<(w:Rat):=Rat.intCast_pos.mpr h
theorem eV.le:∀{b:Rat}{S:aA},eV b S->b<=endOf b S
 |b,[],_=>Rat.le_refl
 |b,(e,w)::S,h=>Rat.le_trans (Rat.le_of_lt h.1) (eV.le h.2.2)
theorem Hj{w x y:Rat}(hw:0<w)(h:x<=y):w*x<=w*y:=Rat.mul_le_mul_of_nonneg_left h (Rat.le_of_lt hw)
theorem qi{w x y:Rat}(hw:0<w)(h:x<y):w*x<w*y:=Rat.mul_lt_mul_of_pos_left h hw
theorem jA:∀{b:Rat}{S:aA}{x:Rat},eV b S->x<=b->A b S x=0
 |b,[],x,_,_=>rfl
 |b,(e,w)::S,x,h,hx=>by
  show(w:Rat)*(max b (min e x)-b)+A e S x=0
  have h1:b<e:=h.1
  rw[jA h.2.2 (by grind),show max b (min e x)=b by grind]
  grind
theorem pK:∀{b:Rat}{S:aA}{x y:Rat},eV b S->x<=y->A b S x<=A b S y
 |b,[],x,y,_,_=>Rat.le_refl
 |b,(e,w)::S,x,y,h,hx=>by
  have h1:=pK (x:=x) (y:=y) h.2.2 hx
  have h2:=Hj (Cy h.2.1) (x:=max b (min e x)-b) (y:=max b (min e y)-b) (by grind)
  show(w:Rat)*(max b (min e x)-b)+A e S x<=(w:Rat)*(max b (min e y)-b)+A e S y
  grind
theorem Fb{b:Rat}{S:aA}{x:Rat}(h:eV b S):0<=A b S x:=by
 rcases Rat.le_total (a:=x) (b:=b)with z|z
 .rw[jA h z]
  exact Rat.le_refl
 .have:=pK (x:=b) (y:=x) h z
  rw[jA h Rat.le_refl]at this
  exact this
theorem uV:∀{b:Rat}{S:aA}{x y:Rat},eV b S->b<=x->x<y->y<=endOf b S->A b S x<A b S y
 |b,[],x,y,_,h1,h2,h3=>by
  exfalso
  have:y<=b:=h3
  grind
 |b,(e,w)::S,x,y,h,h1,h2,h3=>by
  have hw:=Cy h.2.1
  have r1:b<e:=h.1
  show(w:Rat)*(max b (min e x)-b)+A e S x<(w:Rat)*(max b (min e y)-b)+A e S y
  by_cases z:e<=x
  .have:=uV (x:=x) (y:=y) h.2.2 z h2 h3
   rw[show max b (min e x)=e by grind,show max b (min e y)=e by grind]
   grind
  .have m1:=pK (x:=x) (y:=y) h.2.2 (Rat.le_of_lt h2)
   have m2:=qi hw (x:=max b (min e x)-b) (y:=max b (min e y)-b) (by grind)
   grind
def uq(x y:Rat):Rat:=if x<y then y-x else x-y
def ue(p q:Rat×Rat)(u:Rat):Prop:=¬(p.2<u/\q.2<u)/\¬(u<p.2/\u<q.2)
instance(p q:Rat×Rat)(u:Rat):Decidable (ue p q u):=inferInstanceAs (Decidable (_/\_))
def pW(p q:Rat×Rat)(u:Rat):Rat:=if p.2=u then p.1 else p.1+(q.1-p.1)*(uq p.2 u/uq p.2 q.2)
def fO:List (Rat×Rat)->Rat->Option Rat
 |p::q::L,u=>if ue p q u then some (pW p q u)else fO (q::L) u
 |_,_=>none
def hl:Rat->Rat->aA->List (Rat×Rat)
 |b,h,[]=>[(b,h)]
 |b,h,(e,w)::S=>(b,h)::hl e (h+(e-b)*(w:Rat)) S
theorem qZ:∀(b h:Rat)(S:aA),∃T,hl b h S=(b,h)::T
 |b,h,[]=>⟨[],rfl⟩
 |b,h,(e,w)::S=>⟨_,rfl⟩
theorem ji:∀(b h:Rat)(S:aA),(hl b h S).length=S.length+1
 |b,h,[]=>rfl
 |b,h,(e,w)::S=>by
  show(hl e _ S).length+1=S.length+1+1
  rw[ji]
theorem Bk:∀(b h:Rat)(S:aA)(e:Rat)(w:Int),eV b S->hl b h (S++[(e,w)])=hl b h S++[(e,h+A b S (endOf b S)+(e-endOf b S)*(w:Rat))]
 |b,h,[],e,w,_=>by
  show[(b,h),(e,h+(e-b)*(w:Rat))]=[(b,h),(e,h+0+(e-b)*(w:Rat))]
  rw[show h+0=h by grind]
 |b,h,(e',w')::S,e,w,r=>by
  show(b,h)::hl e' (h+(e'-b)*(w':Rat)) (S++[(e,w)])=(b,h)::(hl e' (h+(e'-b)*(w':Rat)) S++[(e,h+((w':Rat)*(max b (min e' (endOf e' S))-b)+A e' S (endOf e' S))+(e-endOf e' S)*(w:Rat))])
  have h1:=eV.le r.2.2
  have h2:=r.1
  rw[Bk e' _ S e w r.2.2,show max b (min e' (endOf e' S))=e' by grind]
  congr 4
  grind
theorem Bj:∀(b h:Rat)(S:aA),eV b S->(hl b h S).getLast? =some (endOf b S,h+A b S (endOf b S))
 |b,h,[],_=>by
  show some (b,h)=some (b,h+0)
  rw[show h+0=h by grind]
 |b,h,(e,w)::S,r=>by
  obtain⟨T,hT⟩:=qZ e (h+(e-b)*(w:Rat)) S
  have ih:=Bj e (h+(e-b)*(w:Rat)) S r.2.2
  have h1:=eV.le r.2.2
  have h2:=r.1
  show((b,h)::hl e (h+(e-b)*(w:Rat)) S).getLast? =some (endOf e S,h+((w:Rat)*(max b (min e (endOf e S))-b)+A e S (endOf e S)))
  rw[hT]at ih ⊢
  rw[List.getLast?_cons_cons,ih,show max b (min e (endOf e S))=e by grind]
  congr 2
  grind
theorem Ib:∀{b h c x:Rat}{S:aA},eV b S->0<c->S≠[]->b<=x->x<=endOf b S->fO ((hl b h S).map fun z=>(z.2/c,z.1)) x=some ((h+A b S x)/c)
 |b,h,c,x,[],_,_,n,_,_=>absurd rfl n
 |b,h,c,x,(e,w)::S,r,hc,_,h1,h2=>by
  obtain⟨T,hT⟩:=qZ e (h+(e-b)*(w:Rat)) S
  have ih:= @Ib e (h+(e-b)*(w:Rat)) c x S r.2.2 hc
  have r1:b<e:=r.1
  have hw:=Cy r.2.1
  show fO (((b,h)::hl e (h+(e-b)*(w:Rat)) S).map fun z=>(z.2/c,z.1)) x=some ((h+((w:Rat)*(max b (min e x)-b)+A e S x))/c)
  rw[hT]at ih ⊢
  show(if ue (h/c,b) ((h+(e-b)*(w:Rat))/c,e) x then some (pW (h/c,b) ((h+(e-b)*(w:Rat))/c,e) x)else fO (((e,h+(e-b)*(w:Rat))::T).map fun z=>(z.2/c,z.1)) x)=_
  have cn:c≠0:=by grind
  by_cases hx:x<=e
  .rw[if_pos (by unfold ue;grind),jA r.2.2 hx]
   congr 1
   unfold pW uq
   simp only
   by_cases hb:b=x
   .rw[if_pos hb,show max b (min e x)=b by grind]
    grind
   .rw[if_neg hb,if_pos (by grind),if_pos r1,show max b (min e x)=x by grind]
    have:e-b≠0:=by grind
    grind
  .have hS:S≠[]:=by
    intro z
    subst z
    have:x<=e:=h2
    exact hx this
   rw[if_neg (by unfold ue;grind),ih hS (by grind) h2,show max b (min e x)=e by grind]
   congr 2
   grind
theorem zH:∀{b h c y:Rat}{S:aA},eV b S->0<c->S≠[]->h<=y*c->y*c<=h+A b S (endOf b S)->
  ∃x,fO ((hl b h S).map fun z=>(z.1,z.2/c)) y=some x/\b<=x/\x<=endOf b S/\h+A b S x=y*c/\∃p∈hl b h S,∃e w,(e,w)∈S/\x=p.1+(y*c-p.2)/(w:Rat)
 |b,h,c,y,[],_,_,n,_,_=>absurd rfl n
 |b,h,c,y,(e,w)::S,r,hc,_,h1,h2=>by
  obtain⟨T,hT⟩:=qZ e (h+(e-b)*(w:Rat)) S
  have ih:= @zH e (h+(e-b)*(w:Rat)) c y S r.2.2 hc
  have r1:b<e:=r.1
  have rl:=eV.le r.2.2
  have hw:=Cy r.2.1
  have cn:c≠0:=by grind
  have wn:(w:Rat)≠0:=by grind
  have en:e-b≠0:=by grind
  have d1:h/c<=y:=by
   have:=(Rat.div_lt_iff (a:=y*c) (b:=c) (c:=h/c) hc)
   have e1:y*c/c=y:=by grind
   have e2:h/c*c=h:=by grind
   rw[e1,e2]at this
   grind
  have dd:∀z:Rat,z/c<y↔z<y*c:=fun z=>Rat.div_lt_iff hc
  have dg:∀z:Rat,y<z/c↔y*c<z:=fun z=>Rat.lt_div_iff hc
  show ∃x,fO (((b,h)::hl e (h+(e-b)*(w:Rat)) S).map fun z=>(z.1,z.2/c)) y=some x/\b<=x/\x<=endOf e S/\h+((w:Rat)*(max b (min e x)-b)+A e S x)=y*c/\∃p∈(b,h)::hl e (h+(e-b)*(w:Rat)) S,∃e' w',(e',w')∈(e,w)::S/\x=p.1+(y*c-p.2)/(w':Rat)
  have go:∀U,fO ((b,h/c)::(e,(h+(e-b)*(w:Rat))/c)::U) y=if ue (b,h/c) (e,(h+(e-b)*(w:Rat))/c) y then some (pW (b,h/c) (e,(h+(e-b)*(w:Rat))/c) y)else fO ((e,(h+(e-b)*(w:Rat))/c)::U) y:=fun _=>rfl
  by_cases hx:y*c<=h+(e-b)*(w:Rat)
  .have q1:(0:Rat)<=(y*c-h)/(w:Rat):=by
    have:=(Rat.div_lt_iff (a:=y*c-h) (b:=(w:Rat)) (c:=0) hw)
    grind
   have q2:(y*c-h)/(w:Rat)<=e-b:=by
    have:=(Rat.lt_div_iff (a:=e-b) (b:=y*c-h) (c:=(w:Rat)) hw)
    grind
   refine⟨b+(y*c-h)/(w:Rat),?_,?_,?_,?_,(b,h),List.mem_cons_self,e,w,List.mem_cons_self,rfl⟩
   .rw[hT]
    show fO ((b,h/c)::(e,(h+(e-b)*(w:Rat))/c)::_) y=_
    rw[go,if_pos (by unfold ue;grind)]
    congr 1
    unfold pW uq
    simp only
    by_cases hb:h/c=y
    .rw[if_pos hb]
     grind
    .rw[if_neg hb,if_pos (by grind)]
     have:h/c<(h+(e-b)*(w:Rat))/c:=by
      have:=(Rat.lt_div_iff (a:=h/c) (b:=h+(e-b)*(w:Rat)) hc).mpr (by
       have e2:h/c*c=h:=by grind
       have:=Rat.mul_pos (a:=e-b) (b:=(w:Rat)) (by grind) hw
       grind)
      exact this
     rw[if_pos this]
     have n1:(h+(e-b)*(w:Rat))/c-h/c≠0:=by grind
     have n2:(h+(e-b)*(w:Rat))/c-h/c=(e-b)*(w:Rat)/c:=by grind
     rw[n2]
     grind
   .grind
   .grind
   .rw[show max b (min e (b+(y*c-h)/(w:Rat)))=b+(y*c-h)/(w:Rat)by grind,jA r.2.2 (by grind)]
    grind
  .have hx':h+(e-b)*(w:Rat)<y*c:=by grind
   have hS:S≠[]:=by
    intro z
    subst z
    have h2':y*c<=h+((w:Rat)*(max b (min e e)-b)+0):=h2
    rw[show max b (min e e)=e by grind]at h2'
    grind
   have h2':y*c<=h+((w:Rat)*(max b (min e (endOf e S))-b)+A e S (endOf e S)):=h2
   rw[show max b (min e (endOf e S))=e by grind]at h2'
   obtain⟨x,e1,e2,e3,e4,p,hp,e',w',hm,ex⟩:=ih hS (by grind) (by grind)
   refine⟨x,?_,by grind,e3,?_,p,List.mem_cons_of_mem _ hp,e',w',List.mem_cons_of_mem _ hm,ex⟩
   .rw[hT]at e1 ⊢
    show fO ((b,h/c)::(e,(h+(e-b)*(w:Rat))/c)::_) y=_
    rw[go,if_neg (by
     have d3:=(dd h).mpr (by have:=Rat.mul_pos (a:=e-b) (b:=(w:Rat)) (by grind) hw;grind)
     have d4:=(dd (h+(e-b)*(w:Rat))).mpr hx'
     unfold ue
     exact fun z=>z.1 ⟨d3,d4⟩)]
    exact e1
   .rw[show max b (min e x)=e by grind]
    grind
end FK
namespace FK
theorem lY:∀{b:Rat}{S:aA}{i:Nat}{z:Rat×Int},eV b S->S[i]? =some z->endOf b (S.take i)<z.1/\0<z.2
 |b,[],i,z,_,h=>by simp at h
 |b,(e,w)::S,0,z,r,h=>by
  have h':(e,w)=z:=by simpa using h
  subst h'
  exact⟨r.1,r.2.1⟩
 |b,(e,w)::S,i+1,z,r,h=>by
  have h':S[i]? =some z:=by simpa using h
  show endOf e (S.take i)<z.1/\0<z.2
  exact lY r.2.2 h'
theorem gZ:∀{b:Rat}{S:aA}(i:Nat),eV b S->eV b (S.take i)
 |b,[],i,_=>by rw[List.take_nil];trivial
 |b,(e,w)::S,0,r=>trivial
 |b,(e,w)::S,i+1,r=>⟨r.1,r.2.1,gZ i r.2.2⟩
theorem take_snoc{α:Type}{L:List α}{i:Nat}{z:α}(h:L[i]? =some z):L.take (i+1)=L.take i++[z]:=by
 rw[List.take_succ,h]
 rfl
theorem yz:∀{b:Rat}{S:aA}(i:Nat),eV b S->A b (S.take i) (endOf b (S.take i))=A b S (endOf b (S.take i))
 |b,[],i,_=>by rw[List.take_nil]
 |b,(e,w)::S,0,r=>by
  show 0=A b ((e,w)::S) b
  exact(jA r Rat.le_refl).symm
 |b,(e,w)::S,i+1,r=>by
  show(w:Rat)*(max b (min e (endOf e (S.take i)))-b)+A e (S.take i) (endOf e (S.take i))=(w:Rat)*(max b (min e (endOf e (S.take i)))-b)+A e S (endOf e (S.take i))
  rw[yz i r.2.2]
theorem qM:∀{b:Rat}{S:aA}(i:Nat),eV b S->endOf b (S.take i)<=endOf b S
 |b,[],i,_=>by rw[List.take_nil];exact Rat.le_refl
 |b,(e,w)::S,0,r=>eV.le r
 |b,(e,w)::S,i+1,r=>qM i r.2.2
theorem Oq:∀{b:Rat}{S:aA}{x M:Rat},eV b S->0<=M->(∀z∈S,(z.2:Rat)<=M)->b<=x->A b S x<=M*(x-b)
 |b,[],x,M,_,h0,hM,hx=>by
  show(0:Rat)<=M*(x-b)
  exact Rat.mul_nonneg h0 (by grind)
 |b,(e,w)::S,x,M,r,h0,hM,hx=>by
  have r1:b<e:=r.1
  have hw:(w:Rat)<=M:=hM (e,w) List.mem_cons_self
  show(w:Rat)*(max b (min e x)-b)+A e S x<=M*(x-b)
  by_cases z:x<=e
  .rw[jA r.2.2 z,show max b (min e x)=x by grind]
   have:=Rat.mul_le_mul_of_nonneg_right hw (show(0:Rat)<=x-b by grind)
   grind
  .have ih:=Oq (x:=x) r.2.2 h0 (fun z hz=>hM z (List.mem_cons_of_mem _ hz)) (by grind)
   have:=Rat.mul_le_mul_of_nonneg_right hw (show(0:Rat)<=e-b by grind)
   rw[show max b (min e x)=e by grind]
   grind
theorem vC:∀{b h:Rat}{S:aA}{i:Nat},eV b S->i<=S.length->(hl b h S)[i]? =some (endOf b (S.take i),h+A b S (endOf b (S.take i)))
 |b,h,[],i,_,hi=>by
  have:i=0:=by simpa using hi
  subst this
  show some (b,h)=some (b,h+0)
  rw[show h+0=h by grind]
 |b,h,(e,w)::S,0,r,_=>by
  show some (b,h)=some (b,h+A b ((e,w)::S) b)
  rw[jA r Rat.le_refl,show h+0=h by grind]
 |b,h,(e,w)::S,i+1,r,hi=>by
  have r1:b<e:=r.1
  have hi':i<=S.length:=by simpa using hi
  have l1:=eV.le (gZ i r.2.2)
  show(hl e (h+(e-b)*(w:Rat)) S)[i]? =some (endOf e (S.take i),h+((w:Rat)*(max b (min e (endOf e (S.take i)))-b)+A e S (endOf e (S.take i))))
  rw[vC r.2.2 hi',show max b (min e (endOf e (S.take i)))=e by grind]
  congr 2
  grind
theorem Gy{b h:Rat}{S:aA}{i:Nat}{z:Rat×Rat}(r:eV b S)(e:(hl b h S)[i]? =some z):i<=S.length/\z=(endOf b (S.take i),h+A b S (endOf b (S.take i))):=by
 have l:=(List.getElem?_eq_some_iff.mp e).1
 rw[ji]at l
 have hi:i<=S.length:=by omega
 rw[vC r hi]at e
 exact⟨hi,(Option.some.inj e).symm⟩
theorem Gr.mx{D:Nat}{a b:Rat}(h1:Gr D a)(h2:Gr D b):Gr D (max a b):=by
 by_cases h:a<=b
 .rw[show max a b=b by grind];exact h2
 .rw[show max a b=a by grind];exact h1
theorem Gr.mn{D:Nat}{a b:Rat}(h1:Gr D a)(h2:Gr D b):Gr D (min a b):=by
 by_cases h:a<=b
 .rw[show min a b=a by grind];exact h1
 .rw[show min a b=b by grind];exact h2
theorem jL:∀{D:Nat}{b:Rat}{S:aA}{x:Rat},Gr D b->(∀z∈S,Gr D z.1)->Gr D x->Gr D (A b S x)
 |D,b,[],x,_,_,_=>Gr.zero D
 |D,b,(e,w)::S,x,hb,hS,hx=>by
  have he:=hS (e,w) List.mem_cons_self
  exact Gr.add (Gr.imul (Gr.sub (hb.mx (he.mn hx)) hb) w) (jL he (fun z hz=>hS z (List.mem_cons_of_mem _ hz)) hx)
theorem Gm:∀{D:Nat}{b:Rat}{S:aA},Gr D b->(∀z∈S,Gr D z.1)->Gr D (endOf b S)
 |D,b,[],hb,_=>hb
 |D,b,(e,w)::S,_,hS=>Gm (b:=e) (S:=S) (hS (e,w) List.mem_cons_self) fun z hz=>hS z (List.mem_cons_of_mem _ hz)
structure aX(p:Nat)(S:aA):Prop where
 pos:0<p
 few:p<=1000
 ne:S≠[]
 len:S.length<=8
 rise:eV 0 S
 top:endOf 0 S=1
 gr:∀z∈S,Gr p z.1
 w:∀z∈S,z.2<=1000
def tot(S:aA):Rat:=A 0 S 1
def F(S:aA)(x:Rat):Rat:=A 0 S x/tot S
section
variable {p:Nat} {S:aA}
theorem aX.tp(h:aX p S):0<tot S:=by
 have:=uV (x:=0) (y:=1) h.rise Rat.le_refl (by decide) (by rw[h.top];exact Rat.le_refl)
 rw[jA h.rise Rat.le_refl]at this
 exact this
theorem aX.up(h:aX p S){x:Rat}(h0:0<=x)(h1:x<=1):A 0 S x<=1000:=by
 have:=Oq (x:=x) (M:=1000) h.rise (by decide) (fun z hz=>by
  have:=Rat.intCast_le_intCast.mpr (h.w z hz)
  exact this) h0
 grind
theorem aX.tg(h:aX p S):Gr p (tot S):=jL (Gr.zero p) h.gr (Gr.one p)
theorem aX.num(h:aX p S):∃N:Nat,0<N/\N<=1000*p/\tot S*(p:Rat)=(N:Rat):=by
 obtain⟨n,hn⟩:=h.tg
 have pp:=cQ h.pos
 have q:=Rat.mul_pos h.tp pp
 rw[hn]at q
 have n0:0<n:=Rat.intCast_pos.mp q
 have u:=Rat.mul_le_mul_of_nonneg_right (h.up (x:=1) (by decide) Rat.le_refl) (Rat.le_of_lt pp)
 have u':(n:Rat)<=((1000*p:Nat):Int):=by
  rw[<-hn,Rat.intCast_natCast,Rat.natCast_mul]
  exact u
 have n1:=Rat.intCast_le_intCast.mp u'
 refine⟨n.toNat,by omega,by omega,?_⟩
 rw[hn,<-Rat.intCast_natCast]
 congr 1
 omega
theorem ie(h:aX p S)(x:Rat):0<=F S x:=by
 unfold F
 have a:=Fb (x:=x) h.rise
 have t:=h.tp
 have:=(Rat.div_lt_iff (a:=A 0 S x) (b:=tot S) (c:=0) t)
 grind
theorem dF(h:aX p S){x y:Rat}(e:x<=y):F S x<=F S y:=by
 unfold F
 have t:=h.tp
 have a:=pK (x:=x) (y:=y) h.rise e
 have:=(Rat.div_lt_iff (a:=A 0 S y) (b:=tot S) (c:=A 0 S x/tot S) t)
 have e2:A 0 S x/tot S*tot S=A 0 S x:=by grind
 rw[e2]at this
 grind
theorem iT(h:aX p S){x y:Rat}(h0:0<=x)(e:x<y)(h1:y<=1):F S x<F S y:=by
 unfold F
 have t:=h.tp
 have a:=uV (x:=x) (y:=y) h.rise h0 e (by rw[h.top];exact h1)
 refine(Rat.div_lt_iff t).mpr ?_
 have e2:A 0 S y/tot S*tot S=A 0 S y:=by grind
 rw[e2]
 exact a
theorem cX(h:aX p S):F S 0=0:=by
 unfold F
 rw[jA h.rise Rat.le_refl]
 grind
theorem fY(h:aX p S):F S 1=1:=by
 have:=h.tp
 show tot S/tot S=1
 grind
theorem qR(h:aX p S){x:Rat}(h1:x<=1):F S x<=1:=by
 have:=dF h h1
 rw[fY h]at this
 exact this
theorem pM(h:aX p S){N D:Nat}(hN:tot S*(p:Rat)=(N:Rat)){x:Rat}(hx:Gr D x):Gr (D*N) (F S x):=by
 obtain⟨n,hn⟩:=jL (D:=D*p) (b:=0) (S:=S) (x:=x) (Gr.zero _) (fun z hz=>(h.gr z hz).up') hx.up
 have t:=h.tp
 refine⟨n,?_⟩
 rw[<-hn,Rat.natCast_mul,Rat.natCast_mul,<-hN]
 unfold F
 grind
theorem Fd(h:aX p S){D n:Nat}{x:Rat}(hx:Gr D x)(hD:0<D)(h1:x<=1)(hs:D*1000000<2^n):Bd n (F S x):=by
 obtain⟨N,n0,n1,hN⟩:=h.num
 have f:=h.few
 have:D*N<=D*1000000:=Nat.mul_le_mul_left _ (by omega)
 exact(pM h hN hx).bd (Nat.mul_pos hD n0) (ie h x) (m:=1) (by rw[show((1:Nat):Rat)=1 from rfl];exact qR h h1) (by omega) (by omega)
def wl(S:aA):List (Rat×Rat):=(hl 0 0 S).map fun z=>(z.1,z.2/tot S)
def Ol(S:aA):List (Rat×Rat):=(hl 0 0 S).map fun z=>(z.2/tot S,z.1)
theorem dz(x:Rat):0+x=x:=by grind
theorem MT(h:aX p S){x:Rat}(h0:0<=x)(h1:x<=1):fO (Ol S) x=some (F S x):=by
 have:=Ib (h:=0) (x:=x) h.rise h.tp h.ne h0 (by rw[h.top];exact h1)
 rw[dz]at this
 exact this
theorem fL(h:aX p S){i:Nat}{z:Rat×Rat}(e:(wl S)[i]? =some z):i<=S.length/\z=(endOf 0 (S.take i),F S (endOf 0 (S.take i))):=by
 unfold wl at e
 rw[List.getElem?_map]at e
 cases q:(hl 0 0 S)[i]? with
 |none=>rw[q]at e;cases e
 |some y=>
  rw[q]at e
  obtain⟨a,b⟩:=Gy h.rise q
  subst b
  refine⟨a,?_⟩
  rw[<-Option.some.inj e,dz]
  rfl
theorem gD(h:aX p S)(i:Nat):0<=endOf 0 (S.take i):=eV.le (gZ i h.rise)
theorem sH(h:aX p S)(i:Nat):endOf 0 (S.take i)<=1:=by
 have:=qM i h.rise
 rw[h.top]at this
 exact this
theorem qL(h:aX p S)(i:Nat):Gr p (endOf 0 (S.take i)):=Gm (Gr.zero p) fun z hz=>h.gr z (List.mem_of_mem_take hz)
theorem jR(h:aX p S)(i:Nat):Bd 10 (endOf 0 (S.take i)):=by
 have f:=h.few
 exact(qL h i).bd h.pos (gD h i) (m:=1) (by rw[show((1:Nat):Rat)=1 from rfl];exact sH h i) (by omega) (by omega)
theorem Bb(h:aX p S)(i:Nat):Bd 30 (F S (endOf 0 (S.take i))):=by
 have f:=h.few
 exact Fd h (qL h i) h.pos (sH h i) (by omega)
theorem oM(h:aX p S){i:Nat}(hi:i+1<=S.length):endOf 0 (S.take i)<endOf 0 (S.take (i+1)):=by
 obtain⟨a,_⟩:=lY (i:=i) (z:=S[i]) h.rise (List.getElem?_eq_getElem (by omega))
 rw[take_snoc (z:=S[i]) (List.getElem?_eq_getElem (by omega))]
 rw[show S[i]=(S[i].1,S[i].2)from rfl,iz]
 exact a
end
end FK
namespace FK
def Wo(S:aA):List (Rat×Rat)->Rat
 |[]=>0
 |p::L=>(F S p.2-F S p.1)+Wo S L
theorem Aj(S:aA):∀(L:List (Rat×Rat))(p:Rat×Rat),Wo S (L++[p])=Wo S L+(F S p.2-F S p.1)
 |[],p=>by
  show(F S p.2-F S p.1)+0=0+(F S p.2-F S p.1)
  grind
 |q::L,p=>by
  show(F S q.2-F S q.1)+Wo S (L++[p])=(F S q.2-F S q.1)+Wo S L+(F S p.2-F S p.1)
  rw[Aj S L p]
  grind
theorem Np{p:Nat}{S:aA}(h:aX p S){N D:Nat}(hN:tot S*(p:Rat)=(N:Rat)):∀{L:List (Rat×Rat)},(∀q∈L,Gr D q.1/\Gr D q.2)->Gr (D*N) (Wo S L)
 |[],_=>Gr.zero _
 |q::L,hL=>by
  have g:=hL q List.mem_cons_self
  exact Gr.add (Gr.sub (pM h hN g.2) (pM h hN g.1)) (Np h hN fun z hz=>hL z (List.mem_cons_of_mem _ hz))
theorem Nr{p:Nat}{S:aA}(h:aX p S):∀{L:List (Rat×Rat)},(∀q∈L,q.1<=q.2)->0<=Wo S L
 |[],_=>Rat.le_refl
 |q::L,hL=>by
  have g:=dF h (hL q List.mem_cons_self)
  have:=Nr h fun z hz=>hL z (List.mem_cons_of_mem _ hz)
  show 0<=(F S q.2-F S q.1)+Wo S L
  grind
theorem Nq{p:Nat}{S:aA}(h:aX p S):∀{L:List (Rat×Rat)}{a:Rat},(∀q∈L,a<=q.1/\q.1<=q.2/\q.2<=1)->a<=1->L.Pairwise (fun x y=>x.2<=y.1)->Wo S L<=1-F S a
 |[],a,_,ha,_=>by
  have:=qR h ha
  show(0:Rat)<=1-F S a
  grind
 |q::L,a,hw,ha,hp=>by
  have w:=hw q List.mem_cons_self
  have pc:=List.pairwise_cons.mp hp
  have ih:=Nq (a:=q.2) h (L:=L) (fun z hz=>⟨pc.1 z hz,(hw z (List.mem_cons_of_mem _ hz)).2⟩) w.2.2 pc.2
  have m:=dF h w.1
  show(F S q.2-F S q.1)+Wo S L<=1-F S a
  grind
theorem Dc{b e lo hi:Rat}{w:Int}(hb:b<e)(hl:lo<=hi):
  (w:Rat)*(max b (min e hi)-b)-(w:Rat)*(max b (min e lo)-b)=if(if b<lo then lo else b)<(if hi<e then hi else e)then((if hi<e then hi else e)-(if b<lo then lo else b))*(w:Rat)else 0:=by
 have:max b (min e hi)-max b (min e lo)=if(if b<lo then lo else b)<(if hi<e then hi else e)then(if hi<e then hi else e)-(if b<lo then lo else b)else 0:=by grind
 have e1:(w:Rat)*(max b (min e hi)-b)-(w:Rat)*(max b (min e lo)-b)=(w:Rat)*(max b (min e hi)-max b (min e lo)):=by grind
 rw[e1,this]
 split<;>grind
end FK
namespace FK
theorem oY{n:Nat}(hn:0<n){a b:Int}(h:a<b):(a:Rat)/(n:Rat)<(b:Rat)/(n:Rat):=by
 have p:=cQ hn
 refine(Rat.div_lt_iff p).mpr ?_
 have e:(b:Rat)/(n:Rat)*(n:Rat)=(b:Rat):=by grind
 rw[e]
 exact Rat.intCast_lt_intCast.mpr h
theorem oX{n:Nat}(hn:0<n)(a:Int):Gr n ((a:Rat)/(n:Rat)):=⟨a,by
 have:=sX hn
 grind⟩
theorem Hk{n:Nat}(hn:0<n){a:Int}(h:a<=n):(a:Rat)/(n:Rat)<=1:=by
 have p:=cQ hn
 have:=(Rat.lt_div_iff (a:=1) (b:=(a:Rat)) (c:=(n:Rat)) p)
 have h':=Rat.intCast_le_intCast.mpr h
 rw[Rat.intCast_natCast]at h'
 grind
theorem sY{n:Nat}(hn:0<n):(((n:Nat):Int):Rat)/(n:Rat)=1:=by
 have:=sX hn
 rw[Rat.intCast_natCast]
 grind
def fG(n:Nat)(es:List Int)(S:aA):Prop:=S.map Prod.fst=es.map (fun(e:Int)=>(e:Rat)/(n:Rat))/\∀z∈S,0<z.2/\z.2<=1000
theorem fG.nil(n:Nat):fG n [] []:=⟨rfl,fun _ h=>nomatch h⟩
theorem fG.snoc{n:Nat}{es:List Int}{S:aA}(h:fG n es S){e w:Int}(h0:0<w)(h1:w<=1000):fG n (es++[e]) (S++[((e:Rat)/(n:Rat),w)]):=by
 refine⟨by rw[List.map_append,List.map_append,h.1];rfl,fun z hz=>?_⟩
 rcases List.mem_append.mp hz with q|q
 .exact h.2 z q
 .rw[List.mem_singleton.mp q]
  exact⟨h0,h1⟩
theorem fG.rise{n:Nat}(hn:0<n):∀{es:List Int}{S:aA}{b:Int},fG n es S->(b::es).Pairwise (· < ·)->eV ((b:Rat)/(n:Rat)) S
 |[],[],b,_,_=>trivial
 |[],z::S,b,h,_=>by cases h.1
 |e::es,[],b,h,_=>by cases h.1
 |e::es,(x,w)::S,b,h,hp=>by
  obtain⟨h1,h2⟩:=h
  injection h1 with e1 e2
  have pc:=List.pairwise_cons.mp hp
  have ex:x=(e:Rat)/(n:Rat):=e1
  refine⟨?_,(h2 (x,w) List.mem_cons_self).1,?_⟩
  .rw[ex]
   exact oY hn (pc.1 e List.mem_cons_self)
  .rw[ex]
   exact fG.rise hn ⟨e2,fun z hz=>h2 z (List.mem_cons_of_mem _ hz)⟩ pc.2
theorem fG.ts{n:Nat}{es:List Int}{S:aA}(h2n:0<n)(hn:n<=1000)(h:fG n (es++[(n:Int)]) S)(hl:es.length<=7)(hp:(0::(es++[(n:Int)])).Pairwise (· < ·)):aX n S:=by
 have len:S.length=es.length+1:=by
  have:=congrArg List.length h.1
  simpa using this
 have ne:S≠[]:=fun z=>by
  rw[z]at len
  simp at len
 refine⟨h2n,hn,ne,by omega,?_,?_,fun z hz=>?_,fun z hz=>(h.2 z hz).2⟩
 .have:=fG.rise h2n h hp
  rw[show((0:Int):Rat)/(n:Rat)=0 by rw[show((0:Int):Rat)=0 from rfl];grind]at this
  exact this
 .obtain⟨S0,l,rfl⟩:∃S0 l,S=S0++[l]:=⟨S.dropLast,S.getLast ne,(List.dropLast_concat_getLast ne).symm⟩
  have h1:=h.1
  rw[List.map_append,List.map_append]at h1
  have:=List.append_inj_right' h1 rfl
  have e:l.1=(((n:Nat):Int):Rat)/(n:Rat):=by
   injection this
  rw[show l=(l.1,l.2)from rfl,iz,e,sY h2n]
 .have:z.1∈S.map Prod.fst:=List.mem_map.mpr ⟨z,hz,rfl⟩
  rw[h.1]at this
  obtain⟨e,_,q⟩:=List.mem_map.mp this
  rw[<-q]
  exact oX h2n e
theorem yd{es:List Int}(h1:es.Pairwise (· <= ·))(h2:es.Nodup):es.Pairwise (· < ·):=by
 refine List.Pairwise.imp₂ (fun a b h1 h2=>?_) h1 h2
 omega
end FK
namespace FK
def Ao(S:aA):List (Rat×Rat)->Rat
 |[]=>0
 |p::L=>(A 0 S p.2-A 0 S p.1)+Ao S L
theorem Ah(S:aA):∀(L:List (Rat×Rat))(p:Rat×Rat),Ao S (L++[p])=Ao S L+(A 0 S p.2-A 0 S p.1)
 |[],p=>by
  show(A 0 S p.2-A 0 S p.1)+0=0+(A 0 S p.2-A 0 S p.1)
  grind
 |q::L,p=>by
  show(A 0 S q.2-A 0 S q.1)+Ao S (L++[p])=(A 0 S q.2-A 0 S q.1)+Ao S L+(A 0 S p.2-A 0 S p.1)
  rw[Ah S L p]
  grind
theorem Nh{p:Nat}{S:aA}(h:aX p S):∀(L:List (Rat×Rat)),Ao S L/tot S=Wo S L
 |[]=>by
  show(0:Rat)/tot S=0
  grind
 |q::L=>by
  have ih:=Nh h L
  have t:=h.tp
  show((A 0 S q.2-A 0 S q.1)+Ao S L)/tot S=(A 0 S q.2/tot S-A 0 S q.1/tot S)+Wo S L
  rw[<-ih]
  grind
structure Fo(D:Nat)(L:List (Rat×Rat)):Prop where
 win:∀p∈L,0<=p.1/\p.1<=p.2/\p.2<=1
 gr:∀p∈L,Gr D p.1/\Gr D p.2
 few:L.length<=1000
theorem uY{p:Nat}{S:aA}(h:aX p S){a b:Rat}(hab:a<=b):0<=A 0 S b-A 0 S a:=by
 have:=pK h.rise hab
 grind
theorem Al{p:Nat}{S:aA}(h:aX p S){a b:Rat}(hb0:0<=b)(hb:b<=1):A 0 S b-A 0 S a<=1000:=by
 have:=h.up hb0 hb
 have:=Fb (x:=a) h.rise
 grind
theorem Ak{p:Nat}{S:aA}(h:aX p S){D:Nat}{a b:Rat}(ga:Gr D a)(gb:Gr D b):Gr (D*p) (A 0 S b-A 0 S a):=
 Gr.sub (jL (Gr.zero _) (fun z hz=>(h.gr z hz).up') gb.up) (jL (Gr.zero _) (fun z hz=>(h.gr z hz).up') ga.up)
theorem Nb{p:Nat}{S:aA}(h:aX p S){D:Nat}:∀{L:List (Rat×Rat)},(∀q∈L,Gr D q.1/\Gr D q.2)->Gr (D*p) (Ao S L)
 |[],_=>Gr.zero _
 |q::L,hL=>Gr.add (Ak h (hL q List.mem_cons_self).1 (hL q List.mem_cons_self).2) (Nb h fun z hz=>hL z (List.mem_cons_of_mem _ hz))
theorem Nf{p:Nat}{S:aA}(h:aX p S):∀{L:List (Rat×Rat)},(∀q∈L,q.1<=q.2)->0<=Ao S L
 |[],_=>Rat.le_refl
 |q::L,hL=>by
  have a:=uY h (hL q List.mem_cons_self)
  have:=Nf h fun z hz=>hL z (List.mem_cons_of_mem _ hz)
  show 0<=(A 0 S q.2-A 0 S q.1)+Ao S L
  grind
theorem Ng{p:Nat}{S:aA}(h:aX p S):∀{L:List (Rat×Rat)},(∀q∈L,0<=q.1/\q.1<=q.2/\q.2<=1)->Ao S L<=((1000*L.length:Nat):Rat)
 |[],_=>by
  show(0:Rat)<=((1000*0:Nat):Rat)
  exact Rat.le_refl
 |q::L,hL=>by
  have w:=hL q List.mem_cons_self
  have a:=Al h (a:=q.1) (b:=q.2) (by grind) w.2.2
  have:=Ng h (L:=L) fun z hz=>hL z (List.mem_cons_of_mem _ hz)
  show(A 0 S q.2-A 0 S q.1)+Ao S L<=((1000*(L.length+1):Nat):Rat)
  rw[show 1000*(L.length+1)=1000*L.length+1000 by omega,Rat.natCast_add]
  have e:((1000:Nat):Rat)=1000:=rfl
  grind
end FK
namespace FK
theorem Gr.div{D:Nat}{q:Rat}(h:Gr D q){w:Nat}(hw:0<w):Gr (D*w) (q/(w:Rat)):=by
 obtain⟨a,ha⟩:=h
 have:=sX hw
 exact⟨a,by rw[Rat.natCast_mul,<-ha];grind⟩
theorem Dt{p:Nat}{S:aA}(h:aX p S){z:Rat×Rat}(hz:z∈hl 0 0 S):Gr p z.1/\Gr p z.2:=by
 obtain⟨i,hi⟩:=List.mem_iff_getElem?.mp hz
 obtain⟨_,rfl⟩:=Gy h.rise hi
 exact⟨qL h i,Gr.add (Gr.zero p) (jL (Gr.zero p) h.gr (qL h i))⟩
theorem Ig:∀{b:Rat}{S:aA}{z:Rat×Int},eV b S->z∈S->0<z.2
 |b,[],z,_,h=>nomatch h
 |b,(e,w)::S,z,r,h=>by
  rcases List.mem_cons.mp h with q|q
  .rw[q];exact r.2.1
  .exact Ig r.2.2 q
theorem oJ{p:Nat}{S:aA}(h:aX p S){y:Rat}{E:Nat}(y0:0<=y)(y1:y<=1)(g:Gr (E*p) (y*tot S)):∃x,fO (wl S) y=some x/\0<=x/\x<=1/\F S x=y/\∃w:Nat,0<w/\w<=1000/\Gr (E*p*w) x:=by
 have t:=h.tp
 have a0:(0:Rat)<=y*tot S:=Rat.mul_nonneg y0 (Rat.le_of_lt t)
 have a1:y*tot S<=tot S:=by
  have:=Rat.mul_le_mul_of_nonneg_right y1 (Rat.le_of_lt t)
  grind
 obtain⟨x,e1,e2,e3,e4,q,hq,e,w,hm,ex⟩:=zH (h:=0) h.rise t h.ne a0 (by rw[h.top,dz];exact a1)
 rw[h.top]at e3
 rw[dz]at e4
 have w0:=Ig h.rise hm
 have w1:w<=1000:=h.w (e,w) hm
 have w0':0<w:=w0
 refine⟨x,e1,e2,e3,?_,w.toNat,by omega,by omega,?_⟩
 .unfold F
  rw[e4]
  grind
 .obtain⟨g1,g2⟩:=Dt h hq
  have ew:(w:Rat)=(w.toNat:Rat):=by
   rw[<-Rat.intCast_natCast]
   congr 1
   omega
  rw[ex,ew]
  exact Gr.add (g1.up' (D:=E)).up (Gr.div (Gr.sub g g2.up') (by omega))
theorem qg{p:Nat}{S:aA}(h:aX p S){a s:Rat}{D E:Nat}(a0:0<=a)(s0:0<=s)(le:F S a+s<=1)(ga:Gr D a)(gs:Gr E s):
  ∃x,fO (wl S) (F S a+s)=some x/\0<=x/\x<=1/\F S x=F S a+s/\∃w:Nat,0<w/\w<=1000/\Gr (D*E*p*w) x:=by
 have t:=h.tp
 have f0:=ie h a
 refine oJ h (by grind) le ?_
 have e:(F S a+s)*tot S=A 0 S a+s*tot S:=by
  unfold F
  grind
 rw[e]
 refine Gr.add ?_ ?_
 .have:=jL (D:=D*p) (b:=0) (S:=S) (x:=a) (Gr.zero _) (fun z hz=>(h.gr z hz).up') ga.up
  have:=this.up (E:=E)
  rw[show D*E*p=D*p*E by rw[Nat.mul_assoc,Nat.mul_comm E p,<-Nat.mul_assoc]]
  exact this
 .have:=Gr.mul gs h.tg
  have:=this.up' (D:=D)
  rw[<-Nat.mul_assoc]at this
  exact this
theorem qI{p:Nat}{S:aA}(h:aX p S){x y:Rat}(x0:0<=x)(y1:y<=1)(e:F S y<=F S x):y<=x:=by
 by_cases c:y<=x
 .exact c
 .have:=iT h (x:=x) (y:=y) x0 (by grind) y1
  grind
theorem rW{p:Nat}{S:aA}(h:aX p S){x y:Rat}(e:F S x<F S y):x<y:=by
 by_cases c:y<=x
 .have:=dF h c
  grind
 .grind
theorem qH{p:Nat}{S:aA}(h:aX p S){x y:Rat}(x0:0<=x)(x1:x<=1)(y0:0<=y)(y1:y<=1)(e:F S x=F S y):x=y:=by
 have a:=qI h (x:=x) (y:=y) x0 y1 (by grind)
 have b:=qI h (x:=y) (y:=x) y0 x1 (by grind)
 grind
end FK
namespace FK
def Ch:Rat->List (Rat×Rat)->Rat->Prop
 |a,[],b=>a=b
 |a,p::C,b=>p.1=a/\p.1<p.2/\Ch p.2 C b
end FK
namespace L2
open PySem PySem.Spec PyProof.Rows
section
variable {X:Cx} {pins:List (Addr×Obj)} {σ:St} {H:Hp} {s:Shared} {h':Heap}
theorem Inv.turnedN{t':Nat}{ch:List Addr}{T:Addr}{o:HO}(I:Inv X pins σ H s)(k:∀b o,b∉ch->s.heap.get? b=some o->h'.get? b=some o)(hf:∀b∈ch,oF X pins H b)
  (hT:s.heap.objs.size<=T)(new:cI X.prog X.w (upd H T o) h' T o):Inv X pins σ (upd H T o) {s with heap:=h',toks:=t'}:=by
 have hn:H T=none:=I.hok.fresh hT
 have nch:∀b u,H b=some u->b∉ch:=fun b u e z=>by
  rw[(hf b z).1]at e
  cases e
 refine I.step (g':=s.gens) (d':=s.drawn) (ch:=ch) (fun b hb=>?_) (fun b o _ _ hc e _=>k b o hc e) (fun b o _ _ hc e _=>⟨o.slots,k b o hc e⟩) (fun b o hc e n=>?_)
  (fun b o hc e=>⟨o,k b o hc e⟩) (fun b xs e=>by rw[aG (aM e hn)];exact e) (fun b u xs e=>by rw[aG (aM e hn)];exact e) (fun b ps e=>⟨#[],by rw[aG (aM e hn),e];simp⟩) (fun m hm=>?_) (fun b u e=>?_) I.bare
 .obtain⟨_,f1,_,f3,f4,f5⟩:=hf b hb
  exact⟨f3,f1,f4,f5⟩
 .rw[aG (Nat.ne_of_lt (Nat.lt_of_lt_of_le (Heap.lt_size e) hT))]
  exact n
 .obtain⟨o,es,ep,ho,r⟩:=hm
  exact⟨o,es,ep,k _ o (fun z=>(hf _ z).2.1 rfl) ho,r⟩
 .by_cases hb:b=T
  .subst hb
   rw[az]at e
   cases e
   exact new
  .rw[aG hb]at e
   refine(I.hok b u e).stay (fun c v hc q=>k c v ?_ q) (fun c q=>by rw[aG (aM q hn)];exact q) fun c xs q=>by rw[aG (aM q hn)];exact q
   rcases hc with z|z
   .rw[z]
    exact nch b u e
   .exact nch c _ z
theorem Inv.turnedL{t':Nat}{ch:List Addr}(I:Inv X pins σ H s)(k:∀b o,b∉ch->s.heap.get? b=some o->h'.get? b=some o)(hf:∀b∈ch,oF X pins H b):Inv X pins σ H {s with heap:=h',toks:=t'}:=by
 have nch:∀b u,H b=some u->b∉ch:=fun b u e z=>by
  rw[(hf b z).1]at e
  cases e
 refine I.step (g':=s.gens) (d':=s.drawn) (ch:=ch) (fun b hb=>?_) (fun b o _ _ hc e _=>k b o hc e) (fun b o _ _ hc e _=>⟨o.slots,k b o hc e⟩) (fun b o hc e n=>n)
  (fun b o hc e=>⟨o,k b o hc e⟩) (fun b xs e=>e) (fun b u xs e=>e) (fun b ps e=>⟨#[],by rw[e];simp⟩) (fun m hm=>?_) (fun b u e=>?_) I.bare
 .obtain⟨_,f1,_,f3,f4,f5⟩:=hf b hb
  exact⟨f3,f1,f4,f5⟩
 .obtain⟨o,es,ep,ho,r⟩:=hm
  exact⟨o,es,ep,k _ o (fun z=>(hf _ z).2.1 rfl) ho,r⟩
 .refine(I.hok b u e).stay (fun c v hc q=>k c v ?_ q) (fun _ q=>q) fun _ _ q=>q
  rcases hc with z|z
  .rw[z]
   exact nch b u e
  .exact nch c _ z
end
def RL(K:PySem.W.Frag)(l1 l2:Addr):It:=
  ⟨fun i H=>∃xs ys x y,cJ K H l1 xs/\cJ K H l2 ys/\xs[i]? =some x/\ys[i]? =some y,
   fun i H v H'=>∃T x y,v= .ref T/\H T=none/\H'=upd H T (.tup [x,y])/\(∀xs,cJ K H l1 xs->xs[i]? =some x)/\(∀ys,cJ K H l2 ys->ys[i]? =some y),
   fun i H=>∃xs ys,cJ K H l1 xs/\cJ K H l2 ys/\(xs.length<=i\/ys.length<=i)⟩
def Yn(z TI TO i1 i2 l1 l2:Addr)(i:Nat)(h:Heap):Prop:=IsZip h z TI TO .none/\IsPair h TI (.ref i1) (.ref i2)/\(∃a b,IsPair h TO a b)/\h.IsListIter i1 l1 i/\h.IsListIter i2 l2 i
theorem Jw{P:Program}{w:World}{K:PySem.W.Frag}{elts:List Expr}{kk:Nat}{tp:Pos}{z TI TO i1 i2 l1 l2:Addr}(D:ZipApart z TI TO i1 i2 l1 l2):Turn P w K (.Tuple elts kk tp) (RL K l1 l2) [z,TI,TO,i1,i2] z (Yn z TI TO i1 i2 l1 l2) where
 mem:=by simp
 obj:=fun i h st b hb=>by
  obtain⟨hz,hTI,⟨a,c,hTO⟩,⟨o1,e1,_,d1⟩,⟨o2,e2,_,d2⟩⟩:=st
  simp only[List.mem_cons,List.mem_nil_iff,or_false]at hb
  rcases hb with rfl|rfl|rfl|rfl|rfl
  .exact⟨_,hz,fun v z=>by cases z⟩
  .exact⟨_,hTI,fun v z=>by cases z⟩
  .exact⟨_,hTO,fun v z=>by cases z⟩
  .exact⟨_,e1,fun v z=>by rw[d1]at z;cases z⟩
  .exact⟨_,e2,fun v z=>by rw[d2]at z;cases z⟩
 keep:=fun i h h' st k=>by
  obtain⟨hz,hTI,⟨a,c,hTO⟩,h1,h2⟩:=st
  exact⟨k z (by simp) _ hz,k TI (by simp) _ hTI,⟨a,c,k TO (by simp) _ hTO⟩,h1.at fun o e=>k i1 (by simp) o e,h2.at fun o e=>k i2 (by simp) o e⟩
 item:=by
  intro X hP hw hK hc i pins s σ H E I hf st hg
  subst hP hw hK
  obtain⟨xs,ys,x,y,hq1,hq2,hx,hy⟩:=hg
  obtain⟨its1,rv1,p1,hz1⟩:=I.list hq1
  obtain⟨its2,rv2,p2,hz2⟩:=I.list hq2
  obtain⟨u1,hu1,ru1⟩:=rv1.get hx
  obtain⟨u2,hu2,ru2⟩:=rv2.get hy
  obtain⟨hz,hTI,⟨a,c,hTO⟩,h1,h2⟩:=st
  refine wpAny_pyNext_zip_item D hz hTI hTO h1 h2 p1.isList p2.isList (x:=u1) (y:=u2) (by simpa using hu1) (by simpa using hu2) fun h' a1 a2 a3 a4 a5 a6 a7=>?_
  refine⟨_,rfl,wpAny_letOwnedTupleGo_zip a1 fun h'' b1 b2=>?_⟩
  have lt:∀{c o},s.heap.get? c=some o->s.heap.objs.size≠c:=fun e=>Nat.ne_of_gt (Heap.lt_size e)
  have kp:∀b o,b∉[z,TO,i1,i2]->s.heap.get? b=some o->h''.get? b=some o:=fun b o hb e=>by
   simp only[List.mem_cons,List.mem_nil_iff,or_false,not_or]at hb
   exact b2.extBut _ _ hb.1 (a7 b o hb.1 hb.2.1 hb.2.2.1 hb.2.2.2 e)
  have hT:h''.get? s.heap.objs.size=some {cls:= .type "tuple",data:= .seq #[u1,u2]}:=b2.extBut _ _ (lt hz) a5
  have I2:Inv X pins σ (upd H s.heap.objs.size (.tup [x,y])) {s with heap:=h'',toks:=s.toks}:=by
   refine I.turnedN (ch:=[z,TO,i1,i2]) kp (fun b hb=>hf b ?_) (Nat.le_refl _) ⟨(by show 2<=sizeLine;decide),[u1,u2],.cons ru1 (.cons ru2 .nil),⟨_,hT,rfl,_,rfl⟩⟩
   simp only[List.mem_cons,List.mem_nil_iff,or_false]at hb ⊢
   rcases hb with rfl|rfl|rfl|rfl<;>simp
  refine⟨.ref s.heap.objs.size,_,I2,rfl,⟨s.heap.objs.size,x,y,rfl,I.hok.fresh (Nat.le_refl _),rfl,fun zs hy'=>by rw[I.list_inj hy' hq1];exact hx,fun zs hy'=>by rw[I.list_inj hy' hq2];exact hy⟩,
   ⟨b1,b2.extBut _ _ D.TIz (a7 _ _ D.TIz D.TITO D.TIi1 D.TIi2 hTI),⟨_,_,b2.extBut _ _ D.TOz a2⟩,a3.extBut b2.extBut D.i1z,a4.extBut b2.extBut D.i2z⟩,fun b hb=>?_⟩
  have ne:b≠s.heap.objs.size:=by
   intro e
   subst e
   simp only[List.mem_cons,List.mem_nil_iff,or_false]at hb
   obtain⟨o1,e1,_⟩:=h1
   obtain⟨o2,e2,_⟩:=h2
   rcases hb with e|e|e|e|e
   .exact lt hz e
   .exact lt hTI e
   .exact lt hTO e
   .exact lt e1 e
   .exact lt e2 e
  rw[aG ne]
  exact(hf b hb).1
 done:=by
  intro X hP hw hK hc i pins s σ H E I hf st hg
  subst hP hw hK
  obtain⟨xs,ys,hq1,hq2,hl⟩:=hg
  obtain⟨its1,rv1,p1,hz1⟩:=I.list hq1
  obtain⟨its2,rv2,p2,hz2⟩:=I.list hq2
  have l1':=rv1.length
  have l2':=rv2.length
  obtain⟨hz,hTI,⟨a,c,hTO⟩,h1,h2⟩:=st
  refine wpAny_pyNext_zip_end (I.ok.hd hc) D hz hTI hTO h1 h2 p1.isList p2.isList ?_ fun h' k=>⟨rfl,?_⟩
  .rcases hl with e|e
   .exact .inl (by simp;omega)
   .exact .inr (by simp;omega)
  .refine I.turnedL (t':=s.toks) (ch:=[z,TO,i1,i2]) (fun b o hb e=>?_) fun b hb=>hf b ?_
   .simp only[List.mem_cons,List.mem_nil_iff,or_false,not_or]at hb
    exact k b o hb.1 hb.2.1 hb.2.2.1 hb.2.2.2 e
   .simp only[List.mem_cons,List.mem_nil_iff,or_false]at hb ⊢
    rcases hb with rfl|rfl|rfl|rfl<;>simp
 self:=fun _ _ _ _ _ st h=>wpAny_pyIter_zip st.1 h
section
variable {X:Cx}
def VL(K:PySem.W.Frag)(ta:TA):TI:=fun σ H R=>ta σ H fun vs H1=>∃l1 l2,vs=[.ref l1,.ref l2]/\(∃xs,cJ K H1 l1 xs)/\(∃ys,cJ K H1 l2 ys)/\R (RL K l1 l2) H1
theorem Qx{elts:List Expr}{kk:Nat}{tp:Pos}{a b:Expr}{ta:TA}{p pos:Pos}(hg:Gl X "zip")(hm:X.mg "zip"=none)(ha:PA X [a,b] ta)(hs:starEach [a,b] X.env=(false,eval a X.env)::starEach [b] X.env:=by rfl)(hp:(backTo pos (starEach [b] X.env)).any (·.1)=false:=by rfl):
  PI X (.Tuple elts kk tp) (.Call (.Name "zip" p) [a,b] [] pos) (VL X.K ta):=by
 intro pins s σ H R I h
 refine Call_ (jm I hg hm boot_zip (PyProof.Rows.callWith_type1 (cZ (ha pos pins s σ H _ I h) fun us s1⟨vs,H1,I1,r1,q1⟩=>?_) hs hp))
 obtain⟨l1,l2,rfl,⟨xs,hq1⟩,⟨ys,hq2⟩,q⟩:=q1
 obtain⟨u1,u2,rfl,e1,e2⟩:=r1.two
 cases (show u1=Value.ref l1 from e1)
 cases (show u2=Value.ref l2 from e2)
 obtain⟨its1,rv1,p1,hz1⟩:=I1.list hq1
 obtain⟨its2,rv2,p2,hz2⟩:=I1.list hq2
 have lt1:l1<s1.heap.objs.size:=by obtain⟨o,e,_⟩:=p1.isList;exact Heap.lt_size e
 have lt2:l2<s1.heap.objs.size:=by obtain⟨o,e,_⟩:=p2.isList;exact Heap.lt_size e
 refine call_zip_2 p1.isList p2.isList fun h' a1 a2 a3 a4 a5 a6 a7=>?_
 have I2:Inv X pins σ H1 {s1 with heap:=h',toks:=s1.toks}:=I1.kept a7
 refine wpAny_pyIter_zip a1 ⟨s1.heap.objs.size+4,[s1.heap.objs.size+4,s1.heap.objs.size+2,s1.heap.objs.size+3,s1.heap.objs.size,s1.heap.objs.size+1],_,_,H1,rfl,I2,Jw (l1:=l1) (l2:=l2) ?_,⟨a1,a2,⟨_,_,a3⟩,a4,a5⟩,fun b hb=>?_,q⟩
 .have lt1': @LT.lt Nat _ l1 s1.heap.objs.size:=lt1
  have lt2': @LT.lt Nat _ l2 s1.heap.objs.size:=lt2
  constructor<;>(intro z;have z': @Eq Nat _ _:=z;omega)
 .have hb':s1.heap.objs.size<=b:=by
   simp only[List.mem_cons,List.mem_nil_iff,or_false]at hb
   rcases hb with rfl|rfl|rfl|rfl|rfl
   .exact Nat.le_add_right _ _
   .exact Nat.le_add_right _ _
   .exact Nat.le_add_right _ _
   .exact Nat.le_refl _
   .exact Nat.le_add_right _ _
  have f:=I1.fpOk (H':=H1) hb' (I1.hok.fresh hb')
  exact f
end
theorem cD.free1{X:Cx}{sc:Scope}{cl:List (Str×Addr)}{F:List Str}{js:List Nat}(kind:sc.kind= .function)(cell:∀y∈sc.names,y.2≠ .cell)(names:∀y∈sc.names,y.2= .local->sc.names.lookup y.1=some .local)
  (clos:closureFor sc X.env=pure cl)(cls:CJ X cl)(has:(sc.names.all fun y=> !(decide (y.2= .free))||(cl.lookup y.1).isSome)=true)(free:jM X sc F js):cD X sc cl F js:=
 ⟨kind,cell,names,clos,cls,fun y hy e=>by
  have:=List.all_eq_true.mp has y hy
  rw[decide_eq_true e]at this
  exact Option.isSome_iff_exists.mp this,free⟩
theorem Ga{K:PySem.W.Frag}{l1 l2 D:Addr}{xs zs:List V}{g:CS->TG}{tc:CS->TT}{te:CS->TE}{σ0:St}{H0:Hp}{Q:Hp->Prop}(Pv:Nat->List V->St->Hp->Prop)(hzs:zs.length=xs.length)(hz:xs.length<=sizeLine)(h0:Pv 0 [] σ0 H0)
  (hl:∀i ys σ H,i<=xs.length->Pv i ys σ H->cJ K H l1 xs/\cJ K H l2 zs/\H D=some (.lst ys)/\ys.length<=i)
  (hs:∀i x z ys σ H T,xs[i]? =some x->zs[i]? =some z->Pv i ys σ H->H T=none->∀c:CS,g c (.ref T) σ (upd H T (.tup [x,z])) fun σ2 H2=>tc c σ2 H2 fun b H3=>if b=true then te c σ2 H3 fun v H4=>H4 D=some (.lst ys)/\Pv (i+1) (ys++[v]) σ2 (upd H4 D (.lst (ys++[v])))else Pv (i+1) ys σ2 H3)
  (hd:∀ys σ H,Pv xs.length ys σ H->Q H):
  ∃W:Nat->Nat->List V->St->Hp->Prop,(∃m,W 0 m [] σ0 H0)/\∀i m ys σ' H',W i m ys σ' H'->H' D=some (.lst ys)/\(((RL K l1 l2).stop i H'/\Q H')\/((RL K l1 l2).go i H'/\ys.length<sizeLine/\∃N:List V->St->Hp->Prop,(∀ys' σ'' H'',N ys' σ'' H''->∃m',m'<m/\W (i+1) m' ys' σ'' H'')/\
    ∀x H2,(RL K l1 l2).yld i H' x H2->∀c:CS,g c x σ' H2 fun σ2 H3=>tc c σ2 H3 fun b H4=>if b=true then te c σ2 H4 fun v H5=>H5 D=some (.lst ys)/\N (ys++[v]) σ2 (upd H5 D (.lst (ys++[v])))else N ys σ2 H4)):=by
 refine⟨fun i m ys σ H=>m=xs.length-i/\i<=xs.length/\Pv i ys σ H,⟨xs.length,by simp,Nat.zero_le _,h0⟩,?_⟩
 rintro i m ys σ H ⟨rfl,hi,p⟩
 obtain⟨q1,q2,qD,ql⟩:=hl i ys σ H hi p
 refine⟨qD,?_⟩
 by_cases hlt:i<xs.length
 .refine .inr ⟨⟨xs,zs,xs[i],zs[i]'(by omega),q1,q2,by simp[hlt],by simp[hzs,hlt]⟩,by omega,Pv (i+1),fun ys' σ' H' p'=>⟨xs.length-(i+1),by omega,rfl,hlt,p'⟩,fun x H' y c=>?_⟩
  obtain⟨T,a,b,rfl,hT,rfl,y1,y2⟩:=y
  exact hs i a b ys σ _ T (y1 xs q1) (y2 zs q2) p hT c
 .have e:i=xs.length:=by omega
  subst e
  exact .inl ⟨⟨xs,zs,q1,q2,.inl (Nat.le_refl _)⟩,hd ys σ H p⟩
def cC(H H':Hp):Prop:=∀b o,H b=some o->(∀zs,o≠ .lst zs)->(∀ps,o≠ .tbl ps)->H' b=some o
theorem cC.of{H H':Hp}(s:aF H H'):cC H H':=fun b o e _ _=>s b o e
theorem cC.refl(H:Hp):cC H H:=fun _ _ e _ _=>e
theorem cC.trans{A B C:Hp}(h:cC A B)(g:cC B C):cC A C:=fun b o e n m=>g b o (h b o e n m) n m
theorem cC.updL{H:Hp}{D:Addr}{zs:List V}{o:HO}(h:H D=some (.lst zs)):cC H (upd H D o):=fun b u e n _=>by
 rw[aG (bW e h (n zs))]
 exact e
theorem cC.sqT{K:PySem.W.Frag}{H H':Hp}{a:Addr}{xs:List V}(s:cC H H')(h:fD K H a xs):fD K H' a xs:=by
 rcases h with(z|⟨o,z⟩)|z
 .exact .inl (.inl (s _ _ z (fun _ z=>nomatch z) (fun _ z=>nomatch z)))
 .exact .inl (.inr ⟨o,s _ _ z (fun _ z=>nomatch z) (fun _ z=>nomatch z)⟩)
 .exact .inr z
theorem cC.fr{K:PySem.W.Frag}{H H':Hp}{x:V}{d:Int×Int}(s:cC H H')(h:JH K H x d):JH K H' x d:=by
 obtain⟨p,y,z,rfl,q,h1,h2⟩:=h
 exact⟨p,y,z,rfl,s.sqT q,h1,h2⟩
theorem aF.updN{H H':Hp}{D:Addr}{o:HO}(s:aF H H')(h:H D=none):aF H (L2.upd H' D o):=fun b u e=>by
 rw[aG (aM e h)]
 exact s b u e
def Ml(P:Program)(w:World)(K:PySem.W.Frag)(mg:Str->Option Value)(base:Heap)(C:Addr)(m:Str)(k:Nat)(ps:List Str)(sp:Sp):Prop:=
 ∃(f:Addr)(fd:FuncData),Meth K C m f/\Binds K fd ps []/\bH P w K mg base dj k f fd ps sp
def Mc(P:Program)(w:World)(K:PySem.W.Frag)(mg:Str->Option Value)(base:Heap)(x:Str)(C:Addr)(k:Nat)(ps:List Str)(sp:Sp):Prop:=
 ∃(f:Addr)(fd:FuncData),Mk K C f/\mg x=some (.ref C)/\Binds K fd ps []/\bH P w K mg base dj k f fd ps sp
section
variable {X:Cx} {k:Nat} {C:Addr} {ps:List Str} {sp:Sp} {x m:Str} {p pos apos:Pos} {e o:Expr} {es:List Expr} {ta:TE} {t:TA}
theorem cV{pl:Sem Bool}(M:Ml X.prog X.w X.K X.mg X.base C m k ps sp)(c:tY X.K C)(hr:aZ k X.A)(he:PE X o ta)(ha:PA X (e::es) t)
  (hst:starEach (e::es) X.env=(false,eval e X.env)::starEach es X.env:=by rfl)(hpl:(backTo pos (starEach es X.env)).any (·.1)=false:=by rfl)
  (ht:eval (.Call (.Attribute o m apos) (e::es) [] pos) X.env=(do
   let ov<-eval o X.env
   standAt apos.atName
   let(f,first)<-holding [ov] (getMethod ov m pl)
   callWith pos f first (backTo pos (starEach (e::es) X.env)) (backToKw pos (keywordEach [] X.env))):=by rfl):
  PE X (.Call (.Attribute o m apos) (e::es) [] pos) (Cu C m sp [] E0 ta t):=by
 obtain⟨f,fd,h1,h2,h3⟩:=M
 exact Lw he c h1 h3 hr h2 .nil xO ha hst hpl ht
theorem zB{pl:Sem Bool}(M:Ml X.prog X.w X.K X.mg X.base C m k ps sp)(c:tY X.K C)(hr:aZ k X.A)(he:PE X o ta)
  (ht:eval (.Call (.Attribute o m apos) [] [] pos) X.env=(do
   let ov<-eval o X.env
   standAt apos.atName
   let(f,first)<-holding [ov] (getMethod ov m pl)
   callWith pos f first (backTo pos (starEach [] X.env)) (backToKw pos (keywordEach [] X.env))):=by rfl):
  PE X (.Call (.Attribute o m apos) [] [] pos) (Cu C m sp [] E0 ta Ab):=by
 obtain⟨f,fd,h1,h2,h3⟩:=M
 exact HS he c h1 h3 hr h2 .nil xO ht
theorem Tu(M:Mc X.prog X.w X.K X.mg X.base x C k ps sp)(hr:aZ (k+1) X.A)(hg:Gl X x)(ha:PA X (e::es) t)(hdb:(x==("__debug__":Str))=false:=by decide)(he:starEach (e::es) X.env=(false,eval e X.env)::starEach es X.env:=by rfl)
  (hpl:(backTo pos (starEach es X.env)).any (·.1)=false:=by rfl):PE X (.Call (.Name x p) (e::es) [] pos) (Oh C sp [] E0 t):=by
 obtain⟨f,fd,h1,h2,h3,h4⟩:=M
 exact Ls h1 h4 hr hg h2 h3 .nil xO ha hdb he hpl
end
theorem pQ{α:Type}{xs:List α}{i:Int}{v:α}(h0:0<=i)(h:xs[i.toNat]? =some v):qT xs i=some v:=by
 obtain⟨m,rfl⟩:=Int.eq_ofNat_of_zero_le h0
 exact bZ (by simpa using h)
theorem Dk(l:List Int):(l.map V.int).all oO=true:=by
 rw[List.all_map]
 exact List.all_eq_true.mpr fun _ _=>rfl
theorem Bl{e:Int}{l:List Int}:inV (.int e) (l.map V.int)=true↔e∈l:=by
 unfold inV
 rw[List.any_map,List.any_eq_true]
 constructor
 .rintro ⟨y,hy,h⟩
  have:(y==e)=true:=h
  rw[<-beq_iff_eq.mp this]
  exact hy
 .exact fun h=>⟨e,h,beq_self_eq_true e⟩
end L2
namespace PySem.SeqAt
open PySem.AutoSeq1 (wpAny_loadPart')
open PySem.MeetsSeq
theorem LK(l:Addr)(its:Array Value)(n:Nat)(x:Value)(e:Value->Bool)(j:Nat)(hj:j<its.size)(hit:e its[j]=true)(hz:its.size<=sizeLine)(k:Nat):
  ∀i:Nat,j-i=k->i<=j->(∀m(hm:m<its.size),i<=m->m<j->e its[m]=false)->Meets (Builtin.«list.remove.loop» ⟨[.ref l,x,rawInt i],[]⟩)
   (fun A R s=>s.heap.get? l=some {cls:= .type "list",dict:=none,data:= .seq its n,slots:= #[]}/\(∀y,y∈its->EqAt A.in1 s y x (e y))/\R (.ok (.ret .none)) {s with heap:=s.heap.update l (Obj.mapSeq fun xs=>xs.eraseIdxIfInBounds j)}):=by
 induction k with
 |zero=>
  intro i hk hij hno prog w A R st hh
  obtain⟨hp,g,d,tk,os⟩:=st
  obtain⟨hl,he,h⟩:=hh
  have hij':i=j:=by omega
  subst hij'
  wp_walk using wpAny_loadPart' hl
  have hi:its[((i:Nat):Int).toNat]? =some its[i]:=by simp[hj]
  rw[hi]
  refine wpAny_bind (he _ (Array.getElem_mem hj) prog w _ _ ?_)
  rw[hit]
  have hz2:(its.eraseIdxIfInBounds i).size<=sizeLine+1:=Nat.le_trans (size_erased its _) (Nat.le_succ_of_le hz)
  wp_walk using (wpAny_updateSeq hl rfl (hz:=hz) (_hz':=hz2)),wpAny_loadPart' hl
  simpa using h
 |succ k ih=>
  intro i hk hij hno prog w A R st hh
  obtain⟨hp,g,d,tk,os⟩:=st
  obtain⟨hl,he,h⟩:=hh
  have hlt:i<its.size:=by omega
  wp_walk using wpAny_loadPart' hl
  have hi:its[((i:Nat):Int).toNat]? =some its[i]:=by simp[hlt]
  have hc:((i:Int)+1)=((i+1:Nat):Int):=by push_cast;rfl
  rw[hi]
  refine wpAny_bind (he _ (Array.getElem_mem hlt) prog w _ _ ?_)
  rw[hno i hlt (Nat.le_refl _) (by omega)]
  wp_walk
  rw[hc]
  refine⟨plainId_quiet plain_remove_loop _,codeAny_builtin entry_remove_loop ?_⟩
  rw[Around.under_plainId plain_remove_loop _]
  exact ih (i+1) (by omega) (by omega) (fun m hm h1 h2=>hno m hm (by omega) h2) prog w A R _ ⟨hl,he,h⟩
theorem rm_at(l:Addr)(its:Array Value)(n:Nat)(x:Value)(e:Value->Bool)(j:Nat)(hj:j<its.size)(hit:e its[j]=true)(hno:∀m(hm:m<its.size),m<j->e its[m]=false)(hz:its.size<=sizeLine):
  Meets (Builtin.«list.remove» ⟨[.ref l,x],[]⟩)
   (fun A R s=>s.heap.get? l=some {cls:= .type "list",dict:=none,data:= .seq its n,slots:= #[]}/\(∀y,y∈its->EqAt A.in1 s y x (e y))/\R (.ok (.ret .none)) {s with heap:=s.heap.update l (Obj.mapSeq fun xs=>xs.eraseIdxIfInBounds j)}):=by
 intro prog w A R st hh
 obtain⟨hp,g,d,tk,os⟩:=st
 obtain⟨hl,he,h⟩:=hh
 wp_walk using wpAny_loadPart' hl
 refine⟨plainId_quiet plain_remove_loop _,codeAny_builtin entry_remove_loop ?_⟩
 rw[Around.under_plainId plain_remove_loop _]
 exact LK l its n x e j hj hit hz _ 0 rfl (Nat.zero_le _) (fun m hm _ h2=>hno m hm h2) prog w A R _ ⟨hl,he,h⟩
end PySem.SeqAt
namespace L2
open PySem PySem.Spec PyProof.Rows
section
variable {X:Cx}
theorem BP{x y:V}{u:Value}(h1:RelV x u)(h2:RelV y u):x=y:=by
 cases x<;>cases y<;>simp only[RelV]at h1 h2
 all_goals first
  |rfl
  | (subst h1;simp at h2<;>simp[h2])
  | (obtain⟨t,rfl⟩:=h1;simp at h2<;>simp[h2])
def Ly{α:Type}[DecidableEq α](R:Hp->V->α->Prop):V->List V->Hp->VK->Prop:=fun x vs H Q=>∃l xs y ds d,x= .ref l/\vs=[y]/\H l=some (.lst xs)/\Paired (R H) xs ds/\R H y d/\d∈ds/\Q .non (upd H l (.lst (xs.eraseIdx (ds.idxOf d))))
theorem Eb{α:Type}[DecidableEq α]{R:Hp->V->α->Prop}{dd:Nat}(hR:wM X.K R dd)(hu:X.A.units+(dd+1)<cLine):Uy X "list.remove" (Ly R):=by
 intro pins s σ H x vs v us Q I rx rv h
 obtain⟨l,xs,y,ds,d,rfl,rfl,hH,hD,hd,hm,q⟩:=h
 cases rx
 obtain⟨u,rfl,ru⟩:=rv.one
 obtain⟨z,its,n,r,hl,e⟩:=I.lstM hH
 have ld:=hD.length
 have hj:ds.idxOf d<ds.length:=List.idxOf_lt_length_iff.mpr hm
 classical
 let f:Value->Bool:=fun u'=>decide (∃(m:Nat)(c:α),its[m]? =some u'/\ds[m]? =some c/\c=d)
 have fe:∀(m:Nat)(u':Value)(c:α),its[m]? =some u'->ds[m]? =some c->f u'=decide (c=d):=fun m u' c h1 h2=>by
  by_cases hc:c=d
  .rw[decide_eq_true hc]
   exact decide_eq_true ⟨m,c,h1,h2,hc⟩
  .rw[decide_eq_false hc]
   refine decide_eq_false fun⟨m',c',g1,g2,g3⟩=>hc ?_
   have im:m<xs.length:=by have:=(List.getElem?_eq_some_iff.mp h1).1;omega
   have im':m'<xs.length:=by have:=(List.getElem?_eq_some_iff.mp g1).1;omega
   obtain⟨w1,e1,r1⟩:=r.get (List.getElem?_eq_getElem im)
   obtain⟨w2,e2,r2⟩:=r.get (List.getElem?_eq_getElem im')
   rw[h1]at e1
   rw[g1]at e2
   cases e1
   cases e2
   have ex:=BP r1 r2
   have a1:=Paired.get hD m _ _ (List.getElem?_eq_getElem im) h2
   have a2:=Paired.get hD m' _ _ (List.getElem?_eq_getElem im') g2
   rw[ex]at a1
   rw[<-g3]
   exact hR.inj rfl I a1 a2
 have hit:f (its.toArray[ds.idxOf d]'(by rw[List.size_toArray];omega))=true:=by
  have g:its[ds.idxOf d]? =some (its[ds.idxOf d]'(by omega)):=List.getElem?_eq_getElem _
  have:=fe _ _ d g (List.getElem?_eq_some_iff.mpr ⟨hj,List.getElem_idxOf hj⟩)
  rw[decide_eq_true rfl]at this
  simpa using this
 have hno:∀m(hm:m<its.toArray.size),m<ds.idxOf d->f its.toArray[m]=false:=fun m hm' hlt=>by
  have im:m<its.length:=by simpa using hm'
  have g:its[m]? =some (its[m]'im):=List.getElem?_eq_getElem _
  have g2:ds[m]? =some (ds[m]'(by omega)):=List.getElem?_eq_getElem _
  have:=fe _ _ _ g g2
  have nf:=List.not_of_lt_findIdx (p:=(· ==d)) hlt
  rw[decide_eq_false (fun z=>by rw[z]at nf;simp at nf)]at this
  simpa using this
 refine call_meets F.slot_list_remove ⟨_,e,rfl⟩ F.entry_list_remove (F.args_list_remove_2 _ _)
  (SeqAt.rm_at l its.toArray n u f (ds.idxOf d) (by rw[List.size_toArray];omega) hit hno (by rw[List.size_toArray];omega)) ⟨e,fun y' hy'=>?_,?_⟩
 .obtain⟨m,hm1,hm2⟩:=Array.mem_iff_getElem.mp hy'
  have im:m<its.length:=by simpa using hm1
  have g:its[m]? =some y':=by
   rw[List.getElem?_eq_getElem im]
   congr 1
  have g2:ds[m]? =some (ds[m]'(by omega)):=List.getElem?_eq_getElem _
  have g1:xs[m]? =some (xs[m]'(by omega)):=List.getElem?_eq_getElem _
  obtain⟨w1,e1,r1⟩:=r.get g1
  rw[g]at e1
  cases e1
  rw[fe _ _ _ g g2]
  exact hR.eq (by rfl) I (by rw[in1_units];omega) (Paired.get hD m _ _ g1 g2) hd r1 ru
 .refine⟨.non,_,I.lset (its':=its.eraseIdx (ds.idxOf d)) hH e ?_ (r.eraseIdx _) ?_,rfl,q⟩
  .simp
  .exact Nat.le_trans (qe _ _) z
structure RK(K:PySem.W.Frag)(C:Addr):Prop where
 cl:tY K C
 ha:PySem.W.findIn K (.ref C) "__class__"=some (some (.builtin "object.__class__"))
 hn:PySem.W.specialIn K (.builtin "object.__class__") "__get__"=some (some (.builtin "getset_descriptor.__get__"))
 htk:PySem.W.takesIn K (.builtin "object.__class__")=some true
 hm:PySem.W.mroIn K C (.type "object")=some true
theorem FT:nu X (.builtin "isinstance") (fun xs H Q=>∃a C dx fs,xs=[.ref a,.ref C]/\H a=some (.ins C dx fs)/\RK X.K C/\Q (.bl true) H):=by
 intro pins s σ H xs us Q I r h
 obtain⟨a,C,dx,fs,rfl,hH,ic,q⟩:=h
 obtain⟨u,v,rfl,ru,rv⟩:=r.two
 cases (show v=Value.ref C from rv)
 exact pZ I ru (nQ.ins hH ic.cl ic.ha ic.hn ic.htk ic.hm) (by unfold PySem.W.kitOne;rw[if_pos (by simp)]) fun tk=>⟨.bl true,H,I.tok tk,rfl,q⟩
structure Xa(K:PySem.W.Frag)(C:Addr):Prop where
 makes:PySem.W.makesIn K C=true
 init:PySem.W.findIn K (.ref C) "__init__"=some (some (.builtin "object.__init__"))
 kp:PySem.W.keepIn K (.ref C)=true
def Rj(C:Addr):TE:=fun _ H Q=>∀x dx,H x=none->H dx=none->dx≠x->Q (.ref x) (upd (upd H dx (.own x)) x (.ins C dx []))
theorem nW{x:Str}{C:Addr}{p pos:Pos}(M:Xa X.K C)(hg:Gl X x)(hm:X.mg x=some (.ref C))(hdb:(x==("__debug__":Str))=false:=by decide):PE X (.Call (.Name x p) [] [] pos) (Rj C):=by
 intro pins s σ H Q I h
 refine wpAny_Call_Name_kw (oV I hg hm ?_ hdb)
 refine PySem.W.callWith_K0 I.kIn M.kp ?_
 have hq:=h (s.heap.objs.size+1) s.heap.objs.size (I.hok.fresh (Nat.le_succ _)) (I.hok.fresh (Nat.le_refl _)) (Nat.ne_of_lt (Nat.lt_succ_self _))
 have I2:=Inv.made (C:=C) I
 refine wpAny_call (DY I.kIn M.makes M.init (fun self=>PySem.W.Looks.of_pure (PySem.W.oi_bind self)) ?_)
 have Y:=PySem.W.makes_of (M:=model X.prog X.w) I.kIn M.makes
 have e2:((s.heap.push PySem.W.emptyDict).push (PySem.W.instObj C s.heap.objs.size)).get? (s.heap.objs.size+1)=some (PySem.W.instObj C s.heap.objs.size):=by
  have:=Heap.get?_push_size (s.heap.push PySem.W.emptyDict) (o:=PySem.W.instObj C s.heap.objs.size) rfl
  rwa [Heap.size_push]at this
 have t1:PySem.W.Looks (model X.prog X.w) ((s.heap.push PySem.W.emptyDict).push (PySem.W.instObj C s.heap.objs.size)) (typeOf (.ref (s.heap.objs.size+1))) (.ref C):=(PySem.W.Looks.ld e2).andThen .now
 have t2:PySem.W.Looks (model X.prog X.w) ((s.heap.push PySem.W.emptyDict).push (PySem.W.instObj C s.heap.objs.size)) (isInstance (.ref (s.heap.objs.size+1)) (.type "object")) true:=t1.andThen (Y.top.keeps fun b o e=>Heap.get?_push_of_some _ (Heap.get?_push_of_some _ e))
 refine codeAny_call_builtin PySem.W.oi_plain PySem.W.entry_oi (PySem.W.check_slot (rest:=[]) (kw:=[]) PySem.W.oi_kind PySem.W.oi_split t2 (PySem.W.oi_args (.ref (s.heap.objs.size+1))) ?_)
 rw[PySem.W.oi_run]
 exact wpAny_pure ⟨rfl,⟨.ref (s.heap.objs.size+1),_,I2,rfl,hq⟩⟩
end
end L2
namespace L2
open PySem PySem.Spec PyProof.Rows
section
variable {X:Cx}
end
end L2
namespace Stb
open PySem PyProof.Rows
def ky:Option Keyed->Int
 |some p=>numOf p.1
 |none=>0
def iv:Option Keyed->Int
 |some p=>numOf p.2
 |none=>0
theorem Te(xs:Array Keyed)(i:Nat):K xs i=ky xs[i]? :=by
 unfold K ky
 rfl
def Bf(a b:Option Keyed):Prop:=ky a<ky b\/(ky a=ky b/\iv a<iv b)
def Up(xs:Array Keyed)(k:Nat):Prop:=∀i j,i<j->j<k->Bf xs[i]? xs[j]?
def Dn(xs:Array Keyed)(k:Nat):Prop:=∀i j,i<j->j<k->Bf xs[j]? xs[i]?
def Rs(n:Nat)(xs:Array Keyed)(k:Nat):Prop:=∀i j,i<j->k<=j->j<n->iv xs[i]? <iv xs[j]?
def JN(xs:Array Keyed)(x q:Nat):Prop:=∀i j,i<j->j<x->if x-(q+1)<=i then ky xs[i]? =ky xs[j]? /\iv xs[i]? <iv xs[j]? else if x-(q+1)<=j then ky xs[j]? <ky xs[i]? else Bf xs[j]? xs[i]?
theorem Rs.mono{n k l:Nat}{xs:Array Keyed}(h:Rs n xs k)(e:k<=l):Rs n xs l:=fun i j h1 h2 h3=>h i j h1 (by omega) h3
theorem mir{xs:Array Keyed}{i j:Nat}(hj:j<=xs.size)(k:Nat):(mirror xs i j ((j-i)/2))[k]? =if i<=k/\k<j then xs[i+j-1-k]? else xs[k]? :=getElem?_mirror_all hj k
theorem Rs.mir{n k:Nat}{xs:Array Keyed}(h:Rs n xs k){a b:Nat}(hb:b<=xs.size)(hk:b<=k):Rs n (mirror xs a b ((b-a)/2)) k:=fun i j h1 h2 h3=>by
 rw[Stb.mir hb,Stb.mir hb,if_neg (show ¬(a<=j/\j<b)by omega)]
 by_cases c:a<=i/\i<b
 .rw[if_pos c]
  exact h _ _ (by omega) h2 h3
 .rw[if_neg c]
  exact h _ _ h1 h2 h3
theorem Dn.rev{xs:Array Keyed}{k:Nat}(h:Dn xs k)(hk:k<=xs.size):Up (mirror xs 0 k ((k-0)/2)) k:=fun i j h1 h2=>by
 rw[Stb.mir hk,Stb.mir hk,if_pos (by omega),if_pos (by omega)]
 exact h _ _ (by omega) (by omega)
theorem JN.zero{xs:Array Keyed}{x:Nat}(h:JN xs x 0):Dn xs x:=fun i j h1 h2=>by
 have z:=h i j h1 h2
 rw[if_neg (by omega)]at z
 by_cases c:x-(0+1)<=j
 .rw[if_pos c]at z
  exact .inl z
 .rw[if_neg c]at z
  exact z
theorem JN.rev{xs:Array Keyed}{x q:Nat}(h:JN xs x q)(hx:x<=xs.size):Dn (mirror xs (x-(q+1)) x ((x-(x-(q+1)))/2)) x:=fun i j h1 h2=>by
 rw[Stb.mir hx,Stb.mir hx]
 by_cases ci:x-(q+1)<=i
 .rw[if_pos (by omega),if_pos (by omega)]
  have z:=h (x-(q+1)+x-1-j) (x-(q+1)+x-1-i) (by omega) (by omega)
  rw[if_pos (by omega)]at z
  exact .inr z
 .rw[if_neg (show ¬(x-(q+1)<=i/\i<x)by omega)]
  by_cases cj:x-(q+1)<=j
  .rw[if_pos (show x-(q+1)<=j/\j<x from⟨cj,h2⟩)]
   have z:=h i (x-(q+1)+x-1-j) (by omega) (by omega)
   rw[if_neg ci,if_pos (by omega)]at z
   exact .inl z
  .rw[if_neg (show ¬(x-(q+1)<=j/\j<x)by omega)]
   have z:=h i j h1 h2
   rw[if_neg ci,if_neg cj]at z
   exact z
theorem Dn.le{xs:Array Keyed}{k:Nat}(h:Dn xs k){i j:Nat}(h1:i<=j)(h2:j<k):ky xs[j]? <=ky xs[i]? :=by
 rcases Nat.lt_or_eq_of_le h1 with c|c
 .rcases h i j c h2 with z|z<;>omega
 .rw[c];exact Int.le_refl _
theorem Up.le{xs:Array Keyed}{k:Nat}(h:Up xs k){i j:Nat}(h1:i<=j)(h2:j<k):ky xs[i]? <=ky xs[j]? :=by
 rcases Nat.lt_or_eq_of_le h1 with c|c
 .rcases h i j c h2 with z|z<;>omega
 .rw[c];exact Int.le_refl _
theorem Dn.snoc{xs:Array Keyed}{x:Nat}(h:Dn xs x)(hx:0<x)(c:ky xs[x]? <ky xs[x-1]?):JN xs (x+1) 0:=fun i j h1 h2=>by
 rw[if_neg (by omega)]
 by_cases e:j=x
 .subst e
  rw[if_pos (by omega)]
  have:=h.le (i:=i) (j:=j-1) (by omega) (by omega)
  omega
 .rw[if_neg (by omega)]
  exact h i j h1 (by omega)
theorem Dn.one{xs:Array Keyed}:Dn xs 1:=fun i j h1 h2=>by omega
theorem Up.one{xs:Array Keyed}{k:Nat}(hk:k<=1):Up xs k:=fun i j h1 h2=>by omega
section
variable {prog:Program} {w:World} {A:Around} {E:Value->Shared->Prop} {s:Shared} {b0:Array Keyed}
theorem w_lt{st:SortSt}{i j:Nat}{Q:Option Bool->SortSt->Prop}(hB:SBase b0 st)(h0:IntKeys b0)(hi:i<b0.size)(hj:j<b0.size)
  (h:Q (some (decide (ky (arrOf st)[i]? <ky (arrOf st)[j]?))) st):wpS (model prog w) A E s (ltAt' i j) Q st:=by
 refine wpS_ltK hB h0 hi hj ?_
 rw[Te,Te]
 exact h
theorem Oj{st:SortSt}{a m:Nat}{Q:AscSt->SortSt->Prop}(h0:IntKeys b0)(hm:m<=b0.size)(ha:1<=a)(ham:a<=m)(hB:SBase b0 st)(hs:Up (arrOf st) a)(hr:Rs b0.size (arrOf st) a)
  (h:∀n,a<=n->n<=m->Up (arrOf st) n->(n=m\/ky (arrOf st)[n]? <ky (arrOf st)[n-1]?)->Q (none,n) st):wpS (model prog w) A E s (ascLoop a m) Q st:=by
 unfold ascLoop
 refine wpS_forRange (I:=fun x c st1=>st1=st/\c=(none,x)/\Up (arrOf st) x) ?go ?ends ⟨rfl,rfl,hs⟩
 case ends=>
  rintro c st1 ⟨rfl,rfl,u⟩
  rw[show max a m=m by omega]at u ⊢
  exact h m ham (Nat.le_refl _) u (.inl rfl)
 case go=>
  rintro x c st1 h1 h2 ⟨rfl,rfl,u⟩
  dsimp only
  refine wpS_bind (w_lt hB h0 (by omega) (by omega) ?_)
  by_cases z:ky (arrOf st1)[x]? <ky (arrOf st1)[x-1]?
  .simp only[z,decide_true,if_true]
   exact wpS_pure (h x h1 (by omega) u (.inr z))
  .simp only[z,decide_false,Bool.false_eq_true,if_false]
   refine wpS_pure ⟨rfl,rfl,fun i j hij hj=>?_⟩
   by_cases c:j<x
   .exact u i j hij c
   .have e:j=x:=by omega
    subst e
    have l:=u.le (i:=i) (j:=j-1) (by omega) (by omega)
    have r:=hr i j hij (by omega) (by omega)
    by_cases q:ky (arrOf st1)[i]? <ky (arrOf st1)[j]?
    .exact .inl q
    .exact .inr ⟨by omega,r⟩
theorem Uw{st:SortSt}{n m:Nat}{Q:Option Nat->SortSt->Prop}(h0:IntKeys b0)(hm:m<=b0.size)(h1:1<=n)(hnm:n<=m)(hB:SBase b0 st)(hs:Dn (arrOf st) n)(hr:Rs b0.size (arrOf st) n)
  (h:∀k st1,SBase b0 st1->1<=k->k<=m->Up (arrOf st1) k->Rs b0.size (arrOf st1) k->Q (some k) st1):wpS (model prog w) A E s (tail3 n m) Q st:=by
 unfold tail3
 have sz:n<=(arrOf st).size:=by rw[hB.size];omega
 refine wpS_bind (wpS_reverse ?_)
 have B1:SBase b0 (setArr st (mirror (arrOf st) 0 n ((n-0)/2))):=hB.setArr (mirror_perm _ _ _ _)
 have R1:Rs b0.size (mirror (arrOf st) 0 n ((n-0)/2)) n:=hr.mir sz (Nat.le_refl _)
 exact wpS_bind (Oj h0 hm h1 hnm B1 (hs.rev sz) R1 fun k k1 k2 u _=>wpS_pure (h k _ B1 (by omega) k2 u (R1.mono k1)))
theorem Rq{st:SortSt}{n m:Nat}{Q:DescSt->SortSt->Prop}(h0:IntKeys b0)(hm:m<=b0.size)(h1:1<=n)(hnm:n<=m)(hB:SBase b0 st)(hs:JN (arrOf st) n 0)(hr:Rs b0.size (arrOf st) n)
  (h:∀k q st1,SBase b0 st1->n<=k->k<=m->q+1<=k->JN (arrOf st1) k q->Rs b0.size (arrOf st1) k->Q (none,k,q) st1):wpS (model prog w) A E s (descLoop n m) Q st:=by
 unfold descLoop
 refine wpS_forRange (I:=fun x c st1=>∃q,c=(none,x,q)/\SBase b0 st1/\q+1<=x/\JN (arrOf st1) x q/\Rs b0.size (arrOf st1) x) ?go ?ends ⟨0,rfl,hB,by omega,hs,hr⟩
 case ends=>
  rintro c st1 ⟨q,rfl,B1,q1,d1,r1⟩
  rw[show max n m=m by omega]at q1 d1 r1 ⊢
  exact h m q st1 B1 hnm (Nat.le_refl _) q1 d1 r1
 case go=>
  rintro x c st1 hx1 hx2 ⟨q,rfl,B1,q1,d1,r1⟩
  dsimp only
  have sz:x<=(arrOf st1).size:=by rw[B1.size];omega
  refine wpS_bind (w_lt B1 h0 (by omega) (by omega) ?_)
  by_cases z:ky (arrOf st1)[x]? <ky (arrOf st1)[x-1]?
  .simp only[z,decide_true,if_true]
   by_cases zq:q>0
   .rw[if_pos zq]
    refine wpS_bind (wpS_reverse (wpS_pure ⟨0,rfl,B1.setArr (mirror_perm _ _ _ _),by omega,?_,?_⟩))
    .refine(d1.rev sz).snoc (by omega) ?_
     rw[Stb.mir sz,Stb.mir sz,if_neg (by omega),if_pos (by omega)]
     have e:=d1 (x-(q+1)) (x-1) (by omega) (by omega)
     rw[if_pos (Nat.le_refl _)]at e
     rw[show x-(q+1)+x-1-(x-1)=x-(q+1)by omega]
     omega
    .exact(r1.mir sz (Nat.le_refl _)).mono (by omega)
   .rw[if_neg zq]
    have e:q=0:=by omega
    subst e
    exact wpS_pure ⟨0,rfl,B1,by omega,d1.zero.snoc (by omega) z,r1.mono (by omega)⟩
  .simp only[z,decide_false,Bool.false_eq_true,if_false]
   refine wpS_bind (w_lt B1 h0 (by omega) (by omega) ?_)
   by_cases y:ky (arrOf st1)[x-1]? <ky (arrOf st1)[x]?
   .simp only[y,decide_true,if_true]
    exact wpS_pure (h x q st1 B1 hx1 (by omega) q1 d1 r1)
   .simp only[y,decide_false,Bool.false_eq_true,if_false]
    refine wpS_pure ⟨q+1,rfl,B1,by omega,fun i j hij hj=>?_,r1.mono (by omega)⟩
    rw[show x+1-(q+1+1)=x-(q+1)by omega]
    by_cases c:j<x
    .exact d1 i j hij c
    .have e:j=x:=by omega
     subst e
     have r:=r1 i j hij (Nat.le_refl _) (by omega)
     by_cases c2:j-(q+1)<=i
     .rw[if_pos c2]
      refine⟨?_,r⟩
      by_cases c3:i=j-1
      .rw[c3];omega
      .have e:=d1 i (j-1) (by omega) (by omega)
       rw[if_pos c2]at e
       omega
     .rw[if_neg c2,if_pos (by omega)]
      have e:=d1 i (j-1) (by omega) (by omega)
      rw[if_neg c2,if_pos (by omega)]at e
      omega
theorem Cw{st:SortSt}{n m:Nat}{Q:Option Nat->SortSt->Prop}(h0:IntKeys b0)(hm:m<=b0.size)(hnm:n+1<=m)(hB:SBase b0 st)(hs:JN (arrOf st) (n+1) 0)(hr:Rs b0.size (arrOf st) (n+1))
  (h:∀k st1,SBase b0 st1->1<=k->k<=m->Up (arrOf st1) k->Rs b0.size (arrOf st1) k->Q (some k) st1):wpS (model prog w) A E s (descPart n m) Q st:=by
 unfold descPart
 refine wpS_bind (wpS_lift (wpAny_rule ⟨rfl,?_⟩))
 refine wpS_bind (Rq h0 hm (by omega) hnm hB hs hr fun k q st1 B1 k1 k2 q1 d1 r1=>?_)
 dsimp only
 have sz:k<=(arrOf st1).size:=by rw[B1.size];omega
 by_cases zq:q>0
 .rw[if_pos zq]
  exact wpS_bind (wpS_reverse (Uw h0 hm (by omega) k2 (B1.setArr (mirror_perm _ _ _ _)) (d1.rev sz) (r1.mir sz (Nat.le_refl _)) h))
 .rw[if_neg zq]
  have e:q=0:=by omega
  subst e
  exact Uw h0 hm (by omega) k2 B1 d1.zero r1 h
theorem w_count{st:SortSt}{m:Nat}{Q:Option Nat->SortSt->Prop}(h0:IntKeys b0)(hm:m<=b0.size)(h1:1<=m)(hB:SBase b0 st)(hr:Rs b0.size (arrOf st) 1)
  (h:∀k st1,SBase b0 st1->1<=k->k<=m->Up (arrOf st1) k->Rs b0.size (arrOf st1) k->Q (some k) st1):wpS (model prog w) A E s (countRun' 0 m) Q st:=by
 rw[countRun0_eq]
 refine wpS_bind (Oj h0 hm (Nat.le_refl 1) h1 hB (Up.one (Nat.le_refl 1)) hr fun n n1 n2 u o=>?_)
 dsimp only
 by_cases e:n=m
 .rw[if_pos (by simpa using e)]
  exact wpS_pure (h n st hB n1 n2 u (hr.mono n1))
 .rw[if_neg (by simpa using e)]
  have lt:=o.resolve_left e
  by_cases g:n>1
  .rw[if_pos g]
   refine wpS_bind (w_lt hB h0 (by omega) (by omega) ?_)
   by_cases z:ky (arrOf st)[0]? <ky (arrOf st)[n-1]?
   .simp only[z,decide_true,if_true]
    exact wpS_pure (h n st hB n1 n2 u (hr.mono n1))
   .simp only[z,decide_false,Bool.false_eq_true,if_false]
    have sz:n<=(arrOf st).size:=by rw[hB.size];omega
    have all:∀k,k<n->ky (arrOf st)[k]? =ky (arrOf st)[n-1]? :=fun k hk=>by
     have a1:=u.le (i:=0) (j:=k) (by omega) hk
     have a2:=u.le (i:=k) (j:=n-1) (by omega) (by omega)
     omega
    refine wpS_bind (wpS_reverse (Cw h0 hm (by omega) (hB.setArr (mirror_perm _ _ _ _)) ?_ ((hr.mono n1).mir sz (Nat.le_refl _) |>.mono (by omega)) h))
    have d:Dn (mirror (arrOf st) 0 n ((n-0)/2)) n:=fun i j hij hj=>by
     rw[Stb.mir sz,Stb.mir sz,if_pos (by omega),if_pos (by omega)]
     rcases u (0+n-1-j) (0+n-1-i) (by omega) (by omega)with q|q
     .exact .inl q
     .exact .inr q
    refine d.snoc (by omega) ?_
    rw[Stb.mir sz,Stb.mir sz,if_neg (by omega),if_pos (by omega),all (0+n-1-(n-1)) (by omega)]
    exact lt
  .rw[if_neg g]
   have e1:n=1:=by omega
   subst e1
   exact Cw h0 hm (by omega) hB (Dn.one.snoc (by omega) lt) (hr.mono (by omega)) h
theorem UT{xs:Array Keyed}{src d:Nat}(hs:src<xs.size)(hd:d<=src)(k:Nat):(bubble xs src d)[k]? =if k=src-d then xs[src]? else if src-d<k/\k<=src then xs[k-1]? else xs[k]? :=getElem?_bubble hs d hd k
theorem Up.put{xs:Array Keyed}{k l:Nat}(h:Up xs k)(hr:Rs xs.size xs k)(hk:k<xs.size)(hl:l<=k)(lo:∀i,i<l->ky xs[i]? <=ky xs[k]?)(hi:∀i,l<=i->i<k->ky xs[k]? <ky xs[i]?):Up (bubble xs k (k-l)) (k+1):=fun i j hij hj=>by
 rw[UT hk (by omega),UT hk (by omega),show k-(k-l)=l by omega]
 by_cases c1:j<l
 .rw[if_neg (by omega),if_neg (by omega),if_neg (by omega),if_neg (by omega)]
  exact h i j hij (by omega)
 .by_cases c2:j=l
  .rw[if_neg (by omega),if_neg (by omega),if_pos c2]
   have a:=lo i (by omega)
   have r:=hr i k (by omega) (Nat.le_refl _) hk
   by_cases q:ky xs[i]? <ky xs[k]?
   .exact .inl q
   .exact .inr ⟨by omega,r⟩
  .rw[if_neg (show ¬j=l from c2),if_pos (show l<j/\j<=k by omega)]
   by_cases c3:i=l
   .rw[if_pos c3]
    exact .inl (hi _ (by omega) (by omega))
   .rw[if_neg c3]
    by_cases c4:l<i
    .rw[if_pos (by omega)]
     exact h _ _ (by omega) (by omega)
    .rw[if_neg (by omega)]
     exact h _ _ (by omega) (by omega)
theorem Rs.put{xs:Array Keyed}{k l:Nat}(hr:Rs xs.size xs k)(hk:k<xs.size)(hl:l<=k):Rs xs.size (bubble xs k (k-l)) (k+1):=fun i j hij h1 h2=>by
 rw[UT hk (by omega),UT hk (by omega),show k-(k-l)=l by omega]
 rw[if_neg (show ¬j=l by omega),if_neg (show ¬(l<j/\j<=k)by omega)]
 by_cases c3:i=l
 .rw[if_pos c3]
  exact hr _ _ (by omega) (by omega) h2
 .rw[if_neg c3]
  by_cases c4:l<i/\i<=k
  .rw[if_pos c4]
   exact hr _ _ (by omega) (by omega) h2
  .rw[if_neg c4]
   exact hr _ _ hij (by omega) h2
theorem Uv{st:SortSt}{n ok:Nat}{Q:Bool->SortSt->Prop}(h0:IntKeys b0)(hn:n<=b0.size)(hok:ok<=n)(hB:SBase b0 st)(hs:Up (arrOf st) ok)(hr:Rs b0.size (arrOf st) (max ok 1))
  (h:∀st1,SBase b0 st1->Up (arrOf st1) n->Q true st1):wpS (model prog w) A E s (binarySort' 0 n ok) Q st:=by
 rw[binarySort'_eq]
 simp only[Nat.zero_add]
 refine wpS_bind (wpS_mono (wpS_forRange (I:=fun k c st1=>c=(none,())/\SBase b0 st1/\Up (arrOf st1) (min k n)/\Rs b0.size (arrOf st1) k) (Q:=fun c st1=>c=(none,())/\SBase b0 st1/\Up (arrOf st1) n) ?go ?ends ?first) ?then_)
 case then_=>
  rintro c st1 ⟨rfl,B1,u1⟩
  exact wpS_pure (h st1 B1 u1)
 case first=>
  refine⟨rfl,hB,?_,hr⟩
  by_cases z:ok=0
  .exact Up.one (by omega)
  .rw[show min (max ok 1) n=ok by omega]
   exact hs
 case ends=>
  rintro c st1 ⟨hc,B1,u1,_⟩
  rw[show min (max (max ok 1) n) n=n by omega]at u1
  exact⟨hc,B1,u1⟩
 case go=>
  rintro k c st1 hk1 hk2 ⟨rfl,B1,u1,r1⟩
  rw[show min k n=k by omega]at u1
  have hk:k<b0.size:=by omega
  refine wpS_bind (wpS_mono (wpS_forRange (I:=fun x c st2=>st2=st1/\∃l r,c=(none,l,r)/\l<=r/\r<=k/\r-l<=k-x/\(∀i,i<l->ky (arrOf st1)[i]? <=ky (arrOf st1)[k]?)/\(∀i,r<=i->i<k->ky (arrOf st1)[k]? <ky (arrOf st1)[i]?))
   (Q:=fun c st2=>st2=st1/\∃l r,c=(none,l,r)/\l<=k/\(∀i,i<l->ky (arrOf st1)[i]? <=ky (arrOf st1)[k]?)/\(∀i,l<=i->i<k->ky (arrOf st1)[k]? <ky (arrOf st1)[i]?)) ?igo ?iends ?ifirst) ?ithen)
  case ifirst=>exact⟨rfl,0,k,rfl,by omega,by omega,by omega,fun i hi=>by omega,fun i a b=>by omega⟩
  case iends=>
   rintro c st2 ⟨rfl,l,r,rfl,a1,a2,a3,lo,hi⟩
   have e:l=r:=by omega
   subst e
   exact⟨rfl,l,l,rfl,a2,lo,hi⟩
  case igo=>
   rintro x c st2 _ hx ⟨rfl,l,r,rfl,a1,a2,a3,lo,hi⟩
   dsimp only
   by_cases g:l>=r
   .rw[if_pos g]
    have e:l=r:=by omega
    subst e
    exact wpS_pure ⟨rfl,l,l,rfl,a2,lo,hi⟩
   .rw[if_neg g]
    refine wpS_bind (w_lt B1 h0 hk (by omega) ?_)
    by_cases z:ky (arrOf st2)[k]? <ky (arrOf st2)[(l+r)/2]?
    .simp only[z,decide_true,if_true]
     refine wpS_pure ⟨rfl,l,(l+r)/2,rfl,by omega,by omega,by omega,lo,fun i b1 b2=>?_⟩
     have:=u1.le b1 b2
     omega
    .simp only[z,decide_false,Bool.false_eq_true,if_false]
     refine wpS_pure ⟨rfl,(l+r)/2+1,r,rfl,by omega,by omega,by omega,fun i b1=>?_,hi⟩
     have:=u1.le (i:=i) (j:=(l+r)/2) (by omega) (by omega)
     omega
  case ithen=>
   rintro c st2 ⟨rfl,l,r,rfl,a2,lo,hi⟩
   show wpS _ _ _ _ (do moveDown' k l;pure (ForInStep.yield (none,()))) _ _
   rw[moveDown'_eq]
   have sz:(arrOf st2).size=b0.size:=B1.size
   rw[<-sz]at r1
   refine wpS_bind (wpS_modify (wpS_pure ⟨rfl,B1.setArr (bubble_perm _ _ _),?_,?_⟩))
   .rw[show min (k+1) n=k+1 by omega]
    exact u1.put r1 (by omega) a2 lo hi
   .have:=r1.put (l:=l) (by omega) a2
    rw[sz]at this
    exact this
def Ox(b0:Array Keyed)(st:SortSt):Prop:=(arrOf st).Perm b0/\failedOf st=none/\pendingOf st= #[(0,b0.size,0)]/\Up (arrOf st) b0.size
theorem fin2{st:SortSt}(hB:SBase b0 st)(hs:Up (arrOf st) b0.size):Ox b0 (setPending st ((pendingOf st).push (0,b0.size,0))):=
 ⟨hB.perm,hB.failed,by show(pendingOf st).push _=_;rw[hB.pend];rfl,hs⟩
theorem w_runs{st:SortSt}{Q:Unit->SortSt->Prop}(h0:IntKeys b0)(hB:SBase b0 st)(h2:2<=b0.size)(h64:b0.size<64)(hr:Rs b0.size (arrOf st) 0)
  (h:∀st1,(arrOf st1).Perm b0->failedOf st1=none->Up (arrOf st1) b0.size->Q () st1):wpS (model prog w) A E s sortRuns' Q st:=by
 rw[sortRuns'_eq]
 refine wpS_bind (wpS_get ?_)
 dsimp only
 have mr:minRun' b0.size b0.size 0=b0.size:=by
  obtain⟨f,hf⟩:∃f,b0.size=f+1:=⟨b0.size-1,by omega⟩
  have z:minRun' (f+1) b0.size 0=b0.size:=by
   rw[minRun'_succ,if_pos h64]
   rfl
  rw[<-hf]at z
  exact z
 simp only[hB.size,mr]
 refine wpS_bind (wpS_mono (wpS_forRange (I:=fun x c st1=>(x=0/\c=(none,0)/\SBase b0 st1/\Rs b0.size (arrOf st1) 0)\/(1<=x/\c=(none,b0.size)/\Ox b0 st1)) (Q:=fun c st1=>c=(none,b0.size)/\Ox b0 st1) ?go ?ends (.inl ⟨rfl,rfl,hB,hr⟩)) ?then_)
 case ends=>
  rintro c st1 (⟨z,_⟩|⟨_,hc,d⟩)
  .omega
  .exact⟨hc,d⟩
 case go=>
  rintro x c st1 _ hx (⟨rfl,rfl,B1,r1⟩|⟨_,rfl,d⟩)
  .dsimp only
   rw[if_neg (by omega)]
   simp only[Nat.sub_zero,Nat.min_self,Nat.zero_add]
   refine wpS_bind (w_count h0 (Nat.le_refl _) (by omega) B1 (r1.mono (by omega)) fun k st2 B2 k1 k2 u2 r2=>?_)
   dsimp only
   by_cases lt:k<b0.size
   .rw[if_pos lt]
    refine wpS_bind (wpS_lift (wpAny_rule ⟨rfl,?_⟩))
    refine wpS_bind (Uv h0 (Nat.le_refl _) k2 B2 u2 (by rw[show max k 1=k by omega];exact r2) fun st3 B3 u3=>?_)
    simp only[Bool.not_true,Bool.false_eq_true,if_false]
    refine wpS_bind (wpS_get ?_)
    have hb:(pendingOf st3).back? =none:=by
     rw[B3.pend]
     rfl
    rw[hb]
    dsimp only
    exact wpS_bind (wpS_modify (wpS_pure (.inr ⟨by omega,rfl,fin2 B3 u3⟩)))
   .rw[if_neg lt]
    have e:k=b0.size:=by omega
    subst e
    refine wpS_bind (wpS_get ?_)
    have hb:(pendingOf st2).back? =none:=by
     rw[B2.pend]
     rfl
    rw[hb]
    dsimp only
    exact wpS_bind (wpS_modify (wpS_pure (.inr ⟨by omega,rfl,fin2 B2 u2⟩)))
  .dsimp only
   rw[if_pos (Nat.le_refl _)]
   exact wpS_pure ⟨rfl,d⟩
 case then_=>
  rintro c st1 ⟨rfl,d⟩
  dsimp only
  refine wpS_bind (wpS_mono (wpS_forRange (I:=fun _ c st2=>st2=st1/\c=(none,())) (Q:=fun c st2=>st2=st1/\c=(none,())) ?_ (fun _ _ z=>z) ⟨rfl,rfl⟩) ?_)
  .rintro x c st2 _ _ ⟨rfl,rfl⟩
   refine wpS_bind (wpS_get ?_)
   rw[if_pos (by rw[d.2.2.1];exact Nat.le_refl 1)]
   exact wpS_pure ⟨rfl,rfl⟩
  .rintro c st2 ⟨rfl,rfl⟩
   exact wpS_pure (h _ d.1 d.2.1 d.2.2.2)
end
end Stb
namespace L2
open PySem PySem.Spec PyProof.Rows
def jB(c:Addr)(qual:Str):HO:= .ext fun h=>h.CodeRec (.ref c) qual
def ud(f:Addr)(qual:Str)(params:Arguments)(body:Expr)(scope:Scope)(c:Addr)(pm ctv:Value):HO:= .ext fun h=>h.get? f=some (PySem.W.kla_obj "<lambda>" qual params body scope [] pm c ctv)
def BM(mg:Str->Option Value)(base:Heap):Prop:=∃bm ob,mg "__builtins__"=some (.ref bm)/\bm≠builtinsNs/\bm≠mainGlobals/\base.get? bm=some ob/\ob.cls= .type "module"/\ob.dict=some builtinsNs/\ob.data= .plain
theorem Ar{P:Program}{w:World}{H:Hp}{h:Heap}{c:Addr}{qual:Str}(r:h.CodeRec (.ref c) qual):cI P w H h c (jB c qual):=by
 refine⟨r,?_,fun h1 h2 q k=>?_⟩
 .obtain⟨c',oc,vs,tq,e,ho,_⟩:=r
  cases e
  exact⟨oc,ho⟩
 .obtain⟨c',oc,vs,tq,e,ho,r⟩:=q
  cases e
  exact⟨c,oc,vs,tq,rfl,k _ ho,r⟩
theorem GP{P:Program}{w:World}{H:Hp}{h:Heap}{f c:Addr}{qual:Str}{params:Arguments}{body:Expr}{scope:Scope}{pm ctv:Value}(e:h.get? f=some (PySem.W.kla_obj "<lambda>" qual params body scope [] pm c ctv)):
  cI P w H h f (ud f qual params body scope c pm ctv):=
 ⟨e,⟨_,e⟩,fun _ _ e k=>k _ e⟩
def WK(P:Addr)(pos:Pos)(qual:Str)(params:Arguments)(body:Expr)(scope:Scope):TE:=fun _ H Q=>∃ps,H P=some (.tbl ps)/\TriplesOk ps.toList/\
  ((codeAmong pos ps.toList=none/\∀c f pm ctv,H c=none->H f=none->f≠c->Q (.ref f) (upd (upd (upd H P (.tbl (ps++ #[rawInt pos.line,rawInt pos.col,.ref c]))) c (jB c qual)) f (ud f qual params body scope c pm ctv)))\/
   ∃c,codeAmong pos ps.toList=some (.ref c)/\H c=some (jB c qual)/\∀f pm ctv,H f=none->Q (.ref f) (upd H f (ud f qual params body scope c pm ctv)))
section
variable {X:Cx}
theorem Qt{params:Arguments}{body:Expr}{scope:Scope}{pos:Pos}{c P:Addr}(hcode:X.env.code= .ref c)(C:PySem.W.CodeHd X.base c P)(bm:BM X.mg X.base)(hcl:closureFor scope X.env=pure [])(hdef:defaultsOf params X.env=([],[]):=by rfl):
  PE X (.Lambda params body scope pos) (WK P pos (X.env.qual++"<lambda>") params body scope):=by
 intro pins s σ H Q I h
 obtain⟨ps,hP,ht,h⟩:=h
 have eP:s.heap.get? P=some (PySem.W.tabObj ps):=I.hok P _ hP
 obtain⟨bmA,ob,b1,b2,b3,b4,b5,b6,b7⟩:=bm
 have nP:∀b o,X.base.get? b=some o->b≠P:=fun b o e z=>by
  have:=(I.bs b o e).2
  rw[z,hP]at this
  cases this
 have hgP:mainGlobals≠P:=by
  obtain⟨o,es,ep,e,_⟩:=I.mod.glob
  exact nP _ _ e
 have hb:s.heap.BuiltinsAt X.mg P:=⟨bmA,ob,b1,b2,b3,nP _ _ b4,I.bk _ _ b4,b5,b6,b7⟩
 refine PySem.W.kla_eval hdef ?_
 rcases h with⟨hnf,k⟩|⟨c',hf,hc',k⟩
 .refine PySem.W.kla_makeFunction (mg:=X.mg) hcl I.ok.glob (I.mod.glob.keeps I.bk) hcode (C.keeps I.bk) eP ht hnf hgP hb fun c' ctv h' tk hx hge hlt hrec htb=>?_
  have sz:s.heap.objs.size<=h'.objs.size:=Nat.le_trans hge (Nat.le_of_lt hlt)
  have fc:H c'=none:=I.hok.fresh hge
  have ff:H h'.objs.size=none:=I.hok.fresh sz
  have nfc:h'.objs.size≠c':=Nat.ne_of_gt hlt
  refine⟨.ref h'.objs.size,_,?_,rfl,k c' h'.objs.size ((X.mg "__name__").getD .none) ctv fc ff nfc⟩
  have keep3:∀b o,b≠P->s.heap.get? b=some o->(h'.push (PySem.W.kla_obj "<lambda>" (X.env.qual++"<lambda>") params body scope [] ((X.mg "__name__").getD .none) c' ctv)).get? b=some o:=fun b o hb e=>Heap.get?_push_of_some _ (hx b o hb e)
  have neP:∀b,H b=none->b≠P:=fun b n z=>by
   rw[z,hP]at n
   cases n
  have pP:(h'.push (PySem.W.kla_obj "<lambda>" (X.env.qual++"<lambda>") params body scope [] ((X.mg "__name__").getD .none) c' ctv)).get? P=some (PySem.W.tabObj (ps++ #[rawInt pos.line,rawInt pos.col,.ref c'])):=Heap.get?_push_of_some _ htb
  have nPc:P≠c':=aM hP fc
  have nPf:P≠h'.objs.size:=aM hP ff
  have old:∀b u,H b=some u->b≠P->(upd (upd (upd H P (.tbl (ps++ #[rawInt pos.line,rawInt pos.col,.ref c']))) c' (jB c' (X.env.qual++"<lambda>"))) h'.objs.size (ud h'.objs.size (X.env.qual++"<lambda>") params body scope c' ((X.mg "__name__").getD .none) ctv)) b=some u:=fun b u e hb=>by
   rw[aG (aM e ff),aG (aM e fc),aG hb]
   exact e
  refine I.un (t':=tk) ⟨fun b o e n _ _=>keep3 b o (neP b n) e,fun b o e n _ _=>⟨o.slots,keep3 b o (neP b n) e⟩,fun b o e n _=>?_,fun b o e _=>?_,fun b xs e=>old b _ e (bW e hP fun z=>nomatch z),fun b ob u e=>old b _ e (bW e hP fun z=>nomatch z),fun b ps0 e=>?_⟩ fun b u e=>?_
  .have lb:b<s.heap.objs.size:=Heap.lt_size e
   rw[aG (Nat.ne_of_lt (Nat.lt_of_lt_of_le lb sz)),aG (Nat.ne_of_lt (Nat.lt_of_lt_of_le lb hge)),aG (neP b n)]
   exact n
  .by_cases hb:b=P
   .rw[hb]
    exact⟨_,pP⟩
   .exact⟨o,keep3 b o hb e⟩
  .by_cases hb:b=P
   .subst hb
    rw[hP]at e
    cases e
    exact⟨#[rawInt pos.line,rawInt pos.col,.ref c'],by rw[aG nPf,aG nPc,az]⟩
   .exact⟨#[],by rw[old b _ e hb];simp⟩
  .by_cases h1:b=h'.objs.size
   .subst h1
    rw[az]at e
    cases e
    exact GP (Heap.get?_push_size _ rfl)
   .rw[aG h1]at e
    by_cases h2:b=c'
    .subst h2
     rw[az]at e
     cases e
     exact Ar (hrec.keeps fun b o q=>Heap.get?_push_of_some _ q)
    .rw[aG h2]at e
     by_cases h3:b=P
     .subst h3
      rw[az]at e
      cases e
      exact pP
     .rw[aG h3]at e
      refine(I.hok b u e).stay (fun d v hd q=>keep3 d v ?_ q) (fun d q=>old d _ q (bW q hP fun z=>nomatch z)) fun d ys q=>old d _ q (bW q hP fun z=>nomatch z)
      rcases hd with hd|hd
      .rw[hd]
       exact h3
      .exact bW hd hP fun z=>nomatch z
 .refine PySem.W.kla_makeFunctionHit (mg:=X.mg) hcl I.ok.glob (I.mod.glob.keeps I.bk) hcode (C.keeps I.bk) eP ht hf hb fun ctv h' tk hk hsz=>?_
  exact⟨.ref h'.objs.size,_,I.laid (a:=h'.objs.size) (o:=ud h'.objs.size (X.env.qual++"<lambda>") params body scope c' ((X.mg "__name__").getD .none) ctv) (t':=tk) (fun b u e=>Heap.get?_push_of_some _ (hk b u e)) hsz (GP (Heap.get?_push_size _ rfl)),rfl,k _ _ _ (I.hok.fresh hsz)⟩
end
structure Nj where
 f:Addr
 c:Addr
 qual:Str
 params:Arguments
 body:Expr
 scope:Scope
 pm:Value
 ctv:Value
def Nj.At(l:Nj)(H:Hp):Prop:=H l.f=some (ud l.f l.qual l.params l.body l.scope l.c l.pm l.ctv)/\H l.c=some (jB l.c l.qual)
def Ru(P:Program)(w:World)(K:PySem.W.Frag)(mg:Str->Option Value)(base:Heap)(k:Nat)(l:Nj)(n:Nat)(sp:Sp):Prop:=
 ∀(A:Around)(outer:List Env)(s:Shared)(H:Hp)(us:List Value)(vs:List V)(Q:VK),aZ k A->uc P w K mg base A outer s H->l.At H->Vals vs us->vs.length=n->sp vs H Q E0->
  codeAny (model P w) A (.call (.ref l.f) ⟨us,[]⟩) (CR dj outer P w H s Q E0) s
theorem Km{P:Program}{w:World}{K:PySem.W.Frag}{mg:Str->Option Value}{base:Heap}{k:Nat}{l:Nj}{N ps:List Str}{sp:Sp}(S:aQ N ps l.scope)
  (hb:∀us:List Value,us.length=ps.length->bindArgs (PySem.W.kla_fn "<lambda>" l.qual l.params l.body l.scope [] l.pm (.ref l.c) l.ctv) ⟨us,[]⟩=pure (ps.zip us))
  (hbody:∀(A:Around)(outer:List Env)(s:Shared)(H:Hp)(vs:List V)(Q:VK),aZ k (A.deeper (PyProof.Rows.envOfC l.qual l.scope s.heap.objs.size l.f (.ref l.c)))->sp vs H Q E0->
   ∃t,PE (ug dj P w K mg base N l.qual l.scope l.f (.ref l.c) A outer s H E0).nox l.body t/\t (start N vs) H Q):
  Ru P w K mg base (k+1) l ps.length sp:=by
 intro A outer s H us vs Q hr e0 hf r hl hsp
 obtain⟨ho,_⟩:=(show cI P w H s.heap l.f (ud l.f l.qual l.params l.body l.scope l.c l.pm l.ctv)from e0.hok l.f _ hf.1)
 obtain⟨hrec,_⟩:=(show cI P w H s.heap l.c (jB l.c l.qual)from e0.hok l.c _ hf.2)
 have lim:s.heap.NoLimit:=e0.mod.nolimit.keeps fun b o e=>(e0.bs b o e).1
 have hkind:∀y∈ps.zip us,l.scope.names.lookup y.1=some .local\/(l.scope.names.lookup y.1=some .cell/\((cellsFrom (s.heap.objs.size+1) l.scope.names []).lookup y.1).isSome=true):=fun⟨n,v⟩hy=>by
  rcases S.par n (List.of_mem_zip hy).1 with q|q
  .exact .inl q
  .exact .inr ⟨q,PySem.W.cellsFrom_some _ _ _ (.inl q)⟩
 refine PySem.W.kla_callFunE hr.depth ho rfl S.co S.gen rfl hrec ?_
 rw[hb us (by rw[<-r.length];exact hl)]
 refine wpAny_pure (wpAny_newFunctionEnv_cells S.kind hkind fun env he s1 x=>?_)
 subst he
 refine⟨lim.keeps x.toInCall.keep,PySem.W.kla_codeExpr ?_⟩
 obtain⟨t,ht,hq⟩:=hbody A outer s H vs Q (hr.deeper _) hsp
 have I:Inv (ug dj P w K mg base N l.qual l.scope l.f (.ref l.c) A outer s H E0) [] (start N vs) H s1:=uF S hr.hd e0 hl r x
 refine wpAny_mono (ht [] s1 (start N vs) H Q (I.wish _) hq) (fun u s' hs=>?_) fun _ _ z=>False.elim z
 obtain⟨v,H',J,rv,q⟩:=hs
 exact⟨v,H',J.os,J.bare,J.base,J.hok,rv,q⟩
def Rh(P:Program)(w:World)(K:PySem.W.Frag)(mg:Str->Option Value)(base:Heap)(k:Nat)(tf:TE)(t:TA):TE:=fun σ H Q=>tf σ H fun x H1=>∃(l:Nj)(n:Nat)(sp:Sp),x= .ref l.f/\Ru P w K mg base k l n sp/\t σ H1 fun vs H2=>l.At H2/\vs.length=n/\sp vs H2 Q E0
section
variable {X:Cx} {x:Str} {k:Nat} {e:Expr} {es:List Expr} {p pos:Pos} {t:TA} {tf:TE}
theorem HR(hr:aZ k X.A)(hf:PE X (.Name x p) tf)(ha:PA X (e::es) t)(he:starEach (e::es) X.env=(false,eval e X.env)::starEach es X.env:=by rfl):
  PE X (.Call (.Name x p) (e::es) [] pos) (Rh X.prog X.w X.K X.mg X.base k tf t):=by
 intro pins s σ H Q I h
 refine wpAny_Call_Name_kw (cZ (hf pins s σ H _ I h) fun fv s1⟨v,H1,I1,rv,l,n,sp,ev,hF,q1⟩=>?_)
 subst ev
 cases (show fv=Value.ref l.f from rv)
 refine PyProof.Rows.callWith_def (o:=PySem.W.kla_obj "<lambda>" l.qual l.params l.body l.scope [] l.pm l.c l.ctv) rfl (cZ (ha pos pins s1 σ H1 _ I1 q1) fun us s2⟨vs,H2,I2,r2,hat,hn,q2⟩=>?_) he
 obtain⟨ho,_⟩:=(show cI X.prog X.w H2 s2.heap l.f (ud l.f l.qual l.params l.body l.scope l.c l.pm l.ctv)from I2.hok l.f _ hat.1)
 refine⟨ho,wpAny_call (codeAny_mono (hF X.A X.stack s2 H2 us vs Q hr I2.env0 hat r2 hn q2) fun r s' hq=>?_)⟩
 cases r with
 |error e=>exact False.elim hq
 |ok fl=>
  cases fl with
  |ret u=>exact I2.after hq
  |next=>exact False.elim hq
  |brk=>exact False.elim hq
  |cont=>exact False.elim hq
end
end L2
namespace L2
open PySem PySem.Spec PyProof.Rows
theorem DN{P:Program}{w:World}{K:PySem.W.Frag}{mg mb:Str->Option Value}{k:Nat}{fa a:Addr}{fd:FuncData}{x:Str}{sp:Sp}{s₁:Shared}{vs:List Value}{ns:List Int}{tabs:List (Addr×Addr)}
  (KX:K.In s₁.heap)(hns:s₁.heap.Ns mainGlobals mg)(hb:s₁.heap.Ns builtinsNs mb)(hbb:∀x:Str,x≠"__name__"->mb x=bootBuiltins x)(hlim:s₁.heap.NoLimit)(hg:s₁.gens= #[])
  (ha:s₁.heap.get? a=some {cls:= .type "list",data:= .seq vs.toArray})(hi:IntsAre vs ns)(hl:ns.length<=sizeLine)(hr:aZ k callerA)
  (nt:PySem.W.noTabs K=true)(hT:∀t∈tabs,PySem.W.CodeHd s₁.heap t.1 t.2/\s₁.heap.TableAt t.1 t.2 #[])(hbm:BM mg s₁.heap)
  (F:∀base:Heap,K.In base->base.Ns mainGlobals mg->BM mg base->(∀t∈tabs,PySem.W.CodeHd base t.1 t.2)->bH P w K mg base dj k fa fd [x] sp)(hbind:∀(s:Shared)(u:Value),BindsTo s fd ⟨[u],[]⟩ [(x,u)])
  (hsp:∀H:Hp,cJ K H a (ns.map V.int)->(∀t∈tabs,H t.2=some (.tbl #[]))->sp [.ref a] H (fun v _=>v= .bl true) E0):
  codeAny (model P w) callerA (.call (.ref fa) ⟨[.ref a],[]⟩) (fun r s'=>r= .ok (.ret (.bool true))/\OldK s₁.heap s'.heap/\s'.os=s₁.os/\AllBare s'.gens) s₁:=by
 have rv:=qG hi
 have lenV:=hi.length
 have tabAt:∀b∈tabs.map (·.2),∃c,(c,b)∈tabs/\s₁.heap.get? b=some (PySem.W.tabObj #[]):=fun b hb=>by
  obtain⟨t,ht,rfl⟩:=List.mem_map.mp hb
  exact⟨t.1,ht,(hT t ht).2.2⟩
 have naT:a∉tabs.map (·.2):=fun z=>by
  obtain⟨c,_,e⟩:=tabAt a z
  rw[ha]at e
  cases e
 have core:∀sc:Option HO,(∀u,sc=some u->u= .frz {cls:= .type "list",data:= .seq vs.toArray} (.lst (ns.map V.int))/\K.lookup a=none)->cJ K (fun b=>if b∈tabs.map (·.2)then some (.tbl #[])else if b=a then sc else none) a (ns.map V.int)->
   codeAny (model P w) callerA (.call (.ref fa) ⟨[.ref a],[]⟩) (fun r s'=>r= .ok (.ret (.bool true))/\OldK s₁.heap s'.heap/\s'.os=s₁.os/\AllBare s'.gens) s₁:=by
  intro sc hsc hS
  have hH:∀b u,(fun b=>if b∈tabs.map (·.2)then some (HO.tbl #[])else if b=a then sc else none) b=some u->(b∈tabs.map (·.2)/\u= .tbl #[])\/(b=a/\sc=some u):=fun b u e=>by
   have e':(if b∈tabs.map (·.2)then some (HO.tbl #[])else if b=a then sc else none)=some u:=e
   by_cases h1:b∈tabs.map (·.2)
   .rw[if_pos h1]at e'
    exact .inl ⟨h1,(Option.some.inj e').symm⟩
   .rw[if_neg h1]at e'
    by_cases h2:b=a
    .rw[if_pos h2]at e'
     exact .inr ⟨h2,e'⟩
    .rw[if_neg h2]at e'
     cases e'
  have hTt:∀t∈tabs,(fun b=>if b∈tabs.map (·.2)then some (HO.tbl #[])else if b=a then sc else none) t.2=some (.tbl #[]):=fun t ht=>if_pos (List.mem_map_of_mem ht)
  generalize (fun b=>if b∈tabs.map (·.2)then some (HO.tbl #[])else if b=a then sc else none)=H at hS hH hTt
  have hok:mL P w H s₁.heap:=fun b u e=>by
   rcases hH b u e with⟨h1,rfl⟩|⟨rfl,h2⟩
   .obtain⟨_,_,e⟩:=tabAt b h1
    exact e
   .obtain⟨rfl,_⟩:=hsc u h2
    exact⟨ha,by rw[List.length_map];exact hl,vs,_,rv,ha⟩
  have none_of:∀{b:Addr}{o:Obj},s₁.heap.get? b=some o->o.cls≠ .none->o.cls≠ .type "list"->H b=none:=fun{b o}e h1 h2=>by
   cases q:H b with
   |none=>rfl
   |some u=>
    rcases hH b u q with⟨h3,_⟩|⟨rfl,_⟩
    .obtain⟨_,_,e'⟩:=tabAt b h3
     rw[e]at e'
     cases e'
     exact absurd rfl h1
    .rw[e]at ha
     cases ha
     exact absurd rfl h2
  have base_of:∀{b:Addr}{o:Obj},s₁.heap.get? b=some o->H b=none->(sO s₁.heap H).get? b=some o:=fun e n=>Gw e n
  have noD:∀{b:Addr}{o:Obj}{es:Array DictEntry}{ep:Nat},s₁.heap.get? b=some o->o.data= .dict es ep->H b=none:=fun{b o es ep}e d=>by
   cases q:H b with
   |none=>rfl
   |some u=>
    rcases hH b u q with⟨h3,_⟩|⟨rfl,_⟩
    .obtain⟨_,_,e'⟩:=tabAt b h3
     rw[e]at e'
     cases e'
     cases d
    .rw[e]at ha
     cases ha
     cases d
  have nsK:∀{b:Addr}{m:Str->Option Value},s₁.heap.Ns b m->(sO s₁.heap H).Ns b m:=fun{b m}⟨o,es,ep,e,d,r⟩=>⟨o,es,ep,base_of e (noD e d),d,r⟩
  have hKb:K.In (sO s₁.heap H):=fun b o e=>base_of (KX b o e) (by
   cases q:H b with
   |none=>rfl
   |some u=>
    rcases hH b u q with⟨h3,_⟩|⟨rfl,h4⟩
    .obtain⟨_,_,e'⟩:=tabAt b h3
     rw[KX b o e]at e'
     cases e'
     have h2:=List.all_eq_true.mp nt (b,_) (PySem.W.mem_of_lookupK e)
     exact absurd (show false=true from h2) Bool.false_ne_true
    .rw[(hsc u h4).2]at e
     cases e)
  have hM:Mod K mg (sO s₁.heap H):=⟨hKb,nsK hns,⟨mb,nsK hb,hbb⟩,let⟨mc,h1,h2⟩:=hlim;⟨mc,nsK h1,h2⟩⟩
  have hBM:BM mg (sO s₁.heap H):=by
   obtain⟨bm,ob,b1,b2,b3,b4,b5,b6,b7⟩:=hbm
   exact⟨bm,ob,b1,b2,b3,base_of b4 (none_of b4 (by rw[b5];exact fun z=>nomatch z) (by rw[b5];decide)),b5,b6,b7⟩
  have hCd:∀t∈tabs,PySem.W.CodeHd (sO s₁.heap H) t.1 t.2:=fun t ht=>by
   obtain⟨o,vs,file,tf,flags,tg,inF,text,tt,e,hc,r⟩:=(hT t ht).1
   exact⟨o,vs,file,tf,flags,tg,inF,text,tt,base_of e (none_of e (by rw[hc];exact fun z=>nomatch z) (by rw[hc];decide)),hc,r⟩
  have e0:uc P w K mg (sO s₁.heap H) callerA [] s₁ H:=⟨rfl,hM,fun b o e=>Kv e,Nat.le_of_eq (Dr _ _),trivial,fun b hb=>absurd (show b∈([]:List Addr)from hb) (by simp),hok,.of_eq hg⟩
  refine codeAny_mono ((F _ hKb (nsK hns) hBM hCd).run callerA [] s₁ H ⟨[.ref a],[]⟩ [.ref a] [.ref a] _ _ hr e0 (hbind s₁ (.ref a)) (.cons rfl .nil) (hsp H hS hTt)) fun r s' h=>?_
  cases r with
  |error e=>exact False.elim h
  |ok fl=>
   cases fl with
   |next=>exact False.elim h
   |brk=>exact False.elim h
   |cont=>exact False.elim h
   |ret u=>
    obtain⟨v,H',os,bare,un,hok',r',q⟩:=h
    have q':v= .bl true:=q
    subst q'
    obtain rfl:u=Value.bool true:=r'
    have kept:∀b o,s₁.heap.get? b=some o->b∉tabs.map (·.2)->s'.heap.get? b=some o:=fun b o e hbT=>by
     cases q:H b with
     |none=>exact un.keep b o e q (by intro z;exact absurd (show b∈([]:List Addr)from z) (by simp)) (by simp)
     |some u=>
      rcases hH b u q with⟨h3,_⟩|⟨_,h4⟩
      .exact absurd h3 hbT
      .obtain⟨rfl,_⟩:=hsc u h4
       have z2:=un.frzs b _ _ q
       obtain⟨e1,_⟩:=hok b _ q
       obtain⟨e2,_⟩:=hok' b _ z2
       rw[e]at e1
       cases e1
       exact e2
    have grown:∀t∈tabs,∃more,s'.heap.get? t.2=some (PySem.W.tabObj (#[]++more)):=fun t ht=>by
     obtain⟨more,z⟩:=un.tbls t.2 #[] (hTt t ht)
     exact⟨more,hok' t.2 _ z⟩
    refine⟨rfl,⟨fun b o e=>?_,fun b o e=>?_⟩,os,bare⟩
    .by_cases hbT:b∈tabs.map (·.2)
     .obtain⟨t,ht,rfl⟩:=List.mem_map.mp hbT
      obtain⟨more,z⟩:=grown t ht
      have e':=(hT t ht).2.2
      rw[e]at e'
      cases e'
      exact .inr (.inl ⟨(hT t ht).2.isCodeTable,rfl,#[],more,rfl,z⟩)
     .exact .inl (kept b o e hbT)
    .by_cases hbT:b∈tabs.map (·.2)
     .obtain⟨t,ht,rfl⟩:=List.mem_map.mp hbT
      obtain⟨more,z⟩:=grown t ht
      exact⟨_,z⟩
     .exact⟨o,kept b o e hbT⟩
 cases hk:K.lookup a with
 |some o=>
  have e:=KX a o hk
  rw[ha]at e
  cases e
  exact core none (fun _ z=>nomatch z) (.inr ⟨_,vs.toArray,_,hk,rfl,rfl,rfl,by rw[List.size_toArray,lenV];exact hl,by simpa using rv⟩)
 |none=>
  refine core (some (.frz {cls:= .type "list",data:= .seq vs.toArray} (.lst (ns.map V.int)))) (fun u z=>⟨(Option.some.inj z).symm,hk⟩) (.inl (.inr ⟨{cls:= .type "list",data:= .seq vs.toArray},?_⟩))
  show(if a∈tabs.map (·.2)then _ else if a=a then _ else _)=_
  rw[if_neg naT,if_pos rfl]
theorem JB{l:PySem.W.OpenLaw}{n k:Nat}{q:Program}{loose:List Str}{XP:(Str->Option Value)->Heap->Prop}{YP:World->Heap->Prop}{d:DefRec}{K:Params->PySem.W.Frag}{x:Str}
  (hn:l.most=some n)(hn2:n<=sizeLine)(hdf:d.params.defaults=[])(hr:aZ k callerA)
  (hY:∀(w:World)(h:Heap),YP w h->(K w.params).In h)
  (F:∀(w:World)(mg:Str->Option Value)(fa:Addr)(h:Heap),(K w.params).In h->h.Ns mainGlobals mg->mg d.name=some (.ref fa)->
   ∃(tabs:List (Addr×Addr))(fd:FuncData)(sp:Sp),(∀t∈tabs,∃(y:Str)(e:DefRec),(recsOf q).find? (fun e=>e.name==y)=some e/\PySem.W.tabIn (K w.params) y=some t)/\PySem.W.noTabs (K w.params)=true/\(∀(s:Shared)(u:Value),BindsTo s fd ⟨[u],[]⟩ [(x,u)])/\
    (∀base:Heap,(K w.params).In base->base.Ns mainGlobals mg->BM mg base->(∀t∈tabs,PySem.W.CodeHd base t.1 t.2)->bH l.prog w (K w.params) mg base dj k fa fd [x] sp)/\
    ∀(H:Hp)(a:Addr)(ns:List Int),ns.length<=n->cJ (K w.params) H a (ns.map V.int)->(∀t∈tabs,H t.2=some (.tbl #[]))->sp [.ref a] H (fun v _=>v= .bl true) E0):
  PySem.W.WalkO q loose XP YP l.row.toRowW d [] (fun f vs=>PySem.call f vs):=by
 refine Att.attach_call hn hdf fun w s₀ s₁ mg mb fa o pm cd doc a vs ns G Y ho hd hcd hmg hobj hints hlen hg=>?_
 have KX:=hY w _ Y
 obtain⟨tabs,fd,sp,hT,nt,hb,hF,hS⟩:=F w mg fa _ KX G.T.g hmg
 have hT':∀t∈tabs,PySem.W.CodeHd s₁.heap t.1 t.2/\s₁.heap.TableAt t.1 t.2 #[]:=fun t ht=>by
  obtain⟨y,e,h1,h2⟩:=hT t ht
  have z:=PySem.W.tab_of (c:=t.1) (P:=t.2) G.T KX h1 h2
  exact⟨z.1,z.1.tab z.2⟩
 have hbm:BM mg s₁.heap:=by
  obtain⟨bm,ob,b1,b2,b3,b4,b5,b6⟩:=G.T.bmain
  refine⟨bm,ob,b1,b2,fun z=>?_,b3,b4,b5,b6⟩
  obtain⟨o,es,ep,e,hd,_⟩:=G.T.g
  rw[z,e]at b3
  cases b3
  rw[hd]at b6
  cases b6
 exact DN KX G.T.g G.T.b G.T.builtins G.T.nolimit hg hobj hints (Nat.le_trans hlen hn2) hr nt hT' hbm hF hb fun H hq ht=>hS H a ns hlen hq ht
end L2
namespace L2
open PySem PySem.Spec PyProof.Rows
def vz(qual:Str)(scope:Scope)(L f:Addr)(cd:Value)(x y:Str)(c:Addr):Env:=
 {scope:=scope,locals:=L,globals:=mainGlobals,cells:=[(x,L+1),(y,c)],qual:=qual++".<locals>.",func:=some f,code:=cd,frame:=some L,builtins:=builtinsNs}
structure nF(x y z:Str)(sc:Scope):Prop where
 kind:sc.kind= .function
 co:sc.isCoroutine=false
 gen:sc.isGenerator=false
 names:sc.names=[(x,.cell),(y,.free),(z,.globalImplicit)]
 ne:x≠y
theorem nF.kx{x y z:Str}{sc:Scope}(S:nF x y z sc):sc.names.lookup x=some .cell:=by
 rw[S.names]
 simp[List.lookup]
theorem nF.ky{x y z:Str}{sc:Scope}(S:nF x y z sc):sc.names.lookup y=some .free:=by
 rw[S.names]
 have:(y==x)=false:=beq_eq_false_iff_ne.mpr S.ne.symm
 simp[List.lookup,this]
theorem nF.only{x y z n:Str}{sc:Scope}(S:nF x y z sc)(h:sc.names.lookup n=some .cell\/sc.names.lookup n=some .free\/sc.names.lookup n=some .local):n=x\/n=y:=by
 rw[S.names]at h
 simp only[List.lookup]at h
 by_cases h1:n=x
 .exact .inl h1
 .by_cases h2:n=y
  .exact .inr h2
  .have e1:(n==x)=false:=beq_eq_false_iff_ne.mpr h1
   have e2:(n==y)=false:=beq_eq_false_iff_ne.mpr h2
   rw[e1,e2]at h
   dsimp only at h
   cases e3:(n==z)with
   |true=>rw[e3]at h;simp at h
   |false=>rw[e3]at h;simp at h
theorem yK{qual x y:Str}{sc:Scope}{L f c:Addr}{cd:Value}:(vz qual sc L f cd x y c).cells.lookup x=some (L+1):=by
 show List.lookup x [(x,L+1),(y,c)]=_
 simp[List.lookup]
theorem Gq{qual x y:Str}{sc:Scope}{L f c:Addr}{cd:Value}(h:x≠y):(vz qual sc L f cd x y c).cells.lookup y=some c:=by
 show List.lookup y [(x,L+1),(y,c)]=_
 have:(y==x)=false:=beq_eq_false_iff_ne.mpr h.symm
 simp[List.lookup,this]
theorem oN{qual x y n:Str}{sc:Scope}{L f c d:Addr}{cd:Value}(h:(vz qual sc L f cd x y c).cells.lookup n=some d):(n=x/\d=L+1)\/(n=y/\d=c):=by
 have h':List.lookup n [(x,L+1),(y,c)]=some d:=h
 simp only[List.lookup]at h'
 cases e1:(n==x)with
 |true=>
  rw[e1]at h'
  exact .inl ⟨beq_iff_eq.mp e1,(Option.some.inj h').symm⟩
 |false=>
  rw[e1]at h'
  cases e2:(n==y)with
  |true=>
   rw[e2]at h'
   exact .inr ⟨beq_iff_eq.mp e2,(Option.some.inj h').symm⟩
  |false=>
   rw[e2]at h'
   cases h'
theorem Kc{M:Model}{A:Around}{E:Value->Shared->Prop}{s:Shared}{x y z qual:Str}{sc:Scope}{f c:Addr}{cd v:Value}{Q:Env->Shared->Prop}(S:nF x y z sc)
  (h:∀h1:Heap,(∀b o,s.heap.get? b=some o->h1.get? b=some o)->h1.Ns s.heap.objs.size (fun _=>none)->h1.IsCell (s.heap.objs.size+1) (some v)->Q (vz qual sc s.heap.objs.size f cd x y c) {s with heap:=h1}):
  wpAny M A (newFunctionEnv sc mainGlobals [(y,c)] [(x,v)] (qual++".<locals>.") (some f) cd none builtinsNs) Q E s:=by
 unfold newFunctionEnv
 simp only[Option.isSome_none,Bool.false_eq_true,if_false]
 refine wpAny_bind (wpAny_alloc ?_)
 refine wpAny_bind (wpAny_layCells _ (fun nm kd cs=>by cases q:kd==NameKind.cell<;>simp[q]) _ _ _ _ ?_)
 have ec:∀n:Nat,cellsFrom n sc.names [(y,c)]=[(x,n),(y,c)]:=fun n=>by
  rw[S.names]
  rfl
 have ep:∀hp:Heap,pushCells hp sc.names=hp.push {cls:= .type "cell",data:= .cell none}:=fun hp=>by
  rw[S.names]
  rfl
 rw[ec,ep]
 dsimp only
 rw[Heap.size_push]
 refine wpAny_bind ?_
 rw[List.forIn_cons]
 refine wpAny_bind (wpAny_bind (wpAny_storeName_cell (env:=vz qual sc s.heap.objs.size f cd x y c) (c:=s.heap.objs.size+1) (v₀:=none) S.kind S.kx yK ?_ fun h' hc hs=>?_))
 .show Heap.IsCell ((s.heap.push {cls:= .type "frame",data:= .dict #[]}).push {cls:= .type "cell",data:= .cell none}) (s.heap.objs.size+1) none
  rw[<-Heap.size_push s.heap {cls:= .type "frame",data:= .dict #[]}]
  exact⟨_,Heap.get?_push_size _ rfl,rfl⟩
 .refine wpAny_pure ?_
  dsimp only
  rw[List.forIn_nil]
  refine wpAny_pure (wpAny_pure (h h' (fun b o e=>?_) ?_ hc))
  .exact hs.extBut b o (Nat.ne_of_lt (Nat.lt_succ_of_lt (Heap.lt_size e))) (Heap.get?_push_of_some _ (Heap.get?_push_of_some _ e))
  .exact((Heap.Ns.new s.heap (.type "frame")).keeps fun b o e=>Heap.get?_push_of_some _ e).sameBut hs (Nat.ne_of_lt (Nat.lt_succ_self _))
def UV(P:Program)(w:World)(K:PySem.W.Frag)(mg:Str->Option Value)(base:Heap)(qual:Str)(scope:Scope)(f:Addr)(cd:Value)(x y:Str)(c:Addr)(A:Around)(outer:List Env)(s:Shared)(H:Hp):Cx where
 prog:=P
 w:=w
 K:=K
 mg:=mg
 base:=base
 A:=A.deeper (vz qual scope s.heap.objs.size f cd x y c)
 N:=[x,y]
 s₀:=s
 H₀:=H
 env:=vz qual scope s.heap.objs.size f cd x y c
 outer:=outer
 stack:=vz qual scope s.heap.objs.size f cd x y c::outer
 ex:=[]
 calm:=true
 fn:=fun n=>n==x
 pn:=[]
 xe:=fun _ _=>False
theorem Dy{P:Program}{w:World}{K:PySem.W.Frag}{mg:Str->Option Value}{base:Heap}{k:Nat}{x y z qual:Str}{params:Arguments}{body:Expr}{scope:Scope}{f c cc:Addr}{pm ctv u uy:Value}{vx vy:V}{A:Around}{outer:List Env}{s:Shared}{H:Hp}{Q:VK}
  (S:nF x y z scope)(hb:bindArgs (PySem.W.kla_fn "<lambda>" qual params body scope [(y,c)] pm (.ref cc) ctv) ⟨[u],[]⟩=pure [(x,u)])(hr:aZ (k+1) A)(e0:uc P w K mg base A outer s H)
  (ho:s.heap.get? f=some (PySem.W.kla_obj "<lambda>" qual params body scope [(y,c)] pm cc ctv))(hrec:s.heap.CodeRec (.ref cc) qual)(hcell:s.heap.IsCell c (some uy))(hcN:H c=none)(rx:RelV vx u)(ry:RelV vy uy)
  (hbody:∃t,PE (UV P w K mg base qual scope f (.ref cc) x y c A outer s H) body t/\t [some vx,some vy] H Q):
  codeAny (model P w) A (.call (.ref f) ⟨[u],[]⟩) (CR dj outer P w H s Q E0) s:=by
 have lim:s.heap.NoLimit:=e0.mod.nolimit.keeps fun b o e=>(e0.bs b o e).1
 refine PySem.W.kla_callFunE hr.depth ho rfl S.co S.gen rfl hrec ?_
 rw[hb]
 refine wpAny_pure (Kc S fun h1 hk hn hc=>⟨lim.keeps hk,PySem.W.kla_codeExpr ?_⟩)
 obtain⟨t,ht,hq⟩:=hbody
 have cl:c<s.heap.objs.size:=hcell.lt
 have I:Inv (UV P w K mg base qual scope f (.ref cc) x y c A outer s H) [] [some vx,some vy] H {s with heap:=h1}:=by
  have noA:∀b:Addr,b∉(UV P w K mg base qual scope f (.ref cc) x y c A outer s H).ex:=fun b z=>absurd (show b∈([]:List Addr)from z) (by simp)
  refine⟨⟨e0.mod,S.kind,rfl,rfl,Nat.le_refl _,fun n1 n2 d h1 h2=>?_,fun n hn=>?_,fun n d hf h=>?_,fun _=>hr.hd,Around.frames_deeper e0.frames,.inr ⟨rfl,rfl⟩,fun b z=>absurd z (noA b),e0.bs,e0.bsz,fun b _ _=>noA b,fun b z=>absurd z (noA b),e0.funs,e0.frf⟩,
   rfl,e0.bare,Un.kept hk,⟨_,hn,fun i n v h1 h2 h3=>?_⟩,fun n d h=>?_,e0.hok.fresh (Nat.le_refl _),fun n d h=>?_,fun p hp=>absurd (show p∈([]:List (Addr×Obj))from hp) (by simp),e0.hok.kept hk,rfl⟩
  .rcases oN h1 with⟨a1,a2⟩|⟨a1,a2⟩<;>rcases oN h2 with⟨b1,b2⟩|⟨b1,b2⟩
   .rw[a1,b1]
   .exact absurd (a2.symm.trans b2) (Nat.ne_of_gt (Nat.lt_succ_of_lt cl))
   .exact absurd (b2.symm.trans a2) (Nat.ne_of_gt (Nat.lt_succ_of_lt cl))
   .rw[a1,b1]
  .have hn':scope.names.lookup n=some .cell\/scope.names.lookup n=some .free:=hn
   rcases S.only (n:=n) (by rcases hn' with q|q;exact .inl q;exact .inr (.inl q))with e|e
   .rw[e];exact⟨_,yK⟩
   .rw[e];exact⟨_,Gq S.ne⟩
  .have hf':(n==x)=true:=hf
   have e:=beq_iff_eq.mp hf'
   rw[e]at h
   rcases oN h with⟨_,b⟩|⟨b,_⟩
   .rw[b];exact Nat.le_succ _
   .exact absurd b S.ne
  .have h1':[x,y][i]? =some n:=h1
   match i,h1',h2 with
   |0,e1,e2=>
    cases e1
    cases e2
    exact⟨u,rx,.inr ⟨.inl S.kx,_,yK,hc⟩⟩
   |1,e1,e2=>
    cases e1
    cases e2
    exact⟨uy,ry,.inr ⟨.inr S.ky,_,Gq S.ne,hcell.keeps hk⟩⟩
  .rcases oN h with⟨_,b⟩|⟨_,b⟩
   .rw[b];exact⟨_,hc⟩
   .rw[b];exact⟨_,hcell.keeps hk⟩
  .rcases oN h with⟨_,b⟩|⟨_,b⟩
   .rw[b];exact e0.hok.fresh (Nat.le_succ _)
   .rw[b];exact hcN
 refine wpAny_mono (ht [] _ _ H Q I hq) (fun r s' hs=>?_) fun _ _ z=>False.elim z
 obtain⟨v,H',J,rv,q⟩:=hs
 exact⟨v,H',J.os,J.bare,J.base,J.hok,rv,q⟩
end L2
namespace L2
open PySem PySem.Spec PyProof.Rows
section
variable {X:Cx}
theorem zE{a:Expr}{ta:TA}{p pos:Pos}(hg:Gl X "range")(hm:X.mg "range"=none)(ha:PA X [a] ta)(hs:starEach [a] X.env=[(false,eval a X.env)]:=by rfl):
  PE X (.Call (.Name "range" p) [a] [] pos) (fun σ H Q=>ta σ H fun vs H1=>∃j:Nat,vs=[.int j]/\j<=1000/\∀p,H1 p=none->Q (.ref p) (upd H1 p (.rng 0 j))):=by
 intro pins s σ H Q I h
 refine Call_ (jm I hg hm boot_range (PyProof.Rows.callWith_type1 (cZ (ha pos pins s σ H _ I h) fun us s1⟨vs,H1,I1,r1,q1⟩=>?_) hs rfl))
 obtain⟨j,e,_,q⟩:=q1
 subst e
 cases r1 with
 |cons r rr=>
  cases rr
  obtain⟨t,rfl⟩:=r
  refine call_range_1 ?_
  exact⟨.ref s1.heap.objs.size,_,I1.laid (a:=s1.heap.objs.size) (o:= .rng 0 j) (fun b u e=>Heap.get?_push_of_some _ e) (Nat.le_refl _) ⟨_,_,_,Heap.get?_push_size _ rfl⟩,rfl,q _ (I1.hok.fresh (Nat.le_refl _))⟩
def upTo(n:Nat):List V:=(List.range n).map fun i=>V.int (i:Nat)
theorem qm{α β:Type}{R:α->β->Prop}:∀{xs:List α}{ys:List β},xs.length=ys.length->(∀(i:Nat)(x:α)(y:β),xs[i]? =some x->ys[i]? =some y->R x y)->Paired R xs ys
 |[],[],_,_=> .nil
 |x::xs,y::ys,hl,h=> .cons (h 0 x y rfl rfl) (qm (Nat.succ.inj hl) fun i a b e1 e2=>h (i+1) a b (by simpa using e1) (by simpa using e2))
theorem Jx{n i:Nat}{x:V}(h:(upTo n)[i]? =some x):i<n/\x= .int (i:Nat):=by
 unfold upTo at h
 rw[List.getElem?_map]at h
 by_cases c:i<n
 .rw[List.getElem?_range c]at h
  exact⟨c,(Option.some.inj h).symm⟩
 .rw[List.getElem?_eq_none (by rw[List.length_range];omega)]at h
  cases h
theorem gC(n:Nat):(upTo n).length=n:=by
 unfold upTo
 rw[List.length_map,List.length_range]
theorem sU{n:Nat}{acc:Array Value}(h:ItemsOf (fun i v=>∃t,v= .int (0+(i:Int)*1) t) acc n):Vals (upTo n) acc.toList:=by
 refine qm (by rw[gC,Array.length_toList,h.1]) fun i x v e1 e2=>?_
 obtain⟨_,rfl⟩:=Jx e1
 obtain⟨t,rfl⟩:=h.2 i v (by rw[Array.getElem?_toList]at e2;exact e2)
 exact⟨t,by simp⟩
theorem nG:nu X (.type "list") (fun xs H Q=>∃(p:Addr)(j:Nat),xs=[.ref p]/\H p=some (.rng 0 j)/\j<=1000/\X.calm=true/\∀l,H l=none->Q (.ref l) (upd H l (.lst (upTo j)))):=by
 intro pins s σ H vs us Q I r h
 obtain⟨p,j,rfl,hp,hj,hc,q⟩:=h
 cases r with
 |cons r rr=>
  cases rr
  cases r
  obtain⟨t,u,v,e⟩:∃t u v,s.heap.get? p=some {cls:= .type "range",data:= .fields #[.int 0 t,.int j u,.int 1 v]}:=I.hok p _ hp
  refine call_list_range (I.ok.hd hc) e (small_one (by decide) (by decide) (by omega) (by omega)) (n:=j) (by rw[rangeSize_one];split<;>omega) (Nat.le_trans hj (by decide)) fun h' tk acc c hk hS hi=>?_
  refine⟨.ref s.heap.objs.size,_,I.laid (a:=s.heap.objs.size) (o:= .lst (upTo j)) (t':=tk) hk (Nat.le_refl _) ⟨?_,acc.toList,c,sU hi,hS⟩,rfl,q _ (I.hok.fresh (Nat.le_refl _))⟩
  rw[gC]
  exact Nat.le_trans hj (by decide)
def RV(s:Shared)(j:Nat)(q:Result)(s1:Shared):Prop:=∃h' tk acc c,q= .ok (.ret (.ref s.heap.objs.size))/\s1={s with heap:=h',toks:=tk}/\(∀b o,s.heap.get? b=some o->h'.get? b=some o)/\h'.get? s.heap.objs.size=some {cls:= .type "list",dict:=none,data:= .seq acc c,slots:= #[]}/\Vals (upTo j) acc.toList
theorem wY{prog:Program}{w:World}{A:Around}{E:Value->Shared->Prop}{s:Shared}{r:Addr}{j:Nat}{t u v:Tok}{Q:List Value->Shared->Prop}(hh:A.handled=none)(hr:s.heap.get? r=some {cls:= .type "range",data:= .fields #[.int 0 t,.int j u,.int 1 v]})(hj:j<=1000)
  (h:∀(h':Heap)(tk:Nat)(acc:Array Value),(∀b o,s.heap.get? b=some o->h'.get? b=some o)->Vals (upTo j) acc.toList->s.heap.objs.size<h'.objs.size->Q acc.toList {s with heap:=h',toks:=tk}):wpAny (model prog w) A (collect (.ref r)) Q E s:=by
 unfold collect
 refine wpAny_bind (wpAny_runValue (codeAny_builtin entry_proto_collect' ?_))
 show wpAny _ _ (do again (.builtin "list.__iadd__" ⟨[<-newList [],.ref r],[]⟩)) _ _ s
 have hS:(s.heap.push (seqObj "list" #[] 0)).get? s.heap.objs.size=some {cls:= .type "list",data:= .seq #[] 0}:=Heap.get?_push_size _ rfl
 refine wpAny_bind (wpAny_newList (wpAny_pure ⟨Code.quiet_builtin _ (by decide+kernel),codeAny_mono (R:=RV s j) (codeAny_builtin entry_list_iadd' ?_) fun q s1 h1=>?_⟩))
 .show wpAny _ _ (Builtin.List.listExtendWith (.ref s.heap.objs.size) (.ref r) (.ref s.heap.objs.size)) _ _ {s with heap:=s.heap.push (seqObj "list" #[] 0)}
  rw[Around.under_plainId PySem.F.plain_list_iadd _]
  exact wpAny_extend_range (A:=A) (R:=RV s j) (s:={s with heap:=s.heap.push (seqObj "list" #[] 0)}) hh (Heap.get?_push_of_some _ hr) (small_one (by decide) (by decide) (by omega) (by omega)) (n:=j) (by rw[rangeSize_one];split<;>omega) (Nat.le_trans hj (by decide)) s.heap.objs.size (.ref s.heap.objs.size) 0 hS fun h' tk acc c hk hS' hi=>
   ⟨h',tk,acc,c,rfl,rfl,fun b o e=>hk b o (Nat.ne_of_lt (Heap.lt_size e)) (Heap.get?_push_of_some _ e),hS',sU hi⟩
 .obtain⟨h',tk,acc,c,rfl,rfl,hk,hS',hi⟩:=h1
  show wpAny (model prog w) A (load s.heap.objs.size>>=_) Q E _
  refine wpAny_bind (wpAny_load hS' ?_)
  exact wpAny_pure (h h' tk acc hk hi (Heap.lt_size hS'))
end
end L2
namespace L2
open PySem PySem.Spec PyProof.Rows
theorem wJ{fs:List Addr}{H H':Hp}{h0 h1 h2:Heap}{k:Addr}(u:Un fs [] H H' h0 h1)(n:h0.get? k=none)(s:Heap.SameBut k h1 h2):Un fs [] H H' h0 h2:=by
 have ne:∀b o,h0.get? b=some o->b≠k:=fun b o e z=>by rw[z,n]at e;cases e
 refine⟨fun b o e e1 e2 e3=>(s.2 b (ne b o e)).trans (u.keep b o e e1 e2 e3),fun b o e e1 e2 e3=>?_,u.free,fun b o e e1=>?_,u.tups,u.frzs,u.tbls⟩
 .obtain⟨sl,q⟩:=u.slot b o e e1 e2 e3
  exact⟨sl,(s.2 b (ne b o e)).trans q⟩
 .obtain⟨o',q⟩:=u.there b o e e1
  exact⟨o',(s.2 b (ne b o e)).trans q⟩
theorem sS{P:Program}{w:World}{H:Hp}{h1 h2:Heap}{k:Addr}(x:mL P w H h1)(n:H k=none)(s:Heap.SameBut k h1 h2):mL P w H h2:=fun a o e=>
 (x a o e).stay (fun b u hb q=>(s.2 b (fun z=>by
  rw[z]at hb
  rcases hb with hb|hb
  .rw[<-hb,n]at e;cases e
  .rw[n]at hb;cases hb)).trans q) (fun _ q=>q) fun _ _ q=>q
def uX(kz:List Int)(a b:Int):Prop:=kz.getD a.toNat 0<kz.getD b.toNat 0\/(kz.getD a.toNat 0=kz.getD b.toNat 0/\a<b)
theorem zip_get{kz:List Int}{ks:List Value}{acc:List Value}{n:Nat}(hk:IntsAre ks kz)(hv:Vals (upTo n) acc)(hl:kz.length=n){p:Keyed}{i:Nat}(h:(ks.zip acc)[i]? =some p):i<n/\numOf p.2=(i:Int)/\numOf p.1=kz.getD i 0:=by
 rw[List.getElem?_zip_eq_some]at h
 obtain⟨h1,h2⟩:=h
 have li:i<ks.length:=(List.getElem?_eq_some_iff.mp h1).1
 have lk:=hk.length
 have hi:i<n:=by omega
 have e2:(upTo n)[i]? =some (.int (i:Nat)):=by
  unfold upTo
  rw[List.getElem?_map,List.getElem?_range hi]
  rfl
 obtain⟨u,e3,t,e4⟩:=hv.get e2
 rw[h2]at e3
 cases e3
 refine⟨hi,by rw[e4];rfl,?_⟩
 have nm:=hk.nums
 rw[<-nm,List.getD_eq_getElem?_getD,List.getElem?_map,h1]
 rfl
theorem Rt{kz:List Int}{ks acc:Array Value}{n:Nat}(hk:IntsAre ks.toList kz)(hv:Vals (upTo n) acc.toList)(hl:kz.length=n):Stb.Rs (ks.zip acc).size (ks.zip acc) 0:=fun i j hij _ hj=>by
 have e:∀m,m<(ks.zip acc).size->Stb.iv (ks.zip acc)[m]? =(m:Int):=fun m hm=>by
  have q:(ks.zip acc)[m]? =some (ks.zip acc)[m]:=getElem?_pos _ m hm
  have q2:(ks.toList.zip acc.toList)[m]? =some (ks.zip acc)[m]:=by rw[<-Array.toList_zip,Array.getElem?_toList];exact q
  rw[q]
  exact(zip_get hk hv hl q2).2.1
 rw[e i (by omega),e j hj]
 omega
theorem Mv{kz:List Int}{ks acc:Array Value}{n:Nat}(hk:IntsAre ks.toList kz)(hv:Vals (upTo n) acc.toList)(hl:kz.length=n){xs:Array Keyed}(hp:xs.Perm (ks.zip acc))(hs:Stb.Up xs (ks.zip acc).size):
  ∃ord:List Int,Vals (ord.map V.int) (xs.map (·.2)).toList/\ord.Perm ((List.range n).map fun i:Nat=>(i:Int))/\ord.Pairwise (uX kz):=by
 have lz:(ks.zip acc).toList=ks.toList.zip acc.toList:=Array.toList_zip ..
 have pl:xs.toList.Perm (ks.toList.zip acc.toList):=by rw[<-lz];exact Array.perm_iff_toList_perm.mp hp
 have mem:∀p∈xs.toList,∃i t:Nat,i<n/\p.2= .int i t/\numOf p.1=kz.getD i 0:=fun p h=>by
  obtain⟨i,hi⟩:=List.mem_iff_getElem?.mp (pl.mem_iff.mp h)
  obtain⟨a,b,c⟩:=zip_get hk hv hl hi
  have h2:=(List.getElem?_zip_eq_some.mp hi).2
  have e2:(upTo n)[i]? =some (.int (i:Nat)):=by
   unfold upTo
   rw[List.getElem?_map,List.getElem?_range a]
   rfl
  obtain⟨u,e3,t,e4⟩:=hv.get e2
  rw[h2]at e3
  cases e3
  exact⟨i,t,a,e4,c⟩
 refine⟨xs.toList.map fun p=>numOf p.2,?_,?_,?_⟩
 .rw[Array.toList_map,List.map_map]
  refine qm (by rw[List.length_map,List.length_map]) fun i x v e1 e2=>?_
  rw[List.getElem?_map]at e1 e2
  cases q:xs.toList[i]? with
  |none=>rw[q]at e1;cases e1
  |some p=>
   rw[q]at e1 e2
   cases e1
   cases e2
   obtain⟨m,t,_,e,_⟩:=mem p (List.mem_of_getElem? q)
   show RelV (.int (numOf p.2)) p.2
   rw[e]
   exact⟨t,rfl⟩
 .refine(pl.map _).trans (List.Perm.of_eq ?_)
  refine List.ext_getElem? fun i=>?_
  rw[List.getElem?_map]
  have lk:=hk.length
  have lv:=hv.length
  rw[gC]at lv
  by_cases c:i<n
  .have hi:i<(ks.toList.zip acc.toList).length:=by rw[List.length_zip];omega
   rw[List.getElem?_eq_getElem hi,List.getElem?_map,List.getElem?_range c]
   exact congrArg some (zip_get hk hv hl (List.getElem?_eq_getElem hi)).2.1
  .rw[List.getElem?_eq_none (by rw[List.length_zip];omega),List.getElem?_eq_none (by rw[List.length_map,List.length_range];omega)]
   rfl
 .rw[List.pairwise_map,List.pairwise_iff_getElem]
  intro i j hi hj hij
  have sz:=hp.size_eq
  have hi':i<xs.size:=by rw[Array.length_toList]at hi;exact hi
  have hj':j<xs.size:=by rw[Array.length_toList]at hj;exact hj
  have b:=hs i j hij (by omega)
  rw[getElem?_pos xs i hi',getElem?_pos xs j hj']at b
  obtain⟨m1,t1,a1,a2,a3⟩:=mem xs[i] (by rw[<-Array.getElem_toList];exact List.getElem_mem _)
  obtain⟨m2,t2,b1,b2,b3⟩:=mem xs[j] (by rw[<-Array.getElem_toList];exact List.getElem_mem _)
  have b':numOf xs[i].1<numOf xs[j].1\/(numOf xs[i].1=numOf xs[j].1/\numOf xs[i].2<numOf xs[j].2):=b
  show uX kz (numOf xs.toList[i].2) (numOf xs.toList[j].2)
  rw[Array.getElem_toList,Array.getElem_toList]
  unfold uX
  have e1:numOf xs[i].2=(m1:Int):=by rw[a2];rfl
  have e2:numOf xs[j].2=(m2:Int):=by rw[b2];rfl
  rw[e1,e2,Int.toNat_natCast,Int.toNat_natCast,<-a3,<-b3]
  rw[e1,e2]at b'
  exact b'
structure Ux(X:Cx)(H:Hp)(s:Shared)(T:Hp->Prop)(a kS:Addr)(xs ys:Array Value)(e e1:Nat)(H':Hp)(s':Shared):Prop where
 os:s'.os=s.os
 bare:AllBare s'.gens
 un:Un (frs X.stack) [] H H' s.heap s'.heap
 hok:mL X.prog X.w H' s'.heap
 t:T H'
 kk:s'.heap.get? kS=some (seqObj "list" xs e)
 kn:H' kS=none
 aa:s'.heap.get? a=some (seqObj "list" ys e1)
 an:H' a=none
def Fj(X:Cx)(H:Hp)(s:Shared)(T:Hp->Prop)(a:Addr)(kz:List Int)(n:Nat)(s':Shared):Prop:=∃(H':Hp)(out:Array Value)(c:Nat)(ord:List Int),s'.os=s.os/\AllBare s'.gens/\Un (frs X.stack) [] H H' s.heap s'.heap/\mL X.prog X.w H' s'.heap/\T H'/\s'.heap.get? a=some (seqObj "list" out c)/\H' a=none/\Vals (ord.map V.int) out.toList/\ord.Perm ((List.range n).map fun i:Nat=>(i:Int))/\ord.Pairwise (uX kz)
section
variable {X:Cx} {pins:List (Addr×Obj)} {σ:St} {H H':Hp} {s s':Shared} {T:Hp->Prop} {a kS f:Addr} {e e1 n:Nat} {kz:List Int} {ks acc:Array Value} {B:Around} {E:Value->Shared->Prop} {Pq:PySem.Fin->Shared->Prop}
theorem yq{st:SortSt}(I:Ux X H s T a kS ks #[] e e1 H' s')(na:s.heap.get? a=none)(nk:s.heap.get? kS=none)(ne:kS≠a)(hk:IntsAre ks.toList kz)(hv:Vals (upTo n) acc.toList)(hl:kz.length=n)(n64:n<64)(hp:(arrOf st).Perm (ks.zip acc))(hs:Stb.Up (arrOf st) (ks.zip acc).size)(hf:failedOf st=none)
  (h:∀s2,Fj X H s T a kz n s2->Pq (.done (.ret .none)) s2):wpAny (model X.prog X.w) B (ksk_tail a false e1 (.ref kS) st) Pq E s':=by
 have lk:=hk.length
 have lv:=hv.length
 rw[gC,Array.length_toList]at lv
 rw[Array.length_toList]at lk
 have sz:(arrOf st).size=n:=by rw[hp.size_eq,Array.size_zip];omega
 have s1:=Heap.SameBut.update s'.heap kS (Obj.mapSeq fun _=>(#[]:Array Value))
 have aa1:(s'.heap.update kS (Obj.mapSeq fun _=>(#[]:Array Value))).get? a=some (seqObj "list" #[] e1):=(s1.2 a ne.symm).trans I.aa
 have s2:=Heap.SameBut.update (s'.heap.update kS (Obj.mapSeq fun _=>(#[]:Array Value))) a (Obj.mapSeq fun _=>(arrOf st).map (·.2))
 obtain⟨ord,o1,o2,o3⟩:=Mv hk hv hl hp hs
 unfold ksk_tail
 dsimp only
 refine wpAny_bind (listUpdate_at I.kk rfl ?_ (by rw[sizeLine_eq];omega) (Nat.zero_le _))
 refine wpAny_bind (wpAny_letGo ?_)
 refine wpAny_bind (seqEpoch_at aa1 rfl ?_)
 refine wpAny_bind (listUpdate_at aa1 rfl ?_ (Nat.zero_le _) (by show((arrOf st).map (·.2)).size<=_;rw[Array.size_map,sz,sizeLine_eq];omega))
 rw[hf]
 simp only[bne_self_eq_false,Bool.false_eq_true,if_false]
 refine wpAny_pure (h _ ⟨H',_,_,ord,I.os,I.bare,wJ (wJ I.un nk s1) na s2,sS (sS I.hok I.kn s1) I.an s2,I.t,get?_update_seq aa1 fun _=>(arrOf st).map (·.2),I.an,o1,o2,o3⟩)
theorem Mt(I:Ux X H s T a kS ks #[] e e1 H' s')(na:s.heap.get? a=none)(nk:s.heap.get? kS=none)(ne:kS≠a)(hk:IntsAre ks.toList kz)(hv:Vals (upTo n) acc.toList)(hl:kz.length=n)(n64:n<64)
  (h:∀s2,Fj X H s T a kz n s2->Pq (.done (.ret .none)) s2):wpAny (model X.prog X.w) B (ksk_end a false acc e1 (.ref kS) ks) Pq E s':=by
 have lk:=hk.length
 have lv:=hv.length
 rw[gC,Array.length_toList]at lv
 rw[Array.length_toList]at lk
 have zs:(ks.zip acc).size=n:=by rw[Array.size_zip];omega
 have ik:IntKeys (ks.zip acc):=fun p hp=>by
  rw[Array.toList_zip]at hp
  obtain⟨x,y⟩:=p
  exact hk.all _ (List.of_mem_zip hp).1
 unfold ksk_end
 dsimp only
 simp only[Bool.false_eq_true,if_false]
 by_cases c:acc.size<2
 .rw[if_pos c,if_pos c]
  refine wpAny_bind (wpAny_pure ?_)
  rw[StateT.run_pure]
  refine wpAny_bind (wpAny_pure ?_)
  dsimp only
  exact yq (st:=SortSt.mk' general' (ks.zip acc) #[] 7 none) I na nk ne hk hv hl n64 (Array.Perm.refl _) (Stb.Up.one (by omega)) rfl h
 .rw[if_neg c,if_neg c,ksk_kind hk (by omega)]
  refine wpAny_bind (wpAny_pure ?_)
  refine wpAny_bind (wpAny_mono (Stb.w_runs (b0:=ks.zip acc) (st:=SortSt.mk' oneType' (ks.zip acc) #[] 7 none) (Q:=fun _ st'=>(arrOf st').Perm (ks.zip acc)/\failedOf st'=none/\Stb.Up (arrOf st') (ks.zip acc).size) ik ⟨Array.Perm.refl _,rfl,rfl,rfl⟩ (by omega) (by omega) (Rt hk hv hl) fun st' a1 a2 a3=>⟨a1,a2,a3⟩) ?_ fun _ _ z=>z)
  rintro ⟨⟨⟩,st'⟩ s2 ⟨rfl,a1,a2,a3⟩
  dsimp only
  exact yq I na nk ne hk hv hl n64 a1 a3 a2 h
def Fq(X:Cx)(H:Hp)(s:Shared)(T:Hp->Prop)(f:Addr)(kz:List Int):Prop:=∀(i:Nat)(t:Tok)(key:Int)(H':Hp)(s':Shared),kz[i]? =some key->T H'->uc X.prog X.w X.K X.mg X.base X.A.in1.in1 X.stack s' H'->Un (frs X.stack) [] H H' s.heap s'.heap->
 codeAny (model X.prog X.w) X.A.in1.in1 (.call (.ref f) ⟨[.int i t],[]⟩) (CR dj X.stack X.prog X.w H' s' (fun v H''=>v= .int key/\T H'') E0) s'
theorem Jf(J:Inv X pins σ H s)(tn:Fq X H s T f kz)(I:Ux X H s T a kS #[] #[] e e1 H' s')(na:s.heap.get? a=none)(nk:s.heap.get? kS=none)(ne:kS≠a)(hv:Vals (upTo n) acc.toList)(hl:kz.length=n)(n64:n<64)
  (h:∀s2,Fj X H s T a kz n s2->Pq (.done (.ret .none)) s2):wpAny (model X.prog X.w) X.A.in1.in1 (ksk_rest a (.ref f) false acc e1 (.ref kS)) Pq E s':=by
 have lv:=hv.length
 rw[gC,Array.length_toList]at lv
 have fr:∀b,s.heap.get? b=none->b∉frs X.stack:=fun b nb hb=>by
  obtain⟨_,o,ho,_⟩:=J.stack.mem hb
  rw[nb]at ho
  cases ho
 unfold ksk_rest
 refine wpAny_bind (wpAny_rule ?_)
 rw[<-Array.forIn_toList]
 refine wpAny_bind (ksk_fold (fun i s2=>∃(H2:Hp)(kA:Array Value)(e2:Nat),Ux X H s T a kS kA #[] e2 e1 H2 s2/\IntsAre kA.toList (kz.take i)) acc.toList 0 s' ⟨H',#[],e,I,by simpa using IntsAre.nil⟩ ?go ?ends)
 case go=>
  rintro j x s2 hx ⟨H2,kA,e2,I2,hk⟩
  simp only[Nat.zero_add]at hk ⊢
  have hj:j<acc.size:=by
   have:=(List.getElem?_eq_some_iff.mp hx).1
   rw[Array.length_toList]at this
   exact this
  obtain⟨key,hkj⟩:∃key,kz[j]? =some key:=⟨_,List.getElem?_eq_getElem (by omega)⟩
  have e3:(upTo n)[j]? =some (.int (j:Nat)):=by
   unfold upTo
   rw[List.getElem?_map,List.getElem?_range (by omega)]
   rfl
  obtain⟨u,e4,t,e5⟩:=hv.get e3
  rw[hx]at e4
  cases e4
  subst e5
  have J2:Inv X pins σ H2 s2:=J.call' I2.os I2.un I2.hok I2.bare (fun b z=>nomatch z)
  have E2:=J2.env0
  have zk:kA.size<=n:=by
   have:=hk.length
   rw[Array.length_toList,List.length_take]at this
   omega
  refine wpAny_bind (wpAny_attempt (wpAny_call (codeAny_mono (tn j t key H2 s2 hkj I2.t ⟨E2.frames,E2.mod,E2.bs,E2.bsz,E2.funs,E2.frf,E2.hok,E2.bare⟩ I2.un) fun r s3 q=>?_)))
  cases r with
  |error _=>exact False.elim q
  |ok fl=>
   cases fl with
   |next=>exact False.elim q
   |brk=>exact False.elim q
   |cont=>exact False.elim q
   |ret u=>
    obtain⟨v,H3,os,bare,un,hok,rv,ev,t3⟩:=q
    subst ev
    obtain⟨t',rfl⟩:=rv
    have kk:=un.keep kS _ I2.kk I2.kn (fr _ nk) (by simp)
    have aa:=un.keep a _ I2.aa I2.an (fr _ na) (by simp)
    have kn:=un.free kS _ I2.kk I2.kn (by simp)
    have an:=un.free a _ I2.aa I2.an (by simp)
    have s1:=Heap.SameBut.update s3.heap kS (Obj.mapSeq (·.push (.int key t')))
    have ek:kz.take (j+1)=kz.take j++[key]:=by
     rw[List.take_add_one,hkj]
     rfl
    have ea:(kA.push (Value.int key t')).toList=kA.toList++[Value.int key t']:=by simp
    dsimp only
    refine wpAny_bind (listUpdate_at kk rfl ?_ (by rw[sizeLine_eq];omega) (Nat.le_trans (Nat.le_of_eq (Array.size_push ..)) (by rw[sizeLine_eq];omega)))
    refine wpAny_pure ⟨rfl,H3,kA.push (.int key t'),_,⟨os.trans I2.os,bare,wJ (I2.un.trans un) nk s1,sS hok kn s1,t3,get?_update_seq kk (·.push (.int key t')),kn,(s1.2 a ne.symm).trans aa,an⟩,?_⟩
    rw[ea,ek]
    exact ksk_snoc hk
 case ends=>
  rintro s2 ⟨H2,kA,e2,I2,hk⟩
  have e3:kz.take (0+acc.toList.length)=kz:=List.take_of_length_le (by have:acc.toList.length=acc.size:=Array.length_toList ..;omega)
  rw[e3]at hk
  refine wpAny_bind (listItems_at I2.kk rfl ?_)
  exact Mt I2 na nk ne hk hv hl n64 h
end
end L2
namespace L2
open PySem PySem.Spec PyProof.Rows
section
variable {X:Cx} {pins:List (Addr×Obj)} {σ:St} {H H':Hp} {s s':Shared} {T:Hp->Prop} {a kS f:Addr} {n:Nat} {kz:List Int}
theorem Qq{Q:VK}(J:Inv X pins σ H s)(na:s.heap.get? a=none)(o:Fj X H s T a kz n s')(n64:n<64)
  (q:∀(l:Addr)(H':Hp)(ord:List Int),T H'->H' l=none->ord.Perm ((List.range n).map fun i:Nat=>(i:Int))->ord.Pairwise (uX kz)->Q (.ref l) (upd H' l (.lst (ord.map V.int)))):EP X pins σ Q (.ref a) s':=by
 obtain⟨H1,out,c,ord,os,bare,un,hok,t,aa,an,vs,op,ow⟩:=o
 have ne:∀b o,H1 b=some o->b≠a:=fun b o e z=>by rw[z,an]at e;cases e
 have ns:∀b o,s.heap.get? b=some o->b≠a:=fun b o e z=>by rw[z,na]at e;cases e
 have lo:ord.length<=64:=by rw[op.length_eq,List.length_map,List.length_range];omega
 refine⟨.ref a,upd H1 a (.lst (ord.map V.int)),J.call' os ⟨un.keep,un.slot,fun b o e n1 n2=>?_,un.there,fun b xs e=>?_,fun b o u e=>?_,fun b ps e=>?_⟩ (fun b o e=>?_) bare (fun b z=>nomatch z),rfl,q a H1 ord t an op ow⟩
 .rw[aG (ns b o e)]
  exact un.free b o e n1 n2
 .have z:=un.tups b xs e
  rw[aG (ne b _ z)]
  exact z
 .have z:=un.frzs b o u e
  rw[aG (ne b _ z)]
  exact z
 .obtain⟨more,z⟩:=un.tbls b ps e
  exact⟨more,by rw[aG (ne b _ z)];exact z⟩
 .by_cases z:b=a
  .subst z
   rw[az]at e
   cases e
   exact⟨by rw[List.length_map];exact Nat.le_trans lo (by decide),out.toList,c,vs,aa⟩
  .rw[aG z]at e
   exact(hok b o e).stay (fun _ _ _ q=>q) (fun d q=>by rw[aG (ne d _ q)];exact q) fun d ys q=>by rw[aG (ne d _ q)];exact q
theorem Jg{h1:Heap}{tk1:Nat}{acc:Array Value}{E:Value->Shared->Prop}{Pq:PySem.Fin->Shared->Prop}(J:Inv X pins σ H s)(k2:∀b o,s.heap.get? b=some o->h1.get? b=some o)(tn:Fq X H s T f kz)(t0:T H)(oL:h1.get? a=some (seqObj "list" acc.toList.toArray 0))(hv:Vals (upTo n) acc.toList)(hl:kz.length=n)(n64:n<64)(za:s.heap.objs.size<=a)
  (h:∀s2,Fj X H s T a kz n s2->Pq (.done (.ret .none)) s2):wpAny (model X.prog X.w) X.A.in1.in1 (ksk_tree a (.ref f) false) Pq E {s with heap:=h1,toks:=tk1}:=by
 have lv:=hv.length
 rw[gC]at lv
 have na:s.heap.get? a=none:=Heap.get?_none_of_le za
 have la:a<h1.objs.size:=Heap.lt_size oL
 have s1:=Heap.SameBut.update h1 a (Obj.mapSeq fun _=>(#[]:Array Value))
 obtain⟨e1,o1⟩:∃e1,(h1.update a (Obj.mapSeq fun _=>(#[]:Array Value))).get? a=some (seqObj "list" #[] e1):=⟨_,get?_update_seq oL fun _=> #[]⟩
 unfold ksk_tree
 refine wpAny_bind (listItems_at oL rfl ?_)
 refine wpAny_bind (listUpdate_at oL rfl ?_ (by rw[List.size_toArray,sizeLine_eq];omega) (Nat.zero_le _))
 refine wpAny_bind (seqEpoch_at o1 rfl ?_)
 refine wpAny_bind (wpAny_newTuple ?_ (by show acc.toList.toArray.toList.length<=_;rw[sizeLine_eq];simp only[List.toList_toArray];omega))
 refine wpAny_bind (wpAny_newList ?_ (Nat.zero_le _))
 refine wpAny_holding ?_
 have ks:((h1.update a (Obj.mapSeq fun _=>(#[]:Array Value))).push (seqObj "tuple" acc.toList.toArray 0)).objs.size=h1.objs.size+1:=by rw[size_push',Heap.size_update]
 have kp:∀b o,b≠a->h1.get? b=some o->(((h1.update a (Obj.mapSeq fun _=>(#[]:Array Value))).push (seqObj "tuple" acc.toList.toArray 0)).push (seqObj "list" #[] 0)).get? b=some o:=fun b o hb z=>Heap.get?_push_of_some _ (Heap.get?_push_of_some _ ((s1.2 b hb).trans z))
 have k3:∀b o,s.heap.get? b=some o->(((h1.update a (Obj.mapSeq fun _=>(#[]:Array Value))).push (seqObj "tuple" acc.toList.toArray 0)).push (seqObj "list" #[] 0)).get? b=some o:=fun b o z=>kp b o (fun y=>by rw[y,na]at z;cases z) (k2 b o z)
 have zs:s.heap.objs.size<=((h1.update a (Obj.mapSeq fun _=>(#[]:Array Value))).push (seqObj "tuple" acc.toList.toArray 0)).objs.size:=by rw[ks];exact Nat.le_trans za (Nat.le_of_lt (Nat.lt_succ_of_lt la))
 refine Jf (kS:=((h1.update a (Obj.mapSeq fun _=>(#[]:Array Value))).push (seqObj "tuple" acc.toList.toArray 0)).objs.size) (e:=0) (e1:=e1) (H':=H) J tn ⟨rfl,J.bare,Un.kept k3,J.hok.kept k3,t0,Heap.get?_push_size _ rfl,J.hok.fresh zs,Heap.get?_push_of_some _ (Heap.get?_push_of_some _ o1),J.hok.fresh za⟩ na (Heap.get?_none_of_le zs) (by rw[ks];exact Nat.ne_of_gt (Nat.lt_succ_of_lt la)) (by simpa using hv) hl n64 h
theorem Mu{r:Addr}{Q:VK}(J:Inv X pins σ H s)(hr:H r=some (.rng 0 n))(hc:X.calm=true)(tn:Fq X H s T f kz)(t0:T H)(hl:kz.length=n)(n64:n<64)
  (q:∀(l:Addr)(H':Hp)(ord:List Int),T H'->H' l=none->ord.Perm ((List.range n).map fun i:Nat=>(i:Int))->ord.Pairwise (uX kz)->Q (.ref l) (upd H' l (.lst (ord.map V.int)))):
  wpAny (model X.prog X.w) X.A (call (.builtin "sorted") [.ref r] [(Str.ofString "key",.ref f)]) (EP X pins σ Q) X.xe s:=by
 obtain⟨t,u,v,e⟩:∃t u v,s.heap.get? r=some {cls:= .type "range",data:= .fields #[.int 0 t,.int n u,.int 1 v]}:=J.hok r _ hr
 refine call_function_entry_kw kind_sorted plain_sorted entry_sorted (ksk_s1 _ _) ?_
 unfold Builtin.«sorted»
 refine wpAny_bind (m:=checkCount "sorted" 1 1 _) (wpAny_pure ?_)
 refine wpAny_bind (wY (J.ok.hd hc) e (by omega) fun h1 tk1 acc k1 hv z1=>?_)
 have lv:=hv.length
 rw[gC]at lv
 refine wpAny_bind (wpAny_newList ?_ (by rw[sizeLine_eq];omega))
 have k2:∀b o,s.heap.get? b=some o->(h1.push (seqObj "list" acc.toList.toArray 0)).get? b=some o:=fun b o z=>Heap.get?_push_of_some _ (k1 b o z)
 have za:s.heap.objs.size<=h1.objs.size:=Nat.le_of_lt z1
 have na:s.heap.get? h1.objs.size=none:=Heap.get?_none_of_le za
 have oL:(h1.push (seqObj "list" acc.toList.toArray 0)).get? h1.objs.size=some (seqObj "list" acc.toList.toArray 0):=Heap.get?_push_size _ rfl
 show wpAny _ _ _ _ _ {s with heap:=h1.push (seqObj "list" acc.toList.toArray 0),toks:=tk1}
 refine wpAny_bind (wpAny_holding (wpAny_call_entry_kw slot_list_sort ⟨_,oL,rfl⟩ entry_list_sort ?body (ksk_l1 _ _)))
 case body=>
  show wpAny (model X.prog X.w) X.A.in1.in1 (Builtin.«list.sort» ⟨[.ref h1.objs.size],[(Str.ofString "key",.ref f)]⟩) _ _ _
  rw[ksk_t1]
  exact Jg J k2 tn t0 oL hv hl n64 za fun s2 o=>⟨_,rfl,wpAny_pure ⟨_,rfl,Qq J na o n64 q⟩⟩
end
end L2
namespace L2
open PySem PySem.Spec PyProof.Rows
def yE(f:Addr)(qual:Str)(params:Arguments)(body:Expr)(scope:Scope)(cl:List (Str×Addr))(c:Addr)(pm ctv:Value):HO:= .ext fun h=>h.get? f=some (PySem.W.kla_obj "<lambda>" qual params body scope cl pm c ctv)
theorem Bo{P:Program}{w:World}{H:Hp}{h:Heap}{f c:Addr}{qual:Str}{params:Arguments}{body:Expr}{scope:Scope}{cl:List (Str×Addr)}{pm ctv:Value}(e:h.get? f=some (PySem.W.kla_obj "<lambda>" qual params body scope cl pm c ctv)):
  cI P w H h f (yE f qual params body scope cl c pm ctv):=
 ⟨e,⟨_,e⟩,fun _ _ e k=>k _ e⟩
def uT(cl:List (Str×Addr))(P:Addr)(pos:Pos)(qual:Str)(params:Arguments)(body:Expr)(scope:Scope):TE:=fun _ H Q=>∃ps,H P=some (.tbl ps)/\TriplesOk ps.toList/\
  ((codeAmong pos ps.toList=none/\∀c f pm ctv,H c=none->H f=none->f≠c->Q (.ref f) (upd (upd (upd H P (.tbl (ps++ #[rawInt pos.line,rawInt pos.col,.ref c]))) c (jB c qual)) f (yE f qual params body scope cl c pm ctv)))\/
   ∃c,codeAmong pos ps.toList=some (.ref c)/\H c=some (jB c qual)/\∀f pm ctv,H f=none->Q (.ref f) (upd H f (yE f qual params body scope cl c pm ctv)))
section
variable {X:Cx}
theorem Lq{cl:List (Str×Addr)}{params:Arguments}{body:Expr}{scope:Scope}{pos:Pos}{c P:Addr}(hcode:X.env.code= .ref c)(C:PySem.W.CodeHd X.base c P)(bm:BM X.mg X.base)(hcl:closureFor scope X.env=pure cl)(hdef:defaultsOf params X.env=([],[]):=by rfl):
  PE X (.Lambda params body scope pos) (uT cl P pos (X.env.qual++"<lambda>") params body scope):=by
 intro pins s σ H Q I h
 obtain⟨ps,hP,ht,h⟩:=h
 have eP:s.heap.get? P=some (PySem.W.tabObj ps):=I.hok P _ hP
 obtain⟨bmA,ob,b1,b2,b3,b4,b5,b6,b7⟩:=bm
 have nP:∀b o,X.base.get? b=some o->b≠P:=fun b o e z=>by
  have:=(I.bs b o e).2
  rw[z,hP]at this
  cases this
 have hgP:mainGlobals≠P:=by
  obtain⟨o,es,ep,e,_⟩:=I.mod.glob
  exact nP _ _ e
 have hb:s.heap.BuiltinsAt X.mg P:=⟨bmA,ob,b1,b2,b3,nP _ _ b4,I.bk _ _ b4,b5,b6,b7⟩
 refine PySem.W.kla_eval hdef ?_
 rcases h with⟨hnf,k⟩|⟨c',hf,hc',k⟩
 .refine PySem.W.kla_makeFunction (mg:=X.mg) hcl I.ok.glob (I.mod.glob.keeps I.bk) hcode (C.keeps I.bk) eP ht hnf hgP hb fun c' ctv h' tk hx hge hlt hrec htb=>?_
  have sz:s.heap.objs.size<=h'.objs.size:=Nat.le_trans hge (Nat.le_of_lt hlt)
  have fc:H c'=none:=I.hok.fresh hge
  have ff:H h'.objs.size=none:=I.hok.fresh sz
  have nfc:h'.objs.size≠c':=Nat.ne_of_gt hlt
  refine⟨.ref h'.objs.size,_,?_,rfl,k c' h'.objs.size ((X.mg "__name__").getD .none) ctv fc ff nfc⟩
  have keep3:∀b o,b≠P->s.heap.get? b=some o->(h'.push (PySem.W.kla_obj "<lambda>" (X.env.qual++"<lambda>") params body scope cl ((X.mg "__name__").getD .none) c' ctv)).get? b=some o:=fun b o hb e=>Heap.get?_push_of_some _ (hx b o hb e)
  have neP:∀b,H b=none->b≠P:=fun b n z=>by
   rw[z,hP]at n
   cases n
  have pP:(h'.push (PySem.W.kla_obj "<lambda>" (X.env.qual++"<lambda>") params body scope cl ((X.mg "__name__").getD .none) c' ctv)).get? P=some (PySem.W.tabObj (ps++ #[rawInt pos.line,rawInt pos.col,.ref c'])):=Heap.get?_push_of_some _ htb
  have nPc:P≠c':=aM hP fc
  have nPf:P≠h'.objs.size:=aM hP ff
  have old:∀b u,H b=some u->b≠P->(upd (upd (upd H P (.tbl (ps++ #[rawInt pos.line,rawInt pos.col,.ref c']))) c' (jB c' (X.env.qual++"<lambda>"))) h'.objs.size (yE h'.objs.size (X.env.qual++"<lambda>") params body scope cl c' ((X.mg "__name__").getD .none) ctv)) b=some u:=fun b u e hb=>by
   rw[aG (aM e ff),aG (aM e fc),aG hb]
   exact e
  refine I.un (t':=tk) ⟨fun b o e n _ _=>keep3 b o (neP b n) e,fun b o e n _ _=>⟨o.slots,keep3 b o (neP b n) e⟩,fun b o e n _=>?_,fun b o e _=>?_,fun b xs e=>old b _ e (bW e hP fun z=>nomatch z),fun b ob u e=>old b _ e (bW e hP fun z=>nomatch z),fun b ps0 e=>?_⟩ fun b u e=>?_
  .have lb:b<s.heap.objs.size:=Heap.lt_size e
   rw[aG (Nat.ne_of_lt (Nat.lt_of_lt_of_le lb sz)),aG (Nat.ne_of_lt (Nat.lt_of_lt_of_le lb hge)),aG (neP b n)]
   exact n
  .by_cases hb:b=P
   .rw[hb]
    exact⟨_,pP⟩
   .exact⟨o,keep3 b o hb e⟩
  .by_cases hb:b=P
   .subst hb
    rw[hP]at e
    cases e
    exact⟨#[rawInt pos.line,rawInt pos.col,.ref c'],by rw[aG nPf,aG nPc,az]⟩
   .exact⟨#[],by rw[old b _ e hb];simp⟩
  .by_cases h1:b=h'.objs.size
   .subst h1
    rw[az]at e
    cases e
    exact Bo (Heap.get?_push_size _ rfl)
   .rw[aG h1]at e
    by_cases h2:b=c'
    .subst h2
     rw[az]at e
     cases e
     exact Ar (hrec.keeps fun b o q=>Heap.get?_push_of_some _ q)
    .rw[aG h2]at e
     by_cases h3:b=P
     .subst h3
      rw[az]at e
      cases e
      exact pP
     .rw[aG h3]at e
      refine(I.hok b u e).stay (fun d v hd q=>keep3 d v ?_ q) (fun d q=>old d _ q (bW q hP fun z=>nomatch z)) fun d ys q=>old d _ q (bW q hP fun z=>nomatch z)
      rcases hd with hd|hd
      .rw[hd]
       exact h3
      .exact bW hd hP fun z=>nomatch z
 .refine PySem.W.kla_makeFunctionHit (mg:=X.mg) hcl I.ok.glob (I.mod.glob.keeps I.bk) hcode (C.keeps I.bk) eP ht hf hb fun ctv h' tk hk hsz=>?_
  exact⟨.ref h'.objs.size,_,I.laid (a:=h'.objs.size) (o:=yE h'.objs.size (X.env.qual++"<lambda>") params body scope cl c' ((X.mg "__name__").getD .none) ctv) (t':=tk) (fun b u e=>Heap.get?_push_of_some _ (hk b u e)) hsz (Bo (Heap.get?_push_size _ rfl)),rfl,k _ _ _ (I.hok.fresh hsz)⟩
end
theorem Jj{cl:List (Str×Addr)}{P:Addr}{pos:Pos}{qual:Str}{params:Arguments}{body:Expr}{scope:Scope}{σ:St}{H:Hp}{Q:VK}(h:uT cl P pos qual params body scope σ H Q):
  uT cl P pos qual params body scope σ H (fun v H2=>(∃f cc pm ctv,v= .ref f/\H2 f=some (yE f qual params body scope cl cc pm ctv)/\H2 cc=some (jB cc qual))/\Q v H2):=by
 obtain⟨ps,hP,ht,h⟩:=h
 refine⟨ps,hP,ht,?_⟩
 rcases h with⟨hn,k⟩|⟨c,hf,hc,k⟩
 .exact .inl ⟨hn,fun c f pm ctv h1 h2 ne=>⟨⟨f,c,pm,ctv,rfl,az,by rw[aG ne.symm,az]⟩,k c f pm ctv h1 h2 ne⟩⟩
 .exact .inr ⟨c,hf,hc,fun f pm ctv h1=>⟨⟨f,c,pm,ctv,rfl,az,by rw[aG (aM hc h1)];exact hc⟩,k f pm ctv h1⟩⟩
def WR(ta:TA)(cl:List (Str×Addr))(P:Addr)(lpos:Pos)(qual:Str)(params:Arguments)(body:Expr)(scope:Scope)(iy:Nat)(sp:V->V->Hp->VK->Prop):TE:=fun σ H Q=>ta σ H fun vs H1=>uT cl P lpos qual params body scope σ H1 fun _ H2=>
 ∃(r:Addr)(n:Nat)(kz:List Int)(T:Hp->Prop)(vy:V),vs=[.ref r]/\σ[iy]? =some (some vy)/\H2 r=some (.rng 0 n)/\n<64/\kz.length=n/\T H2/\(∀H',T H'->aF H2 H')/\(∀(i:Nat)(key:Int)(H':Hp),kz[i]? =some key->T H'->sp (.int i) vy H' (fun v H''=>v= .int key/\T H''))/\
  ∀(l:Addr)(H':Hp)(ord:List Int),T H'->H' l=none->ord.Perm ((List.range n).map fun i:Nat=>(i:Int))->ord.Pairwise (uX kz)->Q (.ref l) (upd H' l (.lst (ord.map V.int)))
theorem Qu{X:Cx}{e:Expr}{ta:TA}{params:Arguments}{body:Expr}{scope:Scope}{lpos kp p pos:Pos}{x y z:Str}{iy k:Nat}{c cP P:Addr}{sp:V->V->Hp->VK->Prop}(hg:Gl X "sorted")(hm:X.mg "sorted"=none)(ha:PA X [e] ta)(hcode:X.env.code= .ref cP)(C:PySem.W.CodeHd X.base cP P)(bm:BM X.mg X.base)
  (hcl:closureFor scope X.env=pure [(y,c)])(hcy:X.env.cells.lookup y=some c)(hky:X.env.scope.names.lookup y=some .cell)(hNy:X.N[iy]? =some y)(hc:X.calm=true)(S:nF x y z scope)(hr:aZ (k+1) X.A.in1.in1)
  (hbind:∀(qual:Str)(cl:List (Str×Addr))(pm cd ctv u:Value),bindArgs (PySem.W.kla_fn "<lambda>" qual params body scope cl pm cd ctv) ⟨[u],[]⟩=pure [(x,u)])
  (hB:∀(f cc:Addr)(A:Around)(outer:List Env)(s:Shared)(H:Hp)(vx vy:V)(Q:VK),aZ k (A.deeper (vz (X.env.qual++"<lambda>") scope s.heap.objs.size f (.ref cc) x y c))->sp vx vy H Q->
   ∃t,PE (UV X.prog X.w X.K X.mg X.base (X.env.qual++"<lambda>") scope f (.ref cc) x y c A outer s H) body t/\t [some vx,some vy] H Q)
  (he:backTo pos (starEach [e] X.env)=(false,eval e X.env)::backTo pos (starEach [] X.env):=by rfl)(hdef:defaultsOf params X.env=([],[]):=by rfl):
  PE X (.Call (.Name "sorted" p) [e] [⟨some "key",.Lambda params body scope lpos,kp⟩] pos) (WR ta [(y,c)] P lpos (X.env.qual++"<lambda>") params body scope iy sp):=by
 intro pins s σ H Q I h
 refine wpAny_Call_Name_kw (jm I hg hm PyProof.Rows.boot_sorted ?_ (by decide) (by decide))
 refine PyProof.Rows.callWith_kw (cZ (ha pos pins s σ H _ I h) fun us s1⟨vs,H1,I1,r1,q1⟩=>PyProof.Rows.kws_cons (cZ (Lq hcode C bm hcl hdef pins s1 σ H1 _ I1 (Jj q1)) fun fv s2⟨v,H2,I2,rv,⟨f,cc,pm,ctv,ev,hf,hcc⟩,q2⟩=>PyProof.Rows.kws_nil ?_)) he (by rw[he];rfl)
 obtain⟨r,n,kz,T,vy,rfl,hy,hr2,n64,hl,t0,same,turn,q⟩:=q2
 subst ev
 cases (show fv=Value.ref f from rv)
 cases r1 with
 |cons ra rr=>
  cases rr
  cases ra
  show wpAny _ _ (call (.builtin "sorted") [.ref r] [(Str.ofString "key",.ref f)]) _ _ _
  obtain⟨m,hn,hv⟩:=id I2.loc
  obtain⟨uy,ry,hlook⟩:=hv iy y vy hNy hy (.inr (.inl hky))
  have hcell:s2.heap.IsCell c (some uy):=by
   rcases hlook with⟨k1,_⟩|⟨_,c',e1,e2⟩
   .have k1':X.env.scope.names.lookup y=some .local:=k1
    rw[hky]at k1'
    cases k1'
   .rw[hcy]at e1
    cases e1
    exact e2
  have hcN:H2 c=none:=I2.freeC y c hcy
  refine Mu I2 hr2 hc (fun i t key H' s' hk hT e0 un=>?_) t0 hl n64 q
  have sm:=same H' hT
  obtain⟨ho,_⟩:=(show cI X.prog X.w H' s'.heap f (yE f (X.env.qual++"<lambda>") params body scope [(y,c)] cc pm ctv)from e0.hok f _ (sm _ _ hf))
  obtain⟨hrec,_⟩:=(show cI X.prog X.w H' s'.heap cc (jB cc (X.env.qual++"<lambda>"))from e0.hok cc _ (sm _ _ hcc))
  obtain⟨oc,h1,h2⟩:=hcell
  obtain⟨sl,h3⟩:=un.any h1 hcN (by simp)
  exact Dy (vx:= .int i) (vy:=vy) S (hbind _ _ _ _ _ _) hr e0 ho hrec ⟨_,h3,h2⟩ (un.free c oc h1 hcN (by simp)) ⟨t,rfl⟩ ry (hB f cc _ _ _ _ _ _ _ (hr.deeper _) (turn i key H' hk hT))
end L2
namespace L2
open PySem PySem.Spec PyProof.Rows
theorem tZ.okC{P:Program}{w:World}{K:PySem.W.Frag}{mg:Str->Option Value}{base:Heap}{x qual:Str}{st:Stmt}{f c:Addr}{fd:FuncData}{N ps:List Str}{k:Nat}{sp:Sp}(F:tZ K x qual st f fd)(hc:fd.code= .ref c)(S:aQ N ps (aJ st))(len:∀vs H Q E,sp vs H Q E->vs.length=ps.length)
  (hbody:∀(A:Around)(outer:List Env)(s:Shared)(H:Hp)(vs:List V)(Q:VK)(E:XK),aZ k (A.deeper (PyProof.Rows.envOfC qual (aJ st) s.heap.objs.size f (.ref c)))->sp vs H Q E->
   ∃t,lC (ug dj P w K mg base N qual (aJ st) f (.ref c) A outer s H E).nox (bK st) t/\t {nx:=fun _ H'=>Q .non H',rt:=Q} (start N vs) H):bH P w K mg base dj (k+1) f fd ps sp:=by
 obtain⟨oc,od,kV,doc,pm,an,cdv,ct,osl,rfl,lk,hcd⟩:=F.ex
 have e:cdv= .ref c:=hc
 subst e
 refine Ny lk hcd S len fun A outer s H vs Q E hr hsp=>?_
 obtain⟨t,h,q⟩:=hbody A outer s H vs Q E hr hsp
 exact⟨t,h.nox,q⟩
theorem pF{a b:Int}{t u:Tok}{x:Value}:∀(l:List Value),TriplesOk l->TriplesOk (l++[.int a t,.int b u,x]):=by
 intro l h
 fun_induction TriplesOk l with
 |case1=>exact trivial
 |case2 a' t' b' u' y rest ih=>exact ih h
 |case3 l h1 h2=>exact h.elim
def Ready(P:Addr)(pos:Pos)(qual:Str)(H:Hp):Prop:=∃ps:Array Value,H P=some (.tbl ps)/\TriplesOk ps.toList/\(codeAmong pos ps.toList=none\/∃c,codeAmong pos ps.toList=some (.ref c)/\H c=some (jB c qual))
def Ou(P:Addr)(H H':Hp):Prop:=∀b o,H b=some o->b≠P->H' b=some o
theorem dI{P:Addr}{pos:Pos}{qual:Str}{H H':Hp}(r:Ready P pos qual H)(s:aF H H'):Ready P pos qual H':=by
 obtain⟨ps,h1,h2,h3⟩:=r
 refine⟨ps,s _ _ h1,h2,?_⟩
 rcases h3 with h3|⟨c,e1,e2⟩
 .exact .inl h3
 .exact .inr ⟨c,e1,s _ _ e2⟩
structure Tb(P:Addr)(pos:Pos)(qual:Str)(H H':Hp):Prop where
 but:Ou P H H'
 old:Ready P pos qual H
 rdy:Ready P pos qual H'
section
variable {P:Addr} {pos:Pos} {qual:Str} {H H' H2:Hp} {K:PySem.W.Frag}
theorem Tb.of(r:Ready P pos qual H)(s:aF H H'):Tb P pos qual H H':=⟨fun b o e _=>s b o e,r,dI r s⟩
theorem Tb.trans(h:Tb P pos qual H H')(g:Tb P pos qual H' H2):Tb P pos qual H H2:=⟨fun b o e n=>g.but b o (h.but b o e n) n,h.old,g.rdy⟩
theorem Tb.to(h:Tb P pos qual H H')(s:aF H' H2):Tb P pos qual H H2:=h.trans (.of h.rdy s)
theorem Tb.get(h:Tb P pos qual H H'){b:Addr}{o:HO}(e:H b=some o)(n:∀ps,o≠ .tbl ps):H' b=some o:=by
 obtain⟨ps,hP,_⟩:=h.old
 exact h.but b o e (bW e hP (n ps))
theorem Tb.keep(h:Tb P pos qual H H'):cC H H':=fun _ _ e _ n=>h.get e n
theorem Tb.lst(h:Tb P pos qual H H'){b:Addr}{xs:List V}(e:H b=some (.lst xs)):H' b=some (.lst xs):=h.get e fun _ z=>nomatch z
theorem Tb.sqL(h:Tb P pos qual H H'){b:Addr}{xs:List V}(hx:cJ K H b xs):cJ K H' b xs:=by
 rcases hx with(z|⟨o,z⟩)|z
 .exact .inl (.inl (h.lst z))
 .exact .inl (.inr ⟨o,h.get z fun _ z=>nomatch z⟩)
 .exact .inr z
theorem Tb.free(h:Tb P pos qual H H'){b:Addr}(e:H' b=none):H b=none:=by
 cases z:H b with
 |none=>rfl
 |some o=>
  by_cases c:b=P
  .obtain⟨ps,hP,_⟩:=h.rdy
   rw[c,hP]at e
   cases e
  .rw[h.but b o z c]at e
   cases e
theorem Tb.upd(h:Tb P pos qual H H'){b:Addr}{o:HO}(n:H b=none)(nc:∃ys,H' b=some (.lst ys)):Tb P pos qual H (upd H' b o):=by
 obtain⟨ys,nc⟩:=nc
 obtain⟨ps,h1,h2,h3⟩:=h.rdy
 refine⟨fun d u e nd=>?_,h.old,ps,?_,h2,?_⟩
 .rw[aG (aM e n)]
  exact h.but d u e nd
 .rw[aG (bW h1 nc fun z=>nomatch z)]
  exact h1
 .rcases h3 with h3|⟨c,e1,e2⟩
  .exact .inl h3
  .exact .inr ⟨c,e1,by rw[aG (bW e2 nc fun z=>nomatch z)];exact e2⟩
theorem DG{params:Arguments}{body:Expr}{scope:Scope}{cl:List (Str×Addr)}{σ:St}{Q:VK}(r:Ready P pos qual H)(k:∀v H2,Tb P pos qual H H2->Q v H2):uT cl P pos qual params body scope σ H Q:=by
 obtain⟨ps,hP,ht,hc⟩:=id r
 refine⟨ps,hP,ht,?_⟩
 rcases hc with hc|⟨c',hc1,hc2⟩
 .refine .inl ⟨hc,fun c f pm ctv h1 h2 ne=>k _ _ ⟨fun b o e n=>?_,r,ps++ #[rawInt pos.line,rawInt pos.col,.ref c],?_,?_,.inr ⟨c,?_,?_⟩⟩⟩
  .rw[aG (aM e h2),aG (aM e h1),aG n]
   exact e
  .rw[aG (aM hP h2),aG (aM hP h1)]
   exact az
  .rw[Array.toList_append]
   exact pF _ ht
  .rw[Array.toList_append]
   exact codeAmong_snoc _ ht hc
  .rw[aG ne.symm]
   exact az
 .exact .inr ⟨c',hc1,hc2,fun f pm ctv h1=>k _ _ (.of r (aF.upd h1))⟩
end
end L2
namespace L2
open PySem PySem.Spec PyProof.Rows
section
variable {X:Cx}
end
end L2
namespace FK
def mk(S:aA)(a y:Rat):Rat:=(fO (wl S) (F S a+y)).getD 0
abbrev wd(S:aA)(p:Rat×Rat):Rat:=F S p.2-F S p.1
end FK
namespace FK
theorem Ch.snoc:∀{a b c:Rat}{C:List (Rat×Rat)},Ch a C b->b<c->Ch a (C++[(b,c)]) c
 |a,b,c,[],h,lt=>by
  have e:a=b:=h
  exact⟨e.symm,lt,rfl⟩
 |a,b,c,p::C,h,lt=>⟨h.1,h.2.1,Ch.snoc h.2.2 lt⟩
abbrev stp(Ss:List aA)(u:Nat):aA:=Ss.getD u []
def JS(Ss:List aA)(h:Rat)(sp:Nat->Rat×Rat)(t u:Nat):Prop:=wd (stp Ss u) (sp t)<=h/\(wd (stp Ss u) (sp t)=h->t<u)
inductive Run(Ss:List aA)(h:Rat):List Nat->Rat->List Nat->List (Rat×Rat)->Prop
 |one (t:Nat) (s:Rat):Run Ss h [t] s [t] [(s,1)]
 |step (W:List Nat) (p t:Nat) (s:Rat) (ts:List Nat) (es:List (Rat×Rat)) (w2:2<=W.length) (hp:W[p]? =some t) (low:∀j u,W[j]? =some u->mk (stp Ss t) s h<mk (stp Ss u) s h\/(mk (stp Ss t) s h=mk (stp Ss u) s h/\p<=j)) (r:Run Ss h (W.eraseIdx p) (mk (stp Ss t) s h) ts es):Run Ss h W s (t::ts) ((s,mk (stp Ss t) s h)::es)
structure pO(Ss:List aA)(n k:Nat)(ts W:List Nat)(sp:Nat->Rat×Rat)(s:Rat):Prop where
 lk:ts.length=k
 perm:(ts++W).Perm (List.range n)
 inc:W.Pairwise (· < ·)
 ch:Ch 0 (ts.map sp) s
 g:∃G:Nat,0<G/\G<=8000000^k/\Gr G s
 s0:0<=s
 up:∀u∈W,F (stp Ss u) s<=(k:Rat)/(n:Rat)
 gs:∀t∈ts,∃G:Nat,0<G/\G<=8000000^k/\Gr G (sp t).1/\Gr G (sp t).2
 just:∀t∈ts,wd (stp Ss t) (sp t)=1/(n:Rat)
 tie1:ts.Pairwise (JS Ss (1/(n:Rat)) sp)
 tie2:∀t∈ts,∀u∈W,JS Ss (1/(n:Rat)) sp t u
 pre:∀ts2 es2,Run Ss (1/(n:Rat)) W s ts2 es2->Run Ss (1/(n:Rat)) (List.range n) 0 (ts++ts2) (ts.map sp++es2)
def wO(Ss:List aA)(n:Nat):Prop:=∀u,u<n->∃p,aX p (stp Ss u)
theorem pO.lt{Ss:List aA}{n k:Nat}{ts W:List Nat}{sp:Nat->Rat×Rat}{s:Rat}(h:pO Ss n k ts W sp s){u:Nat}(hu:u∈ts++W):u<n:=List.mem_range.mp (h.perm.mem_iff.mp hu)
theorem pO.len{Ss:List aA}{n k:Nat}{ts W:List Nat}{sp:Nat->Rat×Rat}{s:Rat}(h:pO Ss n k ts W sp s):k+W.length=n:=by
 have:=h.perm.length_eq
 rw[List.length_append,List.length_range,h.lk]at this
 exact this
theorem pO.nd{Ss:List aA}{n k:Nat}{ts W:List Nat}{sp:Nat->Rat×Rat}{s:Rat}(h:pO Ss n k ts W sp s):(ts++W).Nodup:=h.perm.nodup_iff.mpr List.nodup_range
theorem pY{k n:Nat}(hn:0<n):(k:Rat)/(n:Rat)+1/(n:Rat)=((k+1:Nat):Rat)/(n:Rat):=by
 have:=cQ hn
 rw[Rat.natCast_add,show((1:Nat):Rat)=1 from rfl]
 grind
theorem Kf{k n:Nat}(hn:0<n)(h:k<=n):(k:Rat)/(n:Rat)<=1:=by
 have e:=Hk hn (a:=(k:Int)) (by omega)
 rw[Rat.intCast_natCast]at e
 exact e
theorem one_pos{n:Nat}(hn:0<n):(0:Rat)<1/(n:Rat):=by
 have e:=oY hn (show(0:Int)<1 by decide)
 have z:((0:Int):Rat)/(n:Rat)=0:=by
  show(0:Rat)/(n:Rat)=0
  grind
 rw[z]at e
 exact e
theorem oW{Ss:List aA}{n k:Nat}{ts W:List Nat}{sp:Nat->Rat×Rat}{s:Rat}(h:pO Ss n k ts W sp s)(n8:n<=8)(k1:k+1<=n){u p:Nat}(hu:u∈W)(ok:aX p (stp Ss u)):
  fO (wl (stp Ss u)) (F (stp Ss u) s+1/(n:Rat))=some (mk (stp Ss u) s (1/(n:Rat)))/\s<mk (stp Ss u) s (1/(n:Rat))/\mk (stp Ss u) s (1/(n:Rat))<=1/\F (stp Ss u) (mk (stp Ss u) s (1/(n:Rat)))=F (stp Ss u) s+1/(n:Rat)/\F (stp Ss u) s+1/(n:Rat)<=1/\∃G:Nat,0<G/\G<=8000000^(k+1)/\Gr G s/\Gr G (mk (stp Ss u) s (1/(n:Rat))):=by
 have n0:0<n:=by omega
 have np:=cQ n0
 have up:=h.up u hu
 have st:=pY (k:=k) n0
 have le1:=Kf n0 k1
 obtain⟨G,g0,g1,g2⟩:=h.g
 have h0:=one_pos n0
 have le:F (stp Ss u) s+1/(n:Rat)<=1:=by grind
 have gh:Gr n (1/(n:Rat)):=⟨1,by show 1/(n:Rat)*(n:Rat)=1;grind⟩
 obtain⟨m,e,m0,m1,fm,w,w0,w1,gm⟩:=qg ok (a:=s) (s:=1/(n:Rat)) h.s0 (Rat.le_of_lt h0) le g2 gh
 have em:mk (stp Ss u) s (1/(n:Rat))=m:=by
  unfold mk
  rw[e]
  rfl
 rw[em]
 refine⟨e,rW ok (by grind),m1,fm,le,G*n*p*w,Nat.mul_pos (Nat.mul_pos (Nat.mul_pos g0 n0) ok.pos) w0,?_,g2.up.up.up,gm⟩
 have a1:G*n<=8000000^k*8:=Nat.mul_le_mul g1 n8
 have a2:G*n*p<=8000000^k*8*1000:=Nat.mul_le_mul a1 ok.few
 have a3:G*n*p*w<=8000000^k*8*1000*1000:=Nat.mul_le_mul a2 w1
 rw[Nat.pow_succ]
 omega
theorem Ea{W:List Nat}{p t u:Nat}(inc:W.Pairwise (· < ·))(hp:W[p]? =some t)(hu:u∈W.eraseIdx p):∃j,W[j]? =some u/\j≠p/\u≠t:=by
 obtain⟨j,hj⟩:=List.mem_iff_getElem?.mp hu
 obtain⟨lp,ep⟩:=List.getElem?_eq_some_iff.mp hp
 have key:∀i,W[i]? =some u->i≠p->∃j,W[j]? =some u/\j≠p/\u≠t:=fun i hi ne=>by
  obtain⟨li,ei⟩:=List.getElem?_eq_some_iff.mp hi
  refine⟨i,hi,ne,fun z=>?_⟩
  rcases Nat.lt_or_gt_of_ne ne with c|c
  .have:=List.pairwise_iff_getElem.mp inc i p li lp c
   omega
  .have:=List.pairwise_iff_getElem.mp inc p i lp li c
   omega
 rw[List.getElem?_eraseIdx]at hj
 by_cases c:j<p
 .rw[if_pos c]at hj
  exact key j hj (by omega)
 .rw[if_neg c]at hj
  exact key (j+1) hj (by omega)
theorem sG:∀{W:List Nat}{p t:Nat},W[p]? =some t->(t::W.eraseIdx p).Perm W
 |x::W,0,t,h=>by
  cases h
  exact List.Perm.refl _
 |x::W,p+1,t,h=>by
  have e:W[p]? =some t:=by simpa using h
  exact(List.Perm.swap ..).trans ((sG e).cons x)
theorem GZ{Ss:List aA}{n k:Nat}{ts W:List Nat}{sp:Nat->Rat×Rat}{s:Rat}(h:pO Ss n k ts W sp s)(all:wO Ss n)(n8:n<=8)(k1:k+1<=n)(w2:2<=W.length){p t:Nat}(hp:W[p]? =some t)
  (low:∀j u,W[j]? =some u->mk (stp Ss t) s (1/(n:Rat))<mk (stp Ss u) s (1/(n:Rat))\/(mk (stp Ss t) s (1/(n:Rat))=mk (stp Ss u) s (1/(n:Rat))/\p<=j)):
  pO Ss n (k+1) (ts++[t]) (W.eraseIdx p) (fun x=>if x=t then(s,mk (stp Ss t) s (1/(n:Rat)))else sp x) (mk (stp Ss t) s (1/(n:Rat))):=by
 have n0:0<n:=by omega
 have tW:t∈W:=List.mem_of_getElem? hp
 obtain⟨lp,ep⟩:=List.getElem?_eq_some_iff.mp hp
 have nd:=h.nd
 have nt:t∉ts:=fun z=>(List.nodup_append.mp nd).2.2 t z t tW rfl
 obtain⟨pt,okt⟩:=all t (h.lt (List.mem_append_right _ tW))
 obtain⟨_,m1,m2,m3,m4,G,g0,g1,g2,g3⟩:=oW h n8 k1 tW okt
 have old:∀x,x∈ts->(if x=t then(s,mk (stp Ss t) s (1/(n:Rat)))else sp x)=sp x:=fun x hx=>if_neg fun z=>nt (by rw[<-z];exact hx)
 have new:(if t=t then(s,mk (stp Ss t) s (1/(n:Rat)))else sp t)=(s,mk (stp Ss t) s (1/(n:Rat))):=if_pos rfl
 have sub:∀u,u∈W.eraseIdx p->u∈W:=fun u hu=>List.mem_of_mem_eraseIdx hu
 have gk:8000000^k<=8000000^(k+1):=Nat.pow_le_pow_right (by decide) (by omega)
 have far:∀u∈W.eraseIdx p,F (stp Ss u) (mk (stp Ss t) s (1/(n:Rat)))<=F (stp Ss u) s+1/(n:Rat)/\(F (stp Ss u) (mk (stp Ss t) s (1/(n:Rat)))=F (stp Ss u) s+1/(n:Rat)->t<u):=fun u hu=>by
  obtain⟨j,hj,jp,ut⟩:=Ea h.inc hp hu
  obtain⟨pu,oku⟩:=all u (h.lt (List.mem_append_right _ (sub u hu)))
  obtain⟨_,u1,u2,u3,u4,_⟩:=oW h n8 k1 (sub u hu) oku
  have s0:=h.s0
  have le:mk (stp Ss t) s (1/(n:Rat))<=mk (stp Ss u) s (1/(n:Rat)):=by rcases low j u hj with z|z<;>grind
  refine⟨by rw[<-u3];exact dF oku le,fun e=>?_⟩
  have e2:mk (stp Ss t) s (1/(n:Rat))=mk (stp Ss u) s (1/(n:Rat)):=qH oku (by grind) (by grind) (by grind) (by grind) (by rw[e,u3])
  rcases low j u hj with z|⟨_,z⟩
  .grind
  .obtain⟨lj,ej⟩:=List.getElem?_eq_some_iff.mp hj
   have:=List.pairwise_iff_getElem.mp h.inc p j lp lj (by omega)
   omega
 have wdn:∀u,wd (stp Ss u) (s,mk (stp Ss t) s (1/(n:Rat)))=F (stp Ss u) (mk (stp Ss t) s (1/(n:Rat)))-F (stp Ss u) s:=fun _=>rfl
 refine⟨by rw[List.length_append,h.lk];rfl,?_,h.inc.sublist (List.eraseIdx_sublist ..),?_,⟨G,g0,g1,g3⟩,by have:=h.s0;grind,fun u hu=>?_,fun x hx=>?_,fun x hx=>?_,?_,fun x hx u hu=>?_,fun ts2 es2 r=>?_⟩
 .refine List.Perm.trans ?_ h.perm
  rw[List.append_assoc]
  refine List.Perm.append_left _ ?_
  show(t::W.eraseIdx p).Perm W
  exact sG hp
 .rw[List.map_append,List.map_congr_left old]
  show Ch 0 (List.map sp ts++[if t=t then _ else _]) _
  rw[new]
  exact h.ch.snoc m1
 .have:=(far u hu).1
  have u2:=h.up u (sub u hu)
  rw[<-pY n0]
  grind
 .rcases List.mem_append.mp hx with z|z
  .rw[old x z]
   obtain⟨G',a,b,c⟩:=h.gs x z
   exact⟨G',a,Nat.le_trans b gk,c⟩
  .rw[List.mem_singleton.mp z,new]
   exact⟨G,g0,g1,g2,g3⟩
 .rcases List.mem_append.mp hx with z|z
  .rw[old x z]
   exact h.just x z
  .rw[List.mem_singleton.mp z,new,wdn]
   grind
 .refine List.pairwise_append.mpr ⟨h.tie1.imp_of_mem fun{x y}hx hy z=>?_,List.pairwise_singleton ..,fun x hx y hy=>?_⟩
  .unfold JS
   dsimp only
   rw[old x hx]
   exact z
  .rw[List.mem_singleton.mp hy]
   unfold JS
   dsimp only
   rw[old x hx]
   exact h.tie2 x hx t tW
 .rcases List.mem_append.mp hx with z|z
  .unfold JS
   dsimp only
   rw[old x z]
   exact h.tie2 x z u (sub u hu)
  .rw[List.mem_singleton.mp z]
   unfold JS
   dsimp only
   rw[new,wdn]
   have f:=far u hu
   exact⟨by grind,fun e=>f.2 (by grind)⟩
 .have q:=h.pre _ _ (Run.step W p t s ts2 es2 w2 hp low r)
  rw[List.map_append,List.map_congr_left old,List.append_assoc,List.append_assoc]
  show Run _ _ _ _ (ts++t::ts2) (List.map sp ts++((if t=t then _ else _)::es2))
  rw[new]
  exact q
theorem DR{Ss:List aA}{n:Nat}(all:wO Ss n)(sp:Nat->Rat×Rat):pO Ss n 0 [] (List.range n) sp 0:=
 ⟨rfl,List.Perm.refl _,List.pairwise_lt_range,rfl,⟨1,by decide,by decide,Gr.zero 1⟩,Rat.le_refl,fun u hu=>by
  obtain⟨p,ok⟩:=all u (List.mem_range.mp hu)
  rw[cX ok]
  show(0:Rat)<=((0:Nat):Rat)/(n:Rat)
  rw[show((0:Nat):Rat)=0 from rfl]
  grind,(fun _ z=>nomatch z),(fun _ z=>nomatch z),List.Pairwise.nil,(fun _ z=>nomatch z),fun _ _ r=>r⟩
structure LastOk(Ss:List aA)(n:Nat)(ts:List Nat)(sp:Nat->Rat×Rat):Prop where
 perm:ts.Perm (List.range n)
 ch:Ch 0 (ts.map sp) 1
 gs:∀t,t<n->∃G:Nat,0<G/\G<=8000000^8/\Gr G (sp t).1/\Gr G (sp t).2
 just:∀i t,ts[i]? =some t->i+1<n->wd (stp Ss t) (sp t)=1/(n:Rat)
 last:∀i t,ts[i]? =some t->i+1=n->1/(n:Rat)<=wd (stp Ss t) (sp t)
 tie:ts.Pairwise (JS Ss (1/(n:Rat)) sp)
 run:Run Ss (1/(n:Rat)) (List.range n) 0 ts (ts.map sp)
theorem Kr{Ss:List aA}{n k:Nat}{ts:List Nat}{t:Nat}{sp:Nat->Rat×Rat}{s:Rat}(h:pO Ss n k ts [t] sp s)(all:wO Ss n)(n8:n<=8):LastOk Ss n (ts++[t]) (fun x=>if x=t then(s,1)else sp x):=by
 have ln:=h.len
 have ln':k+1=n:=ln
 have n0:0<n:=by omega
 have np:=cQ n0
 have tW:t∈[t]:=List.mem_singleton.mpr rfl
 have nd:=h.nd
 have nt:t∉ts:=fun z=>(List.nodup_append.mp nd).2.2 t z t tW rfl
 obtain⟨pt,okt⟩:=all t (h.lt (List.mem_append_right _ tW))
 have old:∀x,x∈ts->(if x=t then(s,(1:Rat))else sp x)=sp x:=fun x hx=>if_neg fun z=>nt (by rw[<-z];exact hx)
 have new:(if t=t then(s,(1:Rat))else sp t)=(s,1):=if_pos rfl
 have up:=h.up t tW
 have st:=pY (k:=k) n0
 have one:((k+1:Nat):Rat)/(n:Rat)=1:=by
  rw[ln']
  grind
 have op:=one_pos n0
 have s1:s<1:=rW okt (by rw[fY okt];grind)
 have gk:8000000^k<=8000000^8:=Nat.pow_le_pow_right (by decide) (by omega)
 refine⟨h.perm,?_,fun x hx=>?_,fun i x hi li=>?_,fun i x hi li=>?_,?_,?_⟩
 .rw[List.map_append,List.map_congr_left old]
  show Ch 0 (List.map sp ts++[if t=t then _ else _]) _
  rw[new]
  exact h.ch.snoc s1
 .have mx:=h.perm.mem_iff.mpr (List.mem_range.mpr hx)
  rcases List.mem_append.mp mx with z|z
  .rw[old x z]
   obtain⟨G',a,b,c⟩:=h.gs x z
   exact⟨G',a,Nat.le_trans b gk,c⟩
  .rw[List.mem_singleton.mp z,new]
   obtain⟨G,a,b,c⟩:=h.g
   exact⟨G,a,Nat.le_trans b gk,c,Gr.one G⟩
 .rw[List.getElem?_append_left (by rw[h.lk];omega)]at hi
  have z:=List.mem_of_getElem? hi
  rw[old x z]
  exact h.just x z
 .rw[List.getElem?_append_right (by rw[h.lk];omega),h.lk,show i-k=0 by omega]at hi
  cases hi
  rw[new]
  show 1/(n:Rat)<=F (stp Ss t) 1-F (stp Ss t) s
  rw[fY okt]
  grind
 .refine List.pairwise_append.mpr ⟨h.tie1.imp_of_mem fun{x y}hx hy z=>?_,List.pairwise_singleton ..,fun x hx y hy=>?_⟩
  .unfold JS
   dsimp only
   rw[old x hx]
   exact z
  .rw[List.mem_singleton.mp hy]
   unfold JS
   dsimp only
   rw[old x hx]
   exact h.tie2 x hx t tW
 .have q:=h.pre _ _ (Run.one t s)
  rw[List.map_append,List.map_congr_left old]
  show Run _ _ _ _ _ (List.map sp ts++[if t=t then _ else _])
  rw[new]
  exact q
end FK
namespace FK
theorem uo(S:aA)(p:Rat×Rat):Wo S [p]=wd S p:=by
 show(F S p.2-F S p.1)+0=F S p.2-F S p.1
 grind
theorem Ke{n:Nat}(h1:1<=n)(h8:n<=8):(1/(n:Rat)).num=1/\(1/(n:Rat)).den=n:=by
 have:n=1\/n=2\/n=3\/n=4\/n=5\/n=6\/n=7\/n=8:=by omega
 rcases this with rfl|rfl|rfl|rfl|rfl|rfl|rfl|rfl<;>exact⟨by decide+kernel,by decide+kernel⟩
end FK
namespace FK
def mw(S:aA)(a b:Rat)(h m:Nat):Rat:=mk S a (wd S (a,b)*((h:Rat)/(m:Rat)))
theorem vB{h m:Nat}(h0:0<h)(hm:h<m):(0:Rat)<(h:Rat)/(m:Rat)/\(h:Rat)/(m:Rat)<1:=by
 have m0:0<m:=by omega
 have a:=oY m0 (show(0:Int)<(h:Int)by omega)
 have b:=oY m0 (show(h:Int)<(m:Int)by omega)
 rw[sY m0]at b
 rw[Rat.intCast_natCast]at a b
 have z:((0:Int):Rat)/(m:Rat)=0:=by
  show(0:Rat)/(m:Rat)=0
  grind
 rw[z]at a
 exact⟨a,b⟩
theorem vP{x f:Rat}(x0:0<x)(f0:0<f)(f1:f<1):0<x*f/\x*f<x:=by
 have a:=qi x0 f0
 have b:=qi x0 f1
 have z:x*0=0:=by grind
 have o:x*1=x:=by grind
 rw[z]at a
 rw[o]at b
 exact⟨a,b⟩
theorem iC{p:Nat}{S:aA}(ok:aX p S){a b:Rat}{h m D:Nat}(a0:0<=a)(ab:a<b)(b1:b<=1)(h0:0<h)(hm:h<m)(m8:m<=8)(d0:0<D)(ga:Gr D a)(gb:Gr D b):
  fO (wl S) (F S a+wd S (a,b)*((h:Rat)/(m:Rat)))=some (mw S a b h m)/\a<mw S a b h m/\mw S a b h m<b/\F S (mw S a b h m)=F S a+wd S (a,b)*((h:Rat)/(m:Rat))/\
  0<wd S (a,b)*((h:Rat)/(m:Rat))/\F S a+wd S (a,b)*((h:Rat)/(m:Rat))<1/\∃G:Nat,0<G/\G<=D*8000000/\Gr G a/\Gr G b/\Gr G (mw S a b h m):=by
 have m0:0<m:=by omega
 obtain⟨f0,f1⟩:=vB h0 hm
 have w0:0<wd S (a,b):=by
  have:=iT ok a0 ab b1
  show 0<F S b-F S a
  grind
 obtain⟨q0,q1⟩:=vP w0 f0 f1
 have fb:=qR ok b1
 have wd':wd S (a,b)=F S b-F S a:=rfl
 have lt1:F S a+wd S (a,b)*((h:Rat)/(m:Rat))<1:=by grind
 have fa:=ie ok a
 have tp:=ok.tp
 have g:Gr (D*m*p) ((F S a+wd S (a,b)*((h:Rat)/(m:Rat)))*tot S):=by
  have e:(F S a+wd S (a,b)*((h:Rat)/(m:Rat)))*tot S=A 0 S a+(A 0 S b-A 0 S a)*((h:Rat)/(m:Rat)):=by
   rw[wd']
   unfold F
   have:tot S≠0:=by grind
   grind
  rw[e]
  have g1:Gr (D*p) (A 0 S a):=jL (Gr.zero _) (fun z hz=>(ok.gr z hz).up') ga.up
  have g2:Gr (D*p) (A 0 S b):=jL (Gr.zero _) (fun z hz=>(ok.gr z hz).up') gb.up
  have g3:Gr m ((h:Rat)/(m:Rat)):=by
   have:=oX m0 (h:Int)
   rw[Rat.intCast_natCast]at this
   exact this
  have g4:=Gr.mul (Gr.sub g2 g1) g3
  have ed:D*m*p=D*p*m:=Nat.mul_right_comm D m p
  rw[ed]
  exact Gr.add g1.up g4
 obtain⟨x,e1,x0,x1,fx,w,w0',w1,gx⟩:=oJ ok (E:=D*m) (by grind) (Rat.le_of_lt lt1) g
 have em:mw S a b h m=x:=by
  unfold mw mk
  rw[e1]
  rfl
 rw[em]
 refine⟨e1,rW ok (by grind),rW ok (by grind),fx,q0,lt1,D*m*p*w,Nat.mul_pos (Nat.mul_pos (Nat.mul_pos d0 m0) ok.pos) w0',?_,ga.up.up.up,gb.up.up.up,gx⟩
 have a1:D*m<=D*8:=Nat.mul_le_mul_left _ m8
 have a2:D*m*p<=D*8*1000:=Nat.mul_le_mul a1 ok.few
 have a3:D*m*p*w<=D*8*1000*1000:=Nat.mul_le_mul a2 w1
 omega
def JL(key:Nat->Rat)(u v:Nat):Bool:=decide (key u<key v)||(decide (key u=key v)&&decide (u<=v))
theorem iV{key:Nat->Rat}{u v:Nat}:JL key u v=true↔key u<key v\/(key u=key v/\u<=v):=by
 unfold JL
 simp
theorem DQ(key:Nat->Rat)(a b c:Nat)(h1:JL key a b=true)(h2:JL key b c=true):JL key a c=true:=by
 rw[iV]at*
 grind
theorem DP(key:Nat->Rat)(a b:Nat):(JL key a b||JL key b a)=true:=by
 rw[Bool.or_eq_true,iV,iV]
 rcases Nat.le_total a b with h|h<;>grind
def byKey(key:Nat->Rat)(W:List Nat):List Nat:=W.mergeSort (JL key)
theorem jO(key:Nat->Rat)(W:List Nat):(byKey key W).Perm W:=List.mergeSort_perm _ _
theorem wR(key:Nat->Rat)(W:List Nat):(byKey key W).Pairwise fun a b=>JL key a b=true:=List.pairwise_mergeSort (DQ key) (DP key) W
theorem FP{key:Nat->Rat}{W L:List Nat}(hp:L.Perm W)(hs:L.Pairwise fun a b=>JL key a b=true):L=byKey key W:=
 List.Perm.eq_of_pairwise (fun a b _ _ h1 h2=>by
  rw[iV]at h1 h2
  have:a<=b/\b<=a:=by grind
  omega) hs (wR key W) (hp.trans (jO key W).symm)
def up(W:List Nat):List Nat:=W.mergeSort fun x y=>decide (x<=y)
theorem wK(W:List Nat):(up W).Perm W:=List.mergeSort_perm _ _
theorem Jz(W:List Nat):(up W).Pairwise (· <= ·):=by
 have:=List.pairwise_mergeSort (le:=fun x y:Nat=>decide (x<=y)) (fun a b c h1 h2=>decide_eq_true (Nat.le_trans (of_decide_eq_true h1) (of_decide_eq_true h2))) (fun a b=>by
  rw[Bool.or_eq_true]
  rcases Nat.le_total a b with h|h
  .exact .inl (decide_eq_true h)
  .exact .inr (decide_eq_true h)) W
 exact this.imp fun h=>of_decide_eq_true h
theorem up_eq{W L:List Nat}(hp:L.Perm W)(hs:L.Pairwise (· <= ·)):L=up W:=
 List.Perm.eq_of_pairwise (fun a b _ _ h1 h2=>Nat.le_antisymm h1 h2) hs (Jz W) (hp.trans (wK W).symm)
def hv(Ss:List aA):Nat->List Nat->Rat->Rat->List (Nat×Rat×Rat)
 |0,W,a,b=>W.map fun t=>(t,a,b)
 |d+1,W,a,b=>if W.length<=1 then W.map (fun t=>(t,a,b))else
  hv Ss d (up ((byKey (fun u=>mw (stp Ss u) a b (W.length/2) W.length) W).take (W.length/2))) a (mw (stp Ss ((byKey (fun u=>mw (stp Ss u) a b (W.length/2) W.length) W).getD (W.length/2-1) 0)) a b (W.length/2) W.length)++
  hv Ss d (up ((byKey (fun u=>mw (stp Ss u) a b (W.length/2) W.length) W).drop (W.length/2))) (mw (stp Ss ((byKey (fun u=>mw (stp Ss u) a b (W.length/2) W.length) W).getD (W.length/2-1) 0)) a b (W.length/2) W.length) b
inductive Gd(Ss:List aA):Rat->List (Nat×Rat×Rat)->Rat->Prop
 |one (t:Nat) (a b:Rat) (ab:a<b):Gd Ss a [(t,a,b)] b
 |two (a m b:Rat) (R1 R2:List (Nat×Rat×Rat)) (h0:R1≠[]) (h1:R1.length=(R1.length+R2.length)/2)
   (c1:∀r∈R1,wd (stp Ss r.1) (a,b)*((R1.length:Rat)/((R1.length+R2.length:Nat):Rat))<=wd (stp Ss r.1) (a,m))
   (c2:∀r∈R2,wd (stp Ss r.1) (a,m)<=wd (stp Ss r.1) (a,b)*((R1.length:Rat)/((R1.length+R2.length:Nat):Rat)))
   (c3:∃r∈R1,wd (stp Ss r.1) (a,m)=wd (stp Ss r.1) (a,b)*((R1.length:Rat)/((R1.length+R2.length:Nat):Rat)))
   (c4:∀r∈R1,∀q∈R2,wd (stp Ss r.1) (a,m)=wd (stp Ss r.1) (a,b)*((R1.length:Rat)/((R1.length+R2.length:Nat):Rat))->wd (stp Ss q.1) (a,m)=wd (stp Ss q.1) (a,b)*((R1.length:Rat)/((R1.length+R2.length:Nat):Rat))->r.1<q.1)
   (g1:Gd Ss a R1 m) (g2:Gd Ss m R2 b):Gd Ss a (R1++R2) b
theorem Ch.app:∀{a b c:Rat}{C D:List (Rat×Rat)},Ch a C b->Ch b D c->Ch a (C++D) c
 |a,b,c,[],D,h,g=>by
  have e:a=b:=h
  rw[e]
  exact g
 |a,b,c,p::C,D,h,g=>⟨h.1,h.2.1,Ch.app h.2.2 g⟩
theorem Gd.ch{Ss:List aA}{a b:Rat}{R:List (Nat×Rat×Rat)}(g:Gd Ss a R b):Ch a (R.map (·.2)) b:=by
 induction g with
 |one t a b ab=>exact⟨rfl,ab,rfl⟩
 |two a m b R1 R2 _ _ _ _ _ _ _ _ i1 i2=>
  rw[List.map_append]
  exact i1.app i2
structure Xq(Ss:List aA)(W:List Nat)(a b:Rat)(k:Nat)(R:List (Nat×Rat×Rat)):Prop where
 perm:(R.map (·.1)).Perm W
 gd:Gd Ss a R b
 gs:∀r∈R,∃G:Nat,0<G/\G<=8000000^k/\Gr G r.2.1/\Gr G r.2.2
 share:∀r∈R,wd (stp Ss r.1) (a,b)<=wd (stp Ss r.1) r.2*(W.length:Rat)
end FK
namespace FK
structure Xy(key:Nat->Rat)(W A B:List Nat)(m:Rat):Prop where
 perm:(A++B).Perm W
 la:A.length=W.length/2
 lb:B.length=W.length-W.length/2
 pa:A.Pairwise (· < ·)
 pb:B.Pairwise (· < ·)
 ab:∀u∈A,∀v∈B,key u<key v\/(key u=key v/\u<v)
 top:∃x∈A,key x=m
 le:∀u∈A,key u<=m
 ge:∀v∈B,m<=key v
theorem NQ{L:List Nat}(h:L.Pairwise (· <= ·))(nd:L.Nodup):L.Pairwise (· < ·):=by
 have:=h.and nd
 exact this.imp fun{a b}⟨x,y⟩=>Nat.lt_of_le_of_ne x y
theorem zZ{key:Nat->Rat}{W:List Nat}(inc:W.Pairwise (· < ·))(w2:2<=W.length):Xy key W (up ((byKey key W).take (W.length/2))) (up ((byKey key W).drop (W.length/2))) (key ((byKey key W).getD (W.length/2-1) 0)):=by
 have op:=jO key W
 have ow:=wR key W
 have lo:(byKey key W).length=W.length:=op.length_eq
 have nd:W.Nodup:=inc.imp fun h=>Nat.ne_of_lt h
 have ndo:(byKey key W).Nodup:=op.nodup_iff.mpr nd
 generalize byKey key W=o at*
 have p1:=wK (o.take (W.length/2))
 have p2:=wK (o.drop (W.length/2))
 have ndt:(o.take (W.length/2)).Nodup:=ndo.sublist (List.take_sublist _ _)
 have ndd:(o.drop (W.length/2)).Nodup:=ndo.sublist (List.drop_sublist _ _)
 rw[<-List.take_append_drop (W.length/2) o]at ow ndo
 obtain⟨w1,w2',w3⟩:=List.pairwise_append.mp ow
 obtain⟨_,_,n3⟩:=List.nodup_append.mp ndo
 have hx:o[W.length/2-1]? =some (o.getD (W.length/2-1) 0):=by
  rw[List.getD_eq_getElem?_getD,List.getElem?_eq_getElem (by omega)]
  rfl
 have hxt:(o.take (W.length/2))[W.length/2-1]? =some (o.getD (W.length/2-1) 0):=by
  rw[List.getElem?_take,if_pos (by omega)]
  exact hx
 have mx:=List.mem_of_getElem? hxt
 have lt:(o.take (W.length/2)).length=W.length/2:=by rw[List.length_take];omega
 have ge:∀v∈up (o.drop (W.length/2)),key (o.getD (W.length/2-1) 0)<=key v:=fun v hv=>by
  have:=iV.mp (w3 _ mx v (p2.mem_iff.mp hv))
  grind
 refine⟨(p1.append p2).trans (by rw[List.take_append_drop];exact op),p1.length_eq.trans lt,p2.length_eq.trans (by rw[List.length_drop];omega),NQ (Jz _) (p1.nodup_iff.mpr ndt),NQ (Jz _) (p2.nodup_iff.mpr ndd),fun u hu v hv=>?_,⟨_,p1.mem_iff.mpr mx,rfl⟩,fun u hu=>?_,ge⟩
 .have hu':=p1.mem_iff.mp hu
  have hv':=p2.mem_iff.mp hv
  have ne:=n3 u hu' v hv'
  rcases iV.mp (w3 u hu' v hv')with h|⟨h1,h2⟩
  .exact .inl h
  .exact .inr ⟨h1,Nat.lt_of_le_of_ne h2 ne⟩
 .obtain⟨i,hi⟩:=List.mem_iff_getElem?.mp (p1.mem_iff.mp hu)
  obtain⟨i1,i2⟩:=List.getElem?_eq_some_iff.mp hi
  obtain⟨j1,j2⟩:=List.getElem?_eq_some_iff.mp hxt
  by_cases e:i=W.length/2-1
  .subst e
   rw[hxt]at hi
   cases hi
   exact Rat.le_refl
  .have:=List.pairwise_iff_getElem.mp w1 i (W.length/2-1) i1 j1 (by omega)
   rw[i2,j2]at this
   have:=iV.mp this
   grind
theorem yP(Ss:List aA)(d t:Nat)(a b:Rat):hv Ss d [t] a b=[(t,a,b)]:=by
 cases d with
 |zero=>rfl
 |succ d=>
  unfold hv
  rw[if_pos (by show 1<=1;decide)]
  rfl
theorem yc{x y z:Rat}{h m:Nat}(h0:0<h)(hm:h<m)(e1:x*((h:Rat)/(m:Rat))<=y)(e2:y<=z*(h:Rat)):x<=z*(m:Rat):=by
 have m0:=cQ (show 0<m by omega)
 have hp:=cQ h0
 have e3:x*((h:Rat)/(m:Rat))<=z*(h:Rat):=by grind
 have e4:=Rat.mul_le_mul_of_nonneg_right e3 (Rat.le_of_lt m0)
 have e5:x*((h:Rat)/(m:Rat))*(m:Rat)=x*(h:Rat):=by grind
 rw[e5]at e4
 have e6:z*(h:Rat)*(m:Rat)=z*(m:Rat)*(h:Rat):=by grind
 rw[e6]at e4
 exact Rat.le_of_mul_le_mul_right e4 hp
theorem zT{x y z:Rat}{h m:Nat}(hm:h<m)(e1:y<=x*((h:Rat)/(m:Rat)))(e2:x-y<=z*((m-h:Nat):Rat)):x<=z*(m:Rat):=by
 have m0:=cQ (show 0<m by omega)
 have hp:=cQ (show 0<m-h by omega)
 have ec:((m-h:Nat):Rat)=(m:Rat)-(h:Rat):=by
  have:(m:Rat)=((m-h+h:Nat):Rat):=by rw[Nat.sub_add_cancel (by omega)]
  rw[Rat.natCast_add]at this
  grind
 have e3:x-x*((h:Rat)/(m:Rat))<=z*((m-h:Nat):Rat):=by grind
 have e4:=Rat.mul_le_mul_of_nonneg_right e3 (Rat.le_of_lt m0)
 have e5:(x-x*((h:Rat)/(m:Rat)))*(m:Rat)=x*((m-h:Nat):Rat):=by
  rw[ec]
  grind
 rw[e5]at e4
 have e6:z*((m-h:Nat):Rat)*(m:Rat)=z*(m:Rat)*((m-h:Nat):Rat):=by grind
 rw[e6]at e4
 exact Rat.le_of_mul_le_mul_right e4 hp
theorem NB{Ss:List aA}:∀(d k:Nat)(W:List Nat)(a b:Rat),W≠[]->W.length<=2^d->W.length<=8->W.Pairwise (· < ·)->(∀u∈W,∃p,aX p (stp Ss u))->0<=a->a<b->b<=1->(∃D:Nat,0<D/\D<=8000000^k/\Gr D a/\Gr D b)->Xq Ss W a b (k+d) (hv Ss d W a b):=by
 intro d
 induction d with
 |zero=>
  intro k W a b ne l2 l8 inc all a0 ab b1 gr
  obtain⟨t,rfl⟩:∃t,W=[t]:=List.length_eq_one_iff.mp (by have:=List.length_pos_iff.mpr ne;simp at l2;omega)
  rw[yP]
  refine⟨List.Perm.refl _,.one t a b ab,fun r hr=>?_,fun r hr=>?_⟩
  .rw[List.mem_singleton.mp hr]
   obtain⟨D,d0,d1,d2⟩:=gr
   exact⟨D,d0,d1,d2⟩
  .rw[List.mem_singleton.mp hr]
   show wd (stp Ss t) (a,b)<=wd (stp Ss t) (a,b)*((1:Nat):Rat)
   rw[show((1:Nat):Rat)=1 from rfl]
   grind
 |succ d ih=>
  intro k W a b ne l2 l8 inc all a0 ab b1 gr
  have lp:=List.length_pos_iff.mpr ne
  have gk:8000000^k<=8000000^(k+(d+1)):=Nat.pow_le_pow_right (by decide) (by omega)
  by_cases one:W.length<=1
  .obtain⟨t,rfl⟩:∃t,W=[t]:=List.length_eq_one_iff.mp (by omega)
   rw[yP]
   refine⟨List.Perm.refl _,.one t a b ab,fun r hr=>?_,fun r hr=>?_⟩
   .rw[List.mem_singleton.mp hr]
    obtain⟨D,d0,d1,d2⟩:=gr
    exact⟨D,d0,Nat.le_trans d1 gk,d2⟩
   .rw[List.mem_singleton.mp hr]
    show wd (stp Ss t) (a,b)<=wd (stp Ss t) (a,b)*((1:Nat):Rat)
    rw[show((1:Nat):Rat)=1 from rfl]
    grind
  .have w2:2<=W.length:=by omega
   have h0:0<W.length/2:=by omega
   have hm:W.length/2<W.length:=by omega
   have sp:=zZ (key:=fun u=>mw (stp Ss u) a b (W.length/2) W.length) inc w2
   unfold hv
   rw[if_neg one]
   generalize up ((byKey (fun u=>mw (stp Ss u) a b (W.length/2) W.length) W).take (W.length/2))=A at*
   generalize up ((byKey (fun u=>mw (stp Ss u) a b (W.length/2) W.length) W).drop (W.length/2))=B at*
   generalize em:mw (stp Ss ((byKey (fun u=>mw (stp Ss u) a b (W.length/2) W.length) W).getD (W.length/2-1) 0)) a b (W.length/2) W.length=m at*
   have hA:∀u∈A,u∈W:=fun u hu=>sp.perm.mem_iff.mp (List.mem_append_left _ hu)
   have hB:∀u∈B,u∈W:=fun u hu=>sp.perm.mem_iff.mp (List.mem_append_right _ hu)
   obtain⟨D,d0,d1,ga,gb⟩:=gr
   obtain⟨x,hx,ex⟩:=sp.top
   obtain⟨px,okx⟩:=all x (hA x hx)
   obtain⟨_,f1,f2,f3,f4,f5,G,g0,g1,g2,g3,g4⟩:=iC okx a0 ab b1 h0 hm l8 d0 ga gb
   have ex':mw (stp Ss x) a b (W.length/2) W.length=m:=ex
   rw[ex']at f1 f2 f3 g4
   have gle:G<=8000000^(k+1):=by
    rw[Nat.pow_succ]
    exact Nat.le_trans g1 (Nat.mul_le_mul_right _ d1)
   have a1:=List.length_pos_of_mem hx
   have neB:B≠[]:=fun z=>by
    have:=sp.lb
    rw[z]at this
    simp at this
    omega
   have p2:2^(d+1)=2^d*2:=Nat.pow_succ ..
   have iA:=ih (k+1) A a m (List.ne_nil_of_mem hx) (by rw[sp.la];omega) (by rw[sp.la];omega) sp.pa (fun u hu=>all u (hA u hu)) a0 f1 (by grind) ⟨G,g0,gle,g2,g4⟩
   have iB:=ih (k+1) B m b neB (by rw[sp.lb];omega) (by rw[sp.lb];omega) sp.pb (fun u hu=>all u (hB u hu)) (by grind) f2 b1 ⟨G,g0,gle,g4,g3⟩
   generalize hv Ss d A a m=R1 at*
   generalize hv Ss d B m b=R2 at*
   have l1:R1.length=W.length/2:=by
    have:=iA.perm.length_eq
    rw[List.length_map,sp.la]at this
    exact this
   have l2':R2.length=W.length-W.length/2:=by
    have:=iB.perm.length_eq
    rw[List.length_map,sp.lb]at this
    exact this
   have l12:R1.length+R2.length=W.length:=by omega
   have inA:∀r∈R1,r.1∈A:=fun r hr=>iA.perm.mem_iff.mp (List.mem_map_of_mem hr)
   have inB:∀r∈R2,r.1∈B:=fun r hr=>iB.perm.mem_iff.mp (List.mem_map_of_mem hr)
   have own:∀u∈W,∃p,aX p (stp Ss u)/\0<=mw (stp Ss u) a b (W.length/2) W.length/\mw (stp Ss u) a b (W.length/2) W.length<=1/\F (stp Ss u) (mw (stp Ss u) a b (W.length/2) W.length)=F (stp Ss u) a+wd (stp Ss u) (a,b)*(((W.length/2:Nat):Rat)/(W.length:Rat)):=fun u hu=>by
    obtain⟨p,ok⟩:=all u hu
    obtain⟨_,e1,e2,e3,_⟩:=iC ok a0 ab b1 h0 hm l8 d0 ga gb
    exact⟨p,ok,by grind,by grind,e3⟩
   have m0:0<=m:=by grind
   have m1:m<=1:=by grind
   have c1:∀u∈A,wd (stp Ss u) (a,b)*(((W.length/2:Nat):Rat)/(W.length:Rat))<=wd (stp Ss u) (a,m):=fun u hu=>by
    obtain⟨p,ok,e1,e2,e3⟩:=own u (hA u hu)
    have:=dF ok (sp.le u hu)
    show _<=F (stp Ss u) m-F (stp Ss u) a
    grind
   have c2:∀u∈B,wd (stp Ss u) (a,m)<=wd (stp Ss u) (a,b)*(((W.length/2:Nat):Rat)/(W.length:Rat)):=fun u hu=>by
    obtain⟨p,ok,e1,e2,e3⟩:=own u (hB u hu)
    have:=dF ok (sp.ge u hu)
    show F (stp Ss u) m-F (stp Ss u) a<=_
    grind
   have ceq:∀u∈W,wd (stp Ss u) (a,m)=wd (stp Ss u) (a,b)*(((W.length/2:Nat):Rat)/(W.length:Rat))->mw (stp Ss u) a b (W.length/2) W.length=m:=fun u hu e=>by
    obtain⟨p,ok,e1,e2,e3⟩:=own u hu
    refine qH ok e1 e2 m0 m1 ?_
    have:F (stp Ss u) m-F (stp Ss u) a=wd (stp Ss u) (a,b)*(((W.length/2:Nat):Rat)/(W.length:Rat)):=e
    grind
   refine⟨?_,.two a m b R1 R2 (fun z=>by rw[z]at l1;simp at l1;omega) (by omega) (fun r hr=>?_) (fun r hr=>?_) ?_ (fun r hr q hq e1 e2=>?_) iA.gd iB.gd,fun r hr=>?_,fun r hr=>?_⟩
   .rw[List.map_append]
    exact(iA.perm.append iB.perm).trans sp.perm
   .rw[l12,l1]
    exact c1 _ (inA r hr)
   .rw[l12,l1]
    exact c2 _ (inB r hr)
   .obtain⟨r,hr,er⟩:=List.mem_map.mp (iA.perm.mem_iff.mpr hx)
    refine⟨r,hr,?_⟩
    rw[l12,l1,er]
    show F (stp Ss x) m-F (stp Ss x) a=_
    grind
   .rw[l12,l1]at e1 e2
    have k1:=ceq _ (hA _ (inA r hr)) e1
    have k2:=ceq _ (hB _ (inB q hq)) e2
    have:=sp.ab _ (inA r hr) _ (inB q hq)
    rw[k1,k2]at this
    grind
   .have e1:k+1+d=k+(d+1):=by omega
    rcases List.mem_append.mp hr with z|z
    .have:=iA.gs r z
     rw[e1]at this
     exact this
    .have:=iB.gs r z
     rw[e1]at this
     exact this
   .rcases List.mem_append.mp hr with z|z
    .have s1:=iA.share r z
     rw[sp.la]at s1
     exact yc h0 hm (c1 _ (inA r z)) s1
    .have s1:=iB.share r z
     rw[sp.lb]at s1
     refine zT hm (c2 _ (inB r z)) ?_
     have e:wd (stp Ss r.1) (a,b)-wd (stp Ss r.1) (a,m)=wd (stp Ss r.1) (m,b):=by
      show F (stp Ss r.1) b-F (stp Ss r.1) a-(F (stp Ss r.1) m-F (stp Ss r.1) a)=F (stp Ss r.1) b-F (stp Ss r.1) m
      grind
     rw[e]
     exact s1
end FK
namespace FK
def fM{α:Type}(R:α->α->Prop):α->List α->Prop
 |_,[]=>True
 |p,q::L=>R p q/\fM R q L
theorem fM.map{α β:Type}{R:α->α->Prop}{R':β->β->Prop}{f:α->β}(h:∀p q,R p q->R' (f p) (f q)):∀{p:α}{L:List α},fM R p L->fM R' (f p) (L.map f)
 |_,[],_=>trivial
 |_,_::_,c=>⟨h _ _ c.1,fM.map h c.2⟩
theorem fM.imp{α:Type}{R R':α->α->Prop}(h:∀p q,R p q->R' p q):∀{p:α}{L:List α},fM R p L->fM R' p L
 |_,[],_=>trivial
 |_,_::_,c=>⟨h _ _ c.1,fM.imp h c.2⟩
theorem fM.app{α:Type}{R:α->α->Prop}:∀{p q:α}{L M:List α},fM R p (L++[q])->fM R q M->fM R p (L++q::M)
 |_,_,[],_,c,d=>⟨c.1,d⟩
 |_,_,_::_,_,c,d=>⟨c.1,fM.app c.2 d⟩
def Af(N:Nat)(e:Rat->Rat)(E:List (Rat->Rat))(BQ Ba:Nat)(x1 x2:Rat):Prop:=∃(Q a:Nat)(b:Int),0<Q/\Q<=BQ/\a<=Ba/\(∀x,x1<=x->x<=x2->e x*((N:Rat)*(Q:Rat))=(a:Rat)*x+(b:Rat))/\∀g∈E,∃k m:Int,∀x,x1<=x->x<=x2->g x*(Q:Rat)=(k:Rat)*x+(m:Rat)
def GX(B:Nat)(x:Rat):Prop:=∃G:Nat,0<G/\G<=B/\Gr G x
theorem GX.mono{B C:Nat}{x:Rat}(h:GX B x)(l:B<=C):GX C x:=by
 obtain⟨G,a,b,c⟩:=h
 exact⟨G,a,Nat.le_trans b l,c⟩
structure Sg(N:Nat)(e:Rat->Rat)(E:List (Rat->Rat))(BQ Ba BX:Nat)(p q:Rat×Rat):Prop where
 lt:p.1<q.1
 le:p.2<=q.2
 af:Af N e E BQ Ba p.1 q.1
 p2:p.2=e p.1
 q2:q.2=e q.1
 gp:GX BX p.1
 gq:GX BX q.1
def wQ(U:List Rat)(p q:Rat×Rat):Prop:=∀u∈U,¬(p.2<u/\u<q.2)
theorem Pj{N:Nat}{e:Rat->Rat}{E:List (Rat->Rat)}{BQ Ba BX g:Nat}{p q:Rat×Rat}{u:Rat}(n0:0<N)(s:Sg N e E BQ Ba BX p q)(l1:p.2<u)(l2:u<q.2)(gu:Gr (N*g) u)(g0:0<g):
  p.1<pW p q u/\pW p q u<q.1/\e (pW p q u)=u/\GX (Ba*g) (pW p q u):=by
 obtain⟨Q,a,b,q0,q1,a1,af,_⟩:=s.af
 have lt:=s.lt
 have ap:=af p.1 Rat.le_refl (Rat.le_of_lt lt)
 have aq:=af q.1 (Rat.le_of_lt lt) Rat.le_refl
 rw[<-s.p2]at ap
 rw[<-s.q2]at aq
 have nq:(0:Rat)<(N:Rat)*(Q:Rat):=Rat.mul_pos (cQ n0) (cQ q0)
 have e1:pW p q u=p.1+(q.1-p.1)*((u-p.2)/(q.2-p.2)):=by
  unfold pW uq
  rw[if_neg (by grind),if_pos l1,if_pos (by grind)]
 have d0:0<q.2-p.2:=by grind
 have r0:0<(u-p.2)/(q.2-p.2):=by
  have:=(Rat.lt_div_iff (a:=0) (b:=u-p.2) (c:=q.2-p.2) d0).mpr (by grind)
  exact this
 have r1:(u-p.2)/(q.2-p.2)<1:=(Rat.div_lt_iff d0).mpr (by grind)
 obtain⟨m0,m1⟩:=vP (show 0<q.1-p.1 by grind) r0 r1
 have x1:p.1<pW p q u:=by rw[e1];grind
 have x2:pW p q u<q.1:=by rw[e1];grind
 have ax:=af _ (Rat.le_of_lt x1) (Rat.le_of_lt x2)
 have ea:(a:Rat)*(q.1-p.1)=(q.2-p.2)*((N:Rat)*(Q:Rat)):=by grind
 have key:(a:Rat)*pW p q u+(b:Rat)=u*((N:Rat)*(Q:Rat)):=by
  rw[e1]
  have:(a:Rat)*((q.1-p.1)*((u-p.2)/(q.2-p.2)))=(u-p.2)*((N:Rat)*(Q:Rat)):=by
   have e2:(a:Rat)*((q.1-p.1)*((u-p.2)/(q.2-p.2)))=((a:Rat)*(q.1-p.1))*((u-p.2)/(q.2-p.2)):=by grind
   rw[e2,ea]
   grind
  grind
 have apos:0<a:=by
  rcases Nat.eq_zero_or_pos a with z|z
  .exfalso
   rw[z]at ea
   have:(0:Rat)<(q.2-p.2)*((N:Rat)*(Q:Rat)):=Rat.mul_pos d0 nq
   have z0:((0:Nat):Rat)=0:=rfl
   rw[z0]at ea
   grind
  .exact z
 refine⟨x1,x2,?_,a*g,Nat.mul_pos apos g0,Nat.mul_le_mul_right _ a1,?_⟩
 .have:e (pW p q u)*((N:Rat)*(Q:Rat))=u*((N:Rat)*(Q:Rat)):=by rw[ax,key]
  have n:=Rat.ne_of_gt nq
  grind
 .obtain⟨m,hm⟩:=gu
  refine⟨m*Q-b*g,?_⟩
  rw[Rat.intCast_sub,Rat.intCast_mul,Rat.intCast_mul,<-hm,Rat.intCast_natCast,Rat.intCast_natCast,Rat.natCast_mul,Rat.natCast_mul]
  grind
def mid(U:List Rat)(p q:Rat×Rat):List (Rat×Rat):=(U.filter fun u=>decide (p.2<u)&&decide (u<q.2)).map fun u=>(pW p q u,u)
theorem xF{U:List Rat}{p q:Rat×Rat}{u:Rat}(h1:p.2<u)(h2:u<q.2):mid (u::U) p q=(pW p q u,u)::mid U p q:=by
 unfold mid
 rw[List.filter_cons_of_pos (by simp[h1,h2])]
 rfl
theorem vH{U:List Rat}{p q:Rat×Rat}{u:Rat}(h:¬(p.2<u/\u<q.2)):mid (u::U) p q=mid U p q:=by
 unfold mid
 rw[List.filter_cons_of_neg (by simpa using h)]
theorem Mr{N:Nat}{e:Rat->Rat}{E:List (Rat->Rat)}{BQ Ba BX BY g:Nat}{p q:Rat×Rat}(n0:0<N)(g0:0<g)(s:Sg N e E BQ Ba BX p q)(mono:∀x y,p.1<=x->x<=y->y<=q.1->e x<=e y)(b1:BX<=BY)(b2:Ba*g<=BY):
  ∀(V U0:List Rat)(c:Rat×Rat),V.Pairwise (· < ·)->(∀v∈V,Gr (N*g) v)->p.1<=c.1->c.1<q.1->c.2=e c.1->GX BY c.1->(∀u∈U0,u<=c.2\/q.2<=u)->(c.2=p.2\/∀v∈V,c.2<v)->
   fM (fun a b=>Sg N e E BQ Ba BY a b/\wQ (U0++V) a b) c (mid V p q++[q]):=by
 have lt:=s.lt
 have sub:∀{x y:Rat},p.1<=x->y<=q.1->Af N e E BQ Ba x y:=fun{x y}h1 h2=>by
  obtain⟨Q,a,b,q0,q1,a1,af,hs⟩:=s.af
  refine⟨Q,a,b,q0,q1,a1,fun z z1 z2=>af z (by grind) (by grind),fun g hg=>?_⟩
  obtain⟨k,m,h⟩:=hs g hg
  exact⟨k,m,fun z z1 z2=>h z (by grind) (by grind)⟩
 intro V
 induction V with
 |nil=>
  intro U0 c _ _ c1 c2 ce cg u0 _
  have le:=mono c.1 q.1 c1 (Rat.le_of_lt c2) Rat.le_refl
  rw[<-ce,<-s.q2]at le
  refine⟨⟨⟨c2,le,sub c1 Rat.le_refl,ce,s.q2,cg,s.gq.mono b1⟩,fun u hu z=>?_⟩,trivial⟩
  rw[List.append_nil]at hu
  rcases u0 u hu with y|y
  .grind
  .grind
 |cons v V ih=>
  intro U0 c pw gv c1 c2 ce cg u0 fr
  obtain⟨pv,pw'⟩:=List.pairwise_cons.mp pw
  have pc:p.2<=c.2:=by
   have:=mono p.1 c.1 Rat.le_refl c1 (Rat.le_of_lt c2)
   rw[<-s.p2,<-ce]at this
   exact this
  have eU:U0++v::V=(U0++[v])++V:=by rw[List.append_assoc];rfl
  by_cases h:p.2<v/\v<q.2
  .have cv:c.2<v:=by
    rcases fr with z|z
    .rw[z]
     exact h.1
    .exact z v (List.mem_cons_self ..)
   obtain⟨x1,x2,x3,x4⟩:=Pj n0 s h.1 h.2 (gv v (List.mem_cons_self ..)) g0
   have cx:c.1<pW p q v:=by
    by_cases z:c.1<pW p q v
    .exact z
    .exfalso
     have:=mono (pW p q v) c.1 (Rat.le_of_lt x1) (by grind) (Rat.le_of_lt c2)
     rw[x3,<-ce]at this
     grind
   rw[xF h.1 h.2,List.cons_append]
   refine⟨⟨⟨cx,Rat.le_of_lt cv,sub c1 (Rat.le_of_lt x2),ce,x3.symm,cg,x4.mono b2⟩,fun u hu z=>?_⟩,?_⟩
   .rcases List.mem_append.mp hu with y|y
    .rcases u0 u y with y|y
     .grind
     .have:v<q.2:=h.2
      have:u<v:=z.2
      grind
    .rcases List.mem_cons.mp y with y|y
     .rw[y]at z
      exact absurd z.2 (by show ¬v<v;grind)
     .have:=pv u y
      have:u<v:=z.2
      grind
   .rw[eU]
    refine ih (U0++[v]) (pW p q v,v) pw' (fun w hw=>gv w (List.mem_cons_of_mem _ hw)) (Rat.le_of_lt x1) x2 x3.symm (x4.mono b2) (fun u hu=>?_) (.inr fun w hw=>pv w hw)
    rcases List.mem_append.mp hu with y|y
    .rcases u0 u y with y|y
     .exact .inl (by show u<=v;grind)
     .exact .inr y
    .exact .inl (by rw[List.mem_singleton.mp y];exact Rat.le_refl)
  .rw[vH h,eU]
   refine ih (U0++[v]) c pw' (fun w hw=>gv w (List.mem_cons_of_mem _ hw)) c1 c2 ce cg (fun u hu=>?_) ?_
   .rcases List.mem_append.mp hu with y|y
    .exact u0 u y
    .rw[List.mem_singleton.mp y]
     grind
   .rcases fr with z|z
    .exact .inl z
    .exact .inr fun w hw=>z w (List.mem_cons_of_mem _ hw)
def eY(U:List Rat):Rat×Rat->List (Rat×Rat)->List (Rat×Rat)
 |_,[]=>[]
 |p,q::L=>mid U p q++q::eY U q L
theorem zG{N:Nat}{e:Rat->Rat}{E:List (Rat->Rat)}{BQ Ba BX BY g:Nat}{U:List Rat}{X:Rat}(n0:0<N)(g0:0<g)(pw:U.Pairwise (· < ·))(gU:∀v∈U,Gr (N*g) v)(mono:∀x y,0<=x->x<=y->y<=X->e x<=e y)(b1:BX<=BY)(b2:Ba*g<=BY):
  ∀{p:Rat×Rat}{L:List (Rat×Rat)},0<=p.1->(∀q∈L,q.1<=X)->fM (Sg N e E BQ Ba BX) p L->fM (fun a b=>Sg N e E BQ Ba BY a b/\wQ U a b) p (eY U p L)
 |p,[],_,_,_=>trivial
 |p,q::L,p0,qX,c=>by
  obtain⟨s,c'⟩:=c
  have lt:=s.lt
  have qx:=qX q (List.mem_cons_self ..)
  have:=Mr n0 g0 s (fun x y h1 h2 h3=>mono x y (by grind) h2 (by grind)) b1 b2 U [] p pw gU Rat.le_refl lt s.p2 (s.gp.mono b1) (fun _ z=>nomatch z) (.inl rfl)
  rw[List.nil_append]at this
  exact fM.app this (zG n0 g0 pw gU mono b1 b2 (by grind) (fun r hr=>qX r (List.mem_cons_of_mem _ hr)) c')
theorem rJ(U:List Rat):∀{p:Rat×Rat}{L:List (Rat×Rat)},fM (fun a b=>a.2<=b.2) p L->(eY U p L).length<=L.length+(U.filter fun u=>decide (p.2<u)).length
 |p,[],_=>Nat.zero_le _
 |p,q::L,c=>by
  have ih:=rJ U c.2
  have aux:∀V:List Rat,(V.filter fun u=>decide (p.2<u)&&decide (u<q.2)).length+(V.filter fun u=>decide (q.2<u)).length<=(V.filter fun u=>decide (p.2<u)).length:=by
   intro V
   induction V with
   |nil=>exact Nat.le_refl _
   |cons v V ih=>
    have le:=c.1
    simp only[List.filter_cons]
    by_cases h1:p.2<v<;>by_cases h2:v<q.2<;>by_cases h3:q.2<v
    .grind
    .simp[h1,h2,h3];omega
    .simp[h1,h2,h3];omega
    .simp[h1,h2,h3];omega
    .grind
    .simp[h1,h2,h3];omega
    .grind
    .simp[h1,h2,h3];omega
  have a:=aux U
  show(mid U p q++q::eY U q L).length<=(L.length+1)+_
  unfold mid
  rw[List.length_append,List.length_map,List.length_cons]
  omega
end FK
namespace FK
theorem RB:∀{b:Rat}{S:aA}{y1 y2:Rat}{p:Nat},eV b S->Gr p b->(∀z∈S,Gr p z.1)->(∀z∈S,z.2<=1000)->y1<=y2->(∀z∈S,¬(y1<z.1/\z.1<y2))->(b<=y1\/y2<=b)->
  ∃(w:Nat)(c:Rat),w<=1000/\Gr p c/\∀y,y1<=y->y<=y2->A b S y=(w:Rat)*y+c
 |b,[],y1,y2,p,_,gb,_,_,_,_,_=>⟨0,0,by decide,Gr.zero p,fun y _ _=>by
   show(0:Rat)=((0:Nat):Rat)*y+0
   rw[show((0:Nat):Rat)=0 from rfl]
   grind⟩
 |b,(e,w)::S,y1,y2,p,r,gb,gS,wS,le,no,h=>by
  obtain⟨be,w0,r'⟩:=r
  have ge:=gS (e,w) List.mem_cons_self
  by_cases c1:y2<=b
  .refine⟨0,0,by decide,Gr.zero p,fun y h1 h2=>?_⟩
   rw[jA (show eV b ((e,w)::S)from⟨be,w0,r'⟩) (by grind),show((0:Nat):Rat)=0 from rfl]
   grind
  .have by1:b<=y1:=by grind
   have ne:=no (e,w) List.mem_cons_self
   by_cases c2:e<=y1
   .obtain⟨w',c,w1,gc,af⟩:=RB (y1:=y1) (y2:=y2) r' ge (fun z hz=>gS z (List.mem_cons_of_mem _ hz)) (fun z hz=>wS z (List.mem_cons_of_mem _ hz)) le (fun z hz=>no z (List.mem_cons_of_mem _ hz)) (.inl c2)
    refine⟨w',c+(w:Rat)*(e-b),w1,Gr.add gc (Gr.imul (Gr.sub ge gb) w),fun y h1 h2=>?_⟩
    show(w:Rat)*(max b (min e y)-b)+A e S y=_
    rw[af y h1 h2,show max b (min e y)=e by grind]
    grind
   .have ey:y2<=e:=by
     have:¬(y1<e/\e<y2):=ne
     grind
    have w1:=wS (e,w) List.mem_cons_self
    have w1':w<=1000:=w1
    refine⟨w.toNat,-((w:Rat)*b),by omega,?_,fun y h1 h2=>?_⟩
    .have:=Gr.sub (Gr.zero p) (Gr.imul gb w)
     have e0:(0:Rat)-(w:Rat)*b= -((w:Rat)*b):=by grind
     rw[e0]at this
     exact this
    .show(w:Rat)*(max b (min e y)-b)+A e S y=_
     have ew:((w.toNat:Nat):Rat)=(w:Rat):=by
      rw[<-Rat.intCast_natCast,Int.toNat_of_nonneg (by omega)]
     rw[jA r' (by grind),show max b (min e y)=y by grind,ew]
     grind
def ends(S:aA):List Rat:=(wl S).map (·.1)
def dZ(S:aA):List Rat:=(wl S).map (·.2)
theorem Gp{p:Nat}{S:aA}(ok:aX p S){z:Rat×Int}(hz:z∈S):z.1∈ends S:=by
 obtain⟨i,hi⟩:=List.mem_iff_getElem?.mp hz
 have il:=(List.getElem?_eq_some_iff.mp hi).1
 have g:=vC (b:=0) (h:=0) (S:=S) (i:=i+1) ok.rise (by omega)
 have e:endOf 0 (S.take (i+1))=z.1:=by
  rw[take_snoc hi]
  exact iz 0 _ _ _
 rw[e]at g
 unfold ends wl
 rw[List.map_map]
 exact List.mem_map.mpr ⟨_,List.mem_of_getElem? g,rfl⟩
theorem RG{p:Nat}{S:aA}(ok:aX p S){y1 y2:Rat}(y0:0<=y1)(le:y1<=y2)(no:∀u∈ends S,¬(y1<u/\u<y2)):
  ∃(w N:Nat)(c:Int),w<=1000/\0<N/\N<=1000*p/\tot S*(p:Rat)=(N:Rat)/\∀y,y1<=y->y<=y2->F S y*(N:Rat)=((w*p:Nat):Rat)*y+(c:Rat):=by
 obtain⟨w,c,w1,⟨m,hm⟩,af⟩:=RB (b:=0) (S:=S) (y1:=y1) (y2:=y2) ok.rise (Gr.zero p) ok.gr ok.w le (fun z hz=>no z.1 (Gp ok hz)) (.inl y0)
 obtain⟨N,n0,n1,hN⟩:=ok.num
 refine⟨w,N,m,w1,n0,n1,hN,fun y h1 h2=>?_⟩
 have t:=ok.tp
 have a:=af y h1 h2
 rw[<-hN,Rat.natCast_mul]
 unfold F
 rw[a]
 have tn:tot S≠0:=by grind
 have e:((w:Rat)*y+c)/tot S*(tot S*(p:Rat))=((w:Rat)*y+c)*(p:Rat):=by grind
 rw[e,<-hm]
 grind
end FK
namespace FK
def sf(S:aA)(e:Rat->Rat)(x:Rat):Rat:=F S (e x)+x
def nxt(S:aA)(e:Rat->Rat)(x:Rat):Rat:=mk S (e x) x
structure Dm(e:Rat->Rat)(X:Rat):Prop where
 pos:0<X
 le1:X<=1
 zero:e 0=0
 win:∀x,0<=x->x<=X->0<=e x/\e x<=1
 mono:∀x y,0<=x->x<=y->y<=X->e x<=e y
theorem xM{N M:Nat}(h:(N:Rat)=(M:Rat)):N=M:=Rat.natCast_inj.mp h
theorem Ub{p:Nat}{S:aA}(ok:aX p S){N:Nat}(hN:tot S*(p:Rat)=(N:Rat)){e:Rat->Rat}{X:Rat}(dm:Dm e X){E:List (Rat->Rat)}{BQ Ba BX:Nat}{a b:Rat×Rat}(s:Sg 1 e E BQ Ba BX a b)(no:wQ (ends S) a b)(a0:0<=a.1)(bX:b.1<=X):
  Sg N (sf S e) (e::E) BQ (1000000*(Ba+BQ)) BX (a.1,F S a.2+a.1) (b.1,F S b.2+b.1):=by
 have lt:=s.lt
 have le:=s.le
 have pp:=s.p2
 have qq:=s.q2
 have wa:=dm.win a.1 a0 (by grind)
 have wb:=dm.win b.1 (by grind) bX
 have a20:0<=a.2:=by rw[pp];exact wa.1
 obtain⟨w,N',c,w1,n0,n1,hN',fa⟩:=RG ok a20 le no
 have:N'=N:=xM (by rw[<-hN',hN])
 subst this
 obtain⟨Q,k,m,q0,q1,k1,af,hs⟩:=s.af
 have few:=ok.few
 refine⟨lt,?_,⟨Q,w*p*k+N'*Q,(w*p:Nat)*m+c*Q,q0,q1,?_,fun x h1 h2=>?_,fun g hg=>?_⟩,by show F S a.2+a.1=F S (e a.1)+a.1;rw[pp],by show F S b.2+b.1=F S (e b.1)+b.1;rw[qq],s.gp,s.gq⟩
 .have:=dF ok le
  show F S a.2+a.1<=F S b.2+b.1
  grind
 .have x1:w*p<=1000000:=Nat.le_trans (Nat.mul_le_mul w1 few) (by decide)
  have x2:N'<=1000000:=by omega
  have x3:w*p*k<=1000000*Ba:=Nat.mul_le_mul x1 k1
  have x4:N'*Q<=1000000*BQ:=Nat.mul_le_mul x2 q1
  omega
 .have ex:=af x h1 h2
  have e1:a.2<=e x:=by rw[pp];exact dm.mono a.1 x a0 h1 (by grind)
  have e2:e x<=b.2:=by rw[qq];exact dm.mono x b.1 (by grind) h2 bX
  have f:=fa (e x) e1 e2
  unfold sf
  rw[Rat.natCast_add,Rat.natCast_mul,Rat.natCast_mul N' Q,Rat.intCast_add,Rat.intCast_mul,Rat.intCast_mul,Rat.intCast_natCast,Rat.intCast_natCast]
  have o1:((1:Nat):Rat)=1:=rfl
  rw[o1]at ex
  have ex':e x*(Q:Rat)=(k:Rat)*x+(m:Rat):=by grind
  have g1:(F S (e x)+x)*((N':Rat)*(Q:Rat))=(F S (e x)*(N':Rat))*(Q:Rat)+x*((N':Rat)*(Q:Rat)):=by grind
  rw[g1,f]
  have g2:(((w*p:Nat):Rat)*e x+(c:Rat))*(Q:Rat)=((w*p:Nat):Rat)*(e x*(Q:Rat))+(c:Rat)*(Q:Rat):=by grind
  rw[g2,ex']
  grind
 .rcases List.mem_cons.mp hg with z|z
  .rw[z]
   refine⟨k,m,fun x h1 h2=>?_⟩
   have:=af x h1 h2
   rw[show((1:Nat):Rat)=1 from rfl]at this
   rw[Rat.intCast_natCast]
   grind
  .exact hs g z
theorem rO{p:Nat}{S:aA}(ok:aX p S){e:Rat->Rat}{X:Rat}(dm:Dm e X){x y:Rat}(h0:0<=x)(h1:x<=y)(h2:y<=X):sf S e x<=sf S e y:=by
 have:=dF ok (dm.mono x y h0 h1 h2)
 unfold sf
 grind
theorem Qg{p:Nat}{S:aA}(ok:aX p S){N:Nat}(hN:tot S*(p:Rat)=(N:Rat)){v:Rat}(hv:v∈dZ S):Gr N v:=by
 obtain⟨z,hz,rfl⟩:=List.mem_map.mp hv
 obtain⟨i,hi⟩:=List.mem_iff_getElem?.mp hz
 obtain⟨il,rfl⟩:=fL ok hi
 obtain⟨m,hm⟩:=jL (D:=p) (b:=0) (S:=S) (x:=endOf 0 (S.take i)) (Gr.zero p) ok.gr (qL ok i)
 refine⟨m,?_⟩
 have t:=ok.tp
 have tn:tot S≠0:=by grind
 show F S (endOf 0 (S.take i))*(N:Rat)=_
 rw[<-hN,<-hm]
 unfold F
 grind
theorem nJ{p:Nat}{S:aA}(ok:aX p S){y:Rat}(y0:0<=y)(y1:y<=1):∃t,fO (wl S) y=some t/\0<=t/\t<=1/\F S t=y:=by
 have t:=ok.tp
 have a0:(0:Rat)<=y*tot S:=Rat.mul_nonneg y0 (Rat.le_of_lt t)
 have a1:y*tot S<=tot S:=by
  have:=Rat.mul_le_mul_of_nonneg_right y1 (Rat.le_of_lt t)
  grind
 obtain⟨x,e1,e2,e3,e4,_⟩:=zH (h:=0) ok.rise t ok.ne a0 (by rw[ok.top,dz];exact a1)
 rw[ok.top]at e3
 refine⟨x,e1,e2,e3,?_⟩
 unfold F
 have tn:tot S≠0:=by grind
 grind
end FK
namespace FK
theorem Tg{p:Nat}{S:aA}(ok:aX p S){N:Nat}(hN:tot S*(p:Rat)=(N:Rat)){e:Rat->Rat}{X:Rat}(dm:Dm e X){E:List (Rat->Rat)}{BQ Ba BX:Nat}{a b:Rat×Rat}(s:Sg N (sf S e) E BQ Ba BX a b)(no:wQ (dZ S) a b)(a0:0<=a.1)(bX:b.1<=X)(b1:b.2<=1):
  Sg 1 (nxt S e) E (1000000*BQ) Ba BX (a.1,(fO (wl S) a.2).getD 0) (b.1,(fO (wl S) b.2).getD 0):=by
 have lt:=s.lt
 have le:=s.le
 have pp:=s.p2
 have qq:=s.q2
 have wa:=dm.win a.1 a0 (by grind)
 have fa0:=ie ok (e a.1)
 have a20:0<=a.2:=by rw[pp];unfold sf;grind
 have sm:∀x y,a.1<=x->x<=y->y<=b.1->sf S e x<=sf S e y:=fun x y h1 h2 h3=>rO ok dm (by grind) h2 (by grind)
 obtain⟨t1,r1,t10,t11,ft1⟩:=nJ ok a20 (show a.2<=1 by grind)
 obtain⟨t2,r2,t20,t21,ft2⟩:=nJ ok (show 0<=b.2 by grind) b1
 have slt:a.2<b.2:=by
  have:=dF ok (dm.mono a.1 b.1 a0 (Rat.le_of_lt lt) bX)
  rw[pp,qq]
  unfold sf
  grind
 have tt:t1<t2:=rW ok (by rw[ft1,ft2];exact slt)
 have noE:∀u∈ends S,¬(t1<u/\u<t2):=fun u hu z=>by
  obtain⟨c,hc,rfl⟩:=List.mem_map.mp hu
  obtain⟨i,hi⟩:=List.mem_iff_getElem?.mp hc
  obtain⟨il,rfl⟩:=fL ok hi
  have z1:t1<endOf 0 (S.take i):=z.1
  have z2:endOf 0 (S.take i)<t2:=z.2
  have g1:=iT ok t10 z1 (by grind)
  have g2:=iT ok (by grind) z2 t21
  rw[ft1]at g1
  rw[ft2]at g2
  exact no (F S (endOf 0 (S.take i))) (List.mem_map.mpr ⟨_,hc,rfl⟩) ⟨g1,g2⟩
 obtain⟨w,N',c,w1,n0,n1,hN',fa⟩:=RG ok t10 (Rat.le_of_lt tt) noE
 have:N'=N:=xM (by rw[<-hN',hN])
 subst this
 obtain⟨Q,k,m,q0,q1,k1,af,hs⟩:=s.af
 have wpos:0<w:=by
  rcases Nat.eq_zero_or_pos w with z|z
  .exfalso
   have f1:=fa t1 Rat.le_refl (Rat.le_of_lt tt)
   have f2:=fa t2 (Rat.le_of_lt tt) Rat.le_refl
   rw[z,Nat.zero_mul,show((0:Nat):Rat)=0 from rfl,ft1]at f1
   rw[z,Nat.zero_mul,show((0:Nat):Rat)=0 from rfl,ft2]at f2
   have np:=cQ n0
   have:=Rat.mul_lt_mul_of_pos_right slt np
   grind
  .exact z
 have ea:(fO (wl S) a.2).getD 0=t1:=by rw[r1];rfl
 have eb:(fO (wl S) b.2).getD 0=t2:=by rw[r2];rfl
 have en:∀x,nxt S e x=(fO (wl S) (sf S e x)).getD 0:=fun x=>rfl
 refine⟨lt,by show(fO (wl S) a.2).getD 0<=(fO (wl S) b.2).getD 0;rw[ea,eb];exact Rat.le_of_lt tt,⟨w*p*Q,k,m-c*Q,Nat.mul_pos (Nat.mul_pos wpos ok.pos) q0,?_,k1,fun x h1 h2=>?_,fun g hg=>?_⟩,by show(fO (wl S) a.2).getD 0=nxt S e a.1;rw[en,<-pp],by show(fO (wl S) b.2).getD 0=nxt S e b.1;rw[en,<-qq],s.gp,s.gq⟩
 .exact Nat.mul_le_mul (Nat.le_trans (Nat.mul_le_mul w1 ok.few) (by decide)) q1
 .have l1:=sm a.1 x Rat.le_refl h1 h2
  have l2:=sm x b.1 h1 h2 Rat.le_refl
  rw[<-pp]at l1
  rw[<-qq]at l2
  obtain⟨t,r,u0,u1,ft⟩:=nJ ok (show 0<=sf S e x by grind) (show sf S e x<=1 by grind)
  have et:nxt S e x=t:=by rw[en,r];rfl
  have i1:t1<=t:=qI ok u0 t11 (by rw[ft,ft1];exact l1)
  have i2:t<=t2:=qI ok t20 u1 (by rw[ft,ft2];exact l2)
  have f:=fa t i1 i2
  rw[ft]at f
  have ax:=af x h1 h2
  rw[et,Rat.natCast_mul,Rat.intCast_sub,Rat.intCast_mul,Rat.intCast_natCast,show((1:Nat):Rat)=1 from rfl]
  have g1:t*(1*(((w*p:Nat):Rat)*(Q:Rat)))=(((w*p:Nat):Rat)*t)*(Q:Rat):=by grind
  have g2:((w*p:Nat):Rat)*t=sf S e x*(N':Rat)-(c:Rat):=by grind
  rw[g1,g2]
  grind
 .obtain⟨k',m',h⟩:=hs g hg
  refine⟨(w*p:Nat)*k',(w*p:Nat)*m',fun x h1 h2=>?_⟩
  have:=h x h1 h2
  rw[Rat.natCast_mul,Rat.intCast_mul,Rat.intCast_mul,Rat.intCast_natCast]
  have e1:g x*(((w*p:Nat):Rat)*(Q:Rat))=((w*p:Nat):Rat)*(g x*(Q:Rat)):=by grind
  rw[e1,this]
  grind
def fK(L:List (Rat×Rat)):List (Rat×Rat):=L.filter fun c=>decide (c.2<=1)
theorem Jy{R:Rat×Rat->Rat×Rat->Prop}(lt:∀a b,R a b->a.2<b.2)(one:∀a b,R a b->¬(a.2<1/\1<b.2)):∀{a:Rat×Rat}{L:List (Rat×Rat)},fM R a L->a.2<=1->1<=((a::L).getLast (List.cons_ne_nil _ _)).2->
  fM (fun a b=>R a b/\b.2<=1) a (fK L)/\((a::fK L).getLast (List.cons_ne_nil _ _)).2=1
 |a,[],_,a1,l1=>⟨trivial,by
   have:1<=a.2:=l1
   show a.2=1
   grind⟩
 |a,b::L,c,a1,l1=>by
  by_cases h:b.2<=1
  .have e:fK (b::L)=b::fK L:=List.filter_cons_of_pos (decide_eq_true h)
   rw[List.getLast_cons (List.cons_ne_nil _ _)]at l1
   obtain⟨i1,i2⟩:=Jy lt one c.2 h l1
   rw[e]
   refine⟨⟨⟨c.1,h⟩,i1⟩,?_⟩
   rw[List.getLast_cons (List.cons_ne_nil _ _)]
   exact i2
  .have gt:∀(q:Rat×Rat)(M:List (Rat×Rat)),fM R q M->1<q.2->fK M=[]:=by
    intro q M
    induction M generalizing q with
    |nil=>intro _ _;rfl
    |cons r M ih=>
     intro cc g
     have:=lt _ _ cc.1
     have h':¬r.2<=1:=by grind
     have e:fK (r::M)=fK M:=List.filter_cons_of_neg (by simpa using h')
     rw[e]
     exact ih r cc.2 (by grind)
   have e:fK (b::L)=[]:=by
    have:fK (b::L)=fK L:=List.filter_cons_of_neg (by simpa using h)
    rw[this]
    exact gt b L c.2 (by grind)
   rw[e]
   refine⟨trivial,?_⟩
   have:=one _ _ c.1
   show a.2=1
   grind
end FK
namespace FK
theorem vp{R:Rat×Rat->Rat×Rat->Prop}(lt:∀a b,R a b->a.1<b.1):∀{p:Rat×Rat}{L:List (Rat×Rat)},fM R p L->p.1<=((p::L).getLast (List.cons_ne_nil _ _)).1/\∀q∈L,q.1<=((p::L).getLast (List.cons_ne_nil _ _)).1
 |p,[],_=>⟨Rat.le_refl,fun _ z=>nomatch z⟩
 |p,q::L,c=>by
  obtain⟨i1,i2⟩:=vp lt c.2
  have:=lt _ _ c.1
  rw[List.getLast_cons (List.cons_ne_nil _ _)]
  refine⟨by grind,fun r hr=>?_⟩
  rcases List.mem_cons.mp hr with z|z
  .rw[z]
   exact i1
  .exact i2 r z
theorem fM.bnd{R:Rat×Rat->Rat×Rat->Prop}(lt:∀a b,R a b->a.1<b.1){X:Rat}:∀{p:Rat×Rat}{L:List (Rat×Rat)},fM R p L->0<=p.1->((p::L).getLast (List.cons_ne_nil _ _)).1<=X->fM (fun a b=>R a b/\0<=a.1/\b.1<=X) p L
 |p,[],_,_,_=>trivial
 |p,q::L,c,p0,l=>by
  have:=lt _ _ c.1
  rw[List.getLast_cons (List.cons_ne_nil _ _)]at l
  have:=(vp lt c.2).1
  exact⟨⟨c.1,p0,by grind⟩,fM.bnd lt c.2 (by grind) l⟩
theorem tE(U:List Rat):∀(p:Rat×Rat)(L:List (Rat×Rat)),(p::eY U p L).getLast (List.cons_ne_nil _ _)=(p::L).getLast (List.cons_ne_nil _ _)
 |p,[]=>rfl
 |p,q::L=>by
  have ih:=tE U q L
  have e:p::eY U p (q::L)=(p::mid U p q)++(q::eY U q L):=rfl
  rw[List.getLast_cons (l:=q::L) (List.cons_ne_nil _ _),<-ih]
  simp only[e]
  rw[List.getLast_append_of_ne_nil _ (List.cons_ne_nil _ _)]
theorem Gn{p:Nat}{S:aA}(ok:aX p S){i:Nat}:∀{k:Nat},i+k+1<=S.length->endOf 0 (S.take i)<endOf 0 (S.take (i+k+1))
 |0,h=>oM ok h
 |k+1,h=>by
  have a:=Gn ok (i:=i) (k:=k) (by omega)
  have b:=oM ok (i:=i+k+1) (by omega)
  have e:i+(k+1)+1=i+k+1+1:=by omega
  rw[e]
  grind
theorem Oo{p:Nat}{S:aA}(ok:aX p S):(wl S).Pairwise fun a b=>a.1<b.1/\a.2<b.2:=by
 refine List.pairwise_iff_getElem.mpr fun i j hi hj ij=>?_
 obtain⟨il,e1⟩:=fL ok (List.getElem?_eq_getElem hi)
 obtain⟨jl,e2⟩:=fL ok (List.getElem?_eq_getElem hj)
 rw[e1,e2]
 have h:=Gn ok (i:=i) (k:=j-i-1) (by omega)
 rw[show i+(j-i-1)+1=j by omega]at h
 exact⟨h,iT ok (gD ok i) h (sH ok j)⟩
theorem Ka{p:Nat}{S:aA}(ok:aX p S):(ends S).Pairwise (· < ·):=List.pairwise_map.mpr ((Oo ok).imp fun h=>h.1)
theorem Ku{p:Nat}{S:aA}(ok:aX p S):(dZ S).Pairwise (· < ·):=List.pairwise_map.mpr ((Oo ok).imp fun h=>h.2)
theorem gO(S:aA):(wl S).length=S.length+1:=by
 unfold wl
 rw[List.length_map,ji]
theorem Lh{p:Nat}{S:aA}(ok:aX p S):(1:Rat)∈dZ S:=by
 have hl':S.length<(wl S).length:=by rw[gO];omega
 have hi:(wl S)[S.length]? =some (wl S)[S.length]:=List.getElem?_eq_getElem hl'
 obtain⟨_,e⟩:=fL ok hi
 rw[e,List.take_length,ok.top,fY ok]at hi
 exact List.mem_map.mpr ⟨_,List.mem_of_getElem? hi,rfl⟩
theorem JZ{p:Nat}{S:aA}(ok:aX p S){u:Rat}(hu:u∈ends S):Gr (1*p) u:=by
 obtain⟨z,hz,rfl⟩:=List.mem_map.mp hu
 obtain⟨i,hi⟩:=List.mem_iff_getElem?.mp hz
 obtain⟨_,rfl⟩:=fL ok hi
 rw[Nat.one_mul]
 exact qL ok i
abbrev toS(S:aA)(c:Rat×Rat):Rat×Rat:=(c.1,F S c.2+c.1)
abbrev Rn(S:aA)(c:Rat×Rat):Rat×Rat:=(c.1,(fO (wl S) c.2).getD 0)
def Oe(S:aA)(L:List (Rat×Rat)):List (Rat×Rat):=(fK (eY (dZ S) (0,0) ((eY (ends S) (0,0) L).map (toS S)))).map (Rn S)
theorem wL{p:Nat}{S:aA}(ok:aX p S):(fO (wl S) 0).getD 0=0:=by
 obtain⟨t,r,t0,t1,ft⟩:=nJ ok (y:=0) Rat.le_refl (by decide+kernel)
 rw[r]
 show t=0
 exact qH ok t0 t1 Rat.le_refl (by decide+kernel) (by rw[ft,cX ok])
theorem stage{p:Nat}{S:aA}(ok:aX p S){e:Rat->Rat}{X:Rat}(dm:Dm e X){E:List (Rat->Rat)}{BQ Ba BX BY:Nat}{L:List (Rat×Rat)}(c:fM (Sg 1 e E BQ Ba BX) (0,0) L)(last:(((0,0)::L).getLast (List.cons_ne_nil _ _)).1=X)(top:1<=sf S e X)(b1:BX<=BY)(b2:Ba*1000<=BY)(b3:1000000*(Ba+BQ)<=BY):
  ∃X',Dm (nxt S e) X'/\X'<=X/\nxt S e X'=1/\fM (Sg 1 (nxt S e) (e::E) (1000000*BQ) (1000000*(Ba+BQ)) BY) (0,0) (Oe S L)/\(((0,0)::Oe S L).getLast (List.cons_ne_nil _ _)).1=X'/\(∀x,0<=x->x<=X'->0<=nxt S e x/\nxt S e x<=1/\F S (nxt S e x)=F S (e x)+x/\fO (wl S) (F S (e x)+x)=some (nxt S e x))/\
   fM (fun a b=>(Sg 1 e E BQ Ba BY a b/\wQ (ends S) a b)/\0<=a.1/\b.1<=X) (0,0) (eY (ends S) (0,0) L)/\(∃N:Nat,0<N/\N<=1000000/\fM (fun a b=>(Sg N (sf S e) (e::E) BQ (1000000*(Ba+BQ)) BY a b/\wQ (dZ S) a b)/\0<=a.1/\b.1<=X) (0,0) (eY (dZ S) (0,0) ((eY (ends S) (0,0) L).map (toS S))))/\
   (eY (dZ S) (0,0) ((eY (ends S) (0,0) L).map (toS S))).length<=L.length+18:=by
 obtain⟨N,n0,n1,hN⟩:=ok.num
 have few:=ok.few
 have sglt:∀{M:Nat}{f:Rat->Rat}{E':List (Rat->Rat)}{A B C:Nat}(a b:Rat×Rat),Sg M f E' A B C a b->a.1<b.1:=fun _ _ s=>s.lt
 have z0:(0:Rat)<=((0,0):Rat×Rat).1:=Rat.le_refl
 have inX:∀q∈L,q.1<=X:=fun q hq=>by
  rw[<-last]
  exact(vp sglt c).2 q hq
 have b2':Ba*p<=BY:=Nat.le_trans (Nat.mul_le_mul_left _ few) b2
 have c1:=zG (U:=ends S) (by decide) ok.pos (Ka ok) (fun u hu=>JZ ok hu) dm.mono b1 b2' z0 inX c
 have l1:=tE (ends S) (0,0) L
 have c1':=fM.bnd (X:=X) (fun a b h=>h.1.lt) c1 z0 (by rw[l1,last];exact Rat.le_refl)
 have hz:toS S (0,0)=(0,0):=by
  show(((0:Rat)),F S 0+0)=(0,0)
  rw[cX ok,Rat.add_zero]
 have c2:fM (Sg N (sf S e) (e::E) BQ (1000000*(Ba+BQ)) BY) (0,0) ((eY (ends S) (0,0) L).map (toS S)):=by
  have:=fM.map (f:=toS S) (R':=Sg N (sf S e) (e::E) BQ (1000000*(Ba+BQ)) BY) (fun a b h=>Ub ok hN dm h.1.1 h.1.2 h.2.1 h.2.2) c1'
  rw[hz]at this
  exact this
 have l2:(((0,0)::(eY (ends S) (0,0) L).map (toS S)).getLast (List.cons_ne_nil _ _))=toS S (((0,0)::L).getLast (List.cons_ne_nil _ _)):=by
  rw[<-l1,<-List.getLast_map (f:=toS S) (h:=by simp)]
  simp only[List.map_cons,hz]
 have l2x:(((0,0)::(eY (ends S) (0,0) L).map (toS S)).getLast (List.cons_ne_nil _ _)).1=X:=by rw[l2];exact last
 have in2:∀q∈(eY (ends S) (0,0) L).map (toS S),q.1<=X:=fun q hq=>by
  have:=(vp sglt c2).2 q hq
  rw[l2x]at this
  exact this
 have c3:=zG (g:=1) (U:=dZ S) n0 (by decide) (Ku ok) (fun u hu=>by rw[Nat.mul_one];exact Qg ok hN hu) (fun x y h1 h2 h3=>rO ok dm h1 h2 h3) (Nat.le_refl BY) (by rw[Nat.mul_one];exact b3) z0 in2 c2
 have l3:=tE (dZ S) (0,0) ((eY (ends S) (0,0) L).map (toS S))
 have c3':=fM.bnd (X:=X) (fun a b h=>h.1.lt) c3 z0 (by rw[l3,l2x];exact Rat.le_refl)
 have lastY:1<=(((0,0)::eY (dZ S) (0,0) ((eY (ends S) (0,0) L).map (toS S))).getLast (List.cons_ne_nil _ _)).2:=by
  rw[l3,l2]
  show 1<=F S (((0,0)::L).getLast (List.cons_ne_nil _ _)).2+(((0,0)::L).getLast (List.cons_ne_nil _ _)).1
  have e2:(((0,0)::L).getLast (List.cons_ne_nil _ _)).2=e X:=by
   have:∀{q:Rat×Rat}{M:List (Rat×Rat)},fM (Sg 1 e E BQ Ba BX) q M->q.2=e q.1->((q::M).getLast (List.cons_ne_nil _ _)).2=e ((q::M).getLast (List.cons_ne_nil _ _)).1:=by
    intro q M
    induction M generalizing q with
    |nil=>intro _ h;exact h
    |cons r M ih=>
     intro cc _
     rw[List.getLast_cons (List.cons_ne_nil _ _)]
     exact ih cc.2 cc.1.q2
   rw[this c dm.zero.symm,last]
  rw[e2,last]
  exact top
 have slt:∀a b:Rat×Rat,((Sg N (sf S e) (e::E) BQ (1000000*(Ba+BQ)) BY a b/\wQ (dZ S) a b)/\0<=a.1/\b.1<=X)->a.2<b.2:=fun a b h=>by
  have:=dF ok (dm.mono a.1 b.1 h.2.1 (Rat.le_of_lt h.1.1.lt) h.2.2)
  have:=h.1.1.lt
  rw[h.1.1.p2,h.1.1.q2]
  unfold sf
  grind
 obtain⟨c4,l4⟩:=Jy slt (fun a b h=>h.1.2 1 (Lh ok)) c3' (by decide+kernel) lastY
 have c5:=fM.map (f:=Rn S) (R':=Sg 1 (nxt S e) (e::E) (1000000*BQ) (1000000*(Ba+BQ)) BY) (fun a b h=>Tg ok hN dm h.1.1.1 h.1.1.2 h.1.2.1 h.1.2.2 h.2) c4
 have hz2:Rn S (0,0)=(0,0):=by
  show((0:Rat),(fO (wl S) 0).getD 0)=(0,0)
  rw[wL ok]
 rw[hz2]at c5
 generalize hK:((0,0)::fK (eY (dZ S) (0,0) ((eY (ends S) (0,0) L).map (toS S)))).getLast (List.cons_ne_nil _ _)=kl at l4
 have l5:((0,0)::Oe S L).getLast (List.cons_ne_nil _ _)=Rn S kl:=by
  rw[<-hK,<-List.getLast_map (f:=Rn S) (h:=by simp)]
  simp only[List.map_cons,hz2]
  rfl
 have klX:kl.1<=X/\0<=kl.1/\kl.2=sf S e kl.1:=by
  have ge:∀{q:Rat×Rat}{M:List (Rat×Rat)},fM (fun a b=>((Sg N (sf S e) (e::E) BQ (1000000*(Ba+BQ)) BY a b/\wQ (dZ S) a b)/\0<=a.1/\b.1<=X)/\b.2<=1) q M->(q.1<=X/\0<=q.1/\q.2=sf S e q.1)->(((q::M).getLast (List.cons_ne_nil _ _)).1<=X/\0<=((q::M).getLast (List.cons_ne_nil _ _)).1/\((q::M).getLast (List.cons_ne_nil _ _)).2=sf S e ((q::M).getLast (List.cons_ne_nil _ _)).1):=by
   intro q M
   induction M generalizing q with
   |nil=>intro _ h;exact h
   |cons r M ih=>
    intro cc hq
    rw[List.getLast_cons (List.cons_ne_nil _ _)]
    have:=cc.1.1.1.1.lt
    exact ih cc.2 ⟨cc.1.1.2.2,by grind,cc.1.1.1.1.q2⟩
  rw[<-hK]
  refine ge c4 ⟨Rat.le_of_lt dm.pos,Rat.le_refl,?_⟩
  show(0:Rat)=F S (e 0)+0
  rw[dm.zero,cX ok,Rat.add_zero]
 obtain⟨k1,k2,k3⟩:=klX
 rw[l4]at k3
 have sfz:sf S e 0=0:=by
  unfold sf
  rw[dm.zero,cX ok,Rat.add_zero]
 have le1:=dm.le1
 have kpos:0<kl.1:=by
  by_cases z:0<kl.1
  .exact z
  .have:kl.1=0:=by grind
   rw[this,sfz]at k3
   exact absurd k3 (by decide+kernel)
 have wn:∀x,0<=x->x<=kl.1->0<=nxt S e x/\nxt S e x<=1/\F S (nxt S e x)=F S (e x)+x/\fO (wl S) (F S (e x)+x)=some (nxt S e x):=fun x h1 h2=>by
  have a1:=rO ok dm h1 h2 k1
  rw[<-k3]at a1
  have a0:0<=sf S e x:=by
   have:=ie ok (e x)
   unfold sf
   grind
  obtain⟨t,r,t0,t1,ft⟩:=nJ ok a0 a1
  have et:nxt S e x=t:=by
   show(fO (wl S) (sf S e x)).getD 0=t
   rw[r]
   rfl
  rw[et]
  exact⟨t0,t1,ft,r⟩
 have e1:nxt S e kl.1=1:=by
  obtain⟨a,b,f,_⟩:=wn kl.1 k2 Rat.le_refl
  refine qH ok a b (by decide+kernel) Rat.le_refl ?_
  rw[f,fY ok]
  exact k3.symm
 refine⟨kl.1,⟨kpos,by grind,?_,fun x h1 h2=>⟨(wn x h1 h2).1,(wn x h1 h2).2.1⟩,fun x y h1 h2 h3=>?_⟩,k1,e1,c5,by rw[l5],wn,c1',⟨N,n0,by omega,c3'⟩,?_⟩
 .show(fO (wl S) (sf S e 0)).getD 0=0
  rw[sfz]
  exact wL ok
 .obtain⟨a1,a2,a3,_⟩:=wn x h1 (by grind)
  obtain⟨d1,d2,d3,_⟩:=wn y (by grind) h3
  refine qI ok d1 a2 ?_
  rw[a3,d3]
  exact rO ok dm h1 h2 (by grind)
 .have le2:∀{M:Nat}{f:Rat->Rat}{E':List (Rat->Rat)}{A B C:Nat}(a b:Rat×Rat),Sg M f E' A B C a b->a.2<=b.2:=fun _ _ s=>s.le
  have n1':=rJ (ends S) (fM.imp le2 c)
  have n2':=rJ (dZ S) (fM.imp le2 c2)
  have f1:=List.length_filter_le (fun u=>decide (((0,0):Rat×Rat).2<u)) (ends S)
  have f2:=List.length_filter_le (fun u=>decide (((0,0):Rat×Rat).2<u)) (dZ S)
  have w1:(ends S).length=S.length+1:=by unfold ends;rw[List.length_map,gO]
  have w2:(dZ S).length=S.length+1:=by unfold dZ;rw[List.length_map,gO]
  have sl:=ok.len
  rw[List.length_map]at n2'
  omega
end FK
namespace FK
def ef(Ss:List aA):Rat->Rat:=Ss.foldl (fun e S=>nxt S e) (fun _=>0)
theorem JX(Ss:List aA)(S:aA):ef (Ss++[S])=nxt S (ef Ss):=by
 unfold ef
 rw[List.foldl_append]
 rfl
theorem Gb{e:Rat->Rat}{E:List (Rat->Rat)}{BQ Ba BX:Nat}:∀{p:Rat×Rat}{L:List (Rat×Rat)},fM (Sg 1 e E BQ Ba BX) p L->∀x,p.1<=x->x<=((p::L).getLast (List.cons_ne_nil _ _)).1->p.1<x->∃Q:Nat,0<Q/\Q<=BQ/\∀g∈e::E,∃k m:Int,g x*(Q:Rat)=(k:Rat)*x+(m:Rat)
 |p,[],_,x,_,h2,h3=>by
  have:x<=p.1:=h2
  exact absurd h3 (by grind)
 |p,q::L,c,x,h1,h2,h3=>by
  rw[List.getLast_cons (List.cons_ne_nil _ _)]at h2
  by_cases z:x<=q.1
  .obtain⟨Q,k,m,q0,q1,_,af,hs⟩:=c.1.af
   refine⟨Q,q0,q1,fun g hg=>?_⟩
   rcases List.mem_cons.mp hg with y|y
   .rw[y]
    have:=af x h1 z
    rw[show((1:Nat):Rat)=1 from rfl]at this
    exact⟨k,m,by rw[Rat.intCast_natCast];grind⟩
   .obtain⟨k',m',h⟩:=hs g y
    exact⟨k',m',h x h1 z⟩
  .exact Gb c.2 x (by grind) h2 (by grind)
def UW(Ss:List aA):Nat->List (Rat->Rat)
 |0=>[]
 |i+1=>ef (Ss.take i)::UW Ss i
theorem Az(Ss:List aA):∀{i j:Nat},j<i->ef (Ss.take j)∈UW Ss i
 |0,j,h=>absurd h (Nat.not_lt_zero _)
 |i+1,j,h=>by
  by_cases c:j=i
  .rw[c]
   exact List.mem_cons_self ..
  .exact List.mem_cons_of_mem _ (Az Ss (by omega))
structure Cz(Ss:List aA)(i:Nat)(L:List (Rat×Rat))(X:Rat):Prop where
 dm:Dm (ef (Ss.take i)) X
 con:fM (Sg 1 (ef (Ss.take i)) (UW Ss i) (1000000^i) (i*1000000^i) ((i+1)*1000000^i)) (0,0) L
 last:(((0,0)::L).getLast (List.cons_ne_nil _ _)).1=X
 top:(i=0/\X=1)\/ef (Ss.take i) X=1
 few:L.length<=1+18*i
 hist:∀j S,j<i->Ss[j]? =some S->∀x,0<=x->x<=X->0<=ef (Ss.take (j+1)) x/\ef (Ss.take (j+1)) x<=1/\F S (ef (Ss.take (j+1)) x)=F S (ef (Ss.take j) x)+x/\fO (wl S) (F S (ef (Ss.take j) x)+x)=some (ef (Ss.take (j+1)) x)
theorem yJ(Ss:List aA):Cz Ss 0 [(1,0)] 1:=by
 have e0:ef (Ss.take 0)=fun _=>0:=rfl
 have b:∀x:Rat,ef (Ss.take 0) x=0:=fun _=>rfl
 refine⟨⟨by decide+kernel,Rat.le_refl,rfl,fun x _ _=>⟨by rw[b];exact Rat.le_refl,by rw[b];decide+kernel⟩,fun x y _ _ _=>by rw[b,b];exact Rat.le_refl⟩,⟨⟨by decide+kernel,Rat.le_refl,⟨1,0,0,by decide,by decide,Nat.le_refl _,fun x _ _=>?_,fun _ z=>nomatch z⟩,rfl,rfl,⟨1,by decide,by decide,Gr.zero 1⟩,⟨1,by decide,by decide,Gr.one 1⟩⟩,trivial⟩,rfl,.inl ⟨rfl,rfl⟩,by decide,fun j S h=>absurd h (Nat.not_lt_zero _)⟩
 .rw[b,show((0:Nat):Rat)=0 from rfl,show((0:Int):Rat)=0 from rfl]
  grind
theorem wX{Ss:List aA}{i:Nat}{L:List (Rat×Rat)}{X:Rat}(h:Cz Ss i L X){p:Nat}{S:aA}(ok:aX p S):1<=sf S (ef (Ss.take i)) X:=by
 unfold sf
 rcases h.top with⟨z,x1⟩|z
 .subst z
  rw[show ef (Ss.take 0) X=0 from rfl,cX ok,x1]
  decide+kernel
 .rw[z,fY ok]
  have:=h.dm.pos
  grind
theorem wW{i:Nat}(h:i<6):(i+1)*1000000^i<=(i+2)*1000000^(i+1)/\i*1000000^i*1000<=(i+2)*1000000^(i+1)/\1000000*(i*1000000^i+1000000^i)<=(i+2)*1000000^(i+1)/\1000000*1000000^i*((i+2)*1000000^(i+1))*2<2^280/\0<1000000^i:=by
 have:i=0\/i=1\/i=2\/i=3\/i=4\/i=5:=by omega
 rcases this with rfl|rfl|rfl|rfl|rfl|rfl<;>decide
theorem Df{Ss:List aA}{i:Nat}{L:List (Rat×Rat)}{X:Rat}(h:Cz Ss i L X)(i6:i<6){p:Nat}{S:aA}(hS:Ss[i]? =some S)(ok:aX p S):∃X',Cz Ss (i+1) (Oe S L) X':=by
 obtain⟨l1,l2,l3,l4,l5⟩:=wW i6
 obtain⟨X',dm',xX,one,cN,lN,wn,cS,_,few⟩:=stage ok h.dm h.con h.last (wX h ok) l1 l2 l3
 have et:ef (Ss.take (i+1))=nxt S (ef (Ss.take i)):=by rw[take_snoc hS,JX]
 have q1:1000000*1000000^i=1000000^(i+1):=by rw[Nat.pow_succ,Nat.mul_comm]
 have q2:1000000*(i*1000000^i+1000000^i)=(i+1)*1000000^(i+1):=by
  rw[Nat.pow_succ,Nat.add_mul,Nat.one_mul,Nat.mul_add]
  have:i*(1000000^i*1000000)=1000000*(i*1000000^i):=by
   rw[Nat.mul_comm 1000000,Nat.mul_assoc]
  omega
 rw[q1,q2]at cN
 refine⟨X',by rw[et];exact dm',by rw[et];exact cN,lN,.inr (by rw[et];exact one),?_,fun j S' hj hS' x x0 x1=>?_⟩
 .have e1:(Oe S L).length<=(eY (dZ S) (0,0) ((eY (ends S) (0,0) L).map (toS S))).length:=by
   unfold Oe fK
   rw[List.length_map]
   exact List.length_filter_le _ _
  have:=h.few
  omega
 .by_cases c:j=i
  .subst c
   rw[hS]at hS'
   cases hS'
   rw[et]
   exact wn x x0 x1
  .exact h.hist j S' (by omega) hS' x x0 (by grind)
structure CQ(Ss:List aA)(n:Nat)(X:Rat):Prop where
 pos:0<X
 le1:X<=1
 hist:∀j S,j<n->Ss[j]? =some S->0<=ef (Ss.take (j+1)) X/\ef (Ss.take (j+1)) X<=1/\F S (ef (Ss.take (j+1)) X)=F S (ef (Ss.take j) X)+X/\fO (wl S) (F S (ef (Ss.take j) X)+X)=some (ef (Ss.take (j+1)) X)
 top:ef (Ss.take n) X=1
 gr:∃G:Nat,0<G/\G<=7*1000000^6/\Gr G X/\∃Q:Nat,0<Q/\Q<=1000000^6/\∀j,j<=n->Gr (Q*G) (ef (Ss.take j) X)
theorem FZ{Ss:List aA}{n:Nat}{L:List (Rat×Rat)}{X:Rat}(h:Cz Ss n L X)(n1:1<=n)(n6:n<=6):CQ Ss n X:=by
 have hg:GX ((n+1)*1000000^n) X:=by
  have:∀{q:Rat×Rat}{M:List (Rat×Rat)},fM (Sg 1 (ef (Ss.take n)) (UW Ss n) (1000000^n) (n*1000000^n) ((n+1)*1000000^n)) q M->GX ((n+1)*1000000^n) q.1->GX ((n+1)*1000000^n) ((q::M).getLast (List.cons_ne_nil _ _)).1:=by
   intro q M
   induction M generalizing q with
   |nil=>intro _ g;exact g
   |cons r M ih=>
    intro cc _
    rw[List.getLast_cons (List.cons_ne_nil _ _)]
    exact ih cc.2 cc.1.gq
  rw[<-h.last]
  refine this h.con ⟨1,by decide,?_,Gr.zero 1⟩
  exact Nat.mul_pos (by omega) (Nat.pow_pos (by decide))
 obtain⟨G,g0,g1,g2⟩:=hg
 have pw:1000000^n<=1000000^6:=Nat.pow_le_pow_right (by decide) n6
 obtain⟨Q,q0,q1,af⟩:=Gb h.con X (Rat.le_of_lt h.dm.pos) (by rw[h.last];exact Rat.le_refl) h.dm.pos
 refine⟨h.dm.pos,h.dm.le1,fun j S hj hS=>h.hist j S hj hS X (Rat.le_of_lt h.dm.pos) Rat.le_refl,?_,G,g0,Nat.le_trans g1 (Nat.mul_le_mul (by omega) pw),g2,Q,q0,Nat.le_trans q1 pw,fun j hj=>?_⟩
 .rcases h.top with⟨z,_⟩|z
  .omega
  .exact z
 .obtain⟨k,m,e⟩:=af (ef (Ss.take j)) (by
   by_cases c:j=n
   .rw[c]
    exact List.mem_cons_self ..
   .exact List.mem_cons_of_mem _ (Az Ss (by omega)))
  obtain⟨i,hi⟩:=g2
  refine⟨k*i+m*G,?_⟩
  rw[Rat.natCast_mul,Rat.intCast_add,Rat.intCast_mul,Rat.intCast_mul,Rat.intCast_natCast,<-hi]
  have e1:ef (Ss.take j) X*((Q:Rat)*(G:Rat))=(ef (Ss.take j) X*(Q:Rat))*(G:Rat):=by grind
  rw[e1,e]
  grind
end FK
namespace FQ
open PySem L2 FK
def top(i:Nat):Stmt:=PySem.Challenge.pw_fairknife_k16_ways.main.body.getD i (.Pass ⟨0,0,0,0⟩)
abbrev ou:Stmt:=top 8
abbrev fB:Stmt:=top 9
abbrev jx:Stmt:=top 10
abbrev zJ:Stmt:=top 11
abbrev zM:Stmt:=top 12
abbrev wk:Stmt:=top 13
abbrev wu:Stmt:=top 14
abbrev zK:Stmt:=top 15
abbrev wj:Stmt:=top 16
abbrev dN:Stmt:=top 17
abbrev vZ:Stmt:=top 19
abbrev jG:Stmt:=top 20
abbrev oh:Stmt:=top 21
abbrev qz:Stmt:=top 22
abbrev tK:Stmt:=top 23
abbrev qw:Stmt:=top 27
abbrev jt:Stmt:=top 28
abbrev wy:Stmt:=top 29
abbrev ww:Stmt:=top 30
abbrev qy:Stmt:=top 31
abbrev dJ:Stmt:=top 32
abbrev bA:Stmt:=top 34
abbrev kI:Stmt:=top 39
abbrev jw:Stmt:=top 40
abbrev iJ:Stmt:=top 41
abbrev kJ:Stmt:=top 42
abbrev fQ:Stmt:=inClass (top 43) 0
abbrev gH:Stmt:=inClass (top 43) 2
abbrev eO:Stmt:=inClass (top 43) 3
abbrev fU:Stmt:=inClass (top 43) 4
abbrev fj:Stmt:=inClass (top 43) 5
abbrev jq:Stmt:=inClass (top 43) 6
abbrev jV:Stmt:=inClass (top 43) 7
abbrev iI:Stmt:=top 47
abbrev jy:Stmt:=top 48
abbrev cH:Stmt:=top 49
abbrev bQ:Stmt:=top 50
abbrev mG:Stmt:=top 51
abbrev qu:Stmt:=top 52
abbrev iM:Stmt:=top 53
abbrev qC:Stmt:=top 54
abbrev cO:Stmt:=top 56
abbrev fC:Stmt:=top 57
abbrev gJ:Stmt:=top 58
abbrev iK:Stmt:=top 59
abbrev jn:Stmt:=inClass (top 61) 0
abbrev lQ:Stmt:=inClass (top 62) 0
abbrev jo:Stmt:=inClass (top 63) 0
abbrev jW:Stmt:=inClass (top 64) 0
abbrev lO:Stmt:=inClass (top 65) 0
abbrev jU:Stmt:=inClass (top 66) 0
abbrev iH:Stmt:=top 68
abbrev km:Stmt:=top 69
abbrev nY:Stmt:=top 70
abbrev mF:Stmt:=top 71
abbrev nZ:Stmt:=top 72
abbrev mD:Stmt:=top 73
abbrev bO:Stmt:=top 74
abbrev cW:Stmt:=top 75
abbrev kE:Stmt:=top 76
abbrev kj:Stmt:=top 77
abbrev dM:Stmt:=top 78
end FQ
namespace FQ
open PySem L2 FK
def eQ(q:Rat):Prop:=0<=q/\Bd 1990 q
def bI(K:PySem.W.Frag)(H:Hp)(x:V)(q:Rat):Prop:=JH K H x (fr q)
theorem bI.same{K:PySem.W.Frag}{H H':Hp}{x:V}{q:Rat}(s:aF H H')(h:bI K H x q):bI K H' x q:=JH.same s h
theorem bI.sq{K:PySem.W.Frag}{H:Hp}{x:V}{q:Rat}(h:bI K H x q):∃p,x= .ref p/\fD K H p [.int q.num,.int (q.den:Int)]:=JH.sq h
theorem bI.of{K:PySem.W.Frag}{H:Hp}{p:Addr}{a b:Int}{q:Rat}(h:fD K H p [.int a,.int b])(ha:a=q.num)(hb:b=(q.den:Int)):bI K H (.ref p) q:=⟨p,_,_,rfl,h,by rw[ha];rfl,by rw[hb];rfl⟩
theorem Ih{K:PySem.W.Frag}:wM K (bI K) 1 where
 inj:=fun hK I h1 h2=>vA ((tG (d:=0) cM cM).inj hK I h1 h2)
 eq:=fun{X pins σ H s A x y u v a b}hK I hu h1 h2 r1 r2=>by
  have:=(tG (d:=0) cM cM).eq hK I hu h1 h2 r1 r2
  rw[Gu]at this
  exact this
abbrev bB(K:PySem.W.Frag):=mC K (bI K) (bI K)
theorem bB.same{K:PySem.W.Frag}{H H':Hp}{x:V}{d:Rat×Rat}(s:aF H H')(h:bB K H x d):bB K H' x d:=by
 obtain⟨p,y,z,rfl,q,h1,h2⟩:=h
 exact⟨p,y,z,rfl,s.sqT q,h1.same s,h2.same s⟩
theorem eQ.nn{q:Rat}(h:eQ q):0<=q.num:=Hm h.1
theorem eQ.s1{q:Rat}(h:eQ q):Sm q.num:= .of_bits h.2.1 (by decide)
theorem eQ.s2{q:Rat}(h:eQ q):Sm (q.den:Int):= .of_bits (by rw[Int.natAbs_natCast];exact h.2.2) (by decide)
theorem eQ.zero:eQ 0:=⟨Rat.le_refl,by decide,by show(1:Nat)<2^1990;exact Nat.one_lt_two_pow (by decide)⟩
theorem Bd.fit{n:Nat}{q:Rat}(h:Bd n q)(h0:0<=q)(hn:n<=1990):eQ q:=⟨h0,h.mono hn⟩
theorem zU{a b:Int}{m n:Nat}(h1:a.natAbs<2^m)(h2:b.natAbs<2^n)(h:m+n<=4000):Sm (a*b):= .of_bits (n:=m+n) (by rw[Int.natAbs_mul];exact dw h1 h2) h
theorem eQ.dd{q r:Rat}(h1:eQ q)(h2:eQ r):Sm ((q.den:Int)*(r.den:Int)):=zU (m:=1990) (n:=1990) (by rw[Int.natAbs_natCast];exact h1.2.2) (by rw[Int.natAbs_natCast];exact h2.2.2) (by decide)
theorem eQ.dn{q r:Rat}(h1:eQ q)(h2:eQ r):Sm ((q.den:Int)*r.num):=zU (m:=1990) (n:=1990) (by rw[Int.natAbs_natCast];exact h1.2.2) h2.2.1 (by decide)
def rT:Sp:=fun vs H Q _=>∃i:Int,vs=[.int i]/\Q (.bl true) H
def Iw:Sp:=fun vs H Q _=>∃a b:Int,vs=[.int a,.int b]/\0<=a/\0<=b/\Q (.int (G a b)) H
def kO:Sp:=fun vs H Q _=>∃a b:Int,vs=[.int a,.int b]/\0<=a/\0<b/\Sm b/\∀p,H p=none->Q (.ref p) (upd H p (.tup [.int (lo a b),.int (hi a b)]))
def jb(K:PySem.W.Frag):Sp:=fun vs H Q _=>∃a b:Int,vs=[.int a,.int b]/\0<=a/\0<b/\Sm b/\∀v H',aF H H'->bI K H' v ((a:Rat)/(b:Rat))->Q v H'
def nO(K:PySem.W.Frag)(f g:Int->Int->Int->Int->Int):Sp:=fun vs H Q _=>∃(p q:Addr)(a b c d:Int),vs=[.ref p,.ref q]/\fD K H p [.int a,.int b]/\fD K H q [.int c,.int d]/\(Sm a/\Sm b/\Sm c/\Sm d)/\
 (0<=f a b c d/\0<g a b c d/\Sm (g a b c d))/\∀r,H r=none->Q (.ref r) (upd H r (.tup [.int (lo (f a b c d) (g a b c d)),.int (hi (f a b c d) (g a b c d))]))
def Ez(K:PySem.W.Frag)(f:Rat->Rat->Rat)(c:Rat->Rat->Prop):Sp:=fun vs H Q _=>∃(x y:V)(q r:Rat),vs=[x,y]/\bI K H x q/\bI K H y r/\eQ q/\eQ r/\c q r/\∀v H',aF H H'->bI K H' v (f q r)->Q v H'
abbrev wF(K:PySem.W.Frag):=Ez K (fun a b=>a+b) (fun _ _=>True)
abbrev jc(K:PySem.W.Frag):=Ez K (fun a b=>a-b) (fun a b=>b<=a)
abbrev rR(K:PySem.W.Frag):=Ez K (fun a b=>a*b) (fun _ _=>True)
abbrev zY(K:PySem.W.Frag):=Ez K (fun a b=>a/b) (fun _ b=>0<b)
def dD(K:PySem.W.Frag):Sp:=fun vs H Q _=>∃(x y:V)(q r:Rat),vs=[x,y]/\bI K H x q/\bI K H y r/\eQ q/\eQ r/\Q (.bl (decide (q<r))) H
def zX(K:PySem.W.Frag):Sp:=fun vs H Q _=>∃(x:V)(q:Rat),vs=[x]/\bI K H x q/\0<=q/\Q (.bl true) H
structure Txt(K:PySem.W.Frag)(mg:Str->Option Value)(aL aR:Addr):Prop where
 isi:mg "isinstance"=none
 int:mg "int"=none
 bool:mg "bool"=none
 tuple:mg "tuple"=none
 list:mg "list"=none
 len:mg "len"=none
 range:mg "range"=none
 zip:mg "zip"=none
 sorted:mg "sorted"=none
 any:mg "any"=none
 enumerate:mg "enumerate"=none
 reversed:mg "reversed"=none
 left:mg "LEFT_END"=some (.ref aL)
 leftT:∀H:Hp,fD K H aL [.int 0,.int 1]
 right:mg "RIGHT_END"=some (.ref aR)
 rightT:∀H:Hp,fD K H aR [.int 1,.int 1]
theorem Ra{K:PySem.W.Frag}{a:Addr}{od:Option Addr}{i j:Int}{t u:Tok}{n:Nat}{sl:Array (Option Value)}(h:K.lookup a=some ⟨.type "tuple",od,.seq #[.int i t,.int j u] n,sl⟩):∀H:Hp,fD K H a [.int i,.int j]:=
 fun _=> .inr ⟨_,_,n,h,rfl,rfl,(by show 2<=sizeLine;decide),.cons ⟨t,rfl⟩ (.cons ⟨u,rfl⟩ .nil)⟩
theorem Txt.l{K:PySem.W.Frag}{mg:Str->Option Value}{aL aR:Addr}(T:Txt K mg aL aR)(H:Hp):bI K H (.ref aL) 0:= .of (T.leftT H) rfl rfl
theorem Txt.r{K:PySem.W.Frag}{mg:Str->Option Value}{aL aR:Addr}(T:Txt K mg aL aR)(H:Hp):bI K H (.ref aR) 1:= .of (T.rightT H) rfl rfl
theorem eQ.one:eQ 1:=⟨by decide,by show(1:Nat)<2^1990;exact Nat.one_lt_two_pow (by decide),by show(1:Nat)<2^1990;exact Nat.one_lt_two_pow (by decide)⟩
section
variable {P:Program} {w:World} {K:PySem.W.Frag} {mg:Str->Option Value} {base:Heap} {aL aR:Addr}
theorem Mq:aQ ["thing"] ["thing"] (aJ ou):=⟨rfl,rfl,rfl,by decide+kernel,rfl,by decide+kernel,by decide+kernel⟩
theorem HF{f:Addr}{fd:FuncData}(D:bJ K mg "is_whole" ou ["thing"] f fd)(T:Txt K mg aL aR):bH P w K mg base dj 1 f fd ["thing"] rT:=by
 refine D.fn.ok Mq (fun vs H Q E h=>?_) (fun cdv A outer s H vs Q E hr h=>?_)
 .obtain⟨i,rfl,_⟩:=h
  rfl
 .obtain⟨i,rfl,k⟩:=h
  refine⟨_,aB (aW (vR (lW (pv 0) rfl T.isi rfl T.int PyProof.Rows.boot_int) (vU (tu (lW (pv 0) rfl T.isi rfl T.bool PyProof.Rows.boot_bool))))),?_⟩
  refine⟨_,rfl,_,_,.of (.int _),Kl _,_,rfl,?_⟩
  refine jk ?_
  exact⟨_,rfl,_,_,.of (.int _),vD _,_,rfl,k⟩
theorem BW:aQ ["a","b","rest"] ["a","b"] (aJ fB):=⟨rfl,rfl,rfl,by decide+kernel,rfl,by decide+kernel,by decide+kernel⟩
def XX(σ:St):Nat:=match σ with
 |[_,some (.int b),_]=>b.toNat
 |_=>0
theorem Qi{f:Addr}{fd:FuncData}(D:bJ K mg "greatest_divisor" fB ["a","b"] f fd):bH P w K mg base dj 1 f fd ["a","b"] Iw:=by
 refine D.fn.ok BW (fun vs H Q E h=>?_) (fun cdv A outer s H vs Q E hr h=>?_)
 .obtain⟨a,b,rfl,_⟩:=h
  rfl
 .obtain⟨a0,b0,rfl,ha,hb,k⟩:=h
  refine⟨_,au (pC PassesOwn.never (aY sZ (pv 1) ao (bx _))
   (au (aN (i:=2) BW.nd rfl (Or.inl rfl) (bj dH (pv 0) (pv 1)))
   (au (aN (i:=0) BW.nd rfl (Or.inl rfl) (pv 1))
   (aB (aN (i:=1) BW.nd rfl (Or.inl rfl) (pv 2))))))
   (aB (aW (pv 0))),?_⟩
  refine pI (fun σ H'=>H'=H/\∃(a b:Int)(r:Option V),σ=[some (.int a),some (.int b),r]/\0<=a/\0<=b/\G a b=G a0 b0) (fun σ _=>XX σ) ⟨rfl,a0,b0,none,rfl,ha,hb,rfl⟩ ?_ ?_
  .rintro σ H' ⟨rfl,a,b,r,rfl,ha,hb,e⟩
   refine⟨_,rfl,_,_,rfl,rfl,_,rfl,?_⟩
   refine fH (fun h=>?_) (fun h=>?_)
   .have hb':0<b:=of_decide_eq_true h
    refine⟨_,rfl,_,rfl,_,_,rfl,rfl,hb',_,rfl,_,rfl,?_⟩
    refine⟨⟨rfl,b,a%b,_,rfl,hb,Int.emod_nonneg _ (by omega),(Fg ha hb').trans e⟩,?_⟩
    show(a%b).toNat<b.toNat
    have:=Int.emod_lt_of_pos a hb'
    omega
   .have hb':b=0:=by
     have:¬ 0<b:=fun z=>h (decide_eq_true z)
     omega
    refine⟨_,rfl,?_⟩
    have e':a=G a0 b0:=by rw[<-e,hb',Fi ha]
    rw[e']
    exact k
  .rintro σ H Q Q' hq ⟨v,e,i,j,e1,e2,z,e3,q⟩
   exact⟨v,e,i,j,e1,e2,z,e3,hq _ _ q⟩
theorem Im:aQ ["a","b","common"] ["a","b"] (aJ zJ):=⟨rfl,rfl,rfl,by decide+kernel,rfl,by decide+kernel,by decide+kernel⟩
theorem Bu{f:Addr}{fd:FuncData}(D:bJ K mg "made" zJ ["a","b"] f fd)(CW:Cl P w K mg base "is_whole" 1 ["thing"] rT)(CG:Cl P w K mg base "greatest_divisor" 1 ["a","b"] Iw):
  bH P w K mg base dj 2 f fd ["a","b"] kO:=by
 refine D.fn.ok Im (fun vs H Q E h=>?_) (fun cdv A outer s H vs Q E hr h=>?_)
 .obtain⟨a,b,rfl,_⟩:=h
  rfl
 .obtain⟨a,b,rfl,ha,hb,hS,k⟩:=h
  refine⟨_,au (bU (PW.pt (gB (cY (bV (aO CW hr rfl (aj (pv 0) ak)))) (fJ (cY (bV (aO CW hr rfl (aj (pv 1) ak))))))) bN bc)
   (au (bU (PW.pt (gB (aY gQ (pv 0) ao (bx _)) (fJ (aY gQ (pv 1) ao (bx _))))) bN bc)
   (au (aN (i:=2) Im.nd rfl (Or.inl rfl) (aO CG hr rfl (aj (pv 0) (aj (pv 1) ak))))
   (aB (aW (bC (aj (bj oZ (pv 0) (pv 2)) (aj (bj oZ (pv 1) (pv 2)) ak))))))),?_⟩
  refine⟨_,rfl,a,rfl,_,rfl,dY ?_⟩
  refine⟨_,rfl,b,rfl,_,rfl,dY ?_⟩
  refine⟨_,rfl,_,_,rfl,rfl,_,rfl,nj (by omega) ?_⟩
  refine⟨_,rfl,_,_,rfl,rfl,_,rfl,nj (by omega) ?_⟩
  have gp:=Ff (a:=a) hb
  have gS:Sm (G a b):=hS.mono (by have:=RJ (a:=a) hb;omega)
  refine⟨_,rfl,_,rfl,a,b,rfl,ha,Int.le_of_lt hb,?_⟩
  exact⟨_,rfl,_,rfl,_,_,rfl,rfl,⟨gp,gS⟩,_,rfl,_,rfl,_,_,rfl,rfl,⟨gp,gS⟩,(by show 2<=sizeLine;decide),fun p hp=>k p hp⟩
theorem NP:∀vs H Q E,jb K vs H Q E->kO vs H Q E:=by
 rintro vs H Q E ⟨a,b,rfl,ha,hb,hS,k⟩
 refine⟨a,b,rfl,ha,hb,hS,fun p hp=>k _ _ (aF.upd hp) ?_⟩
 obtain⟨e1,e2⟩:=sW (a:=a) hb
 exact .of bw e1 e2
theorem wH{f g:Int->Int->Int->Int->Int}{F:Rat->Rat->Rat}{c:Rat->Rat->Prop}
  (h:∀q r:Rat,eQ q->eQ r->c q r->(0<=f q.num q.den r.num r.den/\0<g q.num q.den r.num r.den/\Sm (g q.num q.den r.num r.den))/\((f q.num q.den r.num r.den:Int):Rat)/((g q.num q.den r.num r.den:Int):Rat)=F q r):
  ∀vs H Q E,Ez K F c vs H Q E->nO K f g vs H Q E:=by
 rintro vs H Q E ⟨x,y,q,r,rfl,hx,hy,fq,fr,hc,k⟩
 obtain⟨p1,rfl,h1⟩:=hx.sq
 obtain⟨p2,rfl,h2⟩:=hy.sq
 obtain⟨e1,e2⟩:=h q r fq fr hc
 refine⟨p1,p2,_,_,_,_,rfl,h1,h2,⟨fq.s1,fq.s2,fr.s1,fr.s2⟩,e1,fun p hp=>k _ _ (aF.upd hp) ?_⟩
 obtain⟨l1,l2⟩:=sW (a:=f q.num q.den r.num r.den) e1.2.1
 rw[e2]at l1 l2
 exact .of bw l1 l2
theorem yS{q r:Rat}(h1:eQ q)(h2:eQ r):0<(q.den:Int)*(r.den:Int):=Int.mul_pos (den_pos q) (den_pos r)
theorem Rf:∀vs H Q E,wF K vs H Q E->nO K (fun a b c d=>a*d+c*b) (fun _ b _ d=>b*d) vs H Q E:=
 wH fun q r h1 h2 _=>⟨⟨Int.add_nonneg (Int.mul_nonneg h1.nn (Int.le_of_lt (den_pos r))) (Int.mul_nonneg h2.nn (Int.le_of_lt (den_pos q))),yS h1 h2,h1.dd h2⟩,BJ q r⟩
theorem Bp:∀vs H Q E,jc K vs H Q E->nO K (fun a b c d=>a*d-c*b) (fun _ b _ d=>b*d) vs H Q E:=
 wH fun q r h1 h2 h3=>⟨⟨by
  have:=(Rat.le_iff r q).mp h3
  omega,yS h1 h2,h1.dd h2⟩,Hg q r⟩
theorem Ju:∀vs H Q E,rR K vs H Q E->nO K (fun a _ c _=>a*c) (fun _ b _ d=>b*d) vs H Q E:=
 wH fun q r h1 h2 _=>⟨⟨Int.mul_nonneg h1.nn h2.nn,yS h1 h2,h1.dd h2⟩,yr q r⟩
theorem Lj:∀vs H Q E,zY K vs H Q E->nO K (fun a _ _ d=>a*d) (fun _ b c _=>b*c) vs H Q E:=
 wH fun q r h1 h2 h3=>⟨⟨Int.mul_nonneg h1.nn (Int.le_of_lt (den_pos r)),Int.mul_pos (den_pos q) (vI h3),h1.dn h2⟩,vO h3⟩
theorem QS:aQ ["one","other"] ["one","other"] (aJ zM):=⟨rfl,rfl,rfl,by decide+kernel,rfl,by decide+kernel,by decide+kernel⟩
theorem Mh:aQ ["one","other"] ["one","other"] (aJ wk):=⟨rfl,rfl,rfl,by decide+kernel,rfl,by decide+kernel,by decide+kernel⟩
theorem Mp:aQ ["one","other"] ["one","other"] (aJ wu):=⟨rfl,rfl,rfl,by decide+kernel,rfl,by decide+kernel,by decide+kernel⟩
theorem QR:aQ ["one","other"] ["one","other"] (aJ zK):=⟨rfl,rfl,rfl,by decide+kernel,rfl,by decide+kernel,by decide+kernel⟩
theorem Mf:aQ ["one","other"] ["one","other"] (aJ wj):=⟨rfl,rfl,rfl,by decide+kernel,rfl,by decide+kernel,by decide+kernel⟩
theorem KZ{f:Addr}{fd:FuncData}(D:bJ K mg "plus" zM ["one","other"] f fd)(CM:Cl P w K mg base "made" 2 ["a","b"] kO):
  bH P w K mg base dj 3 f fd ["one","other"] (wF K):=by
 refine bH.imp (sp:=nO K (fun a b c d=>a*d+c*b) (fun _ b _ d=>b*d)) ?_ Rf
 refine D.fn.ok QS (fun vs H Q E h=>?_) (fun cdv A outer s H vs Q E hr h=>?_)
 .obtain⟨p,q,a,b,c,d,rfl,_⟩:=h
  rfl
 .obtain⟨p,q,a,b,c,d,rfl,hp,hq,⟨sa,sb,sc,sd⟩,⟨n1,n2,n3⟩,k⟩:=h
  refine⟨_,aB (aW (aO CM hr rfl
   (aj (bj iD (bj cF (aD aK (pv 0) ao (fun _ _=>rfl)) (aD aK (pv 1) ao (fun _ _=>rfl))) (bj cF (aD aK (pv 1) ao (fun _ _=>rfl)) (aD aK (pv 0) ao (fun _ _=>rfl))))
   (aj (bj cF (aD aK (pv 0) ao (fun _ _=>rfl)) (aD aK (pv 1) ao (fun _ _=>rfl))) ak)))),?_⟩
  refine⟨_,rfl,p,_,_,_,rfl,rfl,hp,rfl,_,rfl,q,_,_,_,rfl,rfl,hq,rfl,_,_,rfl,rfl,⟨sa,sd⟩,?_⟩
  refine⟨_,rfl,q,_,_,_,rfl,rfl,hq,rfl,_,rfl,p,_,_,_,rfl,rfl,hp,rfl,_,_,rfl,rfl,⟨sc,sb⟩,_,_,rfl,rfl,?_⟩
  refine⟨_,rfl,p,_,_,_,rfl,rfl,hp,rfl,_,rfl,q,_,_,_,rfl,rfl,hq,rfl,_,_,rfl,rfl,⟨sb,sd⟩,?_⟩
  exact⟨_,_,rfl,n1,n2,n3,k⟩
theorem Hv{f:Addr}{fd:FuncData}(D:bJ K mg "minus" wk ["one","other"] f fd)(CM:Cl P w K mg base "made" 2 ["a","b"] kO):
  bH P w K mg base dj 3 f fd ["one","other"] (jc K):=by
 refine bH.imp (sp:=nO K (fun a b c d=>a*d-c*b) (fun _ b _ d=>b*d)) ?_ Bp
 refine D.fn.ok Mh (fun vs H Q E h=>?_) (fun cdv A outer s H vs Q E hr h=>?_)
 .obtain⟨p,q,a,b,c,d,rfl,_⟩:=h
  rfl
 .obtain⟨p,q,a,b,c,d,rfl,hp,hq,⟨sa,sb,sc,sd⟩,⟨n1,n2,n3⟩,k⟩:=h
  refine⟨_,aB (aW (aO CM hr rfl
   (aj (bj lV (bj cF (aD aK (pv 0) ao (fun _ _=>rfl)) (aD aK (pv 1) ao (fun _ _=>rfl))) (bj cF (aD aK (pv 1) ao (fun _ _=>rfl)) (aD aK (pv 0) ao (fun _ _=>rfl))))
   (aj (bj cF (aD aK (pv 0) ao (fun _ _=>rfl)) (aD aK (pv 1) ao (fun _ _=>rfl))) ak)))),?_⟩
  refine⟨_,rfl,p,_,_,_,rfl,rfl,hp,rfl,_,rfl,q,_,_,_,rfl,rfl,hq,rfl,_,_,rfl,rfl,⟨sa,sd⟩,?_⟩
  refine⟨_,rfl,q,_,_,_,rfl,rfl,hq,rfl,_,rfl,p,_,_,_,rfl,rfl,hp,rfl,_,_,rfl,rfl,⟨sc,sb⟩,_,_,rfl,rfl,?_⟩
  refine⟨_,rfl,p,_,_,_,rfl,rfl,hp,rfl,_,rfl,q,_,_,_,rfl,rfl,hq,rfl,_,_,rfl,rfl,⟨sb,sd⟩,?_⟩
  exact⟨_,_,rfl,n1,n2,n3,k⟩
theorem HB{f:Addr}{fd:FuncData}(D:bJ K mg "times" wu ["one","other"] f fd)(CM:Cl P w K mg base "made" 2 ["a","b"] kO):
  bH P w K mg base dj 3 f fd ["one","other"] (rR K):=by
 refine bH.imp (sp:=nO K (fun a _ c _=>a*c) (fun _ b _ d=>b*d)) ?_ Ju
 refine D.fn.ok Mp (fun vs H Q E h=>?_) (fun cdv A outer s H vs Q E hr h=>?_)
 .obtain⟨p,q,a,b,c,d,rfl,_⟩:=h
  rfl
 .obtain⟨p,q,a,b,c,d,rfl,hp,hq,⟨sa,sb,sc,sd⟩,⟨n1,n2,n3⟩,k⟩:=h
  refine⟨_,aB (aW (aO CM hr rfl
   (aj (bj cF (aD aK (pv 0) ao (fun _ _=>rfl)) (aD aK (pv 1) ao (fun _ _=>rfl)))
   (aj (bj cF (aD aK (pv 0) ao (fun _ _=>rfl)) (aD aK (pv 1) ao (fun _ _=>rfl))) ak)))),?_⟩
  refine⟨_,rfl,p,_,_,_,rfl,rfl,hp,rfl,_,rfl,q,_,_,_,rfl,rfl,hq,rfl,_,_,rfl,rfl,⟨sa,sc⟩,?_⟩
  refine⟨_,rfl,p,_,_,_,rfl,rfl,hp,rfl,_,rfl,q,_,_,_,rfl,rfl,hq,rfl,_,_,rfl,rfl,⟨sb,sd⟩,?_⟩
  exact⟨_,_,rfl,n1,n2,n3,k⟩
theorem KY{f:Addr}{fd:FuncData}(D:bJ K mg "over" zK ["one","other"] f fd)(CM:Cl P w K mg base "made" 2 ["a","b"] kO):
  bH P w K mg base dj 3 f fd ["one","other"] (zY K):=by
 refine bH.imp (sp:=nO K (fun a _ _ d=>a*d) (fun _ b c _=>b*c)) ?_ Lj
 refine D.fn.ok QR (fun vs H Q E h=>?_) (fun cdv A outer s H vs Q E hr h=>?_)
 .obtain⟨p,q,a,b,c,d,rfl,_⟩:=h
  rfl
 .obtain⟨p,q,a,b,c,d,rfl,hp,hq,⟨sa,sb,sc,sd⟩,⟨n1,n2,n3⟩,k⟩:=h
  refine⟨_,aB (aW (aO CM hr rfl
   (aj (bj cF (aD aK (pv 0) ao (fun _ _=>rfl)) (aD aK (pv 1) ao (fun _ _=>rfl)))
   (aj (bj cF (aD aK (pv 0) ao (fun _ _=>rfl)) (aD aK (pv 1) ao (fun _ _=>rfl))) ak)))),?_⟩
  refine⟨_,rfl,p,_,_,_,rfl,rfl,hp,rfl,_,rfl,q,_,_,_,rfl,rfl,hq,rfl,_,_,rfl,rfl,⟨sa,sd⟩,?_⟩
  refine⟨_,rfl,p,_,_,_,rfl,rfl,hp,rfl,_,rfl,q,_,_,_,rfl,rfl,hq,rfl,_,_,rfl,rfl,⟨sb,sc⟩,?_⟩
  exact⟨_,_,rfl,n1,n2,n3,k⟩
theorem Ho{f:Addr}{fd:FuncData}(D:bJ K mg "below" wj ["one","other"] f fd):bH P w K mg base dj 1 f fd ["one","other"] (dD K):=by
 refine D.fn.ok Mf (fun vs H Q E h=>?_) (fun cdv A outer s H vs Q E hr h=>?_)
 .obtain⟨x,y,q,r,rfl,_⟩:=h
  rfl
 .obtain⟨x,y,u,v,rfl,hx,hy,fu,fv,k⟩:=h
  obtain⟨p,rfl,hp⟩:=hx.sq
  obtain⟨q,rfl,hq⟩:=hy.sq
  refine⟨_,aB (aW (jZ gQ (bj cF (aD aK (pv 0) ao (fun _ _=>rfl)) (aD aK (pv 1) ao (fun _ _=>rfl))) (bj cF (aD aK (pv 1) ao (fun _ _=>rfl)) (aD aK (pv 0) ao (fun _ _=>rfl))) (bx _))),?_⟩
  refine⟨_,rfl,p,_,_,_,rfl,rfl,hp,rfl,_,rfl,q,_,_,_,rfl,rfl,hq,rfl,_,_,rfl,rfl,⟨fu.s1,fv.s2⟩,?_⟩
  refine⟨_,rfl,q,_,_,_,rfl,rfl,hq,rfl,_,rfl,p,_,_,_,rfl,rfl,hp,rfl,_,_,rfl,rfl,⟨fv.s1,fu.s2⟩,_,_,rfl,rfl,?_⟩
  rw[decide_eq_decide.mpr (Rat.lt_iff u v)]at k
  exact k
theorem zO:aQ ["thing","a","b"] ["thing"] (aJ jx):=⟨rfl,rfl,rfl,by decide+kernel,rfl,by decide+kernel,by decide+kernel⟩
theorem Kz{f:Addr}{fd:FuncData}(D:bJ K mg "is_fraction" jx ["thing"] f fd)(CW:Cl P w K mg base "is_whole" 1 ["thing"] rT)(CG:Cl P w K mg base "greatest_divisor" 1 ["a","b"] Iw)(T:Txt K mg aL aR):
  bH P w K mg base dj 2 f fd ["thing"] (zX K):=by
 refine D.fn.ok zO (fun vs H Q E h=>?_) (fun cdv A outer s H vs Q E hr h=>?_)
 .obtain⟨x,q,rfl,_⟩:=h
  rfl
 .obtain⟨x,q,rfl,hx,h0,k⟩:=h
  obtain⟨p,rfl,hp⟩:=hx.sq
  have ha:=Hm h0
  have hb:=den_pos q
  refine⟨_,au (bU (PW.pt (gB (cY (bV (lW (pv 0) rfl T.isi rfl T.tuple PyProof.Rows.boot_tuple))) (fJ (aY Bv (aV aU (by rfl) T.len PySem.boot_len (aj (pv 0) ak)) ao (bx _))))) bN bc)
   (au (aN (i:=1) zO.nd rfl (Or.inl rfl) (aD aK (pv 0) ao (fun _ _=>rfl)))
   (au (aN (i:=2) zO.nd rfl (Or.inl rfl) (aD aK (pv 0) ao (fun _ _=>rfl)))
   (au (bU (PW.pt (gB (cY (bV (aO CW hr rfl (aj (pv 1) ak)))) (gB (cY (bV (aO CW hr rfl (aj (pv 2) ak))))
    (gB (aY gQ (pv 1) ao (bx _)) (fJ (aY gQ (pv 2) ao (bx _))))))) bN bc)
   (aB (aW (jZ iW (aO CG hr rfl (aj (pv 1) (aj (pv 2) ak))) ao (bx _))))))),?_⟩
  refine⟨_,rfl,_,_,.sqT hp,kit_tuple _,_,rfl,dY ?_⟩
  refine⟨_,rfl,p,_,rfl,.inr hp,rfl,_,rfl,jD rfl ?_⟩
  refine⟨_,rfl,p,_,_,_,rfl,rfl,hp,rfl,_,rfl,p,_,_,_,rfl,rfl,hp,rfl,?_⟩
  refine⟨_,rfl,q.num,rfl,_,rfl,dY ?_⟩
  refine⟨_,rfl,(q.den:Int),rfl,_,rfl,dY ?_⟩
  refine⟨_,rfl,_,_,rfl,rfl,_,rfl,nj (by omega) ?_⟩
  refine⟨_,rfl,_,_,rfl,rfl,_,rfl,nj (by omega) ?_⟩
  refine⟨_,rfl,_,rfl,q.num,(q.den:Int),rfl,ha,Int.le_of_lt hb,rfl,?_⟩
  have e:decide (V.int (G q.num q.den)=V.int 1)=true:=decide_eq_true (by rw[Px])
  rw[e]
  exact k
end
end FQ
namespace FQ
open PySem L2 FK
abbrev cx(P:Program)(w:World)(K:PySem.W.Frag)(mg:Str->Option Value)(base:Heap)(N:List Str)(q:Str)(st:Stmt)(f:Addr)(cdv:Value)(A:Around)(outer:List Env)(s:Shared)(H:Hp)(E:XK):Cx:=(ug dj P w K mg base N q (aJ st) f cdv A outer s H E).nox
abbrev Ce(K:PySem.W.Frag):=Ez K uq (fun _ _=>True)
def Ft(n:Nat)(q:Rat):Prop:=0<=q/\Bd n q
theorem Ft.fit{n:Nat}{q:Rat}(h:Ft n q)(hn:n<=1990:=by decide):eQ q:=⟨h.1,h.2.mono hn⟩
theorem yI(x y:Rat):0<=uq x y:=by unfold uq;grind
theorem JT{x y:Rat}(h:x≠y):0<uq x y:=by unfold uq;grind
theorem FJ{x y:Rat}{m n:Nat}(h1:Bd m x)(h2:Bd n y):Bd (m+n+1) (uq x y):=by
 unfold uq
 split
 .rw[Nat.add_comm m n]
  exact h2.sub h1
 .exact h1.sub h2
def uO(K:PySem.W.Frag):Sp:=fun vs H Q _=>∃(x y z:V)(p q:Rat×Rat)(u:Rat),vs=[x,y,z]/\bB K H x p/\bB K H y q/\bI K H z u/\eQ p.2/\eQ q.2/\eQ u/\Q (.bl (decide (ue p q u))) H
def oA(K:PySem.W.Frag):Sp:=fun vs H Q _=>∃(x y z:V)(p q:Rat×Rat)(u:Rat),vs=[x,y,z]/\bB K H x p/\bB K H y q/\bI K H z u/\(Ft 280 p.1/\Ft 280 p.2/\Ft 280 q.1/\Ft 280 q.2/\Ft 280 u)/\p.1<=q.1/\ue p q u/\
 ∀v H',aF H H'->bI K H' v (pW p q u)->Q v H'
def Ot(K:PySem.W.Frag)(H:Hp)(v:V):Option Rat->Prop
 |none=>v= .non
 |some q=>bI K H v q
structure JQ(L:List (Rat×Rat)):Prop where
 few:L.length<=1000
 fit:∀p∈L,Ft 280 p.1/\Ft 280 p.2
 rise:∀(i:Nat)(p q:Rat×Rat),L[i]? =some p->L[i+1]? =some q->p.1<=q.1
def mW(K:PySem.W.Frag):Sp:=fun vs H Q _=>∃(a:Addr)(xs:List V)(z:V)(L:List (Rat×Rat))(u:Rat),vs=[.ref a,z]/\cJ K H a xs/\Paired (bB K H) xs L/\bI K H z u/\JQ L/\Ft 280 u/\
 ∀v H',aF H H'->Ot K H' v (fO L u)->Q v H'
theorem Ia{L:List (Rat×Rat)}{u:Rat}{i:Nat}{p q:Rat×Rat}(h1:L[i]? =some p)(h2:L[i+1]? =some q):fO (L.drop i) u=if ue p q u then some (pW p q u)else fO (L.drop (i+1)) u:=by
 obtain⟨l1,e1⟩:=List.getElem?_eq_some_iff.mp h1
 obtain⟨l2,e2⟩:=List.getElem?_eq_some_iff.mp h2
 rw[List.drop_eq_getElem_cons l1,List.drop_eq_getElem_cons l2,e1,e2]
 rfl
theorem Lz{L:List (Rat×Rat)}{u:Rat}{i:Nat}(h:L.length<=i+1):fO (L.drop i) u=none:=by
 have:(L.drop i).length<=1:=by rw[List.length_drop];omega
 match L.drop i,this with
 |[],_=>rfl
 |[_],_=>rfl
section
variable {P:Program} {w:World} {K:PySem.W.Frag} {mg:Str->Option Value} {base:Heap} {aL aR:Addr}
theorem Ma:aQ ["one","other"] ["one","other"] (aJ vZ):=⟨rfl,rfl,rfl,by decide+kernel,rfl,by decide+kernel,by decide+kernel⟩
theorem xN{f:Addr}{fd:FuncData}(D:bJ K mg "apart" vZ ["one","other"] f fd)(CB:Cl P w K mg base "below" 1 ["one","other"] (dD K))(CM:Cl P w K mg base "minus" 3 ["one","other"] (jc K)):
  bH P w K mg base dj 4 f fd ["one","other"] (Ce K):=by
 refine D.fn.ok Ma (fun vs H Q E h=>?_) (fun cdv A outer s H vs Q E hr h=>?_)
 .obtain⟨x,y,q,r,rfl,_⟩:=h
  rfl
 .obtain⟨x,y,q,r,rfl,hx,hy,fq,fr,_,k⟩:=h
  have hr1:aZ 1 _:=hr.mono (by decide)
  refine⟨_,aB (aW (xR (bV (aO CB hr1 rfl (aj (pv 0) (aj (pv 1) ak)))) (aO CM hr rfl (aj (pv 1) (aj (pv 0) ak))) (aO CM hr rfl (aj (pv 0) (aj (pv 1) ak))))),?_⟩
  refine⟨_,rfl,_,rfl,x,y,q,r,rfl,hx,hy,fq,fr,_,rfl,?_⟩
  refine fH (fun h=>?_) (fun h=>?_)
  .have h':q<r:=of_decide_eq_true h
   refine⟨_,rfl,_,rfl,y,x,r,q,rfl,hy,hx,fr,fq,Rat.le_of_lt h',fun v H' s hv=>k v H' s ?_⟩
   rw[show uq q r=r-q from if_pos h']
   exact hv
  .have h':¬q<r:=fun z=>h (decide_eq_true z)
   refine⟨_,rfl,_,rfl,x,y,q,r,rfl,hx,hy,fq,fr,by grind,fun v H' s hv=>k v H' s ?_⟩
   rw[show uq q r=q-r from if_neg h']
   exact hv
theorem Ew:aQ ["one","other","up"] ["one","other","up"] (aJ jG):=⟨rfl,rfl,rfl,by decide+kernel,rfl,by decide+kernel,by decide+kernel⟩
theorem zj{f:Addr}{fd:FuncData}(D:bJ K mg "reaches" jG ["one","other","up"] f fd)(CB:Cl P w K mg base "below" 1 ["one","other"] (dD K)):
  bH P w K mg base dj 2 f fd ["one","other","up"] (uO K):=by
 refine D.fn.ok Ew (fun vs H Q E h=>?_) (fun cdv A outer s H vs Q E hr h=>?_)
 .obtain⟨x,y,z,p,q,u,rfl,_⟩:=h
  rfl
 .obtain⟨x,y,z,p,q,u,rfl,⟨px,x1,x2,rfl,hx,hx1,hx2⟩,⟨py,y1,y2,rfl,hy,hy1,hy2⟩,hz,fp,fq,fu,k⟩:=h
  obtain⟨t,ht,rt⟩:∃t,lC (cx P w K mg base ["one","other","up"] "reaches" jG f cdv A outer s H E) (List.drop 1 (bK jG)) t/\∀D:Ends,D.rt=Q->¬(p.2<u/\q.2<u)->t D [some (.ref px),some (.ref py),some z] H:=by
   refine⟨_,aB (aW (tu (vR (aO CB hr rfl (aj (pv 2) (aj (aD aK (pv 0) ao (fun _ _=>rfl)) ak))) (vU (aO CB hr rfl (aj (pv 2) (aj (aD aK (pv 1) ao (fun _ _=>rfl)) ak))))))),fun D hD hn=>?_⟩
   refine⟨_,rfl,_,rfl,px,_,_,_,rfl,rfl,hx,rfl,z,x2,u,p.2,rfl,hz,hx2,fu,fp,_,rfl,?_⟩
   refine fH (fun h=>?_) (fun h=>?_)
   .have h':u<p.2:=of_decide_eq_true h
    refine⟨_,rfl,_,rfl,py,_,_,_,rfl,rfl,hy,rfl,z,y2,u,q.2,rfl,hz,hy2,fu,fq,_,rfl,?_⟩
    show D.rt _ H
    rw[hD,show(!decide (u<q.2))=decide (ue p q u)by
     by_cases h2:u<q.2
     .rw[decide_eq_true h2,decide_eq_false (by unfold ue;exact fun z=>z.2 ⟨h',h2⟩)]
      rfl
     .rw[decide_eq_false h2,decide_eq_true (by unfold ue;exact⟨hn,fun z=>h2 z.2⟩)]
      rfl]
    exact k
   .have h':¬u<p.2:=fun z=>h (decide_eq_true z)
    refine⟨_,rfl,?_⟩
    show D.rt (.bl true) H
    rw[show true=decide (ue p q u)from(decide_eq_true (by unfold ue;exact⟨hn,fun z=>h' z.1⟩)).symm,hD]
    exact k
  refine⟨_,au (bU (PW.pt (jr (bV (aO CB hr rfl (aj (aD aK (pv 0) ao (fun _ _=>rfl)) (aj (pv 2) ak)))) (fX (bV (aO CB hr rfl (aj (aD aK (pv 1) ao (fun _ _=>rfl)) (aj (pv 2) ak))))))) (aB (aW xP)) bc) ht,?_⟩
  refine⟨_,rfl,px,_,_,_,rfl,rfl,hx,rfl,_,rfl,x2,z,p.2,u,rfl,hx2,hz,fp,fu,_,rfl,?_⟩
  refine fH (fun h=>?_) (fun h=>?_)
  .have h':p.2<u:=of_decide_eq_true h
   refine⟨_,rfl,py,_,_,_,rfl,rfl,hy,rfl,_,rfl,y2,z,q.2,u,rfl,hy2,hz,fq,fu,_,rfl,?_⟩
   refine fH (fun h2=>?_) (fun h2=>?_)
   .have h2':q.2<u:=of_decide_eq_true h2
    show Q (.bl false) H
    rw[show false=decide (ue p q u)from(decide_eq_false (by unfold ue;exact fun z=>z.1 ⟨h',h2'⟩)).symm]
    exact k
   .exact rt _ rfl fun z=>h2 (decide_eq_true z.2)
  .exact dY (rt _ rfl fun z=>h (decide_eq_true z.1))
theorem tM:aQ ["one","other","up","part"] ["one","other","up"] (aJ oh):=⟨rfl,rfl,rfl,by decide+kernel,rfl,by decide+kernel,by decide+kernel⟩
structure Fe(P:Program)(w:World)(K:PySem.W.Frag)(mg:Str->Option Value)(base:Heap):Prop where
 plus:Cl P w K mg base "plus" 3 ["one","other"] (wF K)
 minus:Cl P w K mg base "minus" 3 ["one","other"] (jc K)
 times:Cl P w K mg base "times" 3 ["one","other"] (rR K)
 over:Cl P w K mg base "over" 3 ["one","other"] (zY K)
 below:Cl P w K mg base "below" 1 ["one","other"] (dD K)
theorem qP{f:Addr}{fd:FuncData}(D:bJ K mg "crossing" oh ["one","other","up"] f fd)(C:Fe P w K mg base)(CA:Cl P w K mg base "apart" 4 ["one","other"] (Ce K)):
  bH P w K mg base dj 5 f fd ["one","other","up"] (oA K):=by
 refine D.fn.ok tM (fun vs H Q E h=>?_) (fun cdv A outer s H vs Q E hr h=>?_)
 .obtain⟨x,y,z,p,q,u,rfl,_⟩:=h
  rfl
 .obtain⟨x,y,z,p,q,u,rfl,⟨px,x1,x2,rfl,hx,hx1,hx2⟩,⟨py,y1,y2,rfl,hy,hy1,hy2⟩,hz,⟨f1,f2,f3,f4,fu⟩,hle,hR,k⟩:=h
  have hr3:aZ 3 _:=hr.mono (by decide)
  have hu:_+(0+1)<cLine:=iU hr
  refine⟨_,au (bU (aY (vK cM cM hu) (aD aK (pv 0) ao (fun _ _=>rfl)) (pv 2) (bx _)) (aB (aW (aD aK (pv 0) ao (fun _ _=>rfl)))) bc)
   (au (aN (i:=3) tM.nd rfl (Or.inl rfl) (aO C.over hr3 rfl (aj (aO CA hr rfl (aj (aD aK (pv 0) ao (fun _ _=>rfl)) (aj (pv 2) ak)))
    (aj (aO CA hr rfl (aj (aD aK (pv 0) ao (fun _ _=>rfl)) (aj (aD aK (pv 1) ao (fun _ _=>rfl)) ak))) ak))))
   (aB (aW (aO C.plus hr3 rfl (aj (aD aK (pv 0) ao (fun _ _=>rfl)) (aj (aO C.times hr3 rfl
    (aj (aO C.minus hr3 rfl (aj (aD aK (pv 1) ao (fun _ _=>rfl)) (aj (aD aK (pv 0) ao (fun _ _=>rfl)) ak))) (aj (pv 3) ak))) ak)))))),?_⟩
  refine⟨_,rfl,px,_,_,_,rfl,rfl,hx,rfl,_,rfl,_,_,hx2,hz,_,rfl,?_⟩
  rw[Gu]
  refine fH (fun h=>?_) (fun h=>?_)
  .have h':p.2=u:=of_decide_eq_true h
   refine⟨_,rfl,px,_,_,_,rfl,rfl,hx,rfl,k _ _ (aF.refl _) ?_⟩
   rw[show pW p q u=p.1 from if_pos h']
   exact hx1
  .have h':p.2≠u:=fun z=>h (decide_eq_true z)
   have hne:p.2≠q.2:=by
    intro e
    have h1:=hR.1
    have h2:=hR.2
    grind
   have bu:=FJ f2.2 fu.2
   have bq:=FJ f2.2 f4.2
   have ap:=JT hne
   refine⟨_,rfl,px,_,_,_,rfl,rfl,hx,rfl,_,rfl,x2,z,p.2,u,rfl,hx2,hz,f2.fit,fu.fit,trivial,fun v1 H1 s1 e1=>?_⟩
   refine⟨_,rfl,px,_,_,_,rfl,rfl,s1.sqT hx,rfl,_,rfl,py,_,_,_,rfl,rfl,s1.sqT hy,rfl,x2,y2,p.2,q.2,rfl,hx2.same s1,hy2.same s1,f2.fit,f4.fit,trivial,fun v2 H2 s2 e2=>?_⟩
   refine⟨v1,v2,_,_,rfl,e1.same s2,e2,⟨yI _ _,bu.mono (by decide)⟩,⟨yI _ _,bq.mono (by decide)⟩,ap,fun v3 H3 s3 e3=>?_⟩
   have s13:=s1.trans (s2.trans s3)
   have bp:=Bd.div ap bu bq
   have np:(0:Rat)<=uq p.2 u/uq p.2 q.2:=by
    have:=(Rat.div_lt_iff (a:=uq p.2 u) (b:=uq p.2 q.2) (c:=0) ap)
    have:=yI p.2 u
    grind
   refine⟨_,rfl,px,_,_,_,rfl,rfl,s13.sqT hx,rfl,_,rfl,py,_,_,_,rfl,rfl,s13.sqT hy,rfl,_,rfl,px,_,_,_,rfl,rfl,s13.sqT hx,rfl,y1,x1,q.1,p.1,rfl,hy1.same s13,hx1.same s13,f3.fit,f1.fit,hle,fun v4 H4 s4 e4=>?_⟩
   have b4:=Bd.sub f3.2 f1.2
   have n4:(0:Rat)<=q.1-p.1:=by grind
   refine⟨_,rfl,v4,v3,_,_,rfl,e4,e3.same s4,⟨n4,b4.mono (by decide)⟩,⟨np,bp.mono (by decide)⟩,trivial,fun v5 H5 s5 e5=>?_⟩
   refine⟨x1,v5,p.1,_,rfl,hx1.same (s13.trans (s4.trans s5)),e5,f1.fit,⟨Rat.mul_nonneg n4 np,(b4.mul bp).mono (by decide)⟩,trivial,fun v6 H6 s6 e6=>k v6 H6 (s13.trans (s4.trans (s5.trans s6))) ?_⟩
   rw[show pW p q u=p.1+(q.1-p.1)*(uq p.2 u/uq p.2 q.2)from if_neg h']
   exact e6
theorem uN:aQ ["line","up","k"] ["line","up"] (aJ qz):=⟨rfl,rfl,rfl,by decide+kernel,rfl,by decide+kernel,by decide+kernel⟩
theorem zg{f:Addr}{fd:FuncData}(D:bJ K mg "reached" qz ["line","up"] f fd)(CR:Cl P w K mg base "reaches" 2 ["one","other","up"] (uO K))(CC:Cl P w K mg base "crossing" 5 ["one","other","up"] (oA K))(T:Txt K mg aL aR):
  bH P w K mg base dj 6 f fd ["line","up"] (mW K):=by
 refine D.fn.ok uN (fun vs H Q E h=>?_) (fun cdv A outer s H vs Q E hr h=>?_)
 .obtain⟨a,xs,z,L,u,rfl,_⟩:=h
  rfl
 .obtain⟨a,xs,z,L,u,rfl,ha,hL,hz,ok,fu,k⟩:=h
  have hr2:aZ 2 _:=hr.mono (by decide)
  refine⟨_,au (dB PassesOwn.never rfl (qp rfl T.range (aj ao (aj (aV aU (by rfl) T.len PySem.boot_len (aj (pv 0) ak)) ak))) (bz (i:=2) uN.nd rfl (Or.inl rfl))
    (aB (bU (bV (aO CR hr2 rfl (aj (aD aP (pv 0) (bj lV (pv 2) ao) (fun _ _=>rfl)) (aj (aD aP (pv 0) (pv 2) (fun _ _=>rfl)) (aj (pv 1) ak)))))
     (aB (aW (aO CC hr rfl (aj (aD aP (pv 0) (bj lV (pv 2) ao) (fun _ _=>rfl)) (aj (aD aP (pv 0) (pv 2) (fun _ _=>rfl)) (aj (pv 1) ak)))))) bc)))
   (aB (aW kh)),?_⟩
  have lX:=hL.length
  have few:=ok.few
  refine⟨_,rfl,a,_,rfl,.inl ha,?_⟩
  refine⟨1,(xs.length:Nat),rfl,⟨by omega,by omega,by omega,by omega⟩,?_⟩
  refine jC (lo:=1) (n:=((xs.length:Int)-1).toNat) (fun i σ H'=>H'=H/\(∃x2,σ=[some (.ref a),some z,x2])/\fO (L.drop i) u=fO L u) ⟨rfl,⟨_,rfl⟩,by rw[List.drop_zero]⟩ ?_ ?_
  .rintro i σ H' hi ⟨rfl,⟨x2,rfl⟩,e⟩
   obtain⟨p,hp,cp⟩:=Paired.get1 hL i xs[i] (List.getElem?_eq_getElem (by omega))
   obtain⟨q,hq,cq⟩:=Paired.get1 hL (i+1) xs[i+1] (List.getElem?_eq_getElem (by omega))
   have a1:qT xs (1+(i:Int)-1)=some xs[i]:=pQ (by omega) (by
    rw[show(1+(i:Int)-1).toNat=i by omega]
    exact List.getElem?_eq_getElem (by omega))
   have a2:qT xs (1+(i:Int))=some xs[i+1]:=pQ (by omega) (by
    rw[show(1+(i:Int)).toNat=i+1 by omega]
    exact List.getElem?_eq_getElem (by omega))
   have g1:=ok.fit p (List.mem_of_getElem? hp)
   have g2:=ok.fit q (List.mem_of_getElem? hq)
   rw[Ia hp hq]at e
   refine⟨_,rfl,_,rfl,_,_,rfl,rfl,a,_,_,_,rfl,rfl,ha,a1,_,rfl,_,rfl,a,_,_,_,rfl,rfl,ha,a2,_,rfl,_,_,z,p,q,u,rfl,cp,cq,hz,g1.2.fit,g2.2.fit,fu.fit,_,rfl,?_⟩
   refine fH (fun h=>?_) (fun h=>?_)
   .have h':ue p q u:=of_decide_eq_true h
    rw[if_pos h']at e
    refine⟨_,rfl,_,rfl,_,_,rfl,rfl,a,_,_,_,rfl,rfl,ha,a1,_,rfl,_,rfl,a,_,_,_,rfl,rfl,ha,a2,_,rfl,_,_,z,p,q,u,rfl,cp,cq,hz,⟨g1.1,g1.2,g2.1,g2.2,fu⟩,ok.rise i p q hp hq,h',fun v H2 s2 e2=>k v H2 s2 ?_⟩
    rw[<-e]
    exact e2
   .have h':¬ue p q u:=fun z=>h (decide_eq_true z)
    rw[if_neg h']at e
    exact⟨rfl,⟨_,rfl⟩,e⟩
  .rintro σ H' ⟨rfl,⟨x2,rfl⟩,e⟩
   refine k _ _ (aF.refl _) ?_
   rw[<-e,Lz (by omega)]
   rfl
end
end FQ
namespace FQ
open PySem L2 FK
structure mY(D:Nat):Prop where
 pos:0<D
 few:D<2^250
structure rZ(D:Nat)(L:List (Rat×Rat)):Prop where
 d:mY D
 win:∀p∈L,0<=p.1/\p.1<p.2/\p.2<=1
 apart:L.Pairwise fun a b=>a.2<b.1
 gr:∀p∈L,Gr D p.1/\Gr D p.2
 few:L.length<=1000
theorem mY.bd{D:Nat}(h:mY D){q:Rat}(g:Gr D q)(h0:0<=q)(h1:q<=1):Bd 280 q:=
 (g.bd (n:=250) h.pos h0 (m:=1) (by rw[show((1:Nat):Rat)=1 from rfl];exact h1) (by rw[Nat.one_mul];exact h.few) h.few).mono (by decide)
theorem rZ.fit{D:Nat}{L:List (Rat×Rat)}(h:rZ D L)(p:Rat×Rat)(hp:p∈L):Bd 280 p.1/\Bd 280 p.2:=by
 have w:=h.win p hp
 have g:=h.gr p hp
 exact⟨h.d.bd g.1 w.1 (by grind),h.d.bd g.2 (by grind) w.2.2⟩
def Ja(K:PySem.W.Frag):Sp:=fun vs H Q _=>∃(x:V)(p:Rat×Rat),vs=[x]/\bB K H x p/\(0<=p.1/\p.1<p.2/\p.2<=1)/\(Bd 280 p.1/\Bd 280 p.2)/\Q (.bl true) H
def wC(K:PySem.W.Frag):Sp:=fun vs H Q _=>∃(a:Addr)(xs:List V)(D:Nat)(L:List (Rat×Rat)),vs=[.ref a]/\cJ K H a xs/\Paired (bB K H) xs L/\rZ D L/\Q .non H
abbrev je(K:PySem.W.Frag):=mC K (bI K) BR
theorem je.same{K:PySem.W.Frag}{H H':Hp}{x:V}{d:Rat×Int}(s:aF H H')(h:je K H x d):je K H' x d:=by
 obtain⟨p,y,z,rfl,q,h1,h2⟩:=h
 exact⟨p,y,z,rfl,s.sqT q,h1.same s,h2⟩
theorem bI.keep{K:PySem.W.Frag}{H H':Hp}{x:V}{q:Rat}(s:cC H H')(h:bI K H x q):bI K H' x q:=s.fr h
theorem bB.keep{K:PySem.W.Frag}{H H':Hp}{x:V}{d:Rat×Rat}(s:cC H H')(h:bB K H x d):bB K H' x d:=by
 obtain⟨p,y,z,rfl,q,h1,h2⟩:=h
 exact⟨p,y,z,rfl,s.sqT q,h1.keep s,h2.keep s⟩
theorem je.keep{K:PySem.W.Frag}{H H':Hp}{x:V}{d:Rat×Int}(s:cC H H')(h:je K H x d):je K H' x d:=by
 obtain⟨p,y,z,rfl,q,h1,h2⟩:=h
 exact⟨p,y,z,rfl,s.sqT q,h1.keep s,h2⟩
structure Pa(mg:Str->Option Value):Prop where
 most:∃t,mg "MOST_STEPS"=some (.int 8 t)
 second:∃t,mg "GREATEST_SECOND_NUMBER"=some (.int 1000 t)
 weight:∃t,mg "GREATEST_WEIGHT"=some (.int 1000 t)
def Jb(K:PySem.W.Frag):Sp:=fun vs H Q _=>∃(x:V)(z:Rat×Int),vs=[x]/\je K H x z/\0<=z.1/\z.1.den<=1000/\1<=z.2/\z.2<=1000/\Q .non H
def Cm(K:PySem.W.Frag):Sp:=fun vs H Q _=>∃(a:Addr)(xs:List V)(p:Nat)(S:aA),vs=[.ref a]/\cJ K H a xs/\Paired (je K H) xs S/\aX p S/\Q .non H
def IK(K:PySem.W.Frag):Sp:=fun vs H Q _=>∃(a:Addr)(xs:List V)(p:Nat)(S:aA),vs=[.ref a]/\cJ K H a xs/\Paired (je K H) xs S/\aX p S/\
 ∀(r:Addr)(ys:List V)(H':Hp),aF H H'->H r=none->H' r=some (.lst ys)->Paired (bB K H') ys (wl S)->Q (.ref r) H'
theorem PB{D:Nat}{q:Rat}(h:Gr D q)(hD:0<D):q.den<=D:=by
 obtain⟨n,hn⟩:=h
 have e:q=((n:Rat)/((D:Int):Rat)):=by
  rw[Rat.intCast_natCast,<-hn]
  have:=sX hD
  grind
 obtain⟨_,e2⟩:=sW (a:=n) (b:=(D:Int)) (by omega)
 rw[<-e]at e2
 have:=SM (a:=n) (b:=(D:Int)) (by omega)
 omega
section
variable {P:Program} {w:World} {K:PySem.W.Frag} {mg:Str->Option Value} {base:Heap} {aL aR:Addr}
theorem QT:aQ ["thing"] ["thing"] (aJ qw):=⟨rfl,rfl,rfl,by decide+kernel,rfl,by decide+kernel,by decide+kernel⟩
theorem La{f:Addr}{fd:FuncData}(D:bJ K mg "is_span" qw ["thing"] f fd)(CF:Cl P w K mg base "is_fraction" 2 ["thing"] (zX K))(CB:Cl P w K mg base "below" 1 ["one","other"] (dD K))(T:Txt K mg aL aR):
  bH P w K mg base dj 3 f fd ["thing"] (Ja K):=by
 refine D.fn.ok QT (fun vs H Q E h=>?_) (fun cdv A outer s H vs Q E hr h=>?_)
 .obtain⟨x,q,rfl,_⟩:=h
  rfl
 .obtain⟨x,q,rfl,⟨p,y,z,rfl,hp,hy,hz⟩,⟨w0,w1,w2⟩,⟨b1,b2⟩,k⟩:=h
  have hr1:aZ 1 _:=hr.mono (by decide)
  have n2:0<=q.2:=by grind
  have f1:eQ q.1:=Bd.fit b1 w0 (by decide)
  have f2:eQ q.2:=Bd.fit b2 n2 (by decide)
  refine⟨_,au (bU (PW.pt (gB (cY (bV (lW (pv 0) rfl T.isi rfl T.tuple PyProof.Rows.boot_tuple))) (fJ (aY Bv (aV aU (by rfl) T.len PySem.boot_len (aj (pv 0) ak)) ao (bx _))))) bN bc)
   (au (bU (PW.pt (gB (cY (bV (aO CF hr rfl (aj (aD aK (pv 0) ao (fun _ _=>rfl)) ak)))) (fJ (cY (bV (aO CF hr rfl (aj (aD aK (pv 0) ao (fun _ _=>rfl)) ak))))))) bN bc)
   (aB (aW (vR (aO CB hr1 rfl (aj (aD aK (pv 0) ao (fun _ _=>rfl)) (aj (aD aK (pv 0) ao (fun _ _=>rfl)) ak)))
    (vU (tu (aO CB hr1 rfl (aj (bD (v:= .ref aR) rfl T.right rfl) (aj (aD aK (pv 0) ao (fun _ _=>rfl)) ak))))))))),?_⟩
  refine⟨_,rfl,_,_,.sqT hp,kit_tuple _,_,rfl,dY ?_⟩
  refine⟨_,rfl,p,_,rfl,.inr hp,rfl,_,rfl,jD rfl ?_⟩
  refine⟨_,rfl,p,_,_,_,rfl,rfl,hp,rfl,y,q.1,rfl,hy,w0,_,rfl,dY ?_⟩
  refine⟨_,rfl,p,_,_,_,rfl,rfl,hp,rfl,z,q.2,rfl,hz,n2,_,rfl,dY ?_⟩
  refine⟨_,rfl,p,_,_,_,rfl,rfl,hp,rfl,_,rfl,p,_,_,_,rfl,rfl,hp,rfl,y,z,q.1,q.2,rfl,hy,hz,f1,f2,_,rfl,?_⟩
  refine xx w1 ?_
  refine⟨_,rfl,p,_,_,_,rfl,rfl,hp,rfl,.ref aR,z,1,q.2,rfl,T.r H,hz,eQ.one,f2,_,rfl,?_⟩
  rw[decide_eq_false (show ¬(1:Rat)<q.2 by grind)]
  exact k
theorem rK:aQ ["piece","reached","span"] ["piece"] (aJ jt):=⟨rfl,rfl,rfl,by decide+kernel,rfl,by decide+kernel,by decide+kernel⟩
theorem Hq{f:Addr}{fd:FuncData}(D:bJ K mg "check_piece" jt ["piece"] f fd)(CS:Cl P w K mg base "is_span" 3 ["thing"] (Ja K))(CB:Cl P w K mg base "below" 1 ["one","other"] (dD K))(T:Txt K mg aL aR):
  bH P w K mg base dj 4 f fd ["piece"] (wC K):=by
 refine D.fn.ok rK (fun vs H Q E h=>?_) (fun cdv A outer s H vs Q E hr h=>?_)
 .obtain⟨p,xs,D,L,rfl,_⟩:=h
  rfl
 .obtain⟨p,xs,D,L,rfl,hp,hL,hG,k⟩:=h
  have hr1:aZ 1 _:=hr.mono (by decide)
  refine⟨_,au (bU (cY (bV (lW (pv 0) rfl T.isi rfl T.list PyProof.Rows.boot_list))) bN bc)
   (au (aN (i:=1) rK.nd rfl (Or.inl rfl) kh)
   (aB (dB PassesOwn.never rfl (cu (pv 0)) (bz (i:=2) rK.nd rfl (Or.inl rfl))
    (au (bU (cY (bV (aO CS hr rfl (aj (pv 2) ak)))) bN bc)
    (au (bU (PW.pt (jr (aY vN (pv 1) kh (bx _)) (fX (cY (bV (aO CB hr1 rfl (aj (pv 1) (aj (aD aK (pv 2) ao (fun _ _=>rfl)) ak)))))))) bN bc)
    (aB (aN (i:=1) rK.nd rfl (Or.inl rfl) (aD aK (pv 2) ao (fun _ _=>rfl))))))))),?_⟩
  refine⟨_,rfl,_,_,.sqL hp,sV _,_,rfl,dY ?_⟩
  refine⟨_,rfl,p,rfl,⟨_,hp⟩,?_⟩
  refine dh (K:=K) (a:=p) (xs:=xs) (fun i σ H'=>H'=H/\∃(r:V)(sp:Option V),σ=[some (.ref p),some r,sp]/\((i=0/\r= .non)\/∃j q,i=j+1/\L[j]? =some q/\bI K H r q.2))
   ⟨rfl,_,_,rfl,.inl ⟨rfl,rfl⟩⟩ (fun i σ H' _ h=>by rw[h.1];exact hp) ?_ ?_
  .rintro i x σ H' hx ⟨rfl,r,sp,rfl,hR⟩
   obtain⟨q,hq,hs⟩:=Paired.get1 hL i x hx
   obtain⟨p0,y,z,rfl,hp0,hy,hz⟩:=id hs
   have wq:=hG.win q (List.mem_of_getElem? hq)
   have fq:=hG.fit q (List.mem_of_getElem? hq)
   refine⟨_,rfl,_,q,rfl,hs,wq,fq,_,rfl,dY ?_⟩
   have fin:H'=H'/\∃(r:V)(sp:Option V),[some (V.ref p),some z,some (V.ref p0)]=[some (.ref p),some r,sp]/\((i+1=0/\r= .non)\/∃j q,i+1=j+1/\L[j]? =some q/\bI K H' r q.2):=
    ⟨rfl,z,_,rfl,.inr ⟨i,q,rfl,hq,hz⟩⟩
   refine⟨_,rfl,rfl,_,rfl,?_⟩
   rcases hR with⟨_,rfl⟩|⟨j,q0,hj,hq0,hr0⟩
   .refine jD rfl (dY ?_)
    exact⟨_,rfl,p0,_,_,_,rfl,rfl,hp0,rfl,fin⟩
   .have w0:=hG.win q0 (List.mem_of_getElem? hq0)
    have f0:=hG.fit q0 (List.mem_of_getElem? hq0)
    have ap:q0.2<q.1:=by
     obtain⟨l1,e1⟩:=List.getElem?_eq_some_iff.mp hq0
     obtain⟨l2,e2⟩:=List.getElem?_eq_some_iff.mp hq
     have:=List.pairwise_iff_getElem.mp hG.apart j i l1 l2 (by omega)
     rw[e1,e2]at this
     exact this
    obtain⟨p2,rfl,h2⟩:=hr0.sq
    refine NK (fun z=>nomatch z) ?_
    refine⟨_,rfl,_,rfl,p0,_,_,_,rfl,rfl,hp0,rfl,.ref p2,y,q0.2,q.1,rfl,hr0,hy,Bd.fit f0.2 (by grind) (by decide),Bd.fit fq.1 wq.1 (by decide),_,rfl,?_⟩
    refine jD ap ?_
    exact⟨_,rfl,p0,_,_,_,rfl,rfl,hp0,rfl,fin⟩
  .rintro σ H' ⟨rfl,r,sp,rfl,_⟩
   exact k
theorem QV:aQ ["step"] ["step"] (aJ kI):=⟨rfl,rfl,rfl,by decide+kernel,rfl,by decide+kernel,by decide+kernel⟩
theorem Lb{f:Addr}{fd:FuncData}(D:bJ K mg "check_step" kI ["step"] f fd)(CF:Cl P w K mg base "is_fraction" 2 ["thing"] (zX K))(CW:Cl P w K mg base "is_whole" 1 ["thing"] rT)(T:Txt K mg aL aR)(TT:Pa mg):
  bH P w K mg base dj 3 f fd ["step"] (Jb K):=by
 obtain⟨t2,e2⟩:=TT.second
 obtain⟨t3,e3⟩:=TT.weight
 refine D.fn.ok QV (fun vs H Q E h=>?_) (fun cdv A outer s H vs Q E hr h=>?_)
 .obtain⟨x,q,rfl,_⟩:=h
  rfl
 .obtain⟨x,q,rfl,⟨p,y,z,rfl,hp,hy,hz⟩,h0,hd,w1,w2,k⟩:=h
  cases (show z= .int q.2 from hz)
  obtain⟨p1,rfl,h1⟩:=hy.sq
  have hr1:aZ 1 _:=hr.mono (by decide)
  refine⟨_,au (bU (PW.pt (gB (cY (bV (lW (pv 0) rfl T.isi rfl T.tuple PyProof.Rows.boot_tuple))) (fJ (aY Bv (aV aU (by rfl) T.len PySem.boot_len (aj (pv 0) ak)) ao (bx _))))) bN bc)
   (au (bU (PW.pt (gB (cY (bV (aO CF hr rfl (aj (aD aK (pv 0) ao (fun _ _=>rfl)) ak)))) (fJ (aY sZ (aD aK (aD aK (pv 0) ao (fun _ _=>rfl)) ao (fun _ _=>rfl)) (bD (v:= .int 1000) rfl e2 ⟨_,rfl⟩) (bx _))))) bN bc)
   (aB (bU (PW.pt (gB (cY (bV (aO CW hr1 rfl (aj (aD aK (pv 0) ao (fun _ _=>rfl)) ak)))) (gB (aY gQ (aD aK (pv 0) ao (fun _ _=>rfl)) ao (bx _)) (fJ (aY sZ (aD aK (pv 0) ao (fun _ _=>rfl)) (bD (v:= .int 1000) rfl e3 ⟨_,rfl⟩) (bx _)))))) bN bc))),?_⟩
  refine⟨_,rfl,_,_,.sqT hp,kit_tuple _,_,rfl,dY ?_⟩
  refine⟨_,rfl,p,_,rfl,.inr hp,rfl,_,rfl,jD rfl ?_⟩
  refine⟨_,rfl,p,_,_,_,rfl,rfl,hp,rfl,.ref p1,q.1,rfl,hy,h0,_,rfl,dY ?_⟩
  refine⟨_,rfl,p,_,_,_,rfl,rfl,hp,rfl,p1,_,_,_,rfl,rfl,h1,rfl,_,_,rfl,rfl,_,rfl,nj (by omega) ?_⟩
  refine⟨_,rfl,p,_,_,_,rfl,rfl,hp,rfl,q.2,rfl,_,rfl,dY ?_⟩
  refine⟨_,rfl,p,_,_,_,rfl,rfl,hp,rfl,_,_,rfl,rfl,_,rfl,nj (by omega) ?_⟩
  refine⟨_,rfl,p,_,_,_,rfl,rfl,hp,rfl,_,_,rfl,rfl,_,rfl,nj (by omega) ?_⟩
  exact k
theorem rM:aQ ["steps","start","step"] ["steps"] (aJ jw):=⟨rfl,rfl,rfl,by decide+kernel,rfl,by decide+kernel,by decide+kernel⟩
theorem Hz{f:Addr}{fd:FuncData}(D:bJ K mg "check_steps" jw ["steps"] f fd)(CT:Cl P w K mg base "check_step" 3 ["step"] (Jb K))(CB:Cl P w K mg base "below" 1 ["one","other"] (dD K))(T:Txt K mg aL aR)(TT:Pa mg):
  bH P w K mg base dj 4 f fd ["steps"] (Cm K):=by
 obtain⟨t1,e1⟩:=TT.most
 refine D.fn.ok rM (fun vs H Q E h=>?_) (fun cdv A outer s H vs Q E hr h=>?_)
 .obtain⟨a,xs,p,S,rfl,_⟩:=h
  rfl
 .obtain⟨a,xs,p,S,rfl,ha,hS,ok,k⟩:=h
  have hr1:aZ 1 _:=hr.mono (by decide)
  have hu:_+(0+1)<cLine:=iU hr
  have lX:=hS.length
  have l8:=ok.len
  have l0:0<S.length:=List.length_pos_iff.mpr ok.ne
  have few:=ok.few
  refine⟨_,au (bU (cY (bV (lW (pv 0) rfl T.isi rfl T.list PyProof.Rows.boot_list))) bN bc)
   (au (bU (PW.pt (gB (aY gQ (aV aU (by rfl) T.len PySem.boot_len (aj (pv 0) ak)) ao (bx _)) (fJ (aY sZ (aV aU (by rfl) T.len PySem.boot_len (aj (pv 0) ak)) (bD (v:= .int 8) rfl e1 ⟨_,rfl⟩) (bx _))))) bN bc)
   (au (aN (i:=1) rM.nd rfl (Or.inl rfl) (bD (v:= .ref aL) rfl T.left rfl))
   (au (dB PassesOwn.never rfl (cu (pv 0)) (bz (i:=2) rM.nd rfl (Or.inl rfl))
    (au (cz (aO CT hr rfl (aj (pv 2) ak)))
    (au (bU (cY (bV (aO CB hr1 rfl (aj (pv 1) (aj (aD aK (pv 2) ao (fun _ _=>rfl)) ak))))) bN bc)
    (aB (aN (i:=1) rM.nd rfl (Or.inl rfl) (aD aK (pv 2) ao (fun _ _=>rfl)))))))
   (aB (bU (aY (vL cM cM hu) (pv 1) (bD (v:= .ref aR) rfl T.right rfl) (bx _)) bN bc))))),?_⟩
  refine⟨_,rfl,_,_,.sqL ha,sV _,_,rfl,dY ?_⟩
  refine⟨_,rfl,a,_,rfl,.inl ha,_,_,rfl,rfl,_,rfl,nj (by omega) ?_⟩
  refine⟨_,rfl,a,_,rfl,.inl ha,_,_,rfl,rfl,_,rfl,nj (by omega) ?_⟩
  refine⟨_,rfl,a,rfl,⟨_,ha⟩,?_⟩
  refine dh (K:=K) (a:=a) (xs:=xs) (fun i σ H'=>H'=H/\∃(v:V)(x2:Option V),σ=[some (.ref a),some v,x2]/\bI K H v (endOf 0 (S.take i)))
   ⟨rfl,_,_,rfl,T.l H⟩ (fun i σ H' _ h=>by rw[h.1];exact ha) ?_ ?_
  .rintro i x σ H' hx ⟨rfl,v,x2,rfl,hv⟩
   obtain⟨z,hz,hs⟩:=Paired.get1 hS i x hx
   obtain⟨r1,r2⟩:=lY ok.rise hz
   have mz:=List.mem_of_getElem? hz
   have z0:0<=z.1:=by
    have:=gD ok i
    grind
   have zd:=PB (ok.gr z mz) ok.pos
   have zw:=ok.w z mz
   refine⟨_,rfl,x,z,rfl,hs,z0,by omega,by omega,zw,?_⟩
   obtain⟨p0,y,q,rfl,hp0,hy,hq⟩:=id hs
   have nx:endOf 0 (S.take (i+1))=z.1:=by
    rw[take_snoc hz,show z=(z.1,z.2)from rfl,iz]
   have zb:Bd 10 z.1:=by
    rw[<-nx]
    exact jR ok (i+1)
   refine⟨_,rfl,_,rfl,p0,_,_,_,rfl,rfl,hp0,rfl,v,y,_,_,rfl,hv,hy,⟨gD ok i,(jR ok i).mono (by decide)⟩,⟨z0,zb.mono (by decide)⟩,_,rfl,?_⟩
   refine jD r1 ?_
   refine⟨_,rfl,p0,_,_,_,rfl,rfl,hp0,rfl,rfl,y,_,rfl,?_⟩
   rw[nx]
   exact hy
  .rintro σ H' ⟨rfl,v,x2,rfl,hv⟩
   rw[List.take_of_length_le (by omega),ok.top]at hv
   refine⟨_,rfl,_,_,hv,T.r H',_,rfl,jD rfl ?_⟩
   exact k
end
end FQ
namespace FQ
open PySem L2 FK
theorem Paired.last{α β:Type}{F:α->β->Prop}:∀{xs:List α}{L:List β}{l:β},Paired F xs (L++[l])->∃xs0 v,xs=xs0++[v]/\Paired F xs0 L/\F v l
 |_,[],_,.cons r .nil=>⟨[],_,rfl,.nil,r⟩
 |_,_::L,_,.cons r t=>by
  obtain⟨xs0,v,rfl,h1,h2⟩:=Paired.last (L:=L) t
  exact⟨_::xs0,v,rfl,.cons r h1,h2⟩
theorem xr{b h:Rat}{S:aA}(r:eV b S):∃L,hl b h S=L++[(endOf b S,h+A b S (endOf b S))]:=List.getLast?_eq_some_iff.mp (Bj b h S r)
abbrev NW:List Str:=["steps","ends","hefts","step","length"]
theorem tO:aQ NW ["steps"] (aJ kJ):=⟨rfl,rfl,rfl,by decide+kernel,rfl,by decide+kernel,by decide+kernel⟩
section
variable {P:Program} {w:World} {K:PySem.W.Frag} {mg:Str->Option Value} {base:Heap} {aL aR:Addr}
theorem Gz{n:Int}(h0:0<=n)(h1:n<=1000):Bd 10 (n:Rat):=by
 refine⟨?_,?_⟩
 .show n.natAbs<2^10
  omega
 .show(1:Nat)<2^10
  decide
theorem GC{n:Int}(h:0<=n):(0:Rat)<=(n:Rat):=Rat.intCast_nonneg.mpr h
theorem oR{p:Nat}{S:aA}(ok:aX p S)(i:Nat):Ft 20 (A 0 (S.take i) (endOf 0 (S.take i))):=by
 have f:=ok.few
 rw[yz i ok.rise]
 refine⟨Fb ok.rise,?_⟩
 refine(jL (Gr.zero p) ok.gr (qL ok i)).bd ok.pos (Fb ok.rise) (m:=1000) (ok.up (gD ok i) (sH ok i)) ?_ ?_
 .omega
 .omega
theorem KN{f:Addr}{fd:FuncData}(D:bJ K mg "worth_line" kJ ["steps"] f fd)(C:Fe P w K mg base)(T:Txt K mg aL aR):bH P w K mg base dj 4 f fd ["steps"] (IK K):=by
  refine D.fn.ok tO (fun vs H Q E h=>?_) (fun cdv A0 outer s H vs Q E hr h=>?_)
  . obtain⟨a,xs,p,S,rfl,_⟩:=h
    rfl
  . obtain⟨a,xs,p,S,rfl,ha,hS,ok,k⟩:=h
    have lX:=hS.length
    have l8:=ok.len
    refine⟨_,au (aN (i:=1) tO.nd rfl (Or.inl rfl) (cA (aj (bD (v:= .ref aL) rfl T.left rfl) ak)))
      (au (aN (i:=2) tO.nd rfl (Or.inr rfl) (cA (aj (bC (aj ao (aj ao ak))) ak)))
      (au (dB PassesOwn.never rfl (cu (pv 0)) (bz (i:=3) tO.nd rfl (Or.inl rfl))
        (au (aN (i:=4) tO.nd rfl (Or.inl rfl) (aO C.minus hr rfl (aj (aD aK (pv 3) ao (fun _ _=>rfl)) (aj (aD aP (pv 1) (By wI ao) (fun _ _=>rfl)) ak))))
        (au (cz (iY PySem.F.plainAttrs_list PySem.F.slot_list_append PySem.F.type_list_append di (pv 2) (aj (aO C.plus hr rfl (aj (aD aP (pv 2) (By wI ao) (fun _ _=>rfl))
          (aj (aO C.times hr rfl (aj (pv 4) (aj (bC (aj (aD aK (pv 3) ao (fun _ _=>rfl)) (aj ao ak))) ak))) ak))) ak)))
        (aB (cz (iY PySem.F.plainAttrs_list PySem.F.slot_list_append PySem.F.type_list_append di (pv 1) (aj (aD aK (pv 3) ao (fun _ _=>rfl)) ak)))))))
      (aB (aW (dC ["point","heft"] rfl (cD.free1 (F:=["hefts"]) (js:=[2]) rfl (by decide+kernel) (by decide+kernel) rfl ⟨rfl,trivial⟩ rfl ⟨⟨rfl,rfl,.inl rfl⟩,trivial⟩) (Qx rfl T.zip (aj (pv 1) (aj (pv 2) ak)))
        (fun _=>zF rfl (jF (bz (i:=0) (show[Str.ofString "point",Str.ofString "heft",Str.ofString "hefts"].Nodup by decide+kernel) rfl (Or.inl rfl)) (jF (bz (i:=1) (show[Str.ofString "point",Str.ofString "heft",Str.ofString "hefts"].Nodup by decide+kernel) rfl (Or.inl rfl)) vV)))
        (fun _=>cG)
        (fun _=>bC (aj (pv 0) (aj (aO C.over hr rfl (aj (pv 1) (aj (aD aP (pv 2) (By wI ao) (fun _ _=>rfl)) ak))) ak)))))))),?_⟩
    refine⟨(by show 1<=sizeLine;decide),fun le hle=>?_⟩
    refine⟨(by show 2<=sizeLine;decide),fun t ht=>⟨(by show 1<=sizeLine;decide),fun lh hlh=>?_⟩⟩
    have s1:aF H (upd H le (.lst [.ref aL])):=aF.upd hle
    have s2:=s1.trans (aF.upd (o:= .tup [.int 0,.int 1]) ht)
    have s3:=s2.trans (aF.upd (o:= .lst [.ref t]) hlh)
    have hlh0:H lh=none:=s2.free hlh
    have e2:(upd (upd H le (.lst [.ref aL])) t (.tup [.int 0,.int 1])) le=some (.lst [.ref aL]):=aF.upd ht _ _ az
    have ne:le≠lh:=aM e2 hlh
    refine⟨_,rfl,a,rfl,⟨_,s3.seq ha⟩,?_⟩
    refine dh (K:=K) (a:=a) (xs:=xs) (fun i σ H'=>aF H H'/\∃(es hs:List V)(x3 x4:Option V),σ=[some (.ref a),some (.ref le),some (.ref lh),x3,x4]/\H' le=some (.lst es)/\H' lh=some (.lst hs)/\
        Paired (bI K H') es ((hl 0 0 (S.take i)).map Prod.fst)/\Paired (bI K H') hs ((hl 0 0 (S.take i)).map Prod.snd))
      ⟨s3,_,_,_,_,rfl,by rw[aG ne];exact e2,az,.cons (T.l _) .nil,.cons (.of (.of (aF.upd hlh _ _ az)) rfl rfl) .nil⟩ (fun i σ H' _ h=>h.1.seq ha) ?_ ?_
    . rintro i x σ H' hx ⟨s4,es,hs,x3,x4,rfl,hE,hHh,pE,pH⟩
      obtain⟨z,hz,hs0⟩:=Paired.get1 hS i x hx
      obtain⟨p0,y,q,rfl,hp0,hy,hq⟩:=id hs0
      cases (show q= .int z.2 from hq)
      obtain⟨r1,r2⟩:=lY ok.rise hz
      have mz:=List.mem_of_getElem? hz
      have nx:endOf 0 (S.take (i+1))=z.1:=by
        rw[take_snoc hz,show z=(z.1,z.2)from rfl,iz]
      have z0:0<=z.1:=by rw[<-nx];exact gD ok _
      have zb:Bd 10 z.1:=by rw[<-nx];exact jR ok _
      have zw:=ok.w z mz
      obtain⟨L,hL⟩:=xr (b:=0) (h:=0) (gZ i ok.rise)
      rw[dz]at hL
      have hl1:hl 0 0 (S.take (i+1))=L++[(endOf 0 (S.take i),A 0 (S.take i) (endOf 0 (S.take i)))]++[(z.1,A 0 (S.take i) (endOf 0 (S.take i))+(z.1-endOf 0 (S.take i))*(z.2:Rat))]:=by
        have:=Bk 0 0 (S.take i) z.1 z.2 (gZ i ok.rise)
        rw[dz]at this
        rw[take_snoc hz,show z=(z.1,z.2)from rfl,this,hL]
      have pE':=pE
      have pH':=pH
      rw[hL,List.map_append]at pE' pH'
      obtain⟨es0,v,rfl,_,hv⟩:=Paired.last pE'
      obtain⟨hs1,u,rfl,_,hu⟩:=Paired.last pH'
      have hf:=oR ok i
      have dl:Bd 21 (z.1-endOf 0 (S.take i)):=Bd.sub zb (jR ok i)
      have dn:0<=z.1-endOf 0 (S.take i):=by grind
      have sp0:=s4.sqT hp0
      refine⟨_,rfl,p0,_,_,_,rfl,rfl,sp0,rfl,_,rfl,_,rfl,le,_,_,_,rfl,rfl,.of hE,su _ _,y,v,z.1,_,rfl,hy.same s4,hv,⟨z0,zb.mono (by decide)⟩,⟨gD ok i,(jR ok i).mono (by decide)⟩,Rat.le_of_lt r1,fun v1 H1 t1 d1=>?_⟩
      have hE1:=t1 _ _ hE
      have hH1:=t1 _ _ hHh
      refine⟨_,rfl,.inl ⟨rfl,_,.of hH1⟩,_,rfl,_,rfl,lh,_,_,_,rfl,rfl,.of hH1,su _ _,_,rfl,_,rfl,p0,_,_,_,rfl,rfl,t1.sqT sp0,rfl,(by show 2<=sizeLine;decide),fun t5 ht5=>?_⟩
      have t2:=aF.upd (o:= .tup [.int z.2,.int 1]) ht5
      refine⟨v1,.ref t5,_,(z.2:Rat),rfl,d1.same t2,.of bw rfl rfl,⟨dn,dl.mono (by decide)⟩,⟨GC (by omega),(Gz (by omega) zw).mono (by decide)⟩,trivial,fun v2 H2 t3 d2=>?_⟩
      have t13:=t1.trans (t2.trans t3)
      have bm:Bd 31 ((z.1-endOf 0 (S.take i))*(z.2:Rat)):=Bd.mul dl (Gz (by omega) zw)
      have mn:0<=(z.1-endOf 0 (S.take i))*(z.2:Rat):=Rat.mul_nonneg dn (GC (by omega))
      refine⟨u,v2,_,_,rfl,(hu.same t13),d2,hf.fit,⟨mn,bm.mono (by decide)⟩,trivial,fun v3 H3 t4 d3=>?_⟩
      have t14:=t13.trans t4
      have hE3:=t14 _ _ hE
      have hH3:=t14 _ _ hHh
      have lenH:(hs1++[u]).length<=100:=by
        rw[pH.length,List.length_map,ji,List.length_take]
        omega
      have lenE:(es0++[v]).length<=100:=by
        rw[pE.length,List.length_map,ji,List.length_take]
        omega
      have big:1000<=sizeLine:=by decide
      refine⟨lh,_,v3,rfl,rfl,hH3,by omega,?_⟩
      have k1:cC H3 (upd H3 lh (.lst (hs1++[u]++[v3]))):=cC.updL hH3
      have hE4:(upd H3 lh (.lst (hs1++[u]++[v3]))) le=some (.lst (es0++[v])):=by rw[aG ne];exact hE3
      refine⟨_,rfl,.inl ⟨rfl,_,.of hE4⟩,_,rfl,p0,_,_,_,rfl,rfl,k1.sqT (t14.sqT sp0),rfl,le,_,_,rfl,rfl,hE4,by omega,?_⟩
      have k2:cC (upd H3 lh (.lst (hs1++[u]++[v3]))) (upd (upd H3 lh (.lst (hs1++[u]++[v3]))) le (.lst (es0++[v]++[y]))):=cC.updL hE4
      have kk:=(cC.of t14).trans (k1.trans k2)
      refine⟨((s4.trans t14).updN hlh0).updN hle,_,_,_,_,rfl,az,by rw[aG ne.symm,az],?_,?_⟩
      . rw[hl1,List.map_append,<-hL]
        exact Paired.app (Paired.mapP pE fun _ _ z=>z.keep kk) (.cons ((hy.same s4).keep kk) .nil)
      . rw[hl1,List.map_append,<-hL]
        exact Paired.app (Paired.mapP pH fun _ _ z=>z.keep kk) (.cons (d3.keep (k1.trans k2)) .nil)
    . rintro σ H' ⟨s4,es,hs,x3,x4,rfl,hE,hHh,pE,pH⟩
      rw[List.take_of_length_le (by omega)]at pE pH
      have lE:es.length=S.length+1:=by rw[pE.length,List.length_map,ji]
      have lH:hs.length=S.length+1:=by rw[pH.length,List.length_map,ji]
      obtain⟨L,hL⟩:=xr (b:=0) (h:=0) ok.rise
      rw[dz,ok.top]at hL
      have pH':=pH
      rw[hL,List.map_append]at pH'
      obtain⟨hs1,u,rfl,_,hu⟩:=Paired.last pH'
      refine⟨_,rfl,_,rfl,le,lh,rfl,⟨_,.of hE⟩,⟨_,.of hHh⟩,fun D1 hD1=>?_⟩
      have neE:le≠D1:=aM hE hD1
      have neH:lh≠D1:=aM hHh hD1
      refine Ga (K:=K) (l1:=le) (l2:=lh) (D:=D1) (xs:=es) (zs:=hs1++[u]) (fun i ys σ H2=>aF H' H2/\H2 D1=some (.lst ys)/\Paired (bB K H2) ys ((wl S).take i)/\i<=S.length+1/\∃x0 x1,σ=[x0,x1,some (.ref lh)])
        (by omega) (by have:1000<=sizeLine:=by decide
                       omega) ⟨aF.upd hD1,az,.nil,by omega,_,_,rfl⟩ ?_ ?_ ?_
      . rintro i ys σ H2 hi ⟨t1,h1,h2,h3,_⟩
        refine⟨.of (t1 _ _ hE),.of (t1 _ _ hHh),h1,?_⟩
        rw[h2.length,List.length_take]
        omega
      . rintro i x y ys σ H2 T0 hx hy ⟨t1,h1,h2,h3,x0,x1,rfl⟩ hT0 c
        obtain⟨q1,hq1,fq1⟩:=Paired.get1 pE i x hx
        obtain⟨q2,hq2,fq2⟩:=Paired.get1 pH i y hy
        have i1:i<S.length+1:=by have:=(List.getElem?_eq_some_iff.mp hx).1;omega
        have hg:=vC (h:=0) ok.rise (show i<=S.length by omega)
        rw[List.getElem?_map,hg]at hq1 hq2
        have eq1:endOf 0 (S.take i)=q1:=Option.some.inj hq1
        have eq2:A 0 S (endOf 0 (S.take i))=q2:=by rw[<-Option.some.inj hq2,dz]
        have t2:aF H2 (upd H2 T0 (.tup [x,y])):=aF.upd hT0
        have t12:=t1.trans t2
        have hH2:=t12 _ _ hHh
        have hf:=oR ok i
        rw[yz i ok.rise,eq2]at hf
        have tb:Ft 20 (tot S):=by
          have:=oR ok S.length
          rw[List.take_length,ok.top]at this
          exact this
        refine⟨T0,_,rfl,bw,rfl,x,_,rfl,y,_,rfl,rfl,?_⟩
        refine⟨_,rfl,_,rfl,_,rfl,_,rfl,lh,_,_,_,rfl,rfl,.of hH2,su _ _,y,u,q2,tot S,rfl,fq2.same t12,hu.same t12,hf.fit,tb.fit,ok.tp,fun v1 H3 t3 d1=>?_⟩
        refine⟨(by show 2<=sizeLine;decide),fun r hr5=>?_⟩
        have t4:aF H3 (upd H3 r (.tup [x,v1])):=aF.upd hr5
        have hD4:=(t2.trans (t3.trans t4)) _ _ h1
        refine⟨hD4,?_,az,?_,by omega,_,_,rfl⟩
        . exact(t12.trans (t3.trans t4)).updN hD1
        . have wi:(wl S)[i]? =some (q1,q2/tot S):=by
            unfold wl
            rw[List.getElem?_map,hg,dz,eq2,eq1]
            rfl
          rw[take_snoc wi]
          have k1:=cC.updL (o:= .lst (ys++[.ref r])) hD4
          have kk:=(cC.of (t2.trans (t3.trans t4))).trans k1
          refine Paired.app (Paired.mapP h2 fun _ _ z=>bB.keep kk z) (.cons ⟨r,x,v1,rfl,k1.sqT bw,?_,(d1.same t4).keep k1⟩ .nil)
          exact(fq1.same (t12.trans (t3.trans t4))).keep k1
      . rintro ys σ H2 ⟨t1,h1,h2,h3,_⟩
        rw[List.take_of_length_le (by unfold wl;rw[List.length_map,ji];omega)]at h2
        exact k D1 ys H2 (s4.trans t1) (s4.free hD1) h1 h2
end
end FQ
namespace FQ
open PySem L2 FK
structure kY(K:PySem.W.Frag)(C:Addr):Prop where
 cl:tY K C
 nT:lg K C "told"
 nL:lg K C "line"
abbrev Sx(lt ll:Addr):List (Str×V):=iG "line" (.ref ll) (iG "told" (.ref lt) [])
structure bY(K:PySem.W.Frag)(C:Addr)(H:Hp)(x lt ll:Addr)(S:aA):Prop where
 ins:∃dx,H x=some (.ins C dx (Sx lt ll))
 told:∃ts,H lt=some (.lst ts)/\Paired (je K H) ts S
 line:∃ls,H ll=some (.lst ls)/\Paired (bB K H) ls (wl S)
theorem bY.same{K:PySem.W.Frag}{C:Addr}{H H':Hp}{x lt ll:Addr}{S:aA}(s:aF H H')(h:bY K C H x lt ll S):bY K C H' x lt ll S:=by
 obtain⟨⟨dx,h1⟩,⟨ts,h2,h3⟩,⟨ls,h4,h5⟩⟩:=h
 exact⟨⟨dx,s _ _ h1⟩,⟨ts,s _ _ h2,Paired.mapP h3 fun _ _ z=>je.same s z⟩,⟨ls,s _ _ h4,Paired.mapP h5 fun _ _ z=>bB.same s z⟩⟩
theorem bY.but{K:PySem.W.Frag}{C:Addr}{H:Hp}{x lt ll l:Addr}{S:aA}{zs ys:List V}(h:bY K C H x lt ll S)(hl:H l=some (.lst zs))(n1:l≠lt)(n2:l≠ll):bY K C (upd H l (.lst ys)) x lt ll S:=by
 obtain⟨⟨dx,h1⟩,⟨ts,h2,h3⟩,⟨ls,h4,h5⟩⟩:=h
 have k:=cC.updL (o:= .lst ys) hl
 refine⟨⟨dx,?_⟩,⟨ts,?_,Paired.mapP h3 fun _ _ z=>je.keep k z⟩,⟨ls,?_,Paired.mapP h5 fun _ _ z=>bB.keep k z⟩⟩
 .exact k _ _ h1 (fun _ z=>nomatch z) (fun _ z=>nomatch z)
 .rw[aG n1.symm]
  exact h2
 .rw[aG n2.symm]
  exact h4
def tV(K:PySem.W.Frag)(C:Addr):Sp:=fun vs H Q _=>∃(x dx a:Addr)(xs:List V)(p:Nat)(S:aA),vs=[.ref x,.ref a]/\H x=some (.ins C dx [])/\cJ K H a xs/\Paired (je K H) xs S/\aX p S/\
 ∀(lt ll:Addr)(H':Hp),(∀b o,H b=some o->b≠x->H' b=some o)->H lt=none->H ll=none->bY K C H' x lt ll S->Q .non H'
def qF(K:PySem.W.Frag)(C:Addr):Sp:=fun vs H Q _=>∃(x lt ll:Addr)(z:V)(p:Nat)(S:aA)(q:Rat),vs=[.ref x,z]/\bY K C H x lt ll S/\aX p S/\bI K H z q/\0<=q/\q<=1/\Bd 280 q/\
 ∀v H',aF H H'->bI K H' v (F S q)->Q v H'
def mJ(K:PySem.W.Frag)(C:Addr):Sp:=fun vs H Q _=>∃(x lt ll:Addr)(z:V)(p D:Nat)(S:aA)(q:Rat×Rat),vs=[.ref x,z]/\bY K C H x lt ll S/\aX p S/\bB K H z q/\(0<=q.1/\q.1<=q.2/\q.2<=1)/\mY D/\(Gr D q.1/\Gr D q.2)/\
 ∀v H',aF H H'->bI K H' v (F S q.2-F S q.1)->Q v H'
def jd(K:PySem.W.Frag)(C:Addr):Sp:=fun vs H Q _=>∃(x lt ll a:Addr)(xs:List V)(p D:Nat)(S:aA)(L:List (Rat×Rat)),vs=[.ref x,.ref a]/\bY K C H x lt ll S/\aX p S/\cJ K H a xs/\Paired (bB K H) xs L/\rZ D L/\
 ∀v H',aF H H'->bI K H' v (Wo S L)->Q v H'
theorem Hh{K:PySem.W.Frag}{C:Addr}{H:Hp}{R:Addr->Hp->Prop}{E:XK}{a:Addr}{xs:List V}{p:Nat}{S:aA}(ha:cJ K H a xs)(hS:Paired (je K H) xs S)(ok:aX p S)
  (k:∀(x lt ll:Addr)(H':Hp),aF H H'->H x=none->H lt=none->H ll=none->bY K C H' x lt ll S->R x H'):
  ∀x dx,H x=none->H dx=none->dx≠x->tV K C [.ref x,.ref a] (upd (upd H dx (.own x)) x (.ins C dx [])) (fun v H2=>v= .non/\R x H2) E:=by
 intro x dx hx hdx ne
 have s0:aF H (upd (upd H dx (.own x)) x (.ins C dx [])):=fun b o e=>by
  rw[aG (aM e hx),aG (aM e hdx)]
  exact e
 refine⟨x,dx,a,xs,p,S,rfl,az,s0.seq ha,Paired.mapP hS fun _ _ z=>je.same s0 z,ok,fun lt ll H' h1 h2 h3 h4=>⟨rfl,k x lt ll H' (fun b o e=>h1 b o (s0 b o e) (aM e hx)) hx (s0.free h2) (s0.free h3) h4⟩⟩
theorem Ag(S:aA):Ol S=(wl S).map fun z=>(z.2,z.1):=by
 unfold wl Ol
 rw[List.map_map]
 rfl
section
variable {p:Nat} {S:aA}
theorem Om(h:aX p S):JQ (wl S) where
 few:=by
  have:=h.len
  unfold wl
  rw[List.length_map,ji]
  omega
 fit:=fun z hz=>by
  obtain⟨i,hi⟩:=List.mem_iff_getElem?.mp hz
  obtain⟨_,rfl⟩:=fL h hi
  exact⟨⟨gD h i,(jR h i).mono (by decide)⟩,⟨ie h _,(Bb h i).mono (by decide)⟩⟩
 rise:=fun i a b ha hb=>by
  obtain⟨_,rfl⟩:=fL h ha
  obtain⟨l2,rfl⟩:=fL h hb
  exact Rat.le_of_lt (oM h l2)
theorem Rr(h:aX p S):JQ (Ol S):=by
 have o:=Om h
 rw[Ag]
 refine⟨by rw[List.length_map];exact o.few,fun z hz=>?_,fun i a b ha hb=>?_⟩
 .obtain⟨y,hy,rfl⟩:=List.mem_map.mp hz
  exact⟨(o.fit y hy).2,(o.fit y hy).1⟩
 .rw[List.getElem?_map]at ha hb
  cases qa:(wl S)[i]? with
  |none=>rw[qa]at ha;cases ha
  |some a'=>
   cases qb:(wl S)[i+1]? with
   |none=>rw[qb]at hb;cases hb
   |some b'=>
    rw[qa]at ha
    rw[qb]at hb
    cases (Option.some.inj ha)
    cases (Option.some.inj hb)
    obtain⟨_,rfl⟩:=fL h qa
    obtain⟨l2,rfl⟩:=fL h qb
    exact dF h (Rat.le_of_lt (oM h l2))
theorem nA(h:aX p S){D:Nat}(d:mY D){x:Rat}(g:Gr D x)(h1:x<=1):Bd 280 (F S x):=by
 have:=d.few
 exact Fd h g d.pos h1 (by omega)
end
section
variable {P:Program} {w:World} {K:PySem.W.Frag} {mg:Str->Option Value} {base:Heap} {aL aR C:Addr}
theorem QJ:aQ ["self","steps"] ["self","steps"] (aJ fQ):=⟨rfl,rfl,rfl,by decide+kernel,rfl,by decide+kernel,by decide+kernel⟩
theorem KC{f:Addr}{fd:FuncData}(D:tZ K "__init__" "Taste.__init__" fQ f fd)(CS:Cl P w K mg base "check_steps" 4 ["steps"] (Cm K))(CL:Cl P w K mg base "worth_line" 4 ["steps"] (IK K))(T:Txt K mg aL aR)(TC:kY K C):
  bH P w K mg base dj 5 f fd ["self","steps"] (tV K C):=by
 refine D.ok QJ (fun vs H Q E h=>?_) (fun cdv A0 outer s H vs Q E hr h=>?_)
 .obtain⟨x,dx,a,xs,p,S,rfl,_⟩:=h
  rfl
 .obtain⟨x,dx,a,xs,p,S,rfl,hx,ha,hS,ok,k⟩:=h
  refine⟨_,au (cz (aO CS hr rfl (aj (pv 1) ak)))
   (au (HX (pv 0) (jE jP rfl T.list PyProof.Rows.boot_list (aj (pv 1) ak)) rfl)
   (aB (HX (pv 0) (aO CL hr rfl (aj (pv 1) ak)) rfl))),?_⟩
  refine⟨_,rfl,a,xs,p,S,rfl,ha,hS,ok,?_⟩
  refine⟨_,rfl,a,xs,rfl,.inl ha,fun lt hlt=>?_⟩
  have s1:aF H (upd H lt (.lst xs)):=aF.upd hlt
  have nx:x≠lt:=aM hx hlt
  refine⟨_,rfl,x,C,dx,[],rfl,s1 _ _ hx,TC.cl,TC.nT,(by show 0<1000;decide),?_⟩
  have k1:cC H (upd (upd H lt (.lst xs)) x (.ins C dx (iG "told" (.ref lt) [])))->True:=fun _=>trivial
  have sq2:cJ K (upd (upd H lt (.lst xs)) x (.ins C dx (iG "told" (.ref lt) []))) a xs:=by
   rcases s1.seq ha with(z|⟨o,z⟩)|z
   .exact .inl (.inl (by rw[aG (bW z (s1 _ _ hx) (fun z=>nomatch z))];exact z))
   .exact .inl (.inr ⟨o,by rw[aG (bW z (s1 _ _ hx) (fun z=>nomatch z))];exact z⟩)
   .exact .inr z
  have tq:∀(b:Addr)(zs:List V),fD K H b zs->fD K (upd (upd H lt (.lst xs)) x (.ins C dx (iG "told" (.ref lt) []))) b zs:=fun b zs hb=>by
   rcases s1.sqT hb with(z|⟨o,z⟩)|z
   .exact .inl (.inl (by rw[aG (bW z (s1 _ _ hx) (fun z=>nomatch z))];exact z))
   .exact .inl (.inr ⟨o,by rw[aG (bW z (s1 _ _ hx) (fun z=>nomatch z))];exact z⟩)
   .exact .inr z
  have stq:Paired (je K (upd (upd H lt (.lst xs)) x (.ins C dx (iG "told" (.ref lt) [])))) xs S:=Paired.mapP hS fun y z⟨b,u,v,e1,e2,⟨b2,u2,v2,e4,e5,e6,e7⟩,e3⟩=>⟨b,u,v,e1,tq _ _ e2,⟨b2,u2,v2,e4,tq _ _ e5,e6,e7⟩,e3⟩
  refine⟨_,rfl,a,xs,p,S,rfl,sq2,stq,ok,fun ll ys H' s2 hll hL pL=>?_⟩
  have hx2:H' x=some (.ins C dx (iG "told" (.ref lt) [])):=s2 _ _ az
  have hlt2:H' lt=some (.lst xs):=s2 _ _ (by rw[aG nx.symm];exact az)
  have nxl:x≠ll:=bW hx2 hL (fun z=>nomatch z)
  refine⟨_,rfl,x,C,dx,_,rfl,hx2,TC.cl,TC.nL,(by show 1<1000;decide),?_⟩
  have tq2:∀(b:Addr)(zs:List V),fD K H' b zs->fD K (upd H' x (.ins C dx (Sx lt ll))) b zs:=fun b zs hb=>by
   rcases hb with(z|⟨o,z⟩)|z
   .exact .inl (.inl (by rw[aG (bW z hx2 (fun z=>nomatch z))];exact z))
   .exact .inl (.inr ⟨o,by rw[aG (bW z hx2 (fun z=>nomatch z))];exact z⟩)
   .exact .inr z
  refine k lt ll _ (fun b o e hb=>?_) hlt ?_ ⟨⟨dx,az⟩,⟨xs,?_,?_⟩,⟨ys,?_,?_⟩⟩
  .rw[aG hb]
   exact s2 _ _ (by rw[aG hb];exact s1 _ _ e)
  .have:(upd H lt (.lst xs)) ll=none:=by
    have:=hll
    rw[aG nxl.symm]at this
    exact this
   exact s1.free this
  .rw[aG nx.symm]
   exact hlt2
  .exact Paired.mapP stq fun y z⟨b,u,v,e1,e2,⟨b2,u2,v2,e4,e5,e6,e7⟩,e3⟩=>⟨b,u,v,e1,tq2 _ _ (s2.sqT e2),⟨b2,u2,v2,e4,tq2 _ _ (s2.sqT e5),e6,e7⟩,e3⟩
  .rw[aG nxl.symm]
   exact hL
  .exact Paired.mapP pL fun y z⟨b,u,v,e1,e2,⟨b2,u2,v2,e4,e5,e6,e7⟩,⟨b3,u3,v3,g4,g5,g6,g7⟩⟩=>⟨b,u,v,e1,tq2 _ _ e2,⟨b2,u2,v2,e4,tq2 _ _ e5,e6,e7⟩,⟨b3,u3,v3,g4,tq2 _ _ g5,g6,g7⟩⟩
theorem QX:aQ ["self","point"] ["self","point"] (aJ eO):=⟨rfl,rfl,rfl,by decide+kernel,rfl,by decide+kernel,by decide+kernel⟩
theorem Lf{f:Addr}{fd:FuncData}(D:tZ K "worth_up_to" "Taste.worth_up_to" eO f fd)(CR:Cl P w K mg base "reached" 6 ["line","up"] (mW K))(TC:kY K C):bH P w K mg base dj 7 f fd ["self","point"] (qF K C):=by
 refine D.ok QX (fun vs H Q E h=>?_) (fun cdv A0 outer s H vs Q E hr h=>?_)
 .obtain⟨x,lt,ll,z,p,S,q,rfl,_⟩:=h
  rfl
 .obtain⟨x,lt,ll,z,p,S,q,rfl,⟨⟨dx,h1⟩,_,⟨ls,h4,h5⟩⟩,ok,hz,q0,q1,qb,k⟩:=h
  refine⟨_,aB (aW (aO CR hr rfl (aj (dC ["corner"] rfl (cD.plain rfl (by decide+kernel) (by decide+kernel) (by decide+kernel)) (cu (zA (pv 0) rfl))
   (fun _=>bz (i:=0) (show[Str.ofString "corner"].Nodup by decide+kernel) rfl (Or.inl rfl)) (fun _=>cG)
   (fun _=>bC (aj (aD aK (pv 0) ao (fun _ _=>rfl)) (aj (aD aK (pv 0) ao (fun _ _=>rfl)) ak)))) (aj (pv 1) ak)))),?_⟩
  refine⟨_,rfl,x,C,dx,_,_,rfl,h1,TC.cl,TC.nL,rfl,ll,rfl,⟨_,.of h4⟩,fun D1 hD1=>?_⟩
  have ne1:ll≠D1:=aM h4 hD1
  have lw:(wl S).length<=9:=by
   have:=ok.len
   unfold wl
   rw[List.length_map,ji]
   omega
  have lL:=h5.length
  have big:1000<=sizeLine:=by decide
  refine cL (K:=K) (a:=ll) (D:=D1) (xs:=ls) (fun i ys σ H2=>aF H H2/\H2 D1=some (.lst ys)/\Paired (bB K H2) ys ((Ol S).take i)/\i<=ls.length/\∃x0,σ=[x0])
   (by omega) ⟨aF.upd hD1,az,.nil,by omega,_,rfl⟩ ?_ ?_ ?_
  .rintro i ys σ H2 hi ⟨t1,e1,e2,e3,_⟩
   refine⟨.of (t1 _ _ h4),e1,?_⟩
   rw[e2.length,List.length_take]
   omega
  .rintro i y ys σ H2 hy ⟨t1,e1,e2,e3,x0,rfl⟩ c
   obtain⟨c0,hc,py,u1,u2,rfl,hp,hu1,hu2⟩:=Paired.get1 h5 i y hy
   refine⟨_,rfl,py,_,_,_,rfl,rfl,t1.sqT hp,rfl,_,rfl,py,_,_,_,rfl,rfl,t1.sqT hp,rfl,(by show 2<=sizeLine;decide),fun r hr5=>?_⟩
   have t2:aF H2 (upd H2 r (.tup [u2,u1])):=aF.upd hr5
   have hD2:=t2 _ _ e1
   refine⟨hD2,(t1.trans t2).updN hD1,az,?_,by have:=(List.getElem?_eq_some_iff.mp hy).1;omega,_,rfl⟩
   have wi:(Ol S)[i]? =some (c0.2,c0.1):=by
    rw[Ag,List.getElem?_map,hc]
    rfl
   rw[take_snoc wi]
   have k1:=cC.updL (o:= .lst (ys++[.ref r])) hD2
   exact Paired.app (Paired.mapP e2 fun _ _ z=>bB.keep k1 (bB.same t2 z)) (.cons ⟨r,u2,u1,rfl,k1.sqT bw,(hu2.same (t1.trans t2)).keep k1,(hu1.same (t1.trans t2)).keep k1⟩ .nil)
  .rintro ys σ H2 ⟨t1,e1,e2,e3,_⟩
   have lF:(Ol S).length=(wl S).length:=by rw[Ag,List.length_map]
   rw[List.take_of_length_le (by omega)]at e2
   refine⟨_,rfl,D1,ys,z,Ol S,q,rfl,.of e1,e2,hz.same t1,Rr ok,⟨q0,qb⟩,fun v H3 t3 a3=>k v H3 (t1.trans t3) ?_⟩
   rw[MT ok q0 q1]at a3
   exact a3
theorem Mj:aQ ["self","span"] ["self","span"] (aJ fj):=⟨rfl,rfl,rfl,by decide+kernel,rfl,by decide+kernel,by decide+kernel⟩
theorem Hy{f:Addr}{fd:FuncData}(D:tZ K "span_worth" "Taste.span_worth" fj f fd)(CM:Cl P w K mg base "minus" 3 ["one","other"] (jc K))(MU:Ml P w K mg base C "worth_up_to" 7 ["self","point"] (qF K C))(TC:kY K C):
  bH P w K mg base dj 8 f fd ["self","span"] (mJ K C):=by
 refine D.ok Mj (fun vs H Q E h=>?_) (fun cdv A0 outer s H vs Q E hr h=>?_)
 .obtain⟨x,lt,ll,z,p,D,S,q,rfl,_⟩:=h
  rfl
 .obtain⟨x,lt,ll,z,p,D,S,q,rfl,ta,ok,⟨pz,z1,z2,rfl,hp,hz1,hz2⟩,⟨q0,q1,q2⟩,d,⟨g1,g2⟩,k⟩:=h
  have hr3:aZ 3 _:=hr.mono (by decide)
  refine⟨_,aB (aW (aO CM hr3 rfl (aj (cV MU TC.cl hr (pv 0) (aj (aD aK (pv 1) ao (fun _ _=>rfl)) ak)) (aj (cV MU TC.cl hr (pv 0) (aj (aD aK (pv 1) ao (fun _ _=>rfl)) ak)) ak)))),?_⟩
  obtain⟨dx,h1⟩:=ta.ins
  have n2:0<=q.2:=by grind
  have l1:q.1<=1:=by grind
  refine⟨_,rfl,x,dx,_,rfl,h1,rfl,_,rfl,pz,_,_,_,rfl,rfl,hp,rfl,x,lt,ll,z2,p,S,q.2,rfl,ta,ok,hz2,n2,q2,d.bd g2 n2 q2,fun v1 H1 s1 e1=>?_⟩
  refine⟨_,rfl,x,dx,_,rfl,s1 _ _ h1,rfl,_,rfl,pz,_,_,_,rfl,rfl,s1.sqT hp,rfl,x,lt,ll,z1,p,S,q.1,rfl,ta.same s1,ok,hz1.same s1,q0,l1,d.bd g1 q0 l1,fun v2 H2 s2 e2=>?_⟩
  exact⟨v1,v2,_,_,rfl,e1.same s2,e2,Bd.fit (nA ok d g2 q2) (ie ok _) (by decide),Bd.fit (nA ok d g1 l1) (ie ok _) (by decide),dF ok q1,fun v3 H3 s3 e3=>k v3 H3 (s1.trans (s2.trans s3)) e3⟩
theorem rN:aQ ["self","piece","total","span"] ["self","piece"] (aJ jq):=⟨rfl,rfl,rfl,by decide+kernel,rfl,by decide+kernel,by decide+kernel⟩
theorem yH{p D:Nat}{S:aA}{L:List (Rat×Rat)}(ok:aX p S)(h:rZ D L)(i:Nat):eQ (Wo S (L.take i))/\Wo S (L.take i)<=1/\Bd 280 (Wo S (L.take i)):=by
 have mem:∀q∈L.take i,q∈L:=fun q hq=>List.mem_of_mem_take hq
 have n0:0<=Wo S (L.take i):=Nr ok fun q hq=>by
  have:=h.win q (mem q hq)
  grind
 have n1:Wo S (L.take i)<=1-F S 0:=Nq ok (fun q hq=>by
  have:=h.win q (mem q hq)
  grind) (by decide) ((h.apart.sublist (List.take_sublist _ _)).imp fun{a b}z=>Rat.le_of_lt z)
 rw[cX ok]at n1
 obtain⟨N,a,b,hN⟩:=ok.num
 have f:=ok.few
 have g:=Np ok hN (D:=D) (L:=L.take i) fun q hq=>h.gr q (mem q hq)
 have dl:=h.d.few
 have:D*N<=D*1000000:=Nat.mul_le_mul_left _ (by omega)
 have bd:Bd 280 (Wo S (L.take i)):=g.bd (Nat.mul_pos h.d.pos a) n0 (m:=1) (by rw[show((1:Nat):Rat)=1 from rfl];grind) (by omega) (by omega)
 exact⟨⟨n0,bd.mono (by decide)⟩,by grind,bd⟩
theorem HH{f:Addr}{fd:FuncData}(D:tZ K "worth" "Taste.worth" jq f fd)(CK:Cl P w K mg base "check_piece" 4 ["piece"] (wC K))(CP:Cl P w K mg base "plus" 3 ["one","other"] (wF K))(MS:Ml P w K mg base C "span_worth" 8 ["self","span"] (mJ K C))(TC:kY K C):
  bH P w K mg base dj 9 f fd ["self","piece"] (jd K C):=by
 refine D.ok rN (fun vs H Q E h=>?_) (fun cdv A0 outer s H vs Q E hr h=>?_)
 .obtain⟨x,lt,ll,a,xs,p,D,S,L,rfl,_⟩:=h
  rfl
 .obtain⟨x,lt,ll,a,xs,p,D,S,L,rfl,ta,ok,ha,hL,pk,k⟩:=h
  have hr3:aZ 3 _:=hr.mono (by decide)
  have hr4:aZ 4 _:=hr.mono (by decide)
  refine⟨_,au (cz (aO CK hr4 rfl (aj (pv 1) ak)))
   (au (aN (i:=2) rN.nd rfl (Or.inl rfl) (bC (aj ao (aj ao ak))))
   (au (dB PassesOwn.never rfl (cu (pv 1)) (bz (i:=3) rN.nd rfl (Or.inl rfl))
    (aB (aN (i:=2) rN.nd rfl (Or.inl rfl) (aO CP hr3 rfl (aj (pv 2) (aj (cV MS TC.cl hr (pv 0) (aj (pv 3) ak)) ak))))))
   (aB (aW (pv 2))))),?_⟩
  refine⟨_,rfl,a,xs,D,L,rfl,ha,hL,pk,?_⟩
  refine⟨(by show 2<=sizeLine;decide),fun t ht=>?_⟩
  have s1:aF H (upd H t (.tup [.int 0,.int 1])):=aF.upd ht
  refine⟨_,rfl,a,rfl,⟨_,s1.seq ha⟩,?_⟩
  have lX:=hL.length
  refine dh (K:=K) (a:=a) (xs:=xs) (fun i σ H'=>aF H H'/\∃(v:V)(x3:Option V),σ=[some (.ref x),some (.ref a),some v,x3]/\bI K H' v (Wo S (L.take i)))
   ⟨s1,_,_,rfl,.of bw rfl rfl⟩ (fun i σ H' _ h=>h.1.seq ha) ?_ ?_
  .rintro i y σ H' hy ⟨s2,v,x3,rfl,hv⟩
   obtain⟨q,hq,cq⟩:=Paired.get1 hL i y hy
   have wq:=pk.win q (List.mem_of_getElem? hq)
   have gq:=pk.gr q (List.mem_of_getElem? hq)
   obtain⟨dx,h1⟩:=ta.ins
   refine⟨_,rfl,_,rfl,x,dx,_,rfl,s2 _ _ h1,rfl,_,rfl,x,lt,ll,y,p,D,S,q,rfl,ta.same s2,ok,bB.same s2 cq,⟨wq.1,Rat.le_of_lt wq.2.1,wq.2.2⟩,pk.d,gq,fun v1 H1 t1 d1=>?_⟩
   have b1:=nA ok pk.d gq.2 wq.2.2
   have b2:=nA ok pk.d gq.1 (by grind)
   have nn:0<=F S q.2-F S q.1:=by
    have:=dF ok (Rat.le_of_lt wq.2.1)
    grind
   refine⟨v,v1,_,_,rfl,hv.same t1,d1,(yH ok pk i).1,⟨nn,(b1.sub b2).mono (by decide)⟩,trivial,fun v2 H2 t2 d2=>⟨s2.trans (t1.trans t2),v2,_,rfl,?_⟩⟩
   rw[take_snoc hq,Aj]
   exact d2
  .rintro σ H' ⟨s2,v,x3,rfl,hv⟩
   rw[List.take_of_length_le (by omega)]at hv
   exact⟨_,rfl,k v H' s2 hv⟩
end
end FQ
namespace FQ
open PySem L2 FK
def jJ(K:PySem.W.Frag)(C:Addr):Sp:=fun vs H Q _=>∃(x lt ll:Addr)(z:V)(p:Nat)(S:aA)(y:Rat),vs=[.ref x,z]/\bY K C H x lt ll S/\aX p S/\bI K H z y/\Ft 280 y/\∀v H',aF H H'->Ot K H' v (fO (wl S) y)->Q v H'
def jz(K:PySem.W.Frag)(C:Addr):Sp:=fun vs H Q _=>∃(x lt ll:Addr)(z1 z2:V)(p:Nat)(S:aA)(a h:Rat),vs=[.ref x,z1,z2]/\bY K C H x lt ll S/\aX p S/\bI K H z1 a/\bI K H z2 h/\(0<=a/\a<=1/\Bd 280 a)/\eQ (F S a)/\eQ h/\Ft 280 (F S a+h)/\
 ∀v H',aF H H'->Ot K H' v (fO (wl S) (F S a+h))->Q v H'
section
variable {P:Program} {w:World} {K:PySem.W.Frag} {mg:Str->Option Value} {base:Heap} {aL aR C:Addr}
theorem Eu:aQ ["self","worth"] ["self","worth"] (aJ fU):=⟨rfl,rfl,rfl,by decide+kernel,rfl,by decide+kernel,by decide+kernel⟩
theorem zf{f:Addr}{fd:FuncData}(D:tZ K "point_at" "Taste.point_at" fU f fd)(CR:Cl P w K mg base "reached" 6 ["line","up"] (mW K))(TC:kY K C):bH P w K mg base dj 7 f fd ["self","worth"] (jJ K C):=by
 refine D.ok Eu (fun vs H Q E h=>?_) (fun cdv A0 outer s H vs Q E hr h=>?_)
 .obtain⟨x,lt,ll,z,p,S,y,rfl,_⟩:=h
  rfl
 .obtain⟨x,lt,ll,z,p,S,y,rfl,⟨⟨dx,h1⟩,_,⟨ls,h4,h5⟩⟩,ok,hz,fy,k⟩:=h
  refine⟨_,aB (aW (aO CR hr rfl (aj (zA (pv 0) rfl) (aj (pv 1) ak)))),?_⟩
  exact⟨_,rfl,x,C,dx,_,_,rfl,h1,TC.cl,TC.nL,rfl,_,rfl,ll,ls,z,wl S,y,rfl,.of h4,h5,hz,Om ok,fy,k⟩
theorem QM:aQ ["self","start","share"] ["self","start","share"] (aJ jV):=⟨rfl,rfl,rfl,by decide+kernel,rfl,by decide+kernel,by decide+kernel⟩
theorem KQ{f:Addr}{fd:FuncData}(D:tZ K "mark" "Taste.mark" jV f fd)(C4:Fe P w K mg base)(MU:Ml P w K mg base C "worth_up_to" 7 ["self","point"] (qF K C))(MP:Ml P w K mg base C "point_at" 7 ["self","worth"] (jJ K C))(T:Txt K mg aL aR)(TC:kY K C):
  bH P w K mg base dj 8 f fd ["self","start","share"] (jz K C):=by
 refine D.ok QM (fun vs H Q E h=>?_) (fun cdv A0 outer s H vs Q E hr h=>?_)
 .obtain⟨x,lt,ll,z1,z2,p,S,a,h,rfl,_⟩:=h
  rfl
 .obtain⟨x,lt,ll,z1,z2,p,S,a,h,rfl,ta,ok,h1,h2,⟨a0,a1,ab⟩,fF,fh,fy,k⟩:=h
  have hr1:aZ 1 _:=hr.mono (by decide)
  have hr3:aZ 3 _:=hr.mono (by decide)
  refine⟨_,au (bU (bV (aO C4.below hr1 rfl (aj (bD (v:= .ref aR) rfl T.right rfl) (aj (pv 1) ak)))) bN bc)
   (aB (aW (cV MP TC.cl hr (pv 0) (aj (aO C4.plus hr3 rfl (aj (cV MU TC.cl hr (pv 0) (aj (pv 1) ak)) (aj (pv 2) ak))) ak)))),?_⟩
  obtain⟨dx,hx⟩:=ta.ins
  refine⟨_,rfl,.ref aR,z1,1,a,rfl,T.r H,h1,eQ.one,Bd.fit ab a0 (by decide),_,rfl,nj (show ¬(1:Rat)<a by grind) ?_⟩
  refine⟨_,rfl,x,dx,_,rfl,hx,rfl,_,rfl,x,dx,_,rfl,hx,rfl,_,rfl,x,lt,ll,z1,p,S,a,rfl,ta,ok,h1,a0,a1,ab,fun v1 H1 s1 d1=>?_⟩
  refine⟨_,rfl,v1,z2,_,h,rfl,d1,h2.same s1,fF,fh,trivial,fun v2 H2 s2 d2=>?_⟩
  exact⟨x,lt,ll,v2,p,S,_,rfl,ta.same (s1.trans s2),ok,d2,fy,fun v3 H3 s3 d3=>k v3 H3 (s1.trans (s2.trans s3)) d3⟩
end
end FQ
namespace FQ
open PySem L2 FK
def bM(K:PySem.W.Frag)(C:Addr)(H:Hp)(x:V)(S:aA):Prop:=∃t lt ll p,x= .ref t/\bY K C H t lt ll S/\aX p S
theorem bM.same{K:PySem.W.Frag}{C:Addr}{H H':Hp}{x:V}{S:aA}(s:aF H H')(h:bM K C H x S):bM K C H' x S:=by
 obtain⟨t,lt,ll,p,e,h1,h2⟩:=h
 exact⟨t,lt,ll,p,e,h1.same s,h2⟩
def ym(K:PySem.W.Frag)(C:Addr):Sp:=fun vs H Q _=>∃(a:Addr)(xs:List V)(Ss:List aA),vs=[.ref a]/\cJ K H a xs/\Paired (bM K C H) xs Ss/\Q .non H
def iR(K:PySem.W.Frag)(C:Addr):Sp:=fun vs H Q _=>∃(a:Addr)(xs:List V)(Ss:List aA)(i j:Int),vs=[.ref a,.int i,.int j]/\cJ K H a xs/\Paired (bM K C H) xs Ss/\i<=xs.length/\xs.length<=j/\Q .non H
section
variable {P:Program} {w:World} {K:PySem.W.Frag} {mg:Str->Option Value} {base:Heap} {aL aR C:Addr}
theorem xZ:aQ ["tastes","taste"] ["tastes"] (aJ iJ):=⟨rfl,rfl,rfl,by decide+kernel,rfl,by decide+kernel,by decide+kernel⟩
theorem Em{f:Addr}{fd:FuncData}(D:bJ K mg "check_tastes" iJ ["tastes"] f fd)(T:Txt K mg aL aR)(IC:RK K C)(mgC:mg "Taste"=some (.ref C)):bH P w K mg base dj 1 f fd ["tastes"] (ym K C):=by
 refine D.fn.ok xZ (fun vs H Q E h=>?_) (fun cdv A outer s H vs Q E hr h=>?_)
 .obtain⟨a,xs,Ss,rfl,_⟩:=h
  rfl
 .obtain⟨a,xs,Ss,rfl,ha,hS,k⟩:=h
  refine⟨_,au (bU (cY (bV (lW (pv 0) rfl T.isi rfl T.list PyProof.Rows.boot_list))) bN bc)
   (aB (dB PassesOwn.never rfl (cu (pv 0)) (bz (i:=1) xZ.nd rfl (Or.inl rfl))
    (aB (bU (cY (bV (aV FT (by rfl) T.isi PyProof.Rows.boot_isinstance (aj (pv 1) (aj (bD (v:= .ref C) rfl mgC rfl) ak))))) bN bc)))),?_⟩
  refine⟨_,rfl,_,_,.sqL ha,sV _,_,rfl,dY ?_⟩
  refine⟨_,rfl,a,rfl,⟨_,ha⟩,?_⟩
  refine dh (K:=K) (a:=a) (xs:=xs) (fun i σ H'=>H'=H/\∃x1,σ=[some (.ref a),x1]) ⟨rfl,_,rfl⟩ (fun i σ H' _ h=>by rw[h.1];exact ha) ?_ ?_
  .rintro i x σ H' hx ⟨rfl,x1,rfl⟩
   obtain⟨S,hS',t,lt,ll,p,rfl,ta,ok⟩:=Paired.get1 hS i x hx
   obtain⟨dx,h1⟩:=ta.ins
   exact⟨_,rfl,t,C,dx,_,rfl,h1,IC,_,rfl,dY ⟨rfl,_,rfl⟩⟩
  .rintro σ H' ⟨rfl,x1,rfl⟩
   exact k
theorem Ir:aQ ["tastes","fewest","most"] ["tastes","fewest","most"] (aJ iI):=⟨rfl,rfl,rfl,by decide+kernel,rfl,by decide+kernel,by decide+kernel⟩
theorem El{f:Addr}{fd:FuncData}(D:bJ K mg "check_takers" iI ["tastes","fewest","most"] f fd)(CT:Cl P w K mg base "check_tastes" 1 ["tastes"] (ym K C))(T:Txt K mg aL aR):bH P w K mg base dj 2 f fd ["tastes","fewest","most"] (iR K C):=by
 refine D.fn.ok Ir (fun vs H Q E h=>?_) (fun cdv A outer s H vs Q E hr h=>?_)
 .obtain⟨a,xs,Ss,i,j,rfl,_⟩:=h
  rfl
 .obtain⟨a,xs,Ss,i,j,rfl,ha,hS,hi,hj,k⟩:=h
  refine⟨_,au (cz (aO CT hr rfl (aj (pv 0) ak)))
   (aB (bU (PW.pt (gB (aY gQ (aV aU (by rfl) T.len PySem.boot_len (aj (pv 0) ak)) (pv 1) (bx _)) (fJ (aY sZ (aV aU (by rfl) T.len PySem.boot_len (aj (pv 0) ak)) (pv 2) (bx _))))) bN bc)),?_⟩
  refine⟨_,rfl,a,xs,Ss,rfl,ha,hS,?_⟩
  refine⟨_,rfl,a,_,rfl,.inl ha,_,rfl,_,_,rfl,rfl,_,rfl,nj (by omega) ?_⟩
  refine⟨_,rfl,a,_,rfl,.inl ha,_,rfl,_,_,rfl,rfl,_,rfl,nj (by omega) ?_⟩
  exact k
end
end FQ
namespace FK
theorem xU(U:List Rat):∀{p a q:Rat×Rat}{L:List (Rat×Rat)}{i:Nat},(p::L)[i]? =some a->L[i]? =some q->eY U p (L.take (i+1))=eY U p (L.take i)++(mid U a q++[q])
 |p,a,q,[],i,_,h=>by cases h
 |p,a,q,r::L,0,ha,h=>by
  cases ha
  cases h
  show mid U p q++q::eY U q (L.take 0)=eY U p []++(mid U p q++[q])
  rw[List.take_zero]
  rfl
 |p,a,q,r::L,i+1,ha,h=>by
  have ih:=xU U (p:=r) (L:=L) (i:=i) (a:=a) (q:=q) ha h
  show mid U p r++r::eY U r (L.take (i+1))=(mid U p r++r::eY U r (L.take i))++(mid U a q++[q])
  rw[ih,List.append_assoc]
  rfl
theorem Hf{U:List Rat}{j:Nat}{u:Rat}(p q:Rat×Rat)(h:U[j]? =some u):mid (U.take (j+1)) p q=mid (U.take j) p q++(if p.2<u/\u<q.2 then[(pW p q u,u)]else[]):=by
 unfold mid
 rw[take_snoc h,List.filter_append,List.map_append]
 congr 1
 by_cases c:p.2<u/\u<q.2
 .rw[if_pos c,List.filter_cons_of_pos (by simp[c.1,c.2])]
  rfl
 .rw[if_neg c,List.filter_cons_of_neg (by simpa using c)]
  rfl
theorem vW(U:List Rat):∀(p:Rat×Rat)(L:List (Rat×Rat)),(eY U p L).length<=L.length*(U.length+1)
 |_,[]=>Nat.zero_le _
 |p,q::L=>by
  have ih:=vW U q L
  have f:=List.length_filter_le (fun u=>decide (p.2<u)&&decide (u<q.2)) U
  show(mid U p q++q::eY U q L).length<=(L.length+1)*(U.length+1)
  unfold mid
  rw[List.length_append,List.length_map,List.length_cons,Nat.add_mul,Nat.one_mul]
  omega
end FK
namespace FQ
open PySem L2 FK
def mV(K:PySem.W.Frag)(C:Addr):Sp:=fun vs H Q _=>∃(x lt ll:Addr)(S:aA),vs=[.ref x]/\bY K C H x lt ll S/\∀(l:Addr)(ts:List V),H l=none->Paired (bB K H) ts (wl S)->Q (.ref l) (upd H l (.lst ts))
def yl(K:PySem.W.Frag):Sp:=fun vs H Q _=>∃(a b:Addr)(xs us:List V)(p:Rat×Rat)(L:List (Rat×Rat))(U:List Rat),vs=[.ref a,.ref b]/\cJ K H a xs/\Paired (bB K H) xs (p::L)/\cJ K H b us/\Paired (bI K H) us U/\(∀c∈p::L,Ft 280 c.1/\Ft 280 c.2)/\(∀u∈U,Ft 280 u)/\fM (fun a b=>a.1<=b.1) p L/\L.length<=400/\U.length<=9/\
 ∀(l:Addr)(ys:List V)(H':Hp),aF H H'->H l=none->H' l=some (.lst ys)->Paired (bB K H') ys (p::eY U p L)->Q (.ref l) H'
abbrev Xw:List Str:=["line","ups","corners","k","up"]
theorem Mi:aQ Xw ["line","ups"] (aJ tK):=⟨rfl,rfl,rfl,by decide+kernel,rfl,by decide+kernel,by decide+kernel⟩
theorem Ge{R:Rat×Rat->Rat×Rat->Prop}:∀{p a q:Rat×Rat}{L:List (Rat×Rat)}{i:Nat},fM R p L->(p::L)[i]? =some a->L[i]? =some q->R a q
 |_,_,_,[],_,_,_,h=>by cases h
 |_,_,_,r::L,0,c,ha,h=>by
  cases ha
  cases h
  exact c.1
 |_,_,_,r::L,i+1,c,ha,h=>Ge (p:=r) (L:=L) (i:=i) c.2 ha h
section
variable {P:Program} {w:World} {K:PySem.W.Frag} {mg:Str->Option Value} {base:Heap} {aL aR C:Addr}
theorem Et:aQ ["self"] ["self"] (aJ gH):=⟨rfl,rfl,rfl,by decide+kernel,rfl,by decide+kernel,by decide+kernel⟩
theorem yZ{f:Addr}{fd:FuncData}(D:tZ K "corners" "Taste.corners" gH f fd)(T:Txt K mg aL aR)(TC:kY K C):bH P w K mg base dj 1 f fd ["self"] (mV K C):=by
 refine D.ok Et (fun vs H Q E h=>?_) (fun cdv A0 outer s H vs Q E hr h=>?_)
 .obtain⟨x,lt,ll,S,rfl,_⟩:=h
  rfl
 .obtain⟨x,lt,ll,S,rfl,ta,k⟩:=h
  refine⟨_,aB (aW (jE jP rfl T.list PyProof.Rows.boot_list (aj (zA (pv 0) rfl) ak))),?_⟩
  obtain⟨dx,hx⟩:=ta.ins
  obtain⟨ls,h4,h5⟩:=ta.line
  exact⟨_,rfl,x,C,dx,_,_,rfl,hx,TC.cl,TC.nL,rfl,ll,ls,rfl,.inl (.of h4),fun l hl=>k l ls hl h5⟩
theorem Ej{f:Addr}{fd:FuncData}(D:bJ K mg "parted" tK ["line","ups"] f fd)(CB:Cl P w K mg base "below" 1 ["one","other"] (dD K))(CC:Cl P w K mg base "crossing" 5 ["one","other","up"] (oA K))(T:Txt K mg aL aR):
  bH P w K mg base dj 6 f fd ["line","ups"] (yl K):=by
 refine D.fn.ok Mi (fun vs H Q E h=>?_) (fun cdv A outer s H vs Q E hr h=>?_)
 .obtain⟨a,b,xs,us,p,L,U,rfl,_⟩:=h
  rfl
 .obtain⟨a,b,xs,us,p,L,U,rfl,ha,pX,hb,pU,fc,fu,con,l4,u9,k⟩:=h
  have hr1:aZ 1 _:=hr.mono (by decide)
  have big:10000<=sizeLine:=by decide
  refine⟨_,au (aN (i:=2) Mi.nd rfl (Or.inl rfl) (pA rP (pv 0) rz (rE ao)))
   (au (dB PassesOwn.never rfl (qp rfl T.range (aj ao (aj (aV aU (by rfl) T.len PySem.boot_len (aj (pv 0) ak)) ak))) (bz (i:=3) Mi.nd rfl (Or.inl rfl))
    (au (dB PassesOwn.never rfl (cu (pv 1)) (bz (i:=4) Mi.nd rfl (Or.inl rfl))
     (aB (bU (PW.pt (jr (bV (aO CB hr1 rfl (aj (aD aK (aD aP (pv 0) (bj lV (pv 3) ao) (fun _ _=>rfl)) ao (fun _ _=>rfl)) (aj (pv 4) ak)))) (fX (bV (aO CB hr1 rfl (aj (pv 4) (aj (aD aK (aD aP (pv 0) (pv 3) (fun _ _=>rfl)) ao (fun _ _=>rfl)) ak)))))))
      (aB (cz (iY PySem.F.plainAttrs_list PySem.F.slot_list_append PySem.F.type_list_append di (pv 2) (aj (bC (aj (aO CC hr rfl (aj (aD aP (pv 0) (bj lV (pv 3) ao) (fun _ _=>rfl)) (aj (aD aP (pv 0) (pv 3) (fun _ _=>rfl)) (aj (pv 4) ak)))) (aj (pv 4) ak))) ak)))) bc)))
    (aB (cz (iY PySem.F.plainAttrs_list PySem.F.slot_list_append PySem.F.type_list_append di (pv 2) (aj (aD aP (pv 0) (pv 3) (fun _ _=>rfl)) ak))))))
   (aB (aW (pv 2)))),?_⟩
  have lX:=pX.length
  have lX':xs.length=L.length+1:=by rw[lX];rfl
  have lU:=pU.length
  obtain⟨x0,xt,rfl,hx0,hxt⟩:∃x0 xt,xs=x0::xt/\bB K H x0 p/\Paired (bB K H) xt L:=by
   cases pX with
   |cons h t=>exact⟨_,_,rfl,h,t⟩
  refine⟨_,rfl,_,rfl,a,_,rfl,ha,fun l0 hl0=>?_⟩
  have ec:oK (x0::xt) none (some 1)=[x0]:=by
   unfold oK
   rw[HT.sIx_none,show(some (1:Int))=some ((1:Nat):Int)from rfl,HT.sIx_nat,List.drop_zero,Nat.sub_zero,Nat.min_eq_left (by rw[lX'];omega)]
   rfl
  rw[ec]
  have s1:=aF.upd (o:= .lst [x0]) hl0
  refine⟨_,rfl,a,_,rfl,.inl (s1.seq ha),?_⟩
  refine⟨1,((L.length+1:Nat):Int),by rw[<-lX'],⟨by omega,by omega,by omega,by omega⟩,?_⟩
  refine jC (lo:=1) (n:=(((L.length+1:Nat):Int)-1).toNat) (fun i σ H1=>aF H H1/\∃(ys:List V)(y3 y4:Option V),σ=[some (.ref a),some (.ref b),some (.ref l0),y3,y4]/\H1 l0=some (.lst ys)/\Paired (bB K H1) ys (p::eY U p (L.take i)))
   ⟨s1,[x0],_,_,rfl,az,.cons (bB.same s1 hx0) .nil⟩ ?_ ?_
  .rintro i σ H1 hi ⟨u1,ys,y3,y4,rfl,u2,u3⟩
   have il:i<L.length:=by omega
   obtain⟨c,hc⟩:∃c,(p::L)[i]? =some c:=⟨_,List.getElem?_eq_getElem (by show i<L.length+1;omega)⟩
   obtain⟨q,hq⟩:∃q,L[i]? =some q:=⟨_,List.getElem?_eq_getElem il⟩
   obtain⟨vc,hvc⟩:∃v,(x0::xt)[i]? =some v:=⟨_,List.getElem?_eq_getElem (by omega)⟩
   obtain⟨vq,hvq⟩:∃v,(x0::xt)[i+1]? =some v:=⟨_,List.getElem?_eq_getElem (by omega)⟩
   have cc:bB K H vc c:=by
    obtain⟨c',e,h'⟩:=Paired.get1 (Paired.cons hx0 hxt) i vc hvc
    rw[hc]at e
    cases e
    exact h'
   have cq:bB K H vq q:=by
    obtain⟨c',e,h'⟩:=Paired.get1 (Paired.cons hx0 hxt) (i+1) vq hvq
    rw[show(p::L)[i+1]? =L[i]? from rfl,hq]at e
    cases e
    exact h'
   have ec0:(1:Int)+(i:Int)-1=((i:Nat):Int):=by omega
   have ec1:(1:Int)+(i:Int)=((i+1:Nat):Int):=by omega
   obtain⟨fc1,fc2⟩:=fc c (List.mem_of_getElem? hc)
   obtain⟨fq1,fq2⟩:=fc q (List.mem_cons_of_mem _ (List.mem_of_getElem? hq))
   have lcq:=Ge con hc hq
   have few1:=vW U p (L.take i)
   have tk:(L.take i).length<=L.length:=by rw[List.length_take];omega
   have mul1:(L.take i).length*(U.length+1)<=400*10:=Nat.mul_le_mul (by omega) (by omega)
   refine⟨_,rfl,b,rfl,⟨_,u1.seq hb⟩,?_⟩
   refine dh (K:=K) (a:=b) (xs:=us) (fun j σ H2=>aF H H2/\∃(zs:List V)(y4:Option V),σ=[some (.ref a),some (.ref b),some (.ref l0),some (.int (1+(i:Int))),y4]/\H2 l0=some (.lst zs)/\Paired (bB K H2) zs (p::(eY U p (L.take i)++mid (U.take j) c q)))
    ⟨u1,ys,_,rfl,u2,by rw[show mid (U.take 0) c q=[]from rfl,List.append_nil];exact u3⟩ (fun j σ H2 _ h=>h.1.seq hb) ?_ ?_
   .rintro j vu σ H2 hvu ⟨v1,zs,y4,rfl,v2,v3⟩
    obtain⟨u,hu,fvu⟩:=Paired.get1 pU j vu hvu
    have fu':=fu u (List.mem_of_getElem? hu)
    have ms:=Hf c q hu
    obtain⟨pc,ya,yb,rfl,hpc,hya,hyb⟩:=bB.same v1 cc
    obtain⟨pq,za,zb,rfl,hpq,hza,hzb⟩:=bB.same v1 cq
    have fvu2:=fvu.same v1
    have ml:(mid (U.take j) c q).length<=9:=by
     unfold mid
     rw[List.length_map]
     have:=List.length_filter_le (fun u=>decide (c.2<u)&&decide (u<q.2)) (U.take j)
     have tl:(U.take j).length<=U.length:=by rw[List.length_take];omega
     omega
    have zl:zs.length<=5000:=by
     rw[v3.length]
     show(eY U p (L.take i)++mid (U.take j) c q).length+1<=5000
     rw[List.length_append]
     omega
    refine⟨_,rfl,_,rfl,_,_,rfl,rfl,a,_,_,_,rfl,rfl,v1.seq ha,by rw[ec0];exact bZ hvc,pc,_,_,_,rfl,rfl,hpc,rfl,_,rfl,yb,vu,c.2,u,rfl,hyb,fvu2,fc2.fit,fu'.fit,_,rfl,?_⟩
    refine fH (fun d1=>?_) (fun d1=>?_)
    .have d1':c.2<u:=of_decide_eq_true d1
     refine⟨_,rfl,_,rfl,_,rfl,a,_,_,_,rfl,rfl,v1.seq ha,by rw[ec1];exact bZ hvq,pq,_,_,_,rfl,rfl,hpq,rfl,vu,zb,u,q.2,rfl,fvu2,hzb,fu'.fit,fq2.fit,_,rfl,?_⟩
     refine fH (fun d2=>?_) (fun d2=>?_)
     .have d2':u<q.2:=of_decide_eq_true d2
      rw[if_pos ⟨d1',d2'⟩]at ms
      refine⟨_,rfl,.inl ⟨rfl,_,.of v2⟩,_,rfl,_,rfl,_,_,rfl,rfl,a,_,_,_,rfl,rfl,v1.seq ha,by rw[ec0];exact bZ hvc,_,rfl,_,rfl,a,_,_,_,rfl,rfl,v1.seq ha,by rw[ec1];exact bZ hvq,_,rfl,.ref pc,.ref pq,vu,c,q,u,rfl,⟨pc,ya,yb,rfl,hpc,hya,hyb⟩,⟨pq,za,zb,rfl,hpq,hza,hzb⟩,fvu2,⟨fc1,fc2,fq1,fq2,fu'⟩,lcq,⟨by grind,by grind⟩,fun v5 H5 s5 d5=>?_⟩
      refine⟨_,rfl,(by show 2<=sizeLine;decide),fun t6 ht6=>?_⟩
      have s6:=aF.upd (o:= .tup [v5,vu]) ht6
      have s56:=s5.trans s6
      have v26:=s56 _ _ v2
      have k1:=cC.updL (o:= .lst (zs++[.ref t6])) v26
      refine⟨l0,zs,_,rfl,rfl,v26,by omega,(v1.trans s56).updN hl0,_,_,rfl,az,?_⟩
      rw[ms,<-List.append_assoc]
      exact Paired.app (xs:=zs) (ys:=p::(eY U p (L.take i)++mid (U.take j) c q)) (Paired.mapP v3 fun _ _ z=>bB.keep k1 (bB.same s56 z)) (.cons (bB.keep k1 ⟨t6,v5,vu,rfl,bw,d5.same s6,fvu2.same s56⟩) .nil)
     .rw[if_neg fun z=>d2 (decide_eq_true z.2),List.append_nil]at ms
      exact⟨v1,zs,_,rfl,v2,by rw[ms];exact v3⟩
    .rw[if_neg fun z=>d1 (decide_eq_true z.1),List.append_nil]at ms
     exact⟨v1,zs,_,rfl,v2,by rw[ms];exact v3⟩
   .rintro σ H2 ⟨v1,zs,y4,rfl,v2,v3⟩
    rw[show U.take us.length=U from List.take_of_length_le (by omega)]at v3
    have zl:zs.length<=5000:=by
     rw[v3.length]
     have ml:(mid U c q).length<=9:=by
      unfold mid
      rw[List.length_map]
      have:=List.length_filter_le (fun u=>decide (c.2<u)&&decide (u<q.2)) U
      omega
     show(eY U p (L.take i)++mid U c q).length+1<=5000
     rw[List.length_append]
     omega
    have k1:=cC.updL (o:= .lst (zs++[vq])) v2
    refine⟨_,rfl,.inl ⟨rfl,_,.of v2⟩,_,rfl,_,rfl,a,_,_,_,rfl,rfl,v1.seq ha,by rw[ec1];exact bZ hvq,l0,zs,_,rfl,rfl,v2,by omega,v1.updN hl0,_,_,_,rfl,az,?_⟩
    rw[xU U hc hq,<-List.append_assoc]
    exact Paired.app (xs:=zs) (ys:=p::(eY U p (L.take i)++mid U c q)) (Paired.mapP v3 fun _ _ z=>bB.keep k1 z) (.cons (bB.keep k1 (bB.same v1 cq)) .nil)
  .rintro σ H1 ⟨u1,ys,y3,y4,rfl,u2,u3⟩
   rw[List.take_of_length_le (by omega)]at u3
   exact⟨_,rfl,k l0 ys H1 u1 hl0 u2 u3⟩
end
end FQ
namespace FK
theorem fM.all{R:Rat×Rat->Rat×Rat->Prop}{P:Rat×Rat->Prop}(h:∀a b,R a b->P b):∀{p:Rat×Rat}{L:List (Rat×Rat)},fM R p L->∀c∈L,P c
 |_,[],_,_,z=>nomatch z
 |_,q::L,c,r,z=>by
  rcases List.mem_cons.mp z with y|y
  .rw[y]
   exact h _ _ c.1
  .exact fM.all h c.2 r y
theorem BL(U:List Rat):∀(p:Rat×Rat)(L:List (Rat×Rat)),∀c∈L,c∈eY U p L
 |_,[],_,z=>nomatch z
 |p,q::L,c,z=>by
  refine List.mem_append_right _ ?_
  rcases List.mem_cons.mp z with y|y
  .rw[y]
   exact List.mem_cons_self ..
  .exact List.mem_cons_of_mem _ (BL U q L c y)
theorem Cv:((2:Nat):Rat)=2:=rfl
theorem Iu{N:Nat}{e:Rat->Rat}{E:List (Rat->Rat)}{BQ Ba BX n:Nat}{a b:Rat×Rat}(s:Sg N e E BQ Ba BX a b)(n0:0<N)(x0:0<=b.1)(x1:b.1<=1)(y0:0<=b.2)(y2:b.2<=2)(lim:N*BQ*BX*2<2^n):Bd n b.1/\Bd n b.2/\∃D:Nat,0<D/\D<=N*BQ*BX/\Gr D b.1/\Gr D b.2:=by
 obtain⟨Q,k,m,q0,q1,k1,af,_⟩:=s.af
 obtain⟨G,g0,g1,i,hi⟩:=s.gq
 have ax:=af b.1 (Rat.le_of_lt s.lt) Rat.le_refl
 rw[<-s.q2]at ax
 have d0:0<N*Q*G:=Nat.mul_pos (Nat.mul_pos n0 q0) g0
 have d1:N*Q*G<=N*BQ*BX:=Nat.mul_le_mul (Nat.mul_le_mul_left _ q1) g1
 have gy:Gr (N*Q*G) b.2:=by
  refine⟨k*i+m*G,?_⟩
  rw[Rat.natCast_mul,Rat.natCast_mul,Rat.intCast_add,Rat.intCast_mul,Rat.intCast_mul,Rat.intCast_natCast,Rat.intCast_natCast]
  have e1:b.2*((N:Rat)*(Q:Rat)*(G:Rat))=(b.2*((N:Rat)*(Q:Rat)))*(G:Rat):=by grind
  rw[e1,ax,<-hi]
  grind
 have gx:Gr (N*Q*G) b.1:=Gr.up' ⟨i,hi⟩
 have l2:2*(N*Q*G)<2^n:=by omega
 have l1:N*Q*G<2^n:=by omega
 refine⟨gx.bd d0 x0 (m:=2) (by rw[Cv];grind) l2 l1,gy.bd d0 y0 (m:=2) (by rw[Cv];exact y2) l2 l1,N*Q*G,d0,d1,gx,gy⟩
end FK
namespace FQ
open PySem L2 FK
def IV(K:PySem.W.Frag)(C:Addr):Sp:=fun vs H Q _=>∃(a x lt ll:Addr)(xs:List V)(p:Nat)(S:aA)(e:Rat->Rat)(E0:List (Rat->Rat))(X:Rat)(BQ Ba BX BY:Nat)(L:List (Rat×Rat)),vs=[.ref a,.ref x]/\cJ K H a xs/\Paired (bB K H) xs ((0,0)::L)/\bY K C H x lt ll S/\aX p S/\Dm e X/\fM (Sg 1 e E0 BQ Ba BX) (0,0) L/\(((0,0)::L).getLast (List.cons_ne_nil _ _)).1=X/\1<=sf S e X/\(BX<=BY/\Ba*1000<=BY/\1000000*(Ba+BQ)<=BY/\1000000*BQ*BY*2<2^280/\0<BQ)/\L.length<=200/\
 ∀(l:Addr)(ys:List V)(H':Hp),aF H H'->H l=none->H' l=some (.lst ys)->Paired (bB K H') ys ((0,0)::Oe S L)->Q (.ref l) H'
abbrev Xv:List Str:=["line","taste","corners","starts","stops"]
theorem Io:aQ Xv ["line","taste"] (aJ gJ):=⟨rfl,rfl,rfl,by decide+kernel,rfl,by decide+kernel,by decide+kernel⟩
theorem Jv{S:aA}{p:Nat}(ok:aX p S):toS S (0,0)=(0,0):=by
 show((0:Rat),F S 0+0)=(0,0)
 rw[cX ok,Rat.add_zero]
theorem Ro{S:aA}{p:Nat}(ok:aX p S):Rn S (0,0)=(0,0):=by
 show((0:Rat),(fO (wl S) 0).getD 0)=(0,0)
 rw[wL ok]
section
variable {P:Program} {w:World} {K:PySem.W.Frag} {mg:Str->Option Value} {base:Heap} {aL aR C:Addr}
theorem KR{f:Addr}{fd:FuncData}(D:bJ K mg "next_end_line" gJ ["line","taste"] f fd)(CP:Cl P w K mg base "parted" 6 ["line","ups"] (yl K))(C4:Fe P w K mg base)(MCn:Ml P w K mg base C "corners" 1 ["self"] (mV K C))(MU:Ml P w K mg base C "worth_up_to" 7 ["self","point"] (qF K C))(MP:Ml P w K mg base C "point_at" 7 ["self","worth"] (jJ K C))(T:Txt K mg aL aR)(TC:kY K C):
  bH P w K mg base dj 8 f fd ["line","taste"] (IV K C):=by
 refine D.fn.ok Io (fun vs H Q E h=>?_) (fun cdv A outer s H vs Q E hr h=>?_)
 .obtain⟨a,x,lt,ll,xs,p,S,e,E0,X,BQ,Ba,BX,BY,L,rfl,_⟩:=h
  rfl
 .obtain⟨a,x,lt,ll,xs,p,S,e,E0,X,BQ,Ba,BX,BY,L,rfl,ha,pX,ta,ok,dm,con,last,top,⟨b1,b2,b3,lim,q0⟩,l2,k⟩:=h
  have hr1:aZ 1 _:=hr.mono (by decide)
  have hr3:aZ 3 _:=hr.mono (by decide)
  have hr6:aZ 6 _:=hr.mono (by decide)
  have big:10000<=sizeLine:=by decide
  refine⟨_,au (aN (i:=2) Io.nd rfl (Or.inl rfl) (zB MCn TC.cl hr1 (pv 1)))
   (au (aN (i:=3) Io.nd rfl (Or.inl rfl) (aO CP hr6 rfl (aj (pv 0) (aj (dC ["corner"] rfl (cD.plain rfl (by decide+kernel) (by decide+kernel) (by decide+kernel)) (cu (pv 2))
    (fun _=>bz (i:=0) (show[Str.ofString "corner"].Nodup by decide+kernel) rfl (Or.inl rfl)) (fun _=>cG) (fun _=>aD aK (pv 0) ao (fun _ _=>rfl))) ak))))
   (au (mU ["corner"] (i:=4) Io.nd rfl (Or.inl rfl) rfl (cD.free1 (F:=["taste"]) (js:=[1]) rfl (by decide+kernel) (by decide+kernel) rfl ⟨rfl,trivial⟩ rfl ⟨⟨rfl,rfl,.inl rfl⟩,trivial⟩) (cu (pv 3))
    (fun _=>bz (i:=0) (show[Str.ofString "corner",Str.ofString "taste"].Nodup by decide+kernel) rfl (Or.inl rfl)) (fun _=>cG)
    (fun _=>bC (aj (aD aK (pv 0) ao (fun _ _=>rfl)) (aj (aO C4.plus hr3 rfl (aj (cV MU TC.cl hr (pv 1) (aj (aD aK (pv 0) ao (fun _ _=>rfl)) ak)) (aj (aD aK (pv 0) ao (fun _ _=>rfl)) ak))) ak))))
   (au (aN (i:=4) Io.nd rfl (Or.inl rfl) (aO CP hr6 rfl (aj (pv 4) (aj (dC ["corner"] rfl (cD.plain rfl (by decide+kernel) (by decide+kernel) (by decide+kernel)) (cu (pv 2))
    (fun _=>bz (i:=0) (show[Str.ofString "corner"].Nodup by decide+kernel) rfl (Or.inl rfl)) (fun _=>cG) (fun _=>aD aK (pv 0) ao (fun _ _=>rfl))) ak))))
   (aB (aW (dC ["corner"] rfl (cD.free1 (F:=["taste"]) (js:=[1]) rfl (by decide+kernel) (by decide+kernel) rfl ⟨rfl,trivial⟩ rfl ⟨⟨rfl,rfl,.inl rfl⟩,trivial⟩) (cu (pv 4))
    (fun _=>bz (i:=0) (show[Str.ofString "corner",Str.ofString "taste"].Nodup by decide+kernel) rfl (Or.inl rfl)) (fun _=>xT (cY (bV (aO C4.below hr1 rfl (aj (bC (aj ao (aj ao ak))) (aj (aD aK (pv 0) ao (fun _ _=>rfl)) ak))))))
    (fun _=>bC (aj (aD aK (pv 0) ao (fun _ _=>rfl)) (aj (cV MP TC.cl hr (pv 1) (aj (aD aK (pv 0) ao (fun _ _=>rfl)) ak)) ak))))))))),?_⟩
  obtain⟨X',dm',xX,one,cN,lN,wn,cS,⟨N,n0,n6,cP⟩,few⟩:=stage ok dm con last top b1 b2 b3
  have le1:=dm.le1
  have wlL:(wl S).length=S.length+1:=gO S
  have sl:=ok.len
  have endsL:(ends S).length=S.length+1:=by unfold ends;rw[List.length_map,wlL]
  have lvlsL:(dZ S).length=S.length+1:=by unfold dZ;rw[List.length_map,wlL]
  have bqy:1*BQ*BY*2<2^280:=by
   have:1*BQ*BY*2<=1000000*BQ*BY*2:=Nat.mul_le_mul_right _ (Nat.mul_le_mul_right _ (Nat.mul_le_mul_right _ (by decide)))
   omega
  have bqx:1*BQ*BX*2<2^280:=by
   have:1*BQ*BX*2<=1*BQ*BY*2:=Nat.mul_le_mul_right _ (Nat.mul_le_mul_left _ b1)
   omega
  have bqn:N*BQ*BY*2<2^280:=by
   have:N*BQ*BY*2<=1000000*BQ*BY*2:=Nat.mul_le_mul_right _ (Nat.mul_le_mul_right _ (Nat.mul_le_mul_right _ n6))
   omega
  have z250:Ft 280 (0:Rat):=⟨Rat.le_refl,by decide+kernel,by decide+kernel⟩
  have sglt:∀{M:Nat}{f:Rat->Rat}{E':List (Rat->Rat)}{A B C:Nat}(a b:Rat×Rat),Sg M f E' A B C a b->a.1<b.1:=fun _ _ s=>s.lt
  have conB:=fM.bnd (X:=X) sglt con Rat.le_refl (by rw[last];exact Rat.le_refl)
  have ft0:∀c∈(0,0)::L,Ft 280 c.1/\Ft 280 c.2:=fun c hc=>by
   rcases List.mem_cons.mp hc with z|z
   .rw[z]
    exact⟨z250,z250⟩
   .refine fM.all (P:=fun c=>Ft 280 c.1/\Ft 280 c.2) (fun a b h=>?_) conB c z
    have lt:=h.1.lt
    have x0:0<=b.1:=by have:=h.2.1;grind
    have w:=dm.win b.1 x0 h.2.2
    rw[<-h.1.q2]at w
    obtain⟨g1,g2,_⟩:=Iu h.1 (by decide) x0 (by have:=h.2.2;grind) w.1 (by grind) bqx
    exact⟨⟨x0,g1⟩,⟨w.1,g2⟩⟩
  have ftU:∀(i:Nat)(z:Rat×Rat),(wl S)[i]? =some z->Ft 280 z.1/\Ft 280 z.2:=fun i z h=>by
   obtain⟨il,rfl⟩:=fL ok h
   exact⟨⟨gD ok i,(jR ok i).mono (by decide)⟩,⟨ie ok _,(Bb ok i).mono (by decide)⟩⟩
  have ftE:∀u∈ends S,Ft 280 u:=fun u hu=>by
   obtain⟨z,hz,rfl⟩:=List.mem_map.mp hu
   obtain⟨i,hi⟩:=List.mem_iff_getElem?.mp hz
   exact(ftU i z hi).1
  have ftV:∀u∈dZ S,Ft 280 u:=fun u hu=>by
   obtain⟨z,hz,rfl⟩:=List.mem_map.mp hu
   obtain⟨i,hi⟩:=List.mem_iff_getElem?.mp hz
   exact(ftU i z hi).2
  obtain⟨dx,hx⟩:=ta.ins
  refine⟨_,rfl,x,dx,_,rfl,hx,rfl,x,lt,ll,S,rfl,ta,fun lc ts hlc pc=>?_⟩
  have s1:=aF.upd (o:= .lst ts) hlc
  have ltS:ts.length=S.length+1:=by rw[pc.length,wlL]
  have pc1:Paired (bB K (upd H lc (.lst ts))) ts (wl S):=Paired.mapP pc fun _ _ z=>bB.same s1 z
  refine⟨_,rfl,_,rfl,lc,rfl,⟨_,dW⟩,fun D1 hD1=>?_⟩
  refine cL (K:=K) (a:=lc) (D:=D1) (xs:=ts) (fun j ys σ H2=>aF (upd H lc (.lst ts)) H2/\H2 D1=some (.lst ys)/\Paired (bI K H2) ys ((ends S).take j)/\j<=ts.length/\∃x0,σ=[x0])
   (by omega) ⟨aF.upd hD1,az,.nil,by omega,_,rfl⟩ ?_ ?_ ?_
  .rintro j ys σ H2 _ ⟨u1,u2,u3,u4,_⟩
   refine⟨.of (u1 _ _ az),u2,?_⟩
   rw[u3.length,List.length_take]
   omega
  .rintro j y ys σ H2 hy ⟨u1,u2,u3,u4,x0,rfl⟩ cc
   obtain⟨z,hz,pz,ya,yb,rfl,hpz,hya,hyb⟩:=Paired.get1 pc1 j y hy
   have k1:=cC.updL (o:= .lst (ys++[ya])) u2
   refine⟨_,rfl,pz,_,_,_,rfl,rfl,u1.sqT hpz,rfl,u2,u1.updN hD1,az,?_,by have:=(List.getElem?_eq_some_iff.mp hy).1;omega,_,rfl⟩
   have e1:(ends S)[j]? =some z.1:=by
    show((wl S).map _)[j]? =_
    rw[List.getElem?_map,hz]
    rfl
   rw[take_snoc e1]
   exact Paired.app (Paired.mapP u3 fun _ _ z=>bI.keep k1 z) (.cons (bI.keep k1 (bI.same u1 hya)) .nil)
  rintro us σ H2 ⟨u1,u2,u3,u4,_⟩
  rw[List.take_of_length_le (by omega)]at u3
  have s2:=s1.trans u1
  refine⟨a,D1,xs,us,(0,0),L,ends S,rfl,s2.seq ha,Paired.mapP pX fun _ _ z=>bB.same s2 z,.of u2,u3,ft0,ftE,fM.imp (fun a b h=>Rat.le_of_lt h.lt) con,by omega,by omega,fun l3 ys3 H3 s3 hl3 h3 p3=>?_⟩
  have s13:=s2.trans s3
  have fewS:=vW (ends S) (0,0) L
  have fewS':(eY (ends S) (0,0) L).length<=L.length+9:=by
   have:=rJ (ends S) (fM.imp (fun _ _ h=>h.le) con)
   have f1:=List.length_filter_le (fun u=>decide (((0,0):Rat×Rat).2<u)) (ends S)
   omega
  have l3':ys3.length=(eY (ends S) (0,0) L).length+1:=by rw[p3.length];rfl
  have ta3:=ta.same s13
  have inS:∀c∈(0,0)::eY (ends S) (0,0) L,0<=c.1/\c.1<=X/\0<=c.2/\c.2<=1/\Bd 280 c.1/\Bd 280 c.2/\∃Dd:Nat,0<Dd/\Dd<=1*BQ*BY/\Gr Dd c.2:=fun c hc=>by
   rcases List.mem_cons.mp hc with z|z
   .rw[z]
    have bq:0<1*BQ*BY:=by rw[Nat.one_mul];exact Nat.mul_pos q0 (by omega)
    exact⟨Rat.le_refl,Rat.le_of_lt dm.pos,Rat.le_refl,by decide+kernel,z250.2,z250.2,1,by decide,bq,Gr.zero 1⟩
   .refine fM.all (P:=fun c=>0<=c.1/\c.1<=X/\0<=c.2/\c.2<=1/\Bd 280 c.1/\Bd 280 c.2/\∃Dd:Nat,0<Dd/\Dd<=1*BQ*BY/\Gr Dd c.2) (fun a b h=>?_) cS c z
    have lt:=h.1.1.lt
    have x0:0<=b.1:=by have:=h.2.1;grind
    have w:=dm.win b.1 x0 h.2.2
    rw[<-h.1.1.q2]at w
    obtain⟨g1,g2,Dd,g3,g4,_,g6⟩:=Iu h.1.1 (by decide) x0 (by have:=h.2.2;grind) w.1 (by grind) bqy
    exact⟨x0,h.2.2,w.1,w.2,g1,g2,Dd,g3,g4,g6⟩
  refine⟨_,rfl,l3,rfl,⟨_,.of h3⟩,fun D2 hD2=>?_⟩
  refine cL (K:=K) (a:=l3) (D:=D2) (xs:=ys3) (fun j ys σ H4=>aF H3 H4/\H4 D2=some (.lst ys)/\Paired (bB K H4) ys ((((0,0)::eY (ends S) (0,0) L).map (toS S)).take j)/\j<=ys3.length/\∃x0,σ=[x0,some (.ref x)])
   (by omega) ⟨aF.upd hD2,az,.nil,by omega,_,rfl⟩ ?_ ?_ ?_
  .rintro j ys σ H4 _ ⟨v1,v2,v3,v4,_⟩
   refine⟨.of (v1 _ _ h3),v2,?_⟩
   rw[v3.length,List.length_take]
   omega
  .rintro j y ys σ H4 hy ⟨v1,v2,v3,v4,x0,rfl⟩ cc
   obtain⟨c,hc,pz,ya,yb,rfl,hpz,hya,hyb⟩:=Paired.get1 p3 j y hy
   obtain⟨i1,i2,i3,i4,i5,i6,Dd,d0,d1,dg⟩:=inS c (List.mem_of_getElem? hc)
   have ta4:=ta3.same v1
   obtain⟨dx4,hx4⟩:=ta4.ins
   have hpz4:=v1.sqT hpz
   refine⟨_,rfl,pz,_,_,_,rfl,rfl,hpz4,rfl,_,rfl,x,dx4,_,rfl,hx4,rfl,_,rfl,pz,_,_,_,rfl,rfl,hpz4,rfl,x,lt,ll,yb,p,S,c.2,rfl,ta4,ok,hyb.same v1,i3,i4,i6,fun v5 H5 s5 d5=>?_⟩
   have fF:Bd 1990 (F S c.2):=Fd ok dg d0 i4 (Nat.lt_of_lt_of_le (show Dd*1000000<2^280*2^30 by
    have h1:Dd*1000000<=(1*BQ*BY)*2^30:=Nat.mul_le_mul d1 (by decide)
    have h2:(1*BQ*BY)*2^30<2^280*2^30:=Nat.mul_lt_mul_of_pos_right (Nat.lt_of_le_of_lt (Nat.le_mul_of_pos_right _ (by decide)) bqy) (Nat.two_pow_pos 30)
    exact Nat.lt_of_le_of_lt h1 h2) (by rw[<-Nat.pow_add];exact Nat.pow_le_pow_right (by decide) (by decide)))
   have v15:=v1.trans s5
   refine⟨_,rfl,pz,_,_,_,rfl,rfl,v15.sqT hpz,rfl,v5,ya,_,c.1,rfl,d5,hya.same v15,⟨ie ok _,fF⟩,Bd.fit i5 i1 (by decide),trivial,fun v6 H6 s6 d6=>?_⟩
   refine⟨(by show 2<=sizeLine;decide),fun t7 ht7=>?_⟩
   have s7:=aF.upd (o:= .tup [ya,v6]) ht7
   have v16:=v15.trans (s6.trans s7)
   have v27:=(s5.trans (s6.trans s7)) _ _ v2
   have k1:=cC.updL (o:= .lst (ys++[.ref t7])) v27
   refine⟨v27,v16.updN hD2,az,?_,by have:=(List.getElem?_eq_some_iff.mp hy).1;omega,_,rfl⟩
   have e1:(((0,0)::eY (ends S) (0,0) L).map (toS S))[j]? =some (toS S c):=by rw[List.getElem?_map,hc];rfl
   rw[take_snoc e1]
   exact Paired.app (Paired.mapP v3 fun _ _ z=>bB.keep k1 (bB.same (s5.trans (s6.trans s7)) z)) (.cons (bB.keep k1 ⟨t7,ya,v6,rfl,bw,hya.same v16,d6.same s7⟩) .nil)
  rintro zs4 σ H4 ⟨v1,v2,v3,v4,_⟩
  rw[List.take_of_length_le (by rw[List.length_map];show _+1<=_;omega),List.map_cons,Jv ok]at v3
  have s14:=s13.trans v1
  have hlc4:=(s3.trans v1) _ _ (u1 _ _ (az (H:=H) (a:=lc) (o:= .lst ts)))
  have pc4:Paired (bB K H4) ts (wl S):=Paired.mapP pc fun _ _ z=>bB.same s14 z
  refine⟨_,rfl,_,rfl,lc,rfl,⟨_,.of hlc4⟩,fun D3 hD3=>?_⟩
  refine cL (K:=K) (a:=lc) (D:=D3) (xs:=ts) (fun j ys σ H2=>aF H4 H2/\H2 D3=some (.lst ys)/\Paired (bI K H2) ys ((dZ S).take j)/\j<=ts.length/\∃x0,σ=[x0])
   (by omega) ⟨aF.upd hD3,az,.nil,by omega,_,rfl⟩ ?_ ?_ ?_
  .rintro j ys σ H2 _ ⟨u1,u2,u3,u4,_⟩
   refine⟨.of (u1 _ _ hlc4),u2,?_⟩
   rw[u3.length,List.length_take]
   omega
  .rintro j y ys σ H2 hy ⟨u1,u2,u3,u4,x0,rfl⟩ cc
   obtain⟨z,hz,pz,ya,yb,rfl,hpz,hya,hyb⟩:=Paired.get1 pc4 j y hy
   have k1:=cC.updL (o:= .lst (ys++[yb])) u2
   refine⟨_,rfl,pz,_,_,_,rfl,rfl,u1.sqT hpz,rfl,u2,u1.updN hD3,az,?_,by have:=(List.getElem?_eq_some_iff.mp hy).1;omega,_,rfl⟩
   have e1:(dZ S)[j]? =some z.2:=by
    show((wl S).map _)[j]? =_
    rw[List.getElem?_map,hz]
    rfl
   rw[take_snoc e1]
   exact Paired.app (Paired.mapP u3 fun _ _ z=>bI.keep k1 z) (.cons (bI.keep k1 (bI.same u1 hyb)) .nil)
  rintro us5 σ H5 ⟨w1,w2,w3,w4,_⟩
  rw[List.take_of_length_le (by omega)]at w3
  have s15:=s14.trans w1
  have fewP:(eY (dZ S) (0,0) ((eY (ends S) (0,0) L).map (toS S))).length<=400:=by omega
  have inP:∀c∈(0,0)::eY (dZ S) (0,0) ((eY (ends S) (0,0) L).map (toS S)),Ft 280 c.1/\Ft 280 c.2:=fun c hc=>by
   rcases List.mem_cons.mp hc with z|z
   .rw[z]
    exact⟨z250,z250⟩
   .refine fM.all (P:=fun c=>Ft 280 c.1/\Ft 280 c.2) (fun a b h=>?_) cP c z
    have lt:=h.1.1.lt
    have x0:0<=b.1:=by have:=h.2.1;grind
    have w:=dm.win b.1 x0 h.2.2
    have f0:=ie ok (e b.1)
    have f1:=qR ok w.2
    have xX:=h.2.2
    have y0:0<=b.2:=by rw[h.1.1.q2];unfold sf;grind
    have y2:b.2<=2:=by rw[h.1.1.q2];unfold sf;grind
    obtain⟨g1,g2,_⟩:=Iu h.1.1 n0 x0 (by grind) y0 y2 bqn
    exact⟨⟨x0,g1⟩,⟨y0,g2⟩⟩
  have inP0:∀c∈(0,0)::(eY (ends S) (0,0) L).map (toS S),Ft 280 c.1/\Ft 280 c.2:=fun c hc=>by
   rcases List.mem_cons.mp hc with z|z
   .rw[z]
    exact⟨z250,z250⟩
   .exact inP c (List.mem_cons_of_mem _ (BL _ _ _ c z))
  have conS:fM (fun a b=>a.1<=b.1) (0,0) ((eY (ends S) (0,0) L).map (toS S)):=by
   have:=fM.map (f:=toS S) (R':=fun a b=>a.1<=b.1) (fun a b h=>Rat.le_of_lt h.1.1.lt) cS
   rw[Jv ok]at this
   exact this
  refine⟨D2,D3,zs4,us5,(0,0),(eY (ends S) (0,0) L).map (toS S),dZ S,rfl,.of (w1 _ _ v2),Paired.mapP v3 fun _ _ z=>bB.same w1 z,.of w2,w3,inP0,ftV,conS,by rw[List.length_map];omega,by omega,fun l6 ys6 H6 s6 hl6 h6 p6=>?_⟩
  have s16:=s15.trans s6
  have ta6:=ta.same s16
  have l6':ys6.length=(eY (dZ S) (0,0) ((eY (ends S) (0,0) L).map (toS S))).length+1:=by rw[p6.length];rfl
  refine⟨_,rfl,l6,rfl,⟨_,.of h6⟩,fun D7 hD7=>?_⟩
  refine cL (K:=K) (a:=l6) (D:=D7) (xs:=ys6) (fun j ys σ H7=>aF H6 H7/\H7 D7=some (.lst ys)/\Paired (bB K H7) ys ((fK (((0,0)::eY (dZ S) (0,0) ((eY (ends S) (0,0) L).map (toS S))).take j)).map (Rn S))/\ys.length<=j/\∃x0,σ=[x0,some (.ref x)])
   (by omega) ⟨aF.upd hD7,az,.nil,Nat.le_refl _,_,rfl⟩ ?_ ?_ ?_
  .rintro j ys σ H7 _ ⟨q1,q2,q3,q4,_⟩
   exact⟨.of (q1 _ _ h6),q2,q4⟩
  .rintro j y ys σ H7 hy ⟨q1,q2,q3,q4,x0,rfl⟩ cc
   obtain⟨c,hc,pz,ya,yb,rfl,hpz,hya,hyb⟩:=Paired.get1 p6 j y hy
   obtain⟨f1,f2⟩:=inP c (List.mem_of_getElem? hc)
   have up1:fK (((0,0)::eY (dZ S) (0,0) ((eY (ends S) (0,0) L).map (toS S))).take (j+1))=fK (((0,0)::eY (dZ S) (0,0) ((eY (ends S) (0,0) L).map (toS S))).take j)++(if c.2<=1 then[c]else[]):=by
    rw[take_snoc hc]
    unfold fK
    rw[List.filter_append]
    congr 1
    by_cases z:c.2<=1
    .rw[if_pos z,List.filter_cons_of_pos (by simpa using z)]
     rfl
    .rw[if_neg z,List.filter_cons_of_neg (by simpa using z)]
     rfl
   refine⟨(by show 2<=sizeLine;decide),fun t8 ht8=>?_⟩
   have s8:=aF.upd (o:= .tup [.int 1,.int 1]) ht8
   have q18:=q1.trans s8
   have oneq:bI K (upd H7 t8 (.tup [.int 1,.int 1])) (.ref t8) 1:= .of bw rfl rfl
   refine⟨_,rfl,pz,_,_,_,rfl,rfl,q18.sqT hpz,rfl,.ref t8,yb,1,c.2,rfl,oneq,hyb.same q18,eQ.one,f2.fit,_,rfl,?_⟩
   have q28:=s8 _ _ q2
   refine fH (fun d=>?_) (fun d=>?_)
   .have d':c.2<=1:=by
     by_cases z:1<c.2
     .rw[decide_eq_true z]at d
      cases d
     .grind
    rw[if_pos d']at up1
    have ta8:=ta6.same q18
    obtain⟨dx8,hx8⟩:=ta8.ins
    obtain⟨t,rt,_⟩:=nJ ok f2.1 d'
    refine⟨_,rfl,pz,_,_,_,rfl,rfl,q18.sqT hpz,rfl,_,rfl,x,dx8,_,rfl,hx8,rfl,_,rfl,pz,_,_,_,rfl,rfl,q18.sqT hpz,rfl,x,lt,ll,yb,p,S,c.2,rfl,ta8,ok,hyb.same q18,f2,fun v9 H9 s9 d9=>?_⟩
    rw[rt]at d9
    have d9':bI K H9 v9 t:=d9
    refine⟨(by show 2<=sizeLine;decide),fun tA htA=>?_⟩
    have sA:=aF.upd (o:= .tup [ya,v9]) htA
    have q9:=s9.trans sA
    have q2A:=q9 _ _ q28
    have k1:=cC.updL (o:= .lst (ys++[.ref tA])) q2A
    refine⟨q2A,(q18.trans q9).updN hD7,az,?_,by rw[List.length_append];exact Nat.add_le_add_right q4 1,_,rfl⟩
    rw[up1,List.map_append]
    refine Paired.app (Paired.mapP q3 fun _ _ z=>bB.keep k1 (bB.same (s8.trans q9) z)) (.cons (bB.keep k1 ⟨tA,ya,v9,rfl,bw,hya.same (q18.trans q9),?_⟩) .nil)
    show bI K _ v9 ((fO (wl S) c.2).getD 0)
    rw[rt]
    exact d9'.same sA
   .have d':¬c.2<=1:=fun z=>d (by rw[decide_eq_false (show ¬ 1<c.2 by grind)];rfl)
    rw[if_neg d',List.append_nil]at up1
    exact⟨q18,q28,by rw[up1];exact Paired.mapP q3 fun _ _ z=>bB.same s8 z,by omega,_,rfl⟩
  rintro ys7 σ H7 ⟨q1,q2,q3,q4,_⟩
  rw[List.take_of_length_le (by show _+1<=_;omega)]at q3
  have eu:fK ((0,0)::eY (dZ S) (0,0) ((eY (ends S) (0,0) L).map (toS S)))=(0,0)::fK (eY (dZ S) (0,0) ((eY (ends S) (0,0) L).map (toS S))):=List.filter_cons_of_pos (by decide+kernel)
  rw[eu,List.map_cons,Ro ok]at q3
  exact k D7 ys7 H7 (s16.trans q1) (s16.free hD7) q2 q3
end
end FQ
namespace FQ
open PySem L2 FK
def yg(K:PySem.W.Frag)(C:Addr):Sp:=fun vs H Q _=>∃(b:Addr)(xs:List V)(Ss:List aA)(n:Nat),vs=[.ref b]/\cJ K H b xs/\Paired (bM K C H) xs Ss/\xs.length=n/\1<=n/\n<=6/\
 ∀(v:V)(X:Rat)(H':Hp),aF H H'->bI K H' v X->CQ Ss n X->Q v H'
theorem Mg:aQ ["tastes","line","taste"] ["tastes"] (aJ iK):=⟨rfl,rfl,rfl,by decide+kernel,rfl,by decide+kernel,by decide+kernel⟩
theorem JV{xs:List V}{v:V}(h:xs[xs.length-1]? =some v)(h0:0<xs.length):qT xs (-1)=some v:=by
 unfold qT Du
 rw[if_neg (by decide),if_pos (by omega)]
 show xs[((-1:Int)+(xs.length:Int)).toNat]? =some v
 rw[show((-1:Int)+(xs.length:Int)).toNat=xs.length-1 by omega]
 exact h
section
variable {P:Program} {w:World} {K:PySem.W.Frag} {mg:Str->Option Value} {base:Heap} {aL aR C:Addr}
theorem Eg{f:Addr}{fd:FuncData}(D:bJ K mg "common_worth" iK ["tastes"] f fd)(CN:Cl P w K mg base "next_end_line" 8 ["line","taste"] (IV K C))(T:Txt K mg aL aR):
  bH P w K mg base dj 9 f fd ["tastes"] (yg K C):=by
 refine D.fn.ok Mg (fun vs H Q E h=>?_) (fun cdv A outer s H vs Q E hr h=>?_)
 .obtain⟨b,xs,Ss,n,rfl,_⟩:=h
  rfl
 .obtain⟨b,xs,Ss,n,rfl,hb,pT,lx,n1,n6,k⟩:=h
  refine⟨_,au (aN (i:=1) Mg.nd rfl (Or.inl rfl) (cA (aj (bC (aj (bC (aj ao (aj ao ak))) (aj (bD (v:= .ref aL) rfl T.left rfl) ak))) (aj (bC (aj (bC (aj ao (aj ao ak))) (aj (bD (v:= .ref aL) rfl T.left rfl) ak))) ak))))
   (au (dB PassesOwn.never rfl (cu (pv 0)) (bz (i:=2) Mg.nd rfl (Or.inl rfl)) (aB (aN (i:=1) Mg.nd rfl (Or.inl rfl) (aO CN hr rfl (aj (pv 1) (aj (pv 2) ak))))))
   (aB (aW (aD aK (aD aP (pv 1) (By wI ao) (fun _ _=>rfl)) ao (fun _ _=>rfl))))),?_⟩
  refine⟨(by show 2<=sizeLine;decide),fun t1 ht1=>⟨(by show 2<=sizeLine;decide),fun t2 ht2=>?_⟩⟩
  have s1:=aF.upd (o:= .tup [.int 0,.int 1]) ht1
  have s2:=aF.upd (o:= .tup [.ref t1,.ref aL]) ht2
  refine⟨(by show 2<=sizeLine;decide),fun t3 ht3=>⟨(by show 2<=sizeLine;decide),fun t4 ht4=>?_⟩⟩
  have s3:=aF.upd (o:= .tup [.int 1,.int 1]) ht3
  have s4:=aF.upd (o:= .tup [.ref t3,.ref aL]) ht4
  refine⟨(by show 2<=sizeLine;decide),fun l0 hl0=>?_⟩
  have s5:=aF.upd (o:= .lst [.ref t2,.ref t4]) hl0
  have s15:=s1.trans (s2.trans (s3.trans (s4.trans s5)))
  have c1:bB K (upd (upd (upd (upd (upd H t1 (.tup [.int 0,.int 1])) t2 (.tup [.ref t1,.ref aL])) t3 (.tup [.int 1,.int 1])) t4 (.tup [.ref t3,.ref aL])) l0 (.lst [.ref t2,.ref t4])) (.ref t2) (0,0):=bB.same (s3.trans (s4.trans s5)) ⟨t2,.ref t1,.ref aL,rfl,bw,bI.same s2 (.of bw rfl rfl),T.l _⟩
  have c2:bB K (upd (upd (upd (upd (upd H t1 (.tup [.int 0,.int 1])) t2 (.tup [.ref t1,.ref aL])) t3 (.tup [.int 1,.int 1])) t4 (.tup [.ref t3,.ref aL])) l0 (.lst [.ref t2,.ref t4])) (.ref t4) (1,0):=bB.same s5 ⟨t4,.ref t3,.ref aL,rfl,bw,bI.same s4 (.of bw rfl rfl),T.l _⟩
  refine⟨_,rfl,b,rfl,⟨_,s15.seq hb⟩,?_⟩
  refine dh (K:=K) (a:=b) (xs:=xs) (fun i σ H1=>aF H H1/\∃(l:Addr)(ys:List V)(L:List (Rat×Rat))(X:Rat)(y2:Option V),σ=[some (.ref b),some (.ref l),y2]/\H1 l=some (.lst ys)/\Paired (bB K H1) ys ((0,0)::L)/\Cz Ss i L X)
   ⟨s15,l0,_,[(1,0)],1,_,rfl,az,.cons c1 (.cons c2 .nil),yJ Ss⟩ (fun i σ H1 _ h=>h.1.seq hb) ?_ ?_
  .rintro i v σ H1 hv ⟨u1,l,ys,L,X,y2,rfl,u2,u3,ci⟩
   have il:=(List.getElem?_eq_some_iff.mp hv).1
   obtain⟨S,hS,t,lt,ll,p,rfl,ta,ok⟩:=Paired.get1 pT i v hv
   obtain⟨X',ci'⟩:=Df ci (by omega) hS ok
   obtain⟨l1,l2,l3,l4,l5⟩:=wW (i:=i) (by omega)
   refine⟨_,rfl,_,rfl,l,t,lt,ll,ys,p,S,_,_,X,_,_,_,(i+2)*1000000^(i+1),L,rfl,.of u2,u3,ta.same u1,ok,ci.dm,ci.con,ci.last,wX ci ok,⟨l1,l2,l3,l4,l5⟩,by have:=ci.few;omega,fun l' ys' H2 s2' hl' h2 p2=>?_⟩
   exact⟨u1.trans s2',l',ys',Oe S L,X',_,rfl,h2,p2,ci'⟩
  .rintro σ H1 ⟨u1,l,ys,L,X,y2,rfl,u2,u3,ci⟩
   rw[lx]at ci
   have ly:=u3.length
   have ly':ys.length=L.length+1:=by rw[ly];rfl
   obtain⟨v,hv⟩:∃v,ys[ys.length-1]? =some v:=⟨_,List.getElem?_eq_getElem (by omega)⟩
   obtain⟨c,hc,pz,ya,yb,rfl,hpz,hya,hyb⟩:=Paired.get1 u3 _ _ hv
   have ec:c.1=X:=by
    rw[<-ci.last,List.getLast_eq_getElem]
    have:=List.getElem?_eq_some_iff.mp hc
    obtain⟨h1,h2⟩:=this
    rw[<-h2]
    congr 2
    omega
   rw[ec]at hya
   refine⟨_,rfl,_,rfl,l,_,_,_,rfl,rfl,.of u2,JV hv (by omega),pz,_,_,_,rfl,rfl,hpz,rfl,k _ X H1 u1 hya (FZ ci n1 n6)⟩
end
end FQ
namespace FQ
open PySem L2 FK
structure Rv(K:PySem.W.Frag)(H:Hp)(ls:List Addr)(sp:Nat->Rat×Rat):Prop where
 nd:ls.Nodup
 at_:∀(t:Nat)(l:Addr),ls[t]? =some l->∃v,H l=some (.lst [v])/\bB K H v (sp t)
abbrev Wt(Ss:List aA)(X:Rat)(t:Nat):Rat×Rat:=(ef (Ss.take t) X,ef (Ss.take (t+1)) X)
def Cd(K:PySem.W.Frag)(C:Addr):Sp:=fun vs H Q _=>∃(se b:Addr)(xs:List V)(Ss:List aA)(n:Nat),vs=[.ref se,.ref b]/\cJ K H b xs/\Paired (bM K C H) xs Ss/\xs.length=n/\1<=n/\n<=6/\
 ∀(r:Addr)(ls:List Addr)(X:Rat)(H':Hp),aF H H'->H r=none->H' r=some (.lst (ls.map V.ref))->ls.length=n->(∀l∈ls,H l=none/\l≠r)->CQ Ss n X->Rv K H' ls (Wt Ss X)->Q (.ref r) H'
theorem Nv{Ss:List aA}{n:Nat}{X:Rat}(h:CQ Ss n X):∃D:Nat,mY D/\D*1000000<2^270/\Gr D X/\∀j,j<=n->j<=Ss.length->0<=ef (Ss.take j) X/\ef (Ss.take j) X<=1/\Gr D (ef (Ss.take j) X):=by
 obtain⟨G,g0,g1,g2,Q,q0,q1,gq⟩:=h.gr
 have l:Q*G<=1000000^6*(7*1000000^6):=Nat.mul_le_mul q1 g1
 refine⟨Q*G,⟨Nat.mul_pos q0 g0,Nat.lt_of_le_of_lt l (by decide)⟩,Nat.lt_of_le_of_lt (Nat.mul_le_mul_right _ l) (by decide),g2.up',fun j hj hl=>?_⟩
 refine⟨?_,?_,gq j hj⟩
 .cases j with
  |zero=>exact Rat.le_refl
  |succ j=>
   exact(h.hist j Ss[j] (by omega) (List.getElem?_eq_getElem (by omega))).1
 .cases j with
  |zero=>exact(show(0:Rat)<=1 by decide+kernel)
  |succ j=>exact(h.hist j Ss[j] (by omega) (List.getElem?_eq_getElem (by omega))).2.1
abbrev Xr:List Str:=["self","tastes","share","pieces","start","taste","stop"]
section
variable {P:Program} {w:World} {K:PySem.W.Frag} {mg:Str->Option Value} {base:Heap} {aL aR C:Addr}
theorem zN:aQ Xr ["self","tastes"] (aJ jU):=⟨rfl,rfl,rfl,by decide+kernel,rfl,by decide+kernel,by decide+kernel⟩
theorem Hn{f:Addr}{fd:FuncData}(D:tZ K "deal" "Alike.deal" jU f fd)(CT:Cl P w K mg base "check_takers" 2 ["tastes","fewest","most"] (iR K C))(CW:Cl P w K mg base "common_worth" 9 ["tastes"] (yg K C))(MM:Ml P w K mg base C "mark" 8 ["self","start","share"] (jz K C))(T:Txt K mg aL aR)(TC:kY K C):
  bH P w K mg base dj 10 f fd ["self","tastes"] (Cd K C):=by
 refine D.ok zN (fun vs H Q E h=>?_) (fun cdv A0 outer s H vs Q E hr h=>?_)
 .obtain⟨se,b,xs,Ss,n,rfl,_⟩:=h
  rfl
 .obtain⟨se,b,xs,Ss,n,rfl,hb,pT,lx,n1,n6,k⟩:=h
  have hr2:aZ 2 _:=hr.mono (by decide)
  have hr8:aZ 8 _:=hr.mono (by decide)
  have big:1000<=sizeLine:=by decide
  refine⟨_,au (cz (aO CT hr2 rfl (aj (pv 1) (aj ao (aj ao ak)))))
   (au (aN (i:=2) zN.nd rfl (Or.inl rfl) (aO CW hr rfl (aj (pv 1) ak)))
   (au (aN (i:=3) zN.nd rfl (Or.inl rfl) (cA ak))
   (au (aN (i:=4) zN.nd rfl (Or.inl rfl) (bD (v:= .ref aL) rfl T.left rfl))
   (au (dB PassesOwn.never rfl (cu (pv 1)) (bz (i:=5) zN.nd rfl (Or.inl rfl))
    (au (aN (i:=6) zN.nd rfl (Or.inl rfl) (cV MM TC.cl hr8 (pv 5) (aj (pv 4) (aj (pv 2) ak))))
    (au (cz (iY PySem.F.plainAttrs_list PySem.F.slot_list_append PySem.F.type_list_append di (pv 3) (aj (cA (aj (bC (aj (pv 4) (aj (pv 6) ak))) ak)) ak)))
    (aB (aN (i:=4) zN.nd rfl (Or.inl rfl) (pv 6))))))
   (aB (aW (pv 3))))))),?_⟩
  refine⟨_,rfl,b,xs,Ss,1,6,rfl,hb,pT,by omega,by omega,?_⟩
  refine⟨_,rfl,b,xs,Ss,n,rfl,hb,pT,lx,n1,n6,fun vX X H1 s1 dX cw=>?_⟩
  refine⟨Nat.zero_le _,fun r hr0=>?_⟩
  have s2:=aF.upd (o:= .lst []) hr0
  have s12:=s1.trans s2
  have hr0':H r=none:=s1.free hr0
  have lS:=pT.length
  obtain⟨Dd,dk,dlim,gX,pts⟩:=Nv cw
  have le1:=cw.le1
  have pos:=cw.pos
  refine⟨_,rfl,b,rfl,⟨_,s12.seq hb⟩,?_⟩
  refine dh (K:=K) (a:=b) (xs:=xs) (fun i σ H2=>aF H H2/\∃(ls:List Addr)(v:V)(y5 y6:Option V),σ=[some (.ref se),some (.ref b),some vX,some (.ref r),some v,y5,y6]/\H2 r=some (.lst (ls.map V.ref))/\ls.length=i/\(∀l∈ls,H l=none/\l≠r)/\Rv K H2 ls (Wt Ss X)/\bI K H2 v (ef (Ss.take i) X)/\bI K H2 vX X)
   ⟨s12,[],.ref aL,_,_,rfl,az,rfl,(fun _ z=>nomatch z),⟨List.nodup_nil,fun t l z=>by cases z⟩,T.l _,dX.same s2⟩ (fun i σ H2 _ h=>h.1.seq hb) ?_ ?_
  .rintro i y σ H2 hy ⟨u1,ls,v,y5,y6,rfl,u2,u3,u4,pc,dv,dx2⟩
   have il:=(List.getElem?_eq_some_iff.mp hy).1
   obtain⟨S,hS,t,lt,ll,p,rfl,ta,ok⟩:=Paired.get1 pT i y hy
   obtain⟨a0,a1,ga⟩:=pts i (by omega) (by omega)
   obtain⟨c0,c1,gc⟩:=pts (i+1) (by omega) (by omega)
   obtain⟨_,_,e3,e4⟩:=cw.hist i S (by omega) hS
   have ta2:=ta.same u1
   obtain⟨dx,hx⟩:=ta2.ins
   have fa0:=ie ok (ef (Ss.take i) X)
   have bF:Bd 280 (F S (ef (Ss.take i) X)):=(Fd ok ga dk.pos a1 dlim).mono (by decide)
   have bG:Bd 280 (F S (ef (Ss.take (i+1)) X)):=(Fd ok gc dk.pos c1 dlim).mono (by decide)
   rw[e3]at bG
   refine⟨_,rfl,t,dx,_,rfl,hx,rfl,_,rfl,_,rfl,t,lt,ll,v,vX,p,S,ef (Ss.take i) X,X,rfl,ta2,ok,dv,dx2,⟨a0,a1,dk.bd ga a0 a1⟩,Bd.fit bF fa0 (by decide),Bd.fit (dk.bd gX (Rat.le_of_lt pos) le1) (Rat.le_of_lt pos) (by decide),⟨by grind,bG⟩,fun v3 H3 s3 d3=>?_⟩
   rw[e4]at d3
   have d3':bI K H3 v3 (ef (Ss.take (i+1)) X):=d3
   have u13:=u1.trans s3
   have u23:=s3 _ _ u2
   refine⟨_,rfl,.inl ⟨rfl,_,.of u23⟩,_,rfl,_,rfl,(by show 2<=sizeLine;decide),fun t4 ht4=>⟨(by show 1<=sizeLine;decide),fun l hl=>?_⟩⟩
   have s4:=aF.upd (o:= .tup [v,v3]) ht4
   have s5:=aF.upd (o:= .lst [.ref t4]) hl
   have s35:=s3.trans (s4.trans s5)
   have u14:=u1.trans s35
   have u25:=s35 _ _ u2
   have lr:l≠r:=(aM (s4 _ _ u23) hl).symm
   have lH:H l=none:=(u13.trans s4).free hl
   have k1:=cC.updL (o:= .lst (ls.map V.ref++[.ref l])) u25
   have nl:l∉ls:=fun z=>by
    obtain⟨j,hj⟩:=List.mem_iff_getElem?.mp z
    obtain⟨v',e2,_⟩:=pc.at_ j l hj
    have:=(s3.trans s4) _ _ e2
    rw[hl]at this
    cases this
   have hl3:(ls.map V.ref).length<=8:=by rw[List.length_map];omega
   refine⟨r,_,_,rfl,rfl,u25,by omega,?_⟩
   refine⟨_,rfl,u14.updN hr0',ls++[l],v3,_,_,rfl,by rw[az,List.map_append];rfl,by rw[List.length_append,u3];rfl,fun y hy=>?_,⟨?_,fun j y hj=>?_⟩,bI.keep k1 (d3'.same (s4.trans s5)),bI.keep k1 (dx2.same s35)⟩
   .rcases List.mem_append.mp hy with z|z
    .exact u4 y z
    .rw[List.mem_singleton.mp z]
     exact⟨lH,lr⟩
   .refine List.nodup_append.mpr ⟨pc.nd,List.pairwise_singleton ..,fun a ha b' hb' z=>?_⟩
    rw[List.mem_singleton.mp hb']at z
    rw[z]at ha
    exact nl ha
   .by_cases c:j<ls.length
    .rw[List.getElem?_append_left c]at hj
     obtain⟨v',e2,cv'⟩:=pc.at_ j y hj
     have yD:=(u4 y (List.mem_of_getElem? hj)).2
     exact⟨v',by rw[aG yD];exact s35 _ _ e2,bB.keep k1 (bB.same s35 cv')⟩
    .have tl:=(List.getElem?_eq_some_iff.mp hj).1
     rw[List.length_append]at tl
     have e5:j=ls.length:=by
      have:[l].length=1:=rfl
      omega
     subst e5
     rw[List.getElem?_concat_length]at hj
     cases hj
     rw[u3]
     exact⟨.ref t4,by rw[aG lr];exact az,bB.keep k1 (bB.same s5 ⟨t4,v,v3,rfl,bw,dv.same (s3.trans s4),d3'.same s4⟩)⟩
  .rintro σ H2 ⟨u1,ls,v,y5,y6,rfl,u2,u3,u4,pc,dv,dx2⟩
   exact⟨_,rfl,k r ls X H2 u1 hr0' u2 (by omega) u4 cw pc⟩
end
end FQ
namespace FQ
open PySem L2 FK
def chosen(S:aA)(m:Rat):(Rat×Rat)×(Rat×Rat):=if F S m<1-F S m then((0,m),(m,1))else((m,1),(0,m))
structure pN(S:aA)(D:Nat)(m:Rat):Prop where
 d:mY D
 g:Gr D m
 m0:0<m
 m1:m<1
 half:F S m=1/2
def yf(K:PySem.W.Frag)(C:Addr):Sp:=fun vs H Q _=>∃(s a:Addr)(x0 x1:V)(S0 S1:aA),vs=[.ref s,.ref a]/\cJ K H a [x0,x1]/\bM K C H x0 S0/\bM K C H x1 S1/\
 ∀(m:Rat)(D:Nat)(r l0 l1:Addr)(v0 v1:V)(H':Hp),aF H H'->H r=none->H l0=none->H l1=none->l0≠l1->pN S0 D m->H' r=some (.lst [.ref l0,.ref l1])->H' l0=some (.lst [v0])->H' l1=some (.lst [v1])->bB K H' v0 (chosen S1 m).1->bB K H' v1 (chosen S1 m).2->Q (.ref r) H'
theorem Kh{p:Nat}{S:aA}(ok:aX p S):∃m D,fO (wl S) (F S 0+1/2)=some m/\pN S D m:=by
 have e:F S 0+1/2=1/2:=by
  rw[cX ok]
  grind
 obtain⟨m,e1,m0,m1,e4,w,w0,w1,g⟩:=qg ok (a:=0) (s:=1/2) (D:=1) (E:=2) Rat.le_refl (by grind) (by rw[e];grind) (Gr.zero 1) ⟨1,by rw[show((2:Nat):Rat)=2 from rfl];grind⟩
 rw[e]at e4
 have p1:=ok.few
 have p0:=ok.pos
 have l2:1*2*p<=1*2*1000:=Nat.mul_le_mul_left _ p1
 have l3:1*2*p*w<=1*2*1000*1000:=Nat.mul_le_mul l2 w1
 refine⟨m,1*2*p*w,e1,⟨Nat.mul_pos (Nat.mul_pos (by decide) p0) w0,by omega⟩,g,?_,?_,e4⟩
 .by_cases z:m=0
  .rw[z,cX ok]at e4
   exact absurd e4 (by grind)
  .grind
 .by_cases z:m=1
  .rw[z,fY ok]at e4
   exact absurd e4 (by grind)
  .grind
theorem vQ{D:Nat}{a b:Rat}(d:mY D)(h0:0<=a)(h1:a<b)(h2:b<=1)(ga:Gr D a)(gb:Gr D b):rZ D [(a,b)]:=by
 refine⟨d,fun p hp=>?_,List.pairwise_singleton _ _,fun p hp=>?_,(by show 1<=1000;decide)⟩
 .rw[List.mem_singleton.mp hp]
  exact⟨h0,h1,h2⟩
 .rw[List.mem_singleton.mp hp]
  exact⟨ga,gb⟩
theorem Fv(S:aA)(a b:Rat):Wo S [(a,b)]=F S b-F S a:=by
 show(F S b-F S a)+0=F S b-F S a
 grind
theorem pN.left{S:aA}{D:Nat}{m:Rat}(h:pN S D m):rZ D [(0,m)]:=vQ h.d Rat.le_refl h.m0 (Rat.le_of_lt h.m1) (Gr.zero D) h.g
theorem pN.right{S:aA}{D:Nat}{m:Rat}(h:pN S D m):rZ D [(m,1)]:=vQ h.d (Rat.le_of_lt h.m0) h.m1 Rat.le_refl h.g (Gr.one D)
section
variable {P:Program} {w:World} {K:PySem.W.Frag} {mg:Str->Option Value} {base:Heap} {aL aR C aH:Addr}
theorem pD:aQ ["self","tastes","middle","left","right"] ["self","tastes"] (aJ jn):=⟨rfl,rfl,rfl,by decide+kernel,rfl,by decide+kernel,by decide+kernel⟩
theorem uD(hT:∀H:Hp,fD K H aH [.int 1,.int 2])(H:Hp):bI K H (.ref aH) (1/2):= .of (hT H) (by decide+kernel) (by decide+kernel)
theorem Ef{f:Addr}{fd:FuncData}(D:tZ K "deal" "Choose.deal" jn f fd)(CT:Cl P w K mg base "check_takers" 2 ["tastes","fewest","most"] (iR K C))(CB:Cl P w K mg base "below" 1 ["one","other"] (dD K))
  (MM:Ml P w K mg base C "mark" 8 ["self","start","share"] (jz K C))(MW:Ml P w K mg base C "worth" 9 ["self","piece"] (jd K C))(T:Txt K mg aL aR)(TC:kY K C)(hH:mg "HALF"=some (.ref aH))(hT:∀H:Hp,fD K H aH [.int 1,.int 2]):
  bH P w K mg base dj 10 f fd ["self","tastes"] (yf K C):=by
 refine D.ok pD (fun vs H Q E h=>?_) (fun cdv A0 outer s H vs Q E hr h=>?_)
 .obtain⟨s,a,x0,x1,S0,S1,rfl,_⟩:=h
  rfl
 .obtain⟨se,a,x0,x1,S0,S1,rfl,ha,t0,t1,k⟩:=h
  have hr1:aZ 1 _:=hr.mono (by decide)
  have hr2:aZ 2 _:=hr.mono (by decide)
  have hr8:aZ 8 _:=hr.mono (by decide)
  refine⟨_,au (cz (aO CT hr2 rfl (aj (pv 1) (aj ao (aj ao ak)))))
   (au (aN (i:=2) pD.nd rfl (Or.inl rfl) (cV MM TC.cl hr8 (aD aP (pv 1) ao (fun _ _=>rfl)) (aj (bD (v:= .ref aL) rfl T.left rfl) (aj (bD (v:= .ref aH) rfl hH rfl) ak))))
   (au (aN (i:=3) pD.nd rfl (Or.inl rfl) (cA (aj (bC (aj (bD (v:= .ref aL) rfl T.left rfl) (aj (pv 2) ak))) ak)))
   (au (aN (i:=4) pD.nd rfl (Or.inl rfl) (cA (aj (bC (aj (pv 2) (aj (bD (v:= .ref aR) rfl T.right rfl) ak))) ak)))
   (au (bU (bV (aO CB hr1 rfl (aj (cV MW TC.cl hr (aD aP (pv 1) ao (fun _ _=>rfl)) (aj (pv 3) ak)) (aj (cV MW TC.cl hr (aD aP (pv 1) ao (fun _ _=>rfl)) (aj (pv 4) ak)) ak))))
    (aB (aW (cA (aj (pv 3) (aj (pv 4) ak))))) bc)
   (aB (aW (cA (aj (pv 4) (aj (pv 3) ak))))))))),?_⟩
  refine⟨_,rfl,a,[x0,x1],[S0,S1],2,2,rfl,ha,.cons t0 (.cons t1 .nil),(by show(2:Int)<=2;decide),(by show(2:Int)<=2;decide),?_⟩
  obtain⟨y0,lt0,ll0,p0,rfl,ta0,ok0⟩:=t0
  obtain⟨y1,lt1,ll1,p1,rfl,ta1,ok1⟩:=t1
  obtain⟨dx0,h0⟩:=ta0.ins
  obtain⟨m,D,em,hm⟩:=Kh ok0
  have e0:F S0 0=0:=cX ok0
  have b0:Bd 2 (0:Rat):=⟨by decide,by decide⟩
  have bh:Bd 2 (1/2:Rat):=⟨by decide+kernel,by decide+kernel⟩
  have nh:(0:Rat)<=1/2:=by grind
  refine⟨_,rfl,a,_,_,_,rfl,rfl,ha,rfl,y0,dx0,_,rfl,h0,rfl,y0,lt0,ll0,.ref aL,.ref aH,p0,S0,0,1/2,rfl,ta0,ok0,T.l H,uD hT H,⟨Rat.le_refl,by decide,b0.mono (by decide)⟩,by rw[e0];exact eQ.zero,⟨nh,bh.mono (by decide)⟩,by rw[e0];exact⟨by grind,(b0.add bh).mono (by decide)⟩,fun vm H1 s1 d1=>?_⟩
  rw[em]at d1
  have d1':bI K H1 vm m:=d1
  refine⟨_,rfl,(by show 2<=sizeLine;decide),fun t1 ht1=>⟨(by show 1<=sizeLine;decide),fun l0 hl0=>?_⟩⟩
  have u1:=aF.upd (o:= .tup [.ref aL,vm]) ht1
  have u2:=aF.upd (o:= .lst [.ref t1]) hl0
  refine⟨_,rfl,(by show 2<=sizeLine;decide),fun t2 ht2=>⟨(by show 1<=sizeLine;decide),fun l1 hl1=>?_⟩⟩
  have u3:=aF.upd (o:= .tup [vm,.ref aR]) ht2
  have u4:=aF.upd (o:= .lst [.ref t2]) hl1
  have u34:=u3.trans u4
  have u24:=u2.trans u34
  have u14:=u1.trans u24
  have sA:=s1.trans u14
  have hl0A:=u34 _ _ (az (a:=l0) (o:= .lst [.ref t1]) (H:=upd H1 t1 (.tup [.ref aL,vm])))
  have c0:bB K (upd (upd (upd (upd H1 t1 (.tup [.ref aL,vm])) l0 (.lst [.ref t1])) t2 (.tup [vm,.ref aR])) l1 (.lst [.ref t2])) (.ref t1) (0,m):=⟨t1,_,_,rfl,u24.sqT bw,T.l _,d1'.same u14⟩
  have c1:bB K (upd (upd (upd (upd H1 t1 (.tup [.ref aL,vm])) l0 (.lst [.ref t1])) t2 (.tup [vm,.ref aR])) l1 (.lst [.ref t2])) (.ref t2) (m,1):=⟨t2,_,_,rfl,u4.sqT bw,d1'.same u14,T.r _⟩
  have ta1A:=ta1.same sA
  obtain⟨dx1,h1⟩:=ta1A.ins
  have f0:=ie ok1 m
  have f1:=qR ok1 (Rat.le_of_lt hm.m1)
  have fb:=nA ok1 hm.d hm.g (Rat.le_of_lt hm.m1)
  have n1:l0≠l1:=aM (u3 _ _ az) hl1
  refine⟨_,rfl,a,_,_,_,rfl,rfl,sA.seq ha,rfl,y1,dx1,_,rfl,h1,rfl,_,rfl,y1,lt1,ll1,l0,_,p1,D,S1,[(0,m)],rfl,ta1A,ok1,.of hl0A,.cons c0 .nil,hm.left,fun v5 H5 s5 d5=>?_⟩
  have ta1B:=ta1A.same s5
  obtain⟨dx2,h2⟩:=ta1B.ins
  refine⟨_,rfl,a,_,_,_,rfl,rfl,(sA.trans s5).seq ha,rfl,y1,dx2,_,rfl,h2,rfl,_,rfl,y1,lt1,ll1,l1,_,p1,D,S1,[(m,1)],rfl,ta1B,ok1,.of (s5 _ _ az),.cons (bB.same s5 c1) .nil,hm.right,fun v6 H6 s6 d6=>?_⟩
  rw[Fv,cX ok1,show F S1 m-0=F S1 m by grind]at d5
  rw[Fv,fY ok1]at d6
  refine⟨v5,v6,F S1 m,1-F S1 m,rfl,d5.same s6,d6,⟨f0,fb.mono (by decide)⟩,⟨by grind,((show Bd 2 (1:Rat)from⟨by decide,by decide⟩).sub fb).mono (by decide)⟩,_,rfl,?_⟩
  have s56:=s5.trans s6
  have hl1F:H l1=none:=(s1.trans (u1.trans (u2.trans u3))).free hl1
  have hl0F:H l0=none:=(s1.trans u1).free hl0
  refine fH (fun c=>?_) (fun c=>?_)
  .have c':F S1 m<1-F S1 m:=of_decide_eq_true c
   refine⟨_,rfl,_,rfl,(by show 2<=sizeLine;decide),fun r hr'=>?_⟩
   have s7:=aF.upd (o:= .lst [.ref l0,.ref l1]) hr'
   have s57:=s56.trans s7
   have ec:chosen S1 m=((0,m),(m,1)):=if_pos c'
   refine k m D r l0 l1 (.ref t1) (.ref t2) _ (sA.trans s57) ((sA.trans s56).free hr') hl0F hl1F n1 hm az (s57 _ _ hl0A) (s57 _ _ az) ?_ ?_
   .rw[ec]
    exact bB.same s57 c0
   .rw[ec]
    exact bB.same s57 c1
  .have c':¬F S1 m<1-F S1 m:=fun z=>c (decide_eq_true z)
   refine⟨_,rfl,_,rfl,(by show 2<=sizeLine;decide),fun r hr'=>?_⟩
   have s7:=aF.upd (o:= .lst [.ref l1,.ref l0]) hr'
   have s57:=s56.trans s7
   have ec:chosen S1 m=((m,1),(0,m)):=if_neg c'
   refine k m D r l1 l0 (.ref t2) (.ref t1) _ (sA.trans s57) ((sA.trans s56).free hr') hl1F hl0F n1.symm hm az (s57 _ _ az) (s57 _ _ hl0A) ?_ ?_
   .rw[ec]
    exact bB.same s57 c1
   .rw[ec]
    exact bB.same s57 c0
end
end FQ
namespace FK
def ni(qs:List Rat)(q:Rat):Nat:=qs.countP fun r=>decide (r<q)
theorem uC(qs:List Rat)(r q:Rat):ni (qs++[r]) q=ni qs q+(if r<q then 1 else 0):=by
 unfold ni
 rw[List.countP_append,List.countP_singleton]
 by_cases c:r<q
 .rw[if_pos c,if_pos (decide_eq_true c)]
 .rw[if_neg c,if_neg (by rw[decide_eq_false c];decide)]
theorem uB(qs:List Rat){q r:Rat}(h:q<=r):ni qs q<=ni qs r:=
 List.countP_mono_left fun x _ e=>decide_eq_true (by have:=of_decide_eq_true e;grind)
theorem Aq:∀{qs:List Rat}{q r:Rat},q<r->q∈qs->ni qs q<ni qs r
 |x::qs,q,r,h,hm=>by
  have m:=uB qs (Rat.le_of_lt h)
  have e:∀y,ni (x::qs) y=ni qs y+(if x<y then 1 else 0):=fun y=>by
   unfold ni
   rw[List.countP_cons]
   by_cases c:x<y
   .rw[if_pos c,if_pos (decide_eq_true c)]
   .rw[if_neg c,if_neg (by rw[decide_eq_false c];decide)]
  rw[e,e]
  rcases List.mem_cons.mp hm with z|z
  .subst z
   rw[if_neg (by grind),if_pos h]
   omega
  .have:=Aq h z
   by_cases c:x<q
   .rw[if_pos c,if_pos (by grind)]
    omega
   .rw[if_neg c]
    omega
def Lex(qs:List Rat)(a b:Int):Prop:=qs.getD a.toNat 0<qs.getD b.toNat 0\/(qs.getD a.toNat 0=qs.getD b.toNat 0/\a<b)
def qQ(qs:List Rat):List Int:=qs.map fun q=>(ni qs q:Int)
theorem qt{qs:List Rat}{i:Nat}{q:Rat}(h:qs[i]? =some q):(qQ qs)[i]? =some (ni qs q:Int):=by
 unfold qQ
 rw[List.getElem?_map,h]
 rfl
theorem Jh{qs:List Rat}{a b:Int}(ha:a.toNat<qs.length)(hb:b.toNat<qs.length)(h:L2.uX (qQ qs) a b):Lex qs a b:=by
 have e1:qs[a.toNat]? =some qs[a.toNat]:=List.getElem?_eq_getElem ha
 have e2:qs[b.toNat]? =some qs[b.toNat]:=List.getElem?_eq_getElem hb
 have k1:(qQ qs).getD a.toNat 0=(ni qs qs[a.toNat]:Int):=by rw[List.getD_eq_getElem?_getD,qt e1];rfl
 have k2:(qQ qs).getD b.toNat 0=(ni qs qs[b.toNat]:Int):=by rw[List.getD_eq_getElem?_getD,qt e2];rfl
 have g1:qs.getD a.toNat 0=qs[a.toNat]:=by rw[List.getD_eq_getElem?_getD,e1];rfl
 have g2:qs.getD b.toNat 0=qs[b.toNat]:=by rw[List.getD_eq_getElem?_getD,e2];rfl
 unfold L2.uX at h
 unfold Lex
 rw[k1,k2]at h
 rw[g1,g2]
 by_cases c:qs[a.toNat]<qs[b.toNat]
 .exact .inl c
 .have m:=uB qs (show qs[b.toNat]<=qs[a.toNat]by grind)
  rcases h with z|⟨z,lt⟩
  .omega
  .refine .inr ⟨?_,lt⟩
   by_cases c2:qs[b.toNat]<qs[a.toNat]
   .have:=Aq c2 (List.getElem_mem hb)
    omega
   .grind
end FK
namespace FQ
open PySem L2 FK
def Td(st:Stmt):Expr:=match bK st with
 |[.Return (some (.Call _ _ [k] _)) _]=>k.value
 |_=> .Constant .none 0 ⟨0,0,0,0⟩
def yR(st:Stmt):Pos:=match Td st with
 | .Lambda _ _ _ p=>p
 |_=>⟨0,0,0,0⟩
def GK(st:Stmt):Scope:=match Td st with
 | .Lambda _ _ sc _=>sc
 |_=>{kind:= .function,names:=[],isGenerator:=false,isCoroutine:=false}
def lq(x:Str):Str:=(x++".<locals>.")++"<lambda>"
abbrev oG(P:Addr)(H:Hp):Prop:=Ready P (yR dN) (lq "ranked") H
abbrev To(P:Addr)(H H':Hp):Prop:=Tb P (yR dN) (lq "ranked") H H'
def iQ(K:PySem.W.Frag)(Pt:Addr):Sp:=fun vs H Q _=>∃(a:Addr)(xs:List V)(qs:List Rat),vs=[.ref a]/\cJ K H a xs/\Paired (bI K H) xs qs/\(∀q∈qs,eQ q)/\qs.length<64/\oG Pt H/\
 ∀(l:Addr)(ord:List Int)(H':Hp),To Pt H H'->H l=none->H' l=some (.lst (ord.map V.int))->ord.Perm ((List.range qs.length).map fun i:Nat=>(i:Int))->ord.Pairwise (Lex qs)->Q (.ref l) H'
section
variable {P:Program} {w:World} {K:PySem.W.Frag} {mg:Str->Option Value} {base:Heap} {aL aR C:Addr}
theorem Ip:aQ ["those"] ["those"] (aJ dN):=⟨rfl,rfl,rfl,by decide+kernel,rfl,by decide+kernel,by decide+kernel⟩
theorem TV:nF "place" "those" "len" (GK dN):=⟨rfl,rfl,rfl,rfl,by decide+kernel⟩
def Ue(K:PySem.W.Frag):V->V->Hp->VK->Prop:=fun vx vy H Q=>∃(i:Nat)(a:Addr)(xs:List V)(qs:List Rat)(q:Rat),vx= .int i/\vy= .ref a/\cJ K H a xs/\Paired (bI K H) xs qs/\(∀q∈qs,eQ q)/\qs.length<64/\qs[i]? =some q/\∀H',aF H H'->Q (.int (ni qs q:Nat)) H'
theorem Ek{f c Pt:Addr}{fd:FuncData}(D:bJ K mg "ranked" dN ["those"] f fd)(hcd:fd.code= .ref c)(CH:PySem.W.CodeHd base c Pt)(bm:BM mg base)(CB:Cl P w K mg base "below" 1 ["one","other"] (dD K))(T:Txt K mg aL aR):bH P w K mg base dj 5 f fd ["those"] (iQ K Pt):=by
 refine D.fn.okC hcd Ip (fun vs H Q E h=>?_) (fun A outer s H vs Q E hr h=>?_)
 .obtain⟨a,xs,qs,rfl,_⟩:=h
  rfl
 .obtain⟨a,xs,qs,rfl,ha,hq,fq,l64,rd,k⟩:=h
  have big:1000<=sizeLine:=by decide
  have lq':=hq.length
  refine⟨_,aB (aW (Qu (x:="place") (y:="those") (z:="len") (iy:=0) (k:=1) (sp:=Ue K) (c:=s.heap.objs.size+1) (cP:=c) (P:=Pt) rfl T.sorted (aj (zE rfl T.range (aj (aV aU (by rfl) T.len PySem.boot_len (aj (pv 0) ak)) ak)) ak) rfl CH bm rfl rfl rfl rfl rfl TV (hr.in1.in1)
   (fun _ _ _ _ _ _=>rfl) (fun f' cc A' outer' s' H' vx vy Q' hr' h'=>?_))),?_⟩
  .obtain⟨i,a',xs',qs',q,rfl,rfl,ha',hq',fq',l64',hi,k'⟩:=h'
   have lq2:=hq'.length
   refine⟨_,aV aU (by rfl) T.len PySem.boot_len (aj (dC ["one"] rfl (cD.free1 (F:=["place","those"]) (js:=[0,1]) rfl (by decide+kernel) (by decide+kernel) rfl ⟨rfl,rfl,trivial⟩ rfl ⟨⟨rfl,rfl,.inl rfl⟩,⟨rfl,rfl,.inr rfl⟩,trivial⟩) (cu (pv 1))
    (fun _=>bz (i:=0) (show[Str.ofString "one",Str.ofString "place",Str.ofString "those"].Nodup by decide+kernel) rfl (Or.inl rfl)) (fun _=>xT (bV (aO CB hr' rfl (aj (pv 0) (aj (aD aP (pv 2) (pv 1) (fun _ _=>rfl)) ak))))) (fun _=>pv 0)) ak),?_⟩
   refine⟨_,rfl,a',rfl,⟨_,ha'⟩,fun D1 hD1=>?_⟩
   obtain⟨vq,hvq⟩:∃v,xs'[i]? =some v:=⟨_,List.getElem?_eq_getElem (by have:=(List.getElem?_eq_some_iff.mp hi).1;omega)⟩
   obtain⟨q2,hq2,fvq⟩:=Paired.get1 hq' i vq hvq
   rw[hi]at hq2
   cases hq2
   refine cL (K:=K) (a:=a') (D:=D1) (xs:=xs') (fun j ys σ H2=>aF H' H2/\H2 D1=some (.lst ys)/\ys.length=ni (qs'.take j) q/\ys.length<=j/\∃x0,σ=[x0,some (.int i),some (.ref a')])
    (by omega) ⟨aF.upd hD1,az,rfl,Nat.le_refl _,_,rfl⟩ ?_ ?_ ?_
   .rintro j ys σ H2 _ ⟨u1,u2,u3,u4,_⟩
    exact⟨u1.seq ha',u2,u4⟩
   .rintro j y ys σ H2 hy ⟨u1,u2,u3,u4,x0,rfl⟩ cc
    obtain⟨qj,hqj,fqj⟩:=Paired.get1 hq' j y hy
    refine⟨_,rfl,_,rfl,_,rfl,a',_,_,_,rfl,rfl,u1.seq ha',bZ hvq,y,vq,qj,q,rfl,fqj.same u1,fvq.same u1,fq' qj (List.mem_of_getElem? hqj),fq' q (List.mem_of_getElem? hi),_,rfl,?_⟩
    refine fH (fun d=>?_) (fun d=>?_)
    .have d':qj<q:=of_decide_eq_true d
     refine⟨_,rfl,u2,u1.updN hD1,az,?_,by rw[List.length_append];exact Nat.add_le_add_right u4 1,_,rfl⟩
     rw[take_snoc hqj,uC,if_pos d',List.length_append,u3]
     rfl
    .have d':¬qj<q:=fun z=>d (decide_eq_true z)
     refine⟨u1,u2,?_,by omega,_,rfl⟩
     rw[take_snoc hqj,uC,if_neg d',u3]
     rfl
   .rintro ys σ H2 ⟨u1,u2,u3,u4,_⟩
    rw[List.take_of_length_le (by omega)]at u3
    refine⟨D1,ys,rfl,.inl (.of u2),?_⟩
    rw[u3]
    exact k' H2 u1
  .refine⟨_,rfl,a,_,rfl,.inl ha,qs.length,by rw[lq'],by omega,fun r hr0=>?_⟩
   have s1:aF H (upd H r (.rng 0 qs.length)):=aF.upd hr0
   dsimp only[Ab]
   show uT _ Pt (yR dN) (lq "ranked") _ _ _ _ _ _
   refine DG (dI rd s1) fun v H2 tb=>?_
   have tb0:=(Tb.of rd s1).trans tb
   have hqr:∀H',aF H2 H'->Paired (bI K H') xs qs:=fun H' sm=>Paired.mapP hq fun _ _ z=>bI.same sm (bI.keep tb0.keep z)
   refine⟨r,qs.length,qQ qs,fun H'=>aF H2 H',.ref a,rfl,rfl,tb.get az (fun _ z=>nomatch z),l64,by unfold qQ;rw[List.length_map],aF.refl _,fun _ z=>z,fun i key H' hk sm=>?_,fun l H' ord sm hl op ow=>?_⟩
   .have il:i<qs.length:=by
     have:=(List.getElem?_eq_some_iff.mp hk).1
     unfold qQ at this
     rw[List.length_map]at this
     exact this
    have e:=qt (List.getElem?_eq_getElem il)
    rw[hk]at e
    cases e
    exact⟨i,a,xs,qs,_,rfl,rfl,sm.seq (tb0.sqL ha),hqr H' sm,fq,l64,List.getElem?_eq_getElem il,fun H3 s3=>⟨rfl,sm.trans s3⟩⟩
   .have tb1:=tb0.to sm
    have s3:=aF.upd (o:= .lst (ord.map V.int)) hl
    refine k l ord _ (tb1.to s3) (tb1.free hl) az op ?_
    refine List.Pairwise.imp_of_mem (fun{x y}hx hy z=>Jh ?_ ?_ z) ow
    .obtain⟨m,hm,e⟩:=List.mem_map.mp (op.mem_iff.mp hx)
     have:=List.mem_range.mp hm
     omega
    .obtain⟨m,hm,e⟩:=List.mem_map.mp (op.mem_iff.mp hy)
     have:=List.mem_range.mp hm
     omega
end
end FQ
namespace FQ
open PySem L2 FK
def zV(K:PySem.W.Frag):Sp:=fun vs H Q _=>∃(p:Addr)(ns:List Int)(k:Nat),vs=[.ref p,.int k]/\cJ K H p (ns.map V.int)/\Q (.int (ns.getD k 0)) H
def rQ:Sp:=fun vs H Q _=>∃a b:Int,vs=[.int a,.int b]/\∀r:Int,Q (.int r) H
theorem JD{K:PySem.W.Frag}{H:Hp}{p:Addr}:bI K (upd H p (.tup [.int 0,.int 1])) (.ref p) 0:= .of bw rfl rfl
theorem VR{K:PySem.W.Frag}{H:Hp}{p:Addr}:bI K (upd H p (.tup [.int 1,.int 1])) (.ref p) 1:= .of bw rfl rfl
def Jc(K:PySem.W.Frag):Sp:=fun vs H Q _=>∃(x:V)(p:Addr)(q:Rat)(c d:Int),vs=[x,.ref p]/\bI K H x q/\fD K H p [.int c,.int d]/\eQ q/\0<=c/\0<d/\c.natAbs<2^1990/\d.natAbs<2^1990/\∀v H',aF H H'->bI K H' v (q+(c:Rat)/(d:Rat))->Q v H'
section
variable {P:Program} {w:World} {K:PySem.W.Frag} {mg:Str->Option Value} {base:Heap} {aL aR:Addr}
theorem QG:aQ ["_law_script","_law_k"] ["_law_script","_law_k"] (aJ iH):=⟨rfl,rfl,rfl,by decide+kernel,rfl,by decide+kernel,by decide+kernel⟩
theorem Ky{f:Addr}{fd:FuncData}(D:bJ K mg "_law_cell_at" iH ["_law_script","_law_k"] f fd)(T:Txt K mg aL aR):bH P w K mg base dj 1 f fd ["_law_script","_law_k"] (zV K):=by
 refine D.fn.ok QG (fun vs H Q E h=>?_) (fun cdv A outer s H vs Q E hr h=>?_)
 .obtain⟨p,ns,n,rfl,_⟩:=h
  rfl
 .obtain⟨p,ns,n,rfl,hp,k⟩:=h
  refine⟨_,au (bU (aY gQ (pv 1) (aV aU (by rfl) T.len PySem.boot_len (aj (pv 0) ak)) (bx _)) (aB (aW (aD aP (pv 0) (pv 1) (fun _ _=>rfl)))) bc) (aB (aW ao)),?_⟩
  refine⟨_,rfl,_,rfl,p,_,rfl,.inl hp,_,_,rfl,rfl,_,rfl,?_⟩
  refine fH (fun h=>?_) (fun h=>?_)
  .have h':(n:Int)<((ns.map V.int).length:Nat):=of_decide_eq_true h
   rw[List.length_map]at h'
   have hn:n<ns.length:=by omega
   refine⟨_,rfl,_,rfl,p,_,_,_,rfl,rfl,hp,bZ (v:=V.int (ns.getD n 0)) ?_,k⟩
   rw[List.getElem?_map,List.getD_eq_getElem?_getD,List.getElem?_eq_getElem hn]
   rfl
  .have h':¬(n:Int)<((ns.map V.int).length:Nat):=fun z=>h (decide_eq_true z)
   rw[List.length_map]at h'
   have e:ns.getD n 0=0:=by rw[List.getD_eq_getElem?_getD,List.getElem?_eq_none (by omega)];rfl
   rw[e]at k
   exact k
theorem Ca:aQ ["_law_cell","_law_k","_law_found"] ["_law_cell","_law_k"] (aJ km):=⟨rfl,rfl,rfl,by decide+kernel,rfl,by decide+kernel,by decide+kernel⟩
theorem Hw{f:Addr}{fd:FuncData}(D:bJ K mg "_law_mixed" km ["_law_cell","_law_k"] f fd):bH P w K mg base dj 1 f fd ["_law_cell","_law_k"] rQ:=by
 refine D.fn.ok Ca (fun vs H Q E h=>?_) (fun cdv A outer s H vs Q E hr h=>?_)
 .obtain⟨a,b,rfl,_⟩:=h
  rfl
 .obtain⟨a,b,rfl,k⟩:=h
  refine⟨_,au (aN (i:=2) Ca.nd rfl (Or.inl rfl) (bj dH (bj zx (bj iD (bj iD (pv 0) (bj zx ao (pv 1))) ao) ao) ao))
   (aB (aW (bj dH (bj zx (pv 2) (pv 2)) ao))),?_⟩
  refine⟨_,rfl,_,rfl,_,_,rfl,rfl,.inl ⟨by decide,by decide⟩,_,_,rfl,rfl,_,_,rfl,rfl,_,_,rfl,rfl,.inr ⟨by decide,by decide⟩,_,_,rfl,rfl,(by show(0:Int)<2147483647;decide),?_⟩
  have h0:=Int.emod_nonneg ((a+977*b+31)*48271) (show(2147483647:Int)≠0 by decide)
  have h1:=Int.emod_lt_of_pos ((a+977*b+31)*48271) (show(0:Int)<2147483647 by decide)
  refine⟨_,rfl,_,rfl,_,_,rfl,rfl,.inl ⟨?_,?_⟩,_,_,rfl,rfl,(by show(0:Int)<2147483629;decide),k _⟩
  .show-(2^64)<(a+977*b+31)*48271%2147483647
   omega
  .show(a+977*b+31)*48271%2147483647<2^64
   omega
theorem BZ:aQ ["_law_a","_law_b","_law_one","_law_other"] ["_law_a","_law_b"] (aJ nY):=⟨rfl,rfl,rfl,by decide+kernel,rfl,by decide+kernel,by decide+kernel⟩
def Yb(σ:St):Nat:=match σ with
 |[_,_,_,some (.int b)]=>b.toNat
 |_=>0
theorem Qk{f:Addr}{fd:FuncData}(D:bJ K mg "_law_low" nY ["_law_a","_law_b"] f fd):bH P w K mg base dj 1 f fd ["_law_a","_law_b"] kO:=by
 refine D.fn.ok BZ (fun vs H Q E h=>?_) (fun cdv A outer s H vs Q E hr h=>?_)
 .obtain⟨a,b,rfl,_⟩:=h
  rfl
 .obtain⟨a0,b0,rfl,ha,hb,hS,k⟩:=h
  have gp:=Ff (a:=a0) hb
  have gS:Sm (G a0 b0):=hS.mono (by have:=RJ (a:=a0) hb;omega)
  refine⟨_,au (aN (i:=2) BZ.nd rfl (Or.inl rfl) (pv 0))
   (au (aN (i:=3) BZ.nd rfl (Or.inl rfl) (pv 1))
   (au (pC PassesOwn.never (aY sZ (pv 3) ao (bx _))
    (aB (Qz (i:=2) (j:=3) rfl BZ.nd rfl rfl (by decide) rfl rfl (aj (pv 3) (aj (bj dH (pv 2) (pv 3)) ak)) rfl)))
   (aB (aW (bC (aj (bj oZ (pv 0) (pv 2)) (aj (bj oZ (pv 1) (pv 2)) ak))))))),?_⟩
  refine⟨_,rfl,_,rfl,?_⟩
  refine pI (fun σ H'=>H'=H/\∃(a b:Int),σ=[some (.int a0),some (.int b0),some (.int a),some (.int b)]/\0<=a/\0<=b/\G a b=G a0 b0) (fun σ _=>Yb σ) ⟨rfl,a0,b0,rfl,ha,Int.le_of_lt hb,rfl⟩ ?_ ?_
  .rintro σ H' ⟨rfl,a,b,rfl,ha,hb,e⟩
   refine⟨_,rfl,_,_,rfl,rfl,_,rfl,?_⟩
   refine fH (fun h=>?_) (fun h=>?_)
   .have hb':0<b:=of_decide_eq_true h
    refine⟨_,rfl,_,rfl,_,rfl,_,_,rfl,rfl,hb',_,_,rfl,?_⟩
    refine⟨⟨rfl,b,a%b,rfl,hb,Int.emod_nonneg _ (by omega),(Fg ha hb').trans e⟩,?_⟩
    show(a%b).toNat<b.toNat
    have:=Int.emod_lt_of_pos a hb'
    omega
   .have hb':b=0:=by
     have:¬ 0<b:=fun z=>h (decide_eq_true z)
     omega
    have e':a=G a0 b0:=by rw[<-e,hb',Fi ha]
    subst e'
    exact⟨_,rfl,_,rfl,_,_,rfl,rfl,⟨gp,gS⟩,_,rfl,_,rfl,_,_,rfl,rfl,⟨gp,gS⟩,(by show 2<=sizeLine;decide),fun p hp=>k p hp⟩
  .rintro σ H Q Q' hq ⟨v,e,i,j,e1,e2,z,e3,q⟩
   exact⟨v,e,i,j,e1,e2,z,e3,hq _ _ q⟩
theorem QL:aQ ["_law_one","_law_other"] ["_law_one","_law_other"] (aJ mF):=⟨rfl,rfl,rfl,by decide+kernel,rfl,by decide+kernel,by decide+kernel⟩
theorem KJ{f:Addr}{fd:FuncData}(D:bJ K mg "_law_less" mF ["_law_one","_law_other"] f fd):bH P w K mg base dj 1 f fd ["_law_one","_law_other"] (dD K):=by
 refine D.fn.ok QL (fun vs H Q E h=>?_) (fun cdv A outer s H vs Q E hr h=>?_)
 .obtain⟨x,y,q,r,rfl,_⟩:=h
  rfl
 .obtain⟨x,y,u,v,rfl,hx,hy,fu,fv,k⟩:=h
  obtain⟨p,rfl,hp⟩:=hx.sq
  obtain⟨q,rfl,hq⟩:=hy.sq
  refine⟨_,aB (aW (jZ gQ (bj cF (aD aK (pv 0) ao (fun _ _=>rfl)) (aD aK (pv 1) ao (fun _ _=>rfl))) (bj cF (aD aK (pv 1) ao (fun _ _=>rfl)) (aD aK (pv 0) ao (fun _ _=>rfl))) (bx _))),?_⟩
  refine⟨_,rfl,p,_,_,_,rfl,rfl,hp,rfl,_,rfl,q,_,_,_,rfl,rfl,hq,rfl,_,_,rfl,rfl,⟨fu.s1,fv.s2⟩,?_⟩
  refine⟨_,rfl,q,_,_,_,rfl,rfl,hq,rfl,_,rfl,p,_,_,_,rfl,rfl,hp,rfl,_,_,rfl,rfl,⟨fv.s1,fu.s2⟩,_,_,rfl,rfl,?_⟩
  rw[decide_eq_decide.mpr (Rat.lt_iff u v)]at k
  exact k
theorem TX:aQ ["_law_one","_law_other"] ["_law_one","_law_other"] (aJ nZ):=⟨rfl,rfl,rfl,by decide+kernel,rfl,by decide+kernel,by decide+kernel⟩
theorem Rc{q:Rat}{c d:Int}(hd:0<d):((q.num*d+c*(q.den:Int):Int):Rat)/(((q.den:Int)*d:Int):Rat)=q+(c:Rat)/(d:Rat):=by
 have h1:=q_eq q
 have h3:=jh q
 have h4:(d:Rat)≠0:=by
  intro z
  have:=Rat.intCast_inj.mp (show(d:Rat)=((0:Int):Rat)from z)
  omega
 rw[Rat.intCast_add,Rat.intCast_mul,Rat.intCast_mul,Rat.intCast_mul]
 grind
theorem Ql{f:Addr}{fd:FuncData}(D:bJ K mg "_law_sum" nZ ["_law_one","_law_other"] f fd)(CL:Cl P w K mg base "_law_low" 1 ["_law_a","_law_b"] kO):
  bH P w K mg base dj 2 f fd ["_law_one","_law_other"] (Jc K):=by
 refine D.fn.ok TX (fun vs H Q E h=>?_) (fun cdv A outer s H vs Q E hr h=>?_)
 .obtain⟨x,p,q,c,d,rfl,_⟩:=h
  rfl
 .obtain⟨x,q,u,c,d,rfl,hx,hq,fu,c0,d0,sc,sd,k⟩:=h
  obtain⟨p,rfl,hp⟩:=hx.sq
  refine⟨_,aB (aW (aO CL hr rfl
   (aj (bj iD (bj cF (aD aK (pv 0) ao (fun _ _=>rfl)) (aD aK (pv 1) ao (fun _ _=>rfl))) (bj cF (aD aK (pv 1) ao (fun _ _=>rfl)) (aD aK (pv 0) ao (fun _ _=>rfl))))
   (aj (bj cF (aD aK (pv 0) ao (fun _ _=>rfl)) (aD aK (pv 1) ao (fun _ _=>rfl))) ak)))),?_⟩
  have c':Sm c:= .of_bits sc (by decide)
  have d':Sm d:= .of_bits sd (by decide)
  have b0:=den_pos u
  refine⟨_,rfl,p,_,_,_,rfl,rfl,hp,rfl,_,rfl,q,_,_,_,rfl,rfl,hq,rfl,_,_,rfl,rfl,⟨fu.s1,d'⟩,?_⟩
  refine⟨_,rfl,q,_,_,_,rfl,rfl,hq,rfl,_,rfl,p,_,_,_,rfl,rfl,hp,rfl,_,_,rfl,rfl,⟨c',fu.s2⟩,_,_,rfl,rfl,?_⟩
  refine⟨_,rfl,p,_,_,_,rfl,rfl,hp,rfl,_,rfl,q,_,_,_,rfl,rfl,hq,rfl,_,_,rfl,rfl,⟨fu.s2,d'⟩,?_⟩
  have hb:0<(u.den:Int)*d:=Int.mul_pos b0 d0
  refine⟨_,_,rfl,Int.add_nonneg (Int.mul_nonneg fu.nn (Int.le_of_lt d0)) (Int.mul_nonneg c0 (Int.le_of_lt b0)),hb,zU (m:=1990) (n:=1990) (by rw[Int.natAbs_natCast];exact fu.2.2) sd (by decide),fun r hr'=>k _ _ (aF.upd hr') ?_⟩
  obtain⟨l1,l2⟩:=sW (a:=u.num*d+c*(u.den:Int)) hb
  rw[Rc d0]at l1 l2
  exact .of bw l1 l2
theorem QK:aQ ["_law_one","_law_other"] ["_law_one","_law_other"] (aJ mD):=⟨rfl,rfl,rfl,by decide+kernel,rfl,by decide+kernel,by decide+kernel⟩
theorem KH{f:Addr}{fd:FuncData}(D:bJ K mg "_law_left" mD ["_law_one","_law_other"] f fd)(CL:Cl P w K mg base "_law_low" 1 ["_law_a","_law_b"] kO):
  bH P w K mg base dj 2 f fd ["_law_one","_law_other"] (jc K):=by
 refine bH.imp (sp:=nO K (fun a b c d=>a*d-c*b) (fun _ b _ d=>b*d)) ?_ Bp
 refine D.fn.ok QK (fun vs H Q E h=>?_) (fun cdv A outer s H vs Q E hr h=>?_)
 .obtain⟨p,q,a,b,c,d,rfl,_⟩:=h
  rfl
 .obtain⟨p,q,a,b,c,d,rfl,hp,hq,⟨sa,sb,sc,sd⟩,⟨n1,n2,n3⟩,k⟩:=h
  refine⟨_,aB (aW (aO CL hr rfl
   (aj (bj lV (bj cF (aD aK (pv 0) ao (fun _ _=>rfl)) (aD aK (pv 1) ao (fun _ _=>rfl))) (bj cF (aD aK (pv 1) ao (fun _ _=>rfl)) (aD aK (pv 0) ao (fun _ _=>rfl))))
   (aj (bj cF (aD aK (pv 0) ao (fun _ _=>rfl)) (aD aK (pv 1) ao (fun _ _=>rfl))) ak)))),?_⟩
  refine⟨_,rfl,p,_,_,_,rfl,rfl,hp,rfl,_,rfl,q,_,_,_,rfl,rfl,hq,rfl,_,_,rfl,rfl,⟨sa,sd⟩,?_⟩
  refine⟨_,rfl,q,_,_,_,rfl,rfl,hq,rfl,_,rfl,p,_,_,_,rfl,rfl,hp,rfl,_,_,rfl,rfl,⟨sc,sb⟩,_,_,rfl,rfl,?_⟩
  refine⟨_,rfl,p,_,_,_,rfl,rfl,hp,rfl,_,rfl,q,_,_,_,rfl,rfl,hq,rfl,_,_,rfl,rfl,⟨sb,sd⟩,?_⟩
  exact⟨_,_,rfl,n1,n2,n3,k⟩
end
end FQ
namespace FQ
open PySem L2 FK
def uP(K:PySem.W.Frag):Sp:=fun vs H Q _=>∃(cell:Int),vs=[.int cell]/\∀(l:Addr)(ts:List V)(p:Nat)(S:aA)(H':Hp),aF H H'->H l=none->H' l=some (.lst ts)->Paired (je K H') ts S->aX p S->Q (.ref l) H'
abbrev NS:List Str:=["_law_cell","_law_parts","_law_ends","_law_many","_law_k","_law_end","_law_steps","_law_weight"]
theorem cR:aQ NS ["_law_cell"] (aJ bO):=⟨rfl,rfl,rfl,by decide+kernel,rfl,by decide+kernel,by decide+kernel⟩
section
variable {P:Program} {w:World} {K:PySem.W.Frag} {mg:Str->Option Value} {base:Heap} {aL aR:Addr}
theorem Jr(CM:Cl P w K mg base "_law_mixed" 1 ["_law_cell","_law_k"] rQ)(CL:Cl P w K mg base "_law_low" 1 ["_law_a","_law_b"] (jb K))(T:Txt K mg aL aR){f:Addr}{cdv:Value}{A:Around}{outer:List Env}{s:Shared}{H:Hp}{E:XK}(hr:aZ 1 (cx P w K mg base NS "_law_steps_by" bO f cdv A outer s H E).A):
  ∃t,lC (cx P w K mg base NS "_law_steps_by" bO f cdv A outer s H E) (List.drop 6 (bK bO)) t/\∀(Q:VK)(H1:Hp)(cell:Int)(n:Nat)(le:Addr)(es:List Int)(x3 x4 x5 x6 x7:Option V),aF H H1->2<=n->n<=1000->H1 le=some (.lst (es.map V.int))->es.length<=8->es.Nodup->(∀e∈es,1<=e/\e<n)->
   (∀(l:Addr)(ts:List V)(p:Nat)(S:aA)(H':Hp),aF H H'->H l=none->H' l=some (.lst ts)->Paired (je K H') ts S->aX p S->Q (.ref l) H')->
   t {nx:=fun _ H'=>Q .non H',rt:=Q} [some (.int cell),some (.int n),some (.ref le),x3,x4,x5,x6,x7] H1:=by
 refine⟨_,au (aN (i:=6) cR.nd rfl (Or.inl rfl) (cA ak))
  (au (dB PassesOwn.never rfl (cu (bj zu (pA rP (aV jQ (by rfl) T.sorted PyProof.Rows.boot_sorted (aj (pv 2) ak)) rz (rE ao)) (cA (aj (pv 1) ak)))) (bz (i:=5) cR.nd rfl (Or.inl rfl))
   (au (aN (i:=7) cR.nd rfl (Or.inl rfl) (bj iD ao (bj dH (aO CM hr rfl (aj (pv 0) (aj (bj iD ao (aV aU (by rfl) T.len PySem.boot_len (aj (pv 6) ak))) ak))) ao)))
   (au (bU (aY iW (bj dH (bj mR (pv 0) ao) ao) ao (bx _)) (aB (aN (i:=7) cR.nd rfl (Or.inl rfl) (bj iD ao (bj dH (aO CM hr rfl (aj (pv 0) (aj (bj iD ao (aV aU (by rfl) T.len PySem.boot_len (aj (pv 6) ak))) ak))) ao)))) bc)
   (aB (cz (iY PySem.F.plainAttrs_list PySem.F.slot_list_append PySem.F.type_list_append di (pv 6) (aj (bC (aj (aO CL hr rfl (aj (pv 5) (aj (pv 1) ak))) (aj (pv 7) ak))) ak)))))))
  (aB (aW (pv 6)))),?_⟩
 intro Q H1 cell n le es x3 x4 x5 x6 x7 s1 n2 n1000 hE hl hnd hb k
 refine⟨Nat.zero_le _,fun ls hls=>?_⟩
 have t1:aF H1 (upd H1 ls (.lst [])):=aF.upd hls
 have hls0:H ls=none:=s1.free hls
 have big:1000<=sizeLine:=by decide
 refine⟨_,rfl,le,es,rfl,.of (t1 _ _ hE),by omega,fun l2 es' hl2 hp hpw=>?_⟩
 have t2:=aF.upd (o:= .lst (es'.map V.int)) hl2
 have nd':es'.Nodup:=hp.nodup_iff.mpr hnd
 have pl:=hp.length_eq
 refine⟨_,rfl,l2,_,rfl,dW,fun l3 hl3=>?_⟩
 have ec:oK (es'.map V.int) none (some 7)=(es'.take 7).map V.int:=by
  unfold oK
  rw[HT.sIx_none,show(some (7:Int))=some ((7:Nat):Int)from rfl,HT.sIx_nat,List.drop_zero,List.length_map,Nat.sub_zero,<-List.map_take]
  by_cases z:7<=es'.length
  .rw[Nat.min_eq_left z]
  .rw[Nat.min_eq_right (by omega),List.take_of_length_le (Nat.le_refl _),List.take_of_length_le (by omega)]
 rw[ec]
 have t3:=aF.upd (o:= .lst ((es'.take 7).map V.int)) hl3
 refine⟨_,rfl,(by show 1<=sizeLine;decide),fun l4 hl4=>?_⟩
 have t4:=aF.upd (o:= .lst [.int n]) hl4
 have lt7:(es'.take 7).length<=7:=by rw[List.length_take];omega
 refine⟨l3,l4,_,_,rfl,rfl,t4 _ _ az,az,by rw[List.length_map];show _+1<=sizeLine;omega,fun l5 hl5=>?_⟩
 have exs:(es'.take 7).map V.int++[V.int n]=(es'.take 7++[(n:Int)]).map V.int:=by rw[List.map_append];rfl
 rw[exs]
 have t5:=aF.upd (o:= .lst ((es'.take 7++[(n:Int)]).map V.int)) hl5
 have tt:=t1.trans (t2.trans (t3.trans (t4.trans t5)))
 refine⟨l5,rfl,⟨_,dW⟩,?_⟩
 have hl50:(upd H1 ls (.lst [])) l5=none:=(t2.trans (t3.trans t4)).free hl5
 have ne5:l5≠ls:=fun z=>by
  rw[z,az]at hl50
  cases hl50
 have lst5:(es'.take 7++[(n:Int)]).length<=8:=by rw[List.length_append];show _+1<=8;omega
 refine dh (K:=K) (a:=l5) (xs:=(es'.take 7++[(n:Int)]).map V.int) (fun i σ H'=>aF H1 H'/\H' l5=some (.lst ((es'.take 7++[(n:Int)]).map V.int))/\∃(ts:List V)(S:aA)(x5 x7:Option V),σ=[some (.int cell),some (.int n),some (.ref le),x3,x4,x5,some (.ref ls),x7]/\H' ls=some (.lst ts)/\Paired (je K H') ts S/\fG n ((es'.take 7++[(n:Int)]).take i) S)
  ⟨tt,az,[],[],_,_,rfl,(t2.trans (t3.trans (t4.trans t5))) _ _ az,.nil,fG.nil n⟩ (fun i σ H' _ h=> .of h.2.1) ?_ ?_
 .rintro i x σ H' hx ⟨u1,u2,ts,S,x5,x7,rfl,hT,pT,md⟩
  have il:i<(es'.take 7++[(n:Int)]).length:=by
   have:=(List.getElem?_eq_some_iff.mp hx).1
   rw[List.length_map]at this
   exact this
  obtain⟨e,he⟩:∃e,(es'.take 7++[(n:Int)])[i]? =some e:=⟨_,List.getElem?_eq_getElem il⟩
  have ex:x= .int e:=by
   rw[List.getElem?_map,he]at hx
   exact(Option.some.inj hx).symm
  subst ex
  have me:=List.mem_of_getElem? he
  have eb:1<=e/\e<=n:=by
   rcases List.mem_append.mp me with q|q
   .have:=hb e (hp.mem_iff.mp (List.mem_of_mem_take q))
    omega
   .rw[List.mem_singleton.mp q]
    omega
  have lT:ts.length<=8:=by
   have:=congrArg List.length md.1
   rw[List.length_map,List.length_map,List.length_take]at this
   rw[pT.length]
   omega
  have step:∀(wt:Int)(t:Addr)(v1:V)(H2:Hp)(x5 x7:Option V),0<wt->wt<=1000->aF H' H2->H2 t=some (.tup [v1,.int wt])->bI K H2 v1 ((e:Rat)/(n:Rat))->
    (aF H1 (upd H2 ls (.lst (ts++[.ref t])))/\(upd H2 ls (.lst (ts++[.ref t]))) l5=some (.lst ((es'.take 7++[(n:Int)]).map V.int))/\∃(ts':List V)(S:aA)(y5 y7:Option V),[some (V.int cell),some (.int n),some (.ref le),x3,x4,x5,some (.ref ls),x7]=[some (.int cell),some (.int n),some (.ref le),x3,x4,y5,some (.ref ls),y7]/\(upd H2 ls (.lst (ts++[.ref t]))) ls=some (.lst ts')/\Paired (je K (upd H2 ls (.lst (ts++[.ref t])))) ts' S/\fG n ((es'.take 7++[(n:Int)]).take (i+1)) S):=by
   intro wt t v1 H2 x5 x7 w0 w1 u3 hH2 hv1
   have k1:=cC.updL (o:= .lst (ts++[.ref t])) (u3 _ _ hT)
   refine⟨(u1.trans u3).updN hls,by rw[aG ne5];exact u3 _ _ u2,_,S++[((e:Rat)/(n:Rat),wt)],_,_,rfl,az,?_,?_⟩
   .exact Paired.app (Paired.mapP pT fun _ _ z=>je.keep k1 (je.same u3 z)) (.cons ⟨t,v1,_,rfl,k1.sqT (.of hH2),hv1.keep k1,rfl⟩ .nil)
   .rw[take_snoc he]
    exact md.snoc w0 w1
  have b9:∀r:Int,0<1+r%9/\1+r%9<=1000:=fun r=>by omega
  have b1000:∀r:Int,0<1+r%1000/\1+r%1000<=1000:=fun r=>by omega
  refine⟨_,rfl,_,rfl,ls,_,rfl,.inl (.of hT),_,_,rfl,rfl,_,_,rfl,fun r=>?_⟩
  refine⟨_,_,rfl,rfl,(by show(0:Int)<9;decide),_,_,rfl,rfl,?_⟩
  refine⟨_,rfl,_,_,rfl,rfl,⟨by decide,by decide⟩,_,_,rfl,rfl,(by show(0:Int)<8;decide),rfl,_,rfl,?_⟩
  refine fH (fun h=>?_) (fun h=>?_)
  .refine⟨_,rfl,_,rfl,ls,_,rfl,.inl (.of hT),_,_,rfl,rfl,_,_,rfl,fun r2=>?_⟩
   refine⟨_,_,rfl,rfl,(by show(0:Int)<1000;decide),_,_,rfl,rfl,?_⟩
   refine⟨_,rfl,.inl ⟨rfl,_,.of hT⟩,_,rfl,_,rfl,e,(n:Int),rfl,by omega,by omega,.of_bits (n:=20) (by omega) (by decide),fun v1 H2 u3 hv1=>?_⟩
   rw[Rat.intCast_natCast]at hv1
   refine⟨_,rfl,(by show 2<=sizeLine;decide),fun t ht=>?_⟩
   have u4:=aF.upd (o:= .tup [v1,.int (1+r2%1000)]) ht
   exact⟨ls,ts,_,rfl,rfl,(u3.trans u4) _ _ hT,by omega,step _ t v1 _ _ _ (b1000 r2).1 (b1000 r2).2 (u3.trans u4) az (hv1.same u4)⟩
  .refine⟨_,rfl,.inl ⟨rfl,_,.of hT⟩,_,rfl,_,rfl,e,(n:Int),rfl,by omega,by omega,.of_bits (n:=20) (by omega) (by decide),fun v1 H2 u3 hv1=>?_⟩
   rw[Rat.intCast_natCast]at hv1
   refine⟨_,rfl,(by show 2<=sizeLine;decide),fun t ht=>?_⟩
   have u4:=aF.upd (o:= .tup [v1,.int (1+r%9)]) ht
   exact⟨ls,ts,_,rfl,rfl,(u3.trans u4) _ _ hT,by omega,step _ t v1 _ _ _ (b9 r).1 (b9 r).2 (u3.trans u4) az (hv1.same u4)⟩
 .rintro σ H' ⟨u1,u2,ts,S,x5,x7,rfl,hT,pT,md⟩
  rw[List.take_of_length_le (by rw[List.length_map];exact Nat.le_refl _)]at md
  refine⟨_,rfl,k ls ts n S H' (s1.trans u1) hls0 hT pT (md.ts (by omega) n1000 lt7 ?_)⟩
  have r1:es'.Pairwise (· < ·):=yd hpw nd'
  have bb:∀e∈es'.take 7,1<=e/\e<n:=fun e he=>hb e (hp.mem_iff.mp (List.mem_of_mem_take he))
  refine List.pairwise_cons.mpr ⟨fun e he=>?_,List.pairwise_append.mpr ⟨r1.sublist (List.take_sublist _ _),List.pairwise_singleton _ _,fun a ha b hb'=>?_⟩⟩
  .rcases List.mem_append.mp he with q|q
   .have:=bb e q
    omega
   .rw[List.mem_singleton.mp q]
    omega
  .rw[List.mem_singleton.mp hb']
   exact(bb a ha).2
theorem Jq(CM:Cl P w K mg base "_law_mixed" 1 ["_law_cell","_law_k"] rQ)(CL:Cl P w K mg base "_law_low" 1 ["_law_a","_law_b"] (jb K))(T:Txt K mg aL aR){f:Addr}{cdv:Value}{A:Around}{outer:List Env}{s:Shared}{H:Hp}{E:XK}(hr:aZ 1 (cx P w K mg base NS "_law_steps_by" bO f cdv A outer s H E).A):
  ∃t,lC (cx P w K mg base NS "_law_steps_by" bO f cdv A outer s H E) (List.drop 5 (bK bO)) t/\∀(Q:VK)(H1:Hp)(cell m:Int)(n:Nat)(le:Addr)(x4 x5 x6 x7:Option V),aF H H1->H le=none->2<=n->n<=1000->0<=m->m<=8->H1 le=some (.lst [])->
   (∀(l:Addr)(ts:List V)(p:Nat)(S:aA)(H':Hp),aF H H'->H l=none->H' l=some (.lst ts)->Paired (je K H') ts S->aX p S->Q (.ref l) H')->
   t {nx:=fun _ H'=>Q .non H',rt:=Q} [some (.int cell),some (.int n),some (.ref le),some (.int m),x4,x5,x6,x7] H1:=by
 obtain⟨t6,h6,r6⟩:=Jr (P:=P) (w:=w) (mg:=mg) (base:=base) (f:=f) (cdv:=cdv) (A:=A) (outer:=outer) (s:=s) (H:=H) (E:=E) CM CL T hr
 refine⟨_,au (dB PassesOwn.never rfl (fV rfl T.range (aj (pv 3) ak)) (bz (i:=4) cR.nd rfl (Or.inl rfl))
   (au (aN (i:=5) cR.nd rfl (Or.inl rfl) (bj iD ao (bj dH (aO CM hr rfl (aj (pv 0) (aj (pv 4) ak))) (pv 1))))
   (aB (bU (PW.pt (jr (aY gQ (pv 5) (pv 1) (bx _)) (fX (aY vM (pv 5) (pv 2) rfl)))) (aB (cz (iY PySem.F.plainAttrs_list PySem.F.slot_list_append PySem.F.type_list_append di (pv 2) (aj (pv 5) ak)))) bc)))) h6,?_⟩
 intro Q H1 cell m n le x4 x5 x6 x7 s1 hle n2 n1000 m0 m8 hE k
 refine⟨_,rfl,m,rfl,by omega,by omega,?_⟩
 refine jC (lo:=0) (n:=m.toNat) (fun i σ H'=>aF H H'/\∃(es:List Int)(x4 x5:Option V),σ=[some (.int cell),some (.int n),some (.ref le),some (.int m),x4,x5,x6,x7]/\H' le=some (.lst (es.map V.int))/\es.length<=i/\es.Nodup/\∀e∈es,1<=e/\e<(n:Int))
  ⟨s1,[],_,_,rfl,hE,Nat.le_refl _,List.nodup_nil,(fun _ z=>nomatch z)⟩ ?_ ?_
 .rintro i σ H' hi ⟨u1,es,y4,y5,rfl,he,hl,hnd,hb⟩
  refine⟨_,rfl,_,rfl,_,_,rfl,fun r=>?_⟩
  refine⟨_,rfl,_,_,rfl,rfl,(by show(0:Int)<n;omega),_,_,rfl,rfl,?_⟩
  have b0:=Int.emod_nonneg r (show(n:Int)≠0 by omega)
  refine⟨_,rfl,_,rfl,_,_,rfl,rfl,_,rfl,?_⟩
  refine fH (fun h=>?_) (fun h=>?_)
  .have h':1+r%(n:Int)<n:=of_decide_eq_true h
   refine⟨_,rfl,_,rfl,le,_,rfl,.inl (.of he),rfl,Dk es,_,rfl,?_⟩
   refine fH (fun h2=>?_) (fun h2=>?_)
   .have nin:(1+r%(n:Int))∉es:=fun z=>by
     have h2':(!inV (.int (1+r%(n:Int))) (es.map V.int))=true:=h2
     rw[Bl.mpr z]at h2'
     cases h2'
    refine⟨_,rfl,.inl ⟨rfl,_,.of he⟩,_,rfl,le,_,_,rfl,rfl,he,?_,?_⟩
    .rw[List.length_map]
     have:100<sizeLine:=by decide
     omega
    .refine⟨u1.updN hle,es++[1+r%(n:Int)],_,_,rfl,?_,?_,?_,fun e he'=>?_⟩
     .rw[az,List.map_append]
      rfl
     .rw[List.length_append]
      show es.length+1<=i+1
      omega
     .refine List.nodup_append.mpr ⟨hnd,List.pairwise_singleton _ _,fun a ha b hb'=>?_⟩
      rw[List.mem_singleton.mp hb']
      intro z
      rw[z]at ha
      exact nin ha
     .rcases List.mem_append.mp he' with z|z
      .exact hb e z
      .rw[List.mem_singleton.mp z]
       omega
   .exact⟨u1,es,_,_,rfl,he,by omega,hnd,hb⟩
  .exact dY ⟨u1,es,_,_,rfl,he,by omega,hnd,hb⟩
 .rintro σ H' ⟨u1,es,y4,y5,rfl,he,hl,hnd,hb⟩
  exact r6 Q H' cell n le es _ _ _ _ _ u1 n2 n1000 he (by omega) hnd hb k
theorem zp{f:Addr}{fd:FuncData}(D:bJ K mg "_law_steps_by" bO ["_law_cell"] f fd)(CM:Cl P w K mg base "_law_mixed" 1 ["_law_cell","_law_k"] rQ)(CL:Cl P w K mg base "_law_low" 1 ["_law_a","_law_b"] (jb K))(T:Txt K mg aL aR):bH P w K mg base dj 2 f fd ["_law_cell"] (uP K):=by
 refine D.fn.ok cR (fun vs H Q E h=>?_) (fun cdv A outer s H vs Q E hr h=>?_)
 .obtain⟨cell,rfl,_⟩:=h
  rfl
 .obtain⟨cell,rfl,k⟩:=h
  obtain⟨t5,h5,r5⟩:=Jq (P:=P) (w:=w) (mg:=mg) (base:=base) (f:=f) (cdv:=cdv) (A:=A) (outer:=outer) (s:=s) (H:=H) (E:=E) CM CL T hr
  obtain⟨t2,h2,r2⟩:∃t,lC (cx P w K mg base NS "_law_steps_by" bO f cdv A outer s H E) (List.drop 2 (bK bO)) t/\∀(n:Nat),2<=n->n<=1000->t {nx:=fun _ H'=>Q .non H',rt:=Q} [some (.int cell),some (.int n),none,none,none,none,none,none] H:=by
   refine⟨_,au (aN (i:=2) cR.nd rfl (Or.inl rfl) (cA ak))
    (au (aN (i:=3) cR.nd rfl (Or.inl rfl) (bj dH (bj mR (pv 0) ao) ao))
    (au (bU (aY iW (bj dH (bj mR (pv 0) ao) ao) ao (bx _)) (aB (aN (i:=3) cR.nd rfl (Or.inl rfl) (bj dH (bj mR (pv 0) ao) ao))) bc) h5)),?_⟩
   intro n n2 n1000
   refine⟨Nat.zero_le _,fun le hle=>?_⟩
   refine⟨_,rfl,_,_,rfl,rfl,⟨by decide,by decide⟩,_,_,rfl,rfl,(by show(0:Int)<4;decide),?_⟩
   refine⟨_,rfl,_,_,rfl,rfl,⟨by decide,by decide⟩,_,_,rfl,rfl,(by show(0:Int)<4;decide),rfl,_,rfl,?_⟩
   refine fH (fun h=>?_) (fun h=>?_)
   .refine⟨_,rfl,_,_,rfl,rfl,⟨by decide,by decide⟩,_,_,rfl,rfl,(by show(0:Int)<9;decide),?_⟩
    exact r5 Q _ cell _ n le _ _ _ _ (aF.upd hle) hle n2 n1000 (by show 0<=cell/5%9;omega) (by show cell/5%9<=8;omega) az k
   .exact r5 Q _ cell _ n le _ _ _ _ (aF.upd hle) hle n2 n1000 (by show 0<=cell/5%4;omega) (by show cell/5%4<=8;omega) az k
  refine⟨_,au (aN (i:=1) cR.nd rfl (Or.inl rfl) ao)
   (au (bU (aY iW (bj dH (pv 0) ao) ao (bx _)) (aB (aN (i:=1) cR.nd rfl (Or.inl rfl) (bj iD ao (bj dH (bj mR (pv 0) ao) ao)))) bc) h2),?_⟩
  refine⟨_,rfl,_,_,rfl,rfl,(by show(0:Int)<7;decide),rfl,_,rfl,?_⟩
  refine fH (fun h=>?_) (fun h=>?_)
  .refine⟨_,rfl,_,_,rfl,rfl,⟨by decide,by decide⟩,_,_,rfl,rfl,(by show(0:Int)<999;decide),_,_,rfl,rfl,?_⟩
   have e:(2+cell/7%999:Int)=((2+cell/7%999).toNat:Int):=by omega
   have:=r2 (2+cell/7%999).toNat (by omega) (by omega)
   rw[<-e]at this
   exact this
  .exact r2 12 (by decide) (by decide)
end
end FQ
namespace FQ
open PySem L2 FK
def fBody:Stmt->List Stmt
 | .For _ _ b _ _=>b
 |_=>[]
def Rb(l:List Stmt)(k:Nat):Stmt:=l.getD k (.Pass ⟨0,0,0,0⟩)
def Iv(K:PySem.W.Frag):Sp:=fun vs H Q _=>∃(a:Addr)(x y:V)(ts:List V)(p D:Nat)(S:aA)(u v:Rat),vs=[.ref a,x,y]/\cJ K H a ts/\Paired (je K H) ts S/\aX p S/\bI K H x u/\bI K H y v/\(0<=u/\u<=v/\v<=1)/\mY D/\(Gr D u/\Gr D v)/\
 ∀r H',aF H H'->bI K H' r (A 0 S v-A 0 S u)->Q r H'
abbrev NA:List Str:=["_law_steps","_law_start","_law_end","_law_found","_law_begin","_law_last","_law_weight","_law_low_here","_law_high","_law_part"]
theorem gM:aQ NA ["_law_steps","_law_start","_law_end"] (aJ cW):=⟨rfl,rfl,rfl,by decide+kernel,rfl,by decide+kernel,by decide+kernel⟩
abbrev FN:List Stmt:=fBody (Rb (bK cW) 2)
theorem yN{D p:Nat}{q:Rat}{m:Nat}(d:mY D)(p0:0<p)(p1:p<=1000)(g:Gr (D*p) q)(h0:0<=q)(hm:q<=(m:Rat))(hm2:m<=1000000):Bd 280 q:=by
 have l1:D*p<=D*1000:=Nat.mul_le_mul_left _ p1
 have l2:=d.few
 have l3:m*(D*p)<=1000000*(D*1000):=Nat.mul_le_mul hm2 l1
 exact g.bd (Nat.mul_pos d.pos p0) h0 hm (by omega) (by omega)
theorem Lk{q:Rat}{w:Int}:((q.num*w:Int):Rat)/((q.den:Int):Rat)=q*(w:Rat):=by
 have h1:=q_eq q
 have h3:=jh q
 rw[Rat.intCast_mul]
 grind
section
variable {P:Program} {w:World} {K:PySem.W.Frag} {mg:Str->Option Value} {base:Heap} {aL aR:Addr}
structure Law3(P:Program)(w:World)(K:PySem.W.Frag)(mg:Str->Option Value)(base:Heap):Prop where
 less:Cl P w K mg base "_law_less" 1 ["_law_one","_law_other"] (dD K)
 left:Cl P w K mg base "_law_left" 2 ["_law_one","_law_other"] (jc K)
 sum:Cl P w K mg base "_law_sum" 2 ["_law_one","_law_other"] (Jc K)
theorem Jo(C:Law3 P w K mg base){f:Addr}{cdv:Value}{A:Around}{outer:List Env}{s:Shared}{H:Hp}{E:XK}(hr:aZ 2 (cx P w K mg base NA "_law_area" cW f cdv A outer s H E).A):
  ∃t,lC (cx P w K mg base NA "_law_area" cW f cdv A outer s H E) (List.drop 4 FN) t/\∀(D:Ends)(H1:Hp)(x0 x1 x2 x4 x9:Option V)(vf ve vl vh:V)(wt:Int)(fq e l h:Rat),bI K H1 vf fq->bI K H1 vl l->bI K H1 vh h->eQ fq->Ft 280 l->Ft 280 h->0<=wt->wt<=1000->
   (∀(vf':V)(xp:Option V)(H':Hp),aF H1 H'->bI K H' vf' (fq+if l<h then(h-l)*(wt:Rat)else 0)->D.nx [x0,x1,x2,some vf',some ve,some ve,some (.int wt),some vl,some vh,xp] H')->
   t D [x0,x1,x2,some vf,x4,some ve,some (.int wt),some vl,some vh,x9] H1:=by
 have hr1:aZ 1 _:=hr.mono (by decide)
 refine⟨_,au (bU (bV (aO C.less hr1 rfl (aj (pv 7) (aj (pv 8) ak))))
   (au (aN (i:=9) gM.nd rfl (Or.inl rfl) (aO C.left hr rfl (aj (pv 8) (aj (pv 7) ak))))
   (aB (aN (i:=3) gM.nd rfl (Or.inl rfl) (aO C.sum hr rfl (aj (pv 3) (aj (bC (aj (bj cF (aD aK (pv 9) ao (fun _ _=>rfl)) (pv 6)) (aj (aD aK (pv 9) ao (fun _ _=>rfl)) ak))) ak)))))) bc)
  (aB (aN (i:=4) gM.nd rfl (Or.inl rfl) (pv 5))),?_⟩
 intro D H1 x0 x1 x2 x4 x9 vf ve vl vh wt fq e l h hf hl hh ff fl fh w0 w1 k
 refine⟨_,rfl,_,rfl,vl,vh,l,h,rfl,hl,hh,fl.fit,fh.fit,_,rfl,?_⟩
 refine fH (fun c=>?_) (fun c=>?_)
 .have c':l<h:=of_decide_eq_true c
  refine⟨_,rfl,_,rfl,vh,vl,h,l,rfl,hh,hl,fh.fit,fl.fit,Rat.le_of_lt c',fun v1 H2 s2 d1=>?_⟩
  obtain⟨p1,rfl,q1⟩:=d1.sq
  have nn:0<=h-l:=by grind
  have bp:Bd 561 (h-l):=fh.2.sub fl.2
  have fp:eQ (h-l):=⟨nn,bp.mono (by decide)⟩
  have wS:Sm wt:= .of_bits (n:=20) (by omega) (by decide)
  refine⟨_,rfl,_,rfl,p1,_,_,_,rfl,rfl,q1,rfl,_,rfl,_,_,rfl,rfl,⟨fp.s1,wS⟩,_,rfl,p1,_,_,_,rfl,rfl,q1,rfl,(by show 2<=sizeLine;decide),fun t ht=>?_⟩
  have s3:=aF.upd (o:= .tup [.int ((h-l).num*wt),.int ((h-l).den:Int)]) ht
  have cb:((h-l).num*wt).natAbs<2^1990:=by
   rw[Int.natAbs_mul]
   have:=dw (n:=20) bp.1 (show wt.natAbs<2^20 by omega)
   exact Nat.lt_of_lt_of_le this (Nat.pow_le_pow_right (by decide) (by decide))
  have db:((h-l).den:Int).natAbs<2^1990:=by
   rw[Int.natAbs_natCast]
   exact(bp.mono (show 561<=1990 by decide)).2
  refine⟨vf,t,fq,_,_,rfl,(hf.same s2).same s3,bw,ff,Int.mul_nonneg fp.nn w0,den_pos _,cb,db,fun v2 H3 s4 d2=>?_⟩
  refine⟨_,rfl,k v2 _ H3 (s2.trans (s3.trans s4)) ?_⟩
  rw[Lk]at d2
  rw[if_pos c']
  exact d2
 .have c':¬l<h:=fun z=>c (decide_eq_true z)
  refine⟨_,rfl,k vf _ H1 (aF.refl _) ?_⟩
  rw[if_neg c',show fq+0=fq by grind]
  exact hf
theorem Jm(C:Law3 P w K mg base){f:Addr}{cdv:Value}{A:Around}{outer:List Env}{s:Shared}{H:Hp}{E:XK}(hr:aZ 2 (cx P w K mg base NA "_law_area" cW f cdv A outer s H E).A):
  ∃t,lC (cx P w K mg base NA "_law_area" cW f cdv A outer s H E) FN t/\∀(D:Ends)(H1:Hp)(x0 x7 x8 x9:Option V)(x y vf vb ve:V)(wt:Int)(fq b e u v:Rat),bI K H1 vf fq->bI K H1 vb b->bI K H1 ve e->bI K H1 x u->bI K H1 y v->eQ fq->Ft 280 b->Ft 280 e->Ft 280 u->Ft 280 v->0<=wt->wt<=1000->
   (∀(vf':V)(y7 y8 y9:Option V)(H':Hp),aF H1 H'->bI K H' vf' (fq+if(if b<u then u else b)<(if v<e then v else e)then((if v<e then v else e)-(if b<u then u else b))*(wt:Rat)else 0)->D.nx [x0,some x,some y,some vf',some ve,some ve,some (.int wt),y7,y8,y9] H')->
   t D [x0,some x,some y,some vf,some vb,some ve,some (.int wt),x7,x8,x9] H1:=by
 have hr1:aZ 1 _:=hr.mono (by decide)
 obtain⟨t4,h4,r4⟩:=Jo (P:=P) (w:=w) (mg:=mg) (base:=base) (f:=f) (cdv:=cdv) (A:=A) (outer:=outer) (s:=s) (H:=H) (E:=E) C hr
 obtain⟨t3,h3,r3⟩:∃t,lC (cx P w K mg base NA "_law_area" cW f cdv A outer s H E) (List.drop 3 FN) t/\∀(D:Ends)(H1:Hp)(x0 x9:Option V)(x y vf vb ve vl:V)(wt:Int)(fq e l v:Rat),bI K H1 vf fq->bI K H1 ve e->bI K H1 vl l->bI K H1 y v->eQ fq->Ft 280 e->Ft 280 l->Ft 280 v->0<=wt->wt<=1000->
   (∀(vf':V)(y7 y8 y9:Option V)(H':Hp),aF H1 H'->bI K H' vf' (fq+if l<(if v<e then v else e)then((if v<e then v else e)-l)*(wt:Rat)else 0)->D.nx [x0,some x,some y,some vf',some ve,some ve,some (.int wt),y7,y8,y9] H')->
   t D [x0,some x,some y,some vf,some vb,some ve,some (.int wt),some vl,some ve,x9] H1:=by
  refine⟨_,au (bU (bV (aO C.less hr1 rfl (aj (pv 2) (aj (pv 8) ak)))) (aB (aN (i:=8) gM.nd rfl (Or.inl rfl) (pv 2))) bc) h4,?_⟩
  intro D H1 x0 x9 x y vf vb ve vl wt fq e l v hf he hl hv ff fe fl fv w0 w1 k
  refine⟨_,rfl,_,rfl,y,ve,v,e,rfl,hv,he,fv.fit,fe.fit,_,rfl,?_⟩
  refine fH (fun c=>?_) (fun c=>?_)
  .have c':v<e:=of_decide_eq_true c
   rw[if_pos c']at k
   exact⟨_,rfl,r4 D H1 _ _ _ _ _ vf ve vl y wt fq e l v hf hl hv ff fl fv w0 w1 fun vf' xp H' s1 d1=>k vf' _ _ _ H' s1 d1⟩
  .have c':¬v<e:=fun z=>c (decide_eq_true z)
   rw[if_neg c']at k
   exact r4 D H1 _ _ _ _ _ vf ve vl ve wt fq e l e hf hl he ff fl fe w0 w1 fun vf' xp H' s1 d1=>k vf' _ _ _ H' s1 d1
 refine⟨_,au (aN (i:=7) gM.nd rfl (Or.inl rfl) (pv 4)) (au (aN (i:=8) gM.nd rfl (Or.inl rfl) (pv 5))
  (au (bU (bV (aO C.less hr1 rfl (aj (pv 7) (aj (pv 1) ak)))) (aB (aN (i:=7) gM.nd rfl (Or.inl rfl) (pv 1))) bc) h3)),?_⟩
 intro D H1 x0 x7 x8 x9 x y vf vb ve wt fq b e u v hf hb he hu hv ff fb fe fu fv w0 w1 k
 refine⟨_,rfl,_,rfl,_,rfl,_,rfl,vb,x,b,u,rfl,hb,hu,fb.fit,fu.fit,_,rfl,?_⟩
 refine fH (fun c=>?_) (fun c=>?_)
 .have c':b<u:=of_decide_eq_true c
  rw[if_pos c']at k
  exact⟨_,rfl,r3 D H1 _ _ x y vf vb ve x wt fq e u v hf he hu hv ff fe fu fv w0 w1 k⟩
 .have c':¬b<u:=fun z=>c (decide_eq_true z)
  rw[if_neg c']at k
  exact r3 D H1 _ _ x y vf vb ve vb wt fq e b v hf he hb hv ff fe fb fv w0 w1 k
theorem Kw{f:Addr}{fd:FuncData}(D:bJ K mg "_law_area" cW ["_law_steps","_law_start","_law_end"] f fd)(C:Law3 P w K mg base):bH P w K mg base dj 3 f fd ["_law_steps","_law_start","_law_end"] (Iv K):=by
 refine D.fn.ok gM (fun vs H Q E h=>?_) (fun cdv A0 outer s H vs Q E hr h=>?_)
 .obtain⟨a,x,y,ts,p,D,S,u,v,rfl,_⟩:=h
  rfl
 .obtain⟨a,x,y,ts,p,D,S,u,v,rfl,ha,hS,ok,hu,hv,⟨u0,uv,v1⟩,d,⟨gu,gv⟩,k⟩:=h
  obtain⟨tb,hb,rb⟩:=Jm (P:=P) (w:=w) (mg:=mg) (base:=base) (f:=f) (cdv:=cdv) (A:=A0) (outer:=outer) (s:=s) (H:=H) (E:=E) C hr
  refine⟨_,au (aN (i:=3) gM.nd rfl (Or.inl rfl) (bC (aj ao (aj ao ak))))
   (au (aN (i:=4) gM.nd rfl (Or.inl rfl) (bC (aj ao (aj ao ak))))
   (au (dB PassesOwn.never rfl (cu (pv 0)) (zF rfl (jF (bz (i:=5) gM.nd rfl (Or.inl rfl)) (jF (bz (i:=6) gM.nd rfl (Or.inl rfl)) vV))) hb)
   (aB (aW (pv 3))))),?_⟩
  refine⟨(by show 2<=sizeLine;decide),fun t1 ht1=>?_⟩
  refine⟨(by show 2<=sizeLine;decide),fun t2 ht2=>?_⟩
  have s1:=aF.upd (o:= .tup [.int 0,.int 1]) ht1
  have s2:=aF.upd (o:= .tup [.int 0,.int 1]) ht2
  have s12:=s1.trans s2
  refine⟨_,rfl,a,rfl,⟨_,s12.seq ha⟩,?_⟩
  have lX:=hS.length
  have f10:∀{q:Rat},Gr D q->0<=q->q<=1->Ft 280 q:=fun g h0 h1=>⟨h0,(d.bd g h0 h1).mono (by decide)⟩
  have v0:0<=v:=by grind
  have u1:u<=1:=by grind
  refine dh (K:=K) (a:=a) (xs:=ts) (fun i σ H'=>aF H H'/\∃(vf vb:V)(x5 x6 x7 x8 x9:Option V),σ=[some (.ref a),some x,some y,some vf,some vb,x5,x6,x7,x8,x9]/\bI K H' vf (A 0 (S.take i) v-A 0 (S.take i) u)/\bI K H' vb (endOf 0 (S.take i)))
   ⟨s12,_,_,_,_,_,_,_,rfl,(show bI K _ _ ((0:Rat)-0)by rw[show(0:Rat)-0=0 by grind];exact JD.same s2),.of bw rfl rfl⟩ (fun i σ H' _ h=>h.1.seq ha) ?_ ?_
  .rintro i z σ H' hz ⟨s3,vf,vb,x5,x6,x7,x8,x9,rfl,hf,hbg⟩
   obtain⟨st,hst,p0,ye,yw,rfl,hp0,hye,hyw⟩:=Paired.get1 hS i z hz
   cases (show yw= .int st.2 from hyw)
   obtain⟨r1,r2⟩:=lY ok.rise hst
   have ms:=List.mem_of_getElem? hst
   have zw:=ok.w st ms
   have nx:endOf 0 (S.take (i+1))=st.1:=by
    rw[take_snoc hst,show st=(st.1,st.2)from rfl,iz]
   have e0:0<=st.1:=by rw[<-nx];exact gD ok _
   have eb:Bd 10 st.1:=by rw[<-nx];exact jR ok _
   have okr:=gZ i ok.rise
   have fnn:0<=A 0 (S.take i) v-A 0 (S.take i) u:=by
    have:=pK okr uv
    grind
   have fup:A 0 (S.take i) v-A 0 (S.take i) u<=((1000:Nat):Rat):=by
    have a1:=Oq (x:=v) (M:=1000) okr (by decide) (fun z hz=>Rat.intCast_le_intCast.mpr (ok.w z (List.mem_of_mem_take hz))) v0
    have a2:=Fb (x:=u) okr
    have e:((1000:Nat):Rat)=1000:=rfl
    grind
   have fg:Gr (D*p) (A 0 (S.take i) v-A 0 (S.take i) u):=
    Gr.sub (jL (Gr.zero _) (fun z hz=>(ok.gr z (List.mem_of_mem_take hz)).up') gv.up) (jL (Gr.zero _) (fun z hz=>(ok.gr z (List.mem_of_mem_take hz)).up') gu.up)
   have ff:eQ (A 0 (S.take i) v-A 0 (S.take i) u):=⟨fnn,(yN d ok.pos ok.few fg fnn fup (by decide)).mono (by decide)⟩
   refine⟨p0,_,rfl,s3.sqT hp0,rfl,_,_,rfl,_,_,rfl,rfl,?_⟩
   refine rb _ H' _ _ _ _ x y vf vb ye st.2 _ (endOf 0 (S.take i)) st.1 u v hf hbg (hye.same s3) (hu.same s3) (hv.same s3) ff ⟨gD ok i,(jR ok i).mono (by decide)⟩ ⟨e0,eb.mono (by decide)⟩ (f10 gu u0 u1) (f10 gv v0 v1) (by omega) zw fun vf' y7 y8 y9 H2 s4 d1=>?_
   refine⟨s3.trans s4,vf',ye,_,_,_,_,_,rfl,?_,?_⟩
   .rw[<-Dc r1 uv]at d1
    have e:A 0 (S.take (i+1)) v-A 0 (S.take (i+1)) u=A 0 (S.take i) v-A 0 (S.take i) u+((st.2:Rat)*(max (endOf 0 (S.take i)) (min st.1 v)-endOf 0 (S.take i))-(st.2:Rat)*(max (endOf 0 (S.take i)) (min st.1 u)-endOf 0 (S.take i))):=by
     rw[take_snoc hst,show st=(st.1,st.2)from rfl,yx,yx]
     grind
    rw[e]
    exact d1
   .rw[nx]
    exact(hye.same s3).same s4
  .rintro σ H' ⟨s3,vf,vb,x5,x6,x7,x8,x9,rfl,hf,hbg⟩
   rw[List.take_of_length_le (by omega)]at hf
   exact⟨_,rfl,k vf H' s3 hf⟩
end
end FQ
namespace FQ
open PySem L2 FK
def mH(K:PySem.W.Frag):Sp:=fun vs H Q _=>∃(a b:Addr)(ts xs:List V)(p D:Nat)(S:aA)(L:List (Rat×Rat)),vs=[.ref a,.ref b]/\cJ K H a ts/\Paired (je K H) ts S/\aX p S/\cJ K H b xs/\Paired (bB K H) xs L/\Fo D L/\mY D/\
 ∀r H',aF H H'->bI K H' r (Wo S L)->Q r H'
theorem _root_.FK.Fo.take{D:Nat}{L:List (Rat×Rat)}(h:Fo D L)(i:Nat):Fo D (L.take i):=⟨fun p hp=>h.win p (List.mem_of_mem_take hp),fun p hp=>h.gr p (List.mem_of_mem_take hp),by have:=h.few;rw[List.length_take];omega⟩
theorem mY.one:mY 1:=⟨by decide,Nat.one_lt_two_pow (by decide)⟩
abbrev NO:List Str:=["_law_steps","_law_piece","_law_found","_law_start","_law_end","_law_total"]
theorem jH:aQ NO ["_law_steps","_law_piece"] (aJ kE):=⟨rfl,rfl,rfl,by decide+kernel,rfl,by decide+kernel,by decide+kernel⟩
section
variable {P:Program} {w:World} {K:PySem.W.Frag} {mg:Str->Option Value} {base:Heap} {aL aR:Addr}
theorem Ec(q:Rat):(q.num:Rat)/((q.den:Int):Rat)=q:=q_eq q
theorem Ei{f:Addr}{fd:FuncData}(D:bJ K mg "_law_worth" kE ["_law_steps","_law_piece"] f fd)(CA:Cl P w K mg base "_law_area" 3 ["_law_steps","_law_start","_law_end"] (Iv K))(CS:Cl P w K mg base "_law_sum" 2 ["_law_one","_law_other"] (Jc K))
  (CL:Cl P w K mg base "_law_low" 1 ["_law_a","_law_b"] (jb K)):bH P w K mg base dj 4 f fd ["_law_steps","_law_piece"] (mH K):=by
 refine D.fn.ok jH (fun vs H Q E h=>?_) (fun cdv A0 outer s H vs Q E hr h=>?_)
 .obtain⟨a,b,ts,xs,p,D,S,L,rfl,_⟩:=h
  rfl
 .obtain⟨a,b,ts,xs,p,D,S,L,rfl,ha,hS,ok,hb,hL,so,d,k⟩:=h
  have hr2:aZ 2 _:=hr.mono (by decide)
  have hr1:aZ 1 _:=hr.mono (by decide)
  refine⟨_,au (aN (i:=2) jH.nd rfl (Or.inl rfl) (bC (aj ao (aj ao ak))))
   (au (dB PassesOwn.never rfl (cu (pv 1)) (zF rfl (jF (bz (i:=3) jH.nd rfl (Or.inl rfl)) (jF (bz (i:=4) jH.nd rfl (Or.inl rfl)) vV)))
    (aB (aN (i:=2) jH.nd rfl (Or.inl rfl) (aO CS hr2 rfl (aj (pv 2) (aj (aO CA hr rfl (aj (pv 0) (aj (pv 3) (aj (pv 4) ak)))) ak))))))
   (au (aN (i:=5) jH.nd rfl (Or.inl rfl) (aO CA hr rfl (aj (pv 0) (aj (bC (aj ao (aj ao ak))) (aj (bC (aj ao (aj ao ak))) ak)))))
   (aB (aW (aO CL hr1 rfl (aj (bj cF (aD aK (pv 2) ao (fun _ _=>rfl)) (aD aK (pv 5) ao (fun _ _=>rfl))) (aj (bj cF (aD aK (pv 2) ao (fun _ _=>rfl)) (aD aK (pv 5) ao (fun _ _=>rfl))) ak))))))),?_⟩
  refine⟨(by show 2<=sizeLine;decide),fun t1 ht1=>?_⟩
  have s1:=aF.upd (o:= .tup [.int 0,.int 1]) ht1
  refine⟨_,rfl,b,rfl,⟨_,s1.seq hb⟩,?_⟩
  have lX:=hL.length
  have few:=so.few
  have fit:∀i,eQ (Ao S (L.take i)):=fun i=>by
   have si:=so.take i
   have n0:0<=Ao S (L.take i):=Nf ok fun q hq=>(si.win q hq).2.1
   have:=si.few
   exact⟨n0,(yN d ok.pos ok.few (Nb ok si.gr) n0 (Ng ok si.win) (by omega)).mono (by decide)⟩
  have afit:∀{u v:Rat},0<=u->u<=v->v<=1->Gr D u->Gr D v->eQ (A 0 S v-A 0 S u):=fun h0 h1 h2 g1 g2=>
   ⟨uY ok h1,(yN (m:=1000) d ok.pos ok.few (Ak ok g1 g2) (uY ok h1) (Al ok (by grind) h2) (by decide)).mono (by decide)⟩
  refine dh (K:=K) (a:=b) (xs:=xs) (fun i σ H'=>aF H H'/\∃(vf:V)(x3 x4 x5:Option V),σ=[some (.ref a),some (.ref b),some vf,x3,x4,x5]/\bI K H' vf (Ao S (L.take i)))
   ⟨s1,_,_,_,_,rfl,.of bw rfl rfl⟩ (fun i σ H' _ h=>h.1.seq hb) ?_ ?_
  .rintro i z σ H' hz ⟨s3,vf,x3,x4,x5,rfl,hf⟩
   obtain⟨q,hq,p0,y1,y2,rfl,hp0,hy1,hy2⟩:=Paired.get1 hL i z hz
   have mq:=List.mem_of_getElem? hq
   have wq:=so.win q mq
   have gq:=so.gr q mq
   refine⟨p0,_,rfl,s3.sqT hp0,rfl,_,_,rfl,_,_,rfl,rfl,?_⟩
   refine⟨_,rfl,_,rfl,_,rfl,_,rfl,a,y1,y2,ts,p,D,S,q.1,q.2,rfl,s3.seq ha,Paired.mapP hS fun _ _ z=>je.same s3 z,ok,hy1.same s3,hy2.same s3,wq,d,gq,fun v1 H2 s4 d1=>?_⟩
   obtain⟨p1,rfl,q1⟩:=d1.sq
   have fa:=afit wq.1 wq.2.1 wq.2.2 gq.1 gq.2
   refine⟨vf,p1,_,_,_,rfl,hf.same s4,q1,fit i,fa.nn,den_pos _,fa.2.1,by rw[Int.natAbs_natCast];exact fa.2.2,fun v2 H3 s5 d2=>⟨s3.trans (s4.trans s5),v2,_,_,_,rfl,?_⟩⟩
   rw[Ec]at d2
   rw[take_snoc hq,Ah]
   exact d2
  .rintro σ H' ⟨s3,vf,x3,x4,x5,rfl,hf⟩
   have f0:=fit L.length
   rw[List.take_of_length_le (by omega)]at hf
   rw[List.take_length]at f0
   refine⟨_,rfl,(by show 2<=sizeLine;decide),fun t2 ht2=>⟨(by show 2<=sizeLine;decide),fun t3 ht3=>?_⟩⟩
   have s4:=aF.upd (o:= .tup [.int 0,.int 1]) ht2
   have s5:=aF.upd (o:= .tup [.int 1,.int 1]) ht3
   have s35:=s3.trans (s4.trans s5)
   refine⟨a,.ref t2,.ref t3,ts,p,1,S,0,1,rfl,s35.seq ha,Paired.mapP hS fun _ _ z=>je.same s35 z,ok,JD.same s5,VR,⟨Rat.le_refl,by decide,Rat.le_refl⟩,mY.one,⟨Gr.zero 1,Gr.one 1⟩,fun v1 H2 s6 d1=>?_⟩
   have e1:A 0 S 1-A 0 S 0=tot S:=by
    rw[jA ok.rise Rat.le_refl]
    show tot S-0=tot S
    grind
   rw[e1]at d1
   obtain⟨p1,rfl,q1⟩:=d1.sq
   obtain⟨p2,rfl,q2⟩:=hf.sq
   have q2':=(s4.trans (s5.trans s6)).sqT q2
   have ft:eQ (tot S):=by
    have:=oR ok S.length
    rw[List.take_length,ok.top]at this
    exact this.fit
   refine⟨_,rfl,p2,_,_,_,rfl,rfl,q2',rfl,_,rfl,p1,_,_,_,rfl,rfl,q1,rfl,_,_,rfl,rfl,⟨f0.s1,ft.s2⟩,?_⟩
   refine⟨_,rfl,p2,_,_,_,rfl,rfl,q2',rfl,_,rfl,p1,_,_,_,rfl,rfl,q1,rfl,_,_,rfl,rfl,⟨f0.s2,ft.s1⟩,?_⟩
   refine⟨_,_,rfl,Int.mul_nonneg f0.nn (Int.le_of_lt (den_pos _)),Int.mul_pos (den_pos _) (vI ok.tp),f0.dn ft,fun v3 H3 s7 d3=>k v3 H3 (s35.trans (s6.trans s7)) ?_⟩
   rw[vO ok.tp,Nh ok]at d3
   exact d3
end
end FQ
namespace FQ
open PySem L2 FK
section
variable {K:PySem.W.Frag} {C Pt:Addr} {H H':Hp}
theorem bY.tb{pos:Pos}{qual:Str}{x lt ll:Addr}{S:aA}(s:Tb Pt pos qual H H')(h:bY K C H x lt ll S):bY K C H' x lt ll S:=by
 obtain⟨⟨dx,h1⟩,⟨ts,h2,h3⟩,⟨ls,h4,h5⟩⟩:=h
 exact⟨⟨dx,s.get h1 fun _ z=>nomatch z⟩,⟨ts,s.lst h2,Paired.mapP h3 fun _ _ z=>je.keep s.keep z⟩,⟨ls,s.lst h4,Paired.mapP h5 fun _ _ z=>bB.keep s.keep z⟩⟩
theorem bM.tb{pos:Pos}{qual:Str}{x:V}{S:aA}(s:Tb Pt pos qual H H')(h:bM K C H x S):bM K C H' x S:=by
 obtain⟨t,lt,ll,p,e,h1,h2⟩:=h
 exact⟨t,lt,ll,p,e,h1.tb s,h2⟩
theorem Tb.updD{pos:Pos}{qual:Str}(h:Tb Pt pos qual H H'){b:Addr}{kvs kvs':List (Key×V)}(n:H b=none)(nc:H' b=some (.dK kvs)):Tb Pt pos qual H (upd H' b (.dK kvs')):=by
 obtain⟨ps,h1,h2,h3⟩:=h.rdy
 refine⟨fun d u e nd=>?_,h.old,ps,?_,h2,?_⟩
 .rw[aG (aM e n)]
  exact h.but d u e nd
 .rw[aG (bW h1 nc fun z=>nomatch z)]
  exact h1
 .rcases h3 with h3|⟨c,e1,e2⟩
  .exact .inl h3
  .exact .inr ⟨c,e1,by rw[aG (bW e2 nc fun z=>nomatch z)];exact e2⟩
theorem cC.updD{a:Addr}{kvs kvs':List (Key×V)}(e:H a=some (.dK kvs)):(∀b zs,fD K H b zs->fD K (upd H a (.dK kvs')) b zs):=fun b zs h=>by
 rcases h with(z|⟨o,z⟩)|z
 .exact .inl (.inl (by rw[aG (bW z e fun z=>nomatch z)];exact z))
 .exact .inl (.inr ⟨o,by rw[aG (bW z e fun z=>nomatch z)];exact z⟩)
 .exact .inr z
end
theorem bI.sqT{K:PySem.W.Frag}{H H':Hp}(k:∀b zs,fD K H b zs->fD K H' b zs){x:V}{q:Rat}(h:bI K H x q):bI K H' x q:=by
 obtain⟨p,y,z,e,h1,h2,h3⟩:=h
 exact⟨p,y,z,e,k _ _ h1,h2,h3⟩
theorem bB.sqT{K:PySem.W.Frag}{H H':Hp}(k:∀b zs,fD K H b zs->fD K H' b zs){x:V}{q:Rat×Rat}(h:bB K H x q):bB K H' x q:=by
 obtain⟨p,y,z,e,h1,h2,h3⟩:=h
 exact⟨p,y,z,e,k _ _ h1,bI.sqT k h2,bI.sqT k h3⟩
def Vl(K:PySem.W.Frag)(H:Hp)(kvs:List (Key×V))(ts:List Nat)(sp:Nat->Rat×Rat):Prop:=∀t∈ts,∃v,eZ kvs (.inl (t:Int))=some v/\bB K H v (sp t)
theorem Fy{K:PySem.W.Frag}{C:Addr}{H:Hp}{xs:List V}{Ss:List aA}(h:Paired (bM K C H) xs Ss):wO Ss xs.length:=fun u hu=>by
 obtain⟨S,e,_,_,_,p,_,_,ok⟩:=Paired.get1 h u xs[u] (List.getElem?_eq_getElem hu)
 refine⟨p,?_⟩
 show aX p (Ss.getD u [])
 rw[List.getD_eq_getElem?_getD,e]
 exact ok
theorem Er{qs:List Rat}{ord:List Int}(op:ord.Perm ((List.range qs.length).map fun i:Nat=>(i:Int)))(ow:ord.Pairwise (Lex qs))(h0:0<qs.length):∃p:Nat,(∃r,ord=(p:Int)::r)/\p<qs.length/\∀j,j<qs.length->qs.getD p 0<qs.getD j 0\/(qs.getD p 0=qs.getD j 0/\p<=j):=by
 cases ord with
 |nil=>
  have:=op.length_eq
  rw[List.length_map,List.length_range]at this
  simp at this
  omega
 |cons x r=>
  obtain⟨p,hp,e⟩:=List.mem_map.mp (op.mem_iff.mp (List.mem_cons_self ..))
  have hp':=List.mem_range.mp hp
  subst e
  refine⟨p,⟨r,rfl⟩,hp',fun j hj=>?_⟩
  have hm:=op.mem_iff.mpr (List.mem_map.mpr ⟨j,List.mem_range.mpr hj,rfl⟩)
  rcases List.mem_cons.mp hm with z|z
  .have:j=p:=by omega
   subst this
   exact .inr ⟨rfl,Nat.le_refl _⟩
  .rcases(List.pairwise_cons.mp ow).1 _ z with q|⟨q1,q2⟩
   .rw[Int.toNat_natCast,Int.toNat_natCast]at q
    exact .inl q
   .rw[Int.toNat_natCast,Int.toNat_natCast]at q1
    exact .inr ⟨q1,by omega⟩
theorem fZ{xs:List V}{v:V}:qT (v::xs) 0=some v:=by
 unfold qT Du
 simp
theorem uJ{α β:Type}(f:α->β):∀(xs:List α)(p:Nat),(xs.map f).eraseIdx p=(xs.eraseIdx p).map f
 |[],_=>rfl
 |_::_,0=>rfl
 |x::xs,p+1=>congrArg (f x:: ·) (uJ f xs p)
end FQ
namespace FQ
open PySem L2 FK
def Ck(K:PySem.W.Frag)(C Pt:Addr):Sp:=fun vs H Q _=>∃(b:Addr)(xs:List V)(Ss:List aA)(n:Nat),vs=[.ref b]/\cJ K H b xs/\Paired (bM K C H) xs Ss/\xs.length=n/\1<=n/\n<=8/\oG Pt H/\
 ∀(d:Addr)(kvs:List (Key×V))(ts:List Nat)(sp:Nat->Rat×Rat)(H':Hp),To Pt H H'->H d=none->H' d=some (.dK kvs)->LastOk Ss n ts sp->Vl K H' kvs ts sp->Q (.ref d) H'
abbrev NM:List Str:=["tastes","share","spans","waiting","start","marks","place"]
theorem iZ:aQ NM ["tastes"] (aJ cH):=⟨rfl,rfl,rfl,by decide+kernel,rfl,by decide+kernel,by decide+kernel⟩
def wB:Stmt->List Stmt
 | .While _ b _ _=>b
 |_=>[]
abbrev Pg:List Stmt:=wB (Rb (bK cH) 4)
section
variable {P:Program} {w:World} {K:PySem.W.Frag} {mg:Str->Option Value} {base:Heap} {aL aR C Pt:Addr}
theorem MN(CR:Cl P w K mg base "ranked" 5 ["those"] (iQ K Pt)){f:Addr}{cdv:Value}{A:Around}{outer:List Env}{s:Shared}{H:Hp}{E:XK}(hr:aZ 8 (cx P w K mg base NM "least_mark_spans" cH f cdv A outer s H E).A):
  ∃t,lC (cx P w K mg base NM "least_mark_spans" cH f cdv A outer s H E) (List.drop 1 Pg) t/\∀(D:Ends)(H1:Hp)(d wt lm:Addr)(kvs:List (Key×V))(ys:List V)(W:List Nat)(qs:List Rat)(st:Rat)(v4:V)(x0 x1 x6:Option V),oG Pt H1->H1 lm=some (.lst ys)->Paired (bI K H1) ys qs->(∀q∈qs,eQ q)->H1 wt=some (.lst (W.map fun u:Nat=>V.int u))->wt≠lm->H1 d=some (.dK kvs)->bI K H1 v4 st->qs.length=W.length->0<W.length->W.length<=8->kvs.length<=8->
   (∀(H':Hp)(p t:Nat)(v v':V)(y6:Option V),W[p]? =some t->(∀j,j<qs.length->qs.getD p 0<qs.getD j 0\/(qs.getD p 0=qs.getD j 0/\p<=j))->(∀b o,H1 b=some o->b≠Pt->b≠wt->b≠d->H' b=some o)->oG Pt H'->H' wt=some (.lst ((W.eraseIdx p).map fun u:Nat=>V.int u))->H' d=some (.dK (putK kvs (.inl (t:Int)) v))->bB K H' v (st,qs.getD p 0)->bI K H' v' (qs.getD p 0)->
    D.nx [x0,x1,some (.ref d),some (.ref wt),some v',some (.ref lm),y6] H')->
   t D [x0,x1,some (.ref d),some (.ref wt),some v4,some (.ref lm),x6] H1:=by
 have hr5:aZ 5 _:=hr.mono (by decide)
 have hu1:=iU hr
 refine⟨_,au (aN (i:=6) iZ.nd rfl (Or.inl rfl) (aD aP (aO CR hr5 rfl (aj (pv 5) ak)) ao (fun _ _=>rfl)))
  (au (rH hu1 (pv 2) (iY PySem.F.plainAttrs_list PySem.F.slot_list_pop PySem.F.type_list_pop xJ (pv 3) (aj (pv 6) ak)) (bC (aj (pv 4) (aj (aD aP (pv 5) (pv 6) (fun _ _=>rfl)) ak))) rfl)
  (aB (aN (i:=4) iZ.nd rfl (Or.inr rfl) (aD aP (pv 5) (pv 6) (fun _ _=>rfl))))),?_⟩
 intro D H1 d wt lm kvs ys W qs st v4 x0 x1 x6 rd hlm py fq hw nwl hd h4 lq l0 l8 k8 k
 have ly:=py.length
 refine⟨_,rfl,lm,ys,qs,rfl,.of hlm,py,fq,by omega,rd,fun l ord H2 tb hl hol op ow=>?_⟩
 obtain⟨p,⟨r,eo⟩,hp,low⟩:=Er op ow (by omega)
 subst eo
 refine⟨l,_,_,_,rfl,rfl,.of hol,fZ,?_⟩
 obtain⟨vq,hvq⟩:∃v,ys[p]? =some v:=⟨_,List.getElem?_eq_getElem (by omega)⟩
 obtain⟨q,hq,fvq⟩:=Paired.get1 py p vq hvq
 have eq:qs.getD p 0=q:=by rw[List.getD_eq_getElem?_getD,hq];rfl
 obtain⟨t,ht⟩:∃t,W[p]? =some t:=⟨_,List.getElem?_eq_getElem (by omega)⟩
 have hlm2:=tb.lst hlm
 refine⟨_,rfl,_,rfl,_,rfl,lm,_,_,_,rfl,rfl,.of hlm2,bZ hvq,(by show 2<=sizeLine;decide),fun tp htp=>?_⟩
 have s3:=aF.upd (o:= .tup [v4,vq]) htp
 have tb3:=tb.to s3
 have hw3:=tb3.lst hw
 have hd3:=tb3.get hd fun _ z=>nomatch z
 have hlm3:=tb3.lst hlm
 refine⟨_,rfl,_,rfl,.inl ⟨rfl,_,.of hw3⟩,_,rfl,wt,_,_,p,.int t,rfl,rfl,hw3,by omega,by omega,?_,by rw[List.getElem?_map,ht];rfl,?_⟩
 .have lp:p<W.length:=by omega
  rw[List.length_map]
  exact(seqIndex_of (by omega) (by omega)).trans (by rw[Int.toNat_natCast])
 .have ndw:d≠wt:=bW hd hw fun z=>nomatch z
  have nlw:lm≠wt:=nwl.symm
  have nld:lm≠d:=bW hlm hd fun z=>nomatch z
  refine⟨d,_,rfl,.k (k:= .inl (t:Int)) (by rw[aG ndw];exact hd3) (Nat.lt_of_le_of_lt k8 (by decide)),?_⟩
  refine⟨_,rfl,_,rfl,lm,_,_,_,rfl,rfl,.of (by rw[aG nld,aG nlw];exact hlm3),bZ hvq,?_⟩
  have sq:∀b zs,fD K (upd H2 tp (.tup [v4,vq])) b zs->fD K (upd (upd (upd H2 tp (.tup [v4,vq])) wt (.lst ((W.map fun u:Nat=>V.int u).eraseIdx p))) d (.dK (putK kvs (.inl (t:Int)) (.ref tp)))) b zs:=fun b zs z=>
   cC.updD (by rw[aG ndw];exact hd3) b zs ((cC.updL hw3).sqT z)
  have ee:(W.map fun u:Nat=>V.int u).eraseIdx p=(W.eraseIdx p).map fun u:Nat=>V.int u:=uJ _ _ _
  have fv3:bI K (upd H2 tp (.tup [v4,vq])) vq q:=bI.same s3 (bI.keep tb.keep fvq)
  refine k _ p t (.ref tp) vq _ ht low (fun b o e n1 n2 n3=>?_) ?_ ?_ az ?_ ?_
  .rw[aG n3,aG n2]
   exact s3 _ _ (tb.but b o e n1)
  .obtain⟨ps,h1,h2,h3⟩:=tb3.rdy
   refine⟨ps,by rw[aG (bW h1 hd3 fun z=>nomatch z),aG (bW h1 hw3 fun z=>nomatch z)];exact h1,h2,?_⟩
   rcases h3 with h3|⟨c,e1,e2⟩
   .exact .inl h3
   .exact .inr ⟨c,e1,by rw[aG (bW e2 hd3 fun z=>nomatch z),aG (bW e2 hw3 fun z=>nomatch z)];exact e2⟩
  .rw[aG ndw.symm,az,ee]
  .rw[eq]
   exact⟨tp,v4,vq,rfl,sq _ _ bw,bI.sqT sq (bI.same s3 (bI.keep tb.keep h4)),bI.sqT sq fv3⟩
  .rw[eq]
   exact bI.sqT sq fv3
def VP(σ:St)(H:Hp):Nat:=match σ with
 |[_,_,_,some (.ref w),_,_,_]=>match H w with
  |some (.lst zs)=>zs.length
  |_=>0
 |_=>0
theorem Hi{H:Hp}{w:Addr}{zs:List V}{a b c d e f:Option V}(h:H w=some (.lst zs)):VP [a,b,c,some (.ref w),d,e,f] H=zs.length:=by
 unfold VP
 dsimp only
 rw[h]
theorem Bs{Ss:List aA}{n k:Nat}{ts W:List Nat}{sp:Nat->Rat×Rat}{st:Rat}(h:pO Ss n k ts W sp st)(n8:n<=8)(k1:k+1<=n){u p:Nat}(hu:u∈W)(ok:aX p (stp Ss u)):
  (0<=st/\st<=1/\Bd 280 st)/\eQ (F (stp Ss u) st)/\eQ (1/(n:Rat))/\Ft 280 (F (stp Ss u) st+1/(n:Rat))/\eQ (mk (stp Ss u) st (1/(n:Rat))):=by
 have n0:0<n:=by omega
 obtain⟨e,m1,m2,m3,m4,G,g0,g1,g2,g3⟩:=oW h n8 k1 hu ok
 have op:=one_pos n0
 have s0:=h.s0
 have gp:8000000^(k+1)<=8000000^8:=Nat.pow_le_pow_right (by decide) (by omega)
 have dG:mY G:=⟨g0,Nat.lt_of_le_of_lt (Nat.le_trans g1 gp) (by decide)⟩
 have f0:=ie ok st
 have gh:Gr n (1/(n:Rat)):=⟨1,by have:=cQ n0;show 1/(n:Rat)*(n:Rat)=1;grind⟩
 have hb:Bd 10 (1/(n:Rat)):=gh.bd n0 (Rat.le_of_lt op) (m:=1) (by rw[show((1:Nat):Rat)=1 from rfl];grind) (by omega) (by omega)
 obtain⟨N,a,b,hN⟩:=ok.num
 have fw:=ok.few
 have gF:Gr (n*(G*N)) (F (stp Ss u) st+1/(n:Rat)):=Gr.add (pM ok hN g2).up' gh.up
 have l1:G*N<=8000000^8*1000000:=Nat.mul_le_mul (Nat.le_trans g1 gp) (by omega)
 have l2:n*(G*N)<=8*(8000000^8*1000000):=Nat.mul_le_mul n8 l1
 have lt:n*(G*N)<2^280:=Nat.lt_of_le_of_lt l2 (by decide)
 refine⟨⟨s0,by grind,dG.bd g2 s0 (by grind)⟩,Bd.fit (nA ok dG g2 (by grind)) f0 (by decide),Bd.fit hb (Rat.le_of_lt op) (by decide),⟨by grind,gF.bd (Nat.mul_pos n0 (Nat.mul_pos g0 a)) (by grind) (m:=1) (by rw[show((1:Nat):Rat)=1 from rfl];exact m4) (by omega) lt⟩,Bd.fit (dG.bd g3 (by grind) m2) (by grind) (by decide)⟩
theorem Hu{f:Addr}{fd:FuncData}(D:bJ K mg "least_mark_spans" cH ["tastes"] f fd)(CM:Cl P w K mg base "made" 2 ["a","b"] (jb K))(CR:Cl P w K mg base "ranked" 5 ["those"] (iQ K Pt))(MM:Ml P w K mg base C "mark" 8 ["self","start","share"] (jz K C))(T:Txt K mg aL aR)(TC:kY K C):
  bH P w K mg base dj 9 f fd ["tastes"] (Ck K C Pt):=by
 refine D.fn.ok iZ (fun vs H Q E h=>?_) (fun cdv A outer s H vs Q E hr h=>?_)
 .obtain⟨b,xs,Ss,n,rfl,_⟩:=h
  rfl
 .obtain⟨b,xs,Ss,n,rfl,hb,hS,hn,n1,n8,rd,k⟩:=h
  have hr2:aZ 2 _:=hr.mono (by decide)
  have hu1:=iU hr
  obtain⟨t1,h1,r1⟩:=MN (P:=P) (w:=w) (mg:=mg) (base:=base) (f:=f) (cdv:=cdv) (A:=A) (outer:=outer) (s:=s) (H:=H) (E:=E) CR hr
  refine⟨_,au (aN (i:=1) iZ.nd rfl (Or.inr rfl) (aO CM hr2 rfl (aj ao (aj (aV aU (by rfl) T.len PySem.boot_len (aj (pv 0) ak)) ak))))
   (au (aN (i:=2) iZ.nd rfl (Or.inl rfl) xQ)
   (au (aN (i:=3) iZ.nd rfl (Or.inl rfl) (jE nG rfl T.list PyProof.Rows.boot_list (aj (zE rfl T.range (aj (aV aU (by rfl) T.len PySem.boot_len (aj (pv 0) ak)) ak)) ak)))
   (au (aN (i:=4) iZ.nd rfl (Or.inr rfl) (bD (v:= .ref aL) rfl T.left rfl))
   (au (pC PassesOwn.never (aY sZ (aV aU (by rfl) T.len PySem.boot_len (aj (pv 3) ak)) ao (bx _))
    (au (mU ["taker"] (i:=5) iZ.nd rfl (Or.inl rfl) rfl (cD.free1 (F:=["tastes","start","share"]) (js:=[0,4,1]) rfl (by decide+kernel) (by decide+kernel) rfl ⟨rfl,rfl,rfl,trivial⟩ rfl ⟨⟨rfl,rfl,.inl rfl⟩,⟨rfl,rfl,.inl rfl⟩,⟨rfl,rfl,.inl rfl⟩,trivial⟩) (cu (pv 3))
     (fun _=>bz (i:=0) (show[Str.ofString "taker",Str.ofString "tastes",Str.ofString "start",Str.ofString "share"].Nodup by decide+kernel) rfl (Or.inl rfl)) (fun _=>cG) (fun _=>cV MM TC.cl hr (aD aP (pv 1) (pv 0) (fun _ _=>rfl)) (aj (pv 2) (aj (pv 3) ak)))) h1))
   (au (rH hu1 (pv 2) (aD aP (pv 3) ao (fun _ _=>rfl)) (bC (aj (pv 4) (aj (bD (v:= .ref aR) rfl T.right rfl) ak))) rfl)
   (aB (aW (pv 2)))))))),?_⟩
  have all:=Fy hS
  rw[hn]at all
  have lS:=hS.length
  refine⟨_,rfl,b,_,rfl,.inl hb,1,(n:Int),by rw[hn];rfl,by decide,by omega,.of_bits (n:=10) (by omega) (by decide),fun v1 H1 s1 d1=>?_⟩
  rw[Rat.intCast_natCast]at d1
  have d1':bI K H1 v1 (1/(n:Rat)):=d1
  refine fun d hd1=>?_
  have s2:=aF.upd (o:= .dK []) hd1
  have s12:=s1.trans s2
  refine⟨_,rfl,b,_,rfl,.inl (s12.seq hb),n,by rw[hn],by omega,fun r hr0=>?_⟩
  have s3:=aF.upd (o:= .rng 0 n) hr0
  refine⟨r,n,rfl,az,by omega,rfl,fun wt hwt=>?_⟩
  have s4:=aF.upd (o:= .lst (upTo n)) hwt
  have s14:=s12.trans (s3.trans s4)
  have hd0:H d=none:=s1.free hd1
  have hw0:H wt=none:=(s12.trans s3).free hwt
  refine pI (fun σ H'=>To Pt H H'/\∃(kk:Nat)(ts W:List Nat)(sp:Nat->Rat×Rat)(st:Rat)(kvs:List (Key×V))(v4:V)(x5 x6:Option V),σ=[some (.ref b),some v1,some (.ref d),some (.ref wt),some v4,x5,x6]/\H' wt=some (.lst (W.map fun u:Nat=>V.int u))/\H' d=some (.dK kvs)/\pO Ss n kk ts W sp st/\bI K H' v4 st/\bI K H' v1 (1/(n:Rat))/\Vl K H' kvs ts sp/\kvs.length<=kk/\0<W.length) VP
   ⟨.of rd s14,0,[],List.range n,fun _=>(0,0),0,[],.ref aL,_,_,rfl,az,(s3.trans s4) _ _ az,DR all _,T.l _,bI.same (s2.trans (s3.trans s4)) d1',(fun _ z=>nomatch z),Nat.le_refl _,by rw[List.length_range];omega⟩ ?_ ?_
  .rintro σ H5 ⟨to,kk,ts,W,sp,st,kvs,v4,x5,x6,rfl,hw,hd,li,h4,h1',sd,lk,w0⟩
   have ln:=li.len
   refine⟨_,rfl,wt,_,rfl,.inl (.of hw),_,_,rfl,rfl,_,rfl,?_⟩
   rw[List.length_map]
   refine fH (fun c=>?_) (fun c=>?_)
   .have c':(1:Int)<W.length:=of_decide_eq_true c
    refine⟨_,rfl,wt,rfl,⟨_,.of hw⟩,fun D1 hD1=>?_⟩
    refine cL (K:=K) (a:=wt) (D:=D1) (xs:=W.map fun u:Nat=>V.int u) (fun j ys σ H6=>aF H5 H6/\H6 D1=some (.lst ys)/\Paired (bI K H6) ys ((W.map fun u=>mk (stp Ss u) st (1/(n:Rat))).take j)/\ys.length<=j/\∃x0,σ=[x0,some (.ref b),some v4,some v1])
     (by rw[List.length_map];exact Nat.le_trans (by omega:W.length<=8) (by decide)) ⟨aF.upd hD1,az,.nil,Nat.le_refl _,_,rfl⟩ ?_ ?_ ?_
    .rintro j ys σ H6 _ ⟨u1,u2,u3,u4,_⟩
     exact⟨.of (u1 _ _ hw),u2,u4⟩
    .rintro j y ys σ H6 hy ⟨u1,u2,u3,u4,x0,rfl⟩ cc
     rw[List.getElem?_map]at hy
     cases hW:W[j]? with
     |none=>rw[hW]at hy;cases hy
     |some u=>
      rw[hW]at hy
      cases hy
      have uW:=List.mem_of_getElem? hW
      have un:=li.lt (List.mem_append_right _ uW)
      obtain⟨xu,hxu⟩:∃x,xs[u]? =some x:=⟨_,List.getElem?_eq_getElem (by omega)⟩
      obtain⟨Su,eS,t,lt,ll,p,rfl,ta,ok⟩:=Paired.get1 hS u xu hxu
      have eSu:stp Ss u=Su:=by
       show Ss.getD u []=Su
       rw[List.getD_eq_getElem?_getD,eS]
       rfl
      subst eSu
      have to6:=to.to u1
      have ta6:=ta.tb to6
      obtain⟨dx,hx⟩:=ta6.ins
      obtain⟨q1,q2,q3,q4,q5⟩:=Bs li n8 (by omega) uW ok
      obtain⟨em,_⟩:=oW li n8 (by omega) uW ok
      refine⟨_,rfl,_,rfl,b,_,_,_,rfl,rfl,to6.sqL hb,bZ hxu,t,dx,_,rfl,hx,rfl,_,rfl,_,rfl,t,lt,ll,v4,v1,p,stp Ss u,st,1/(n:Rat),rfl,ta6,ok,h4.same u1,h1'.same u1,q1,q2,q3,q4,fun v7 H7 s7 d7=>?_⟩
      rw[em]at d7
      have d7':bI K H7 v7 (mk (stp Ss u) st (1/(n:Rat))):=d7
      have u27:=s7 _ _ u2
      have k1:=cC.updL (o:= .lst (ys++[v7])) u27
      refine⟨u27,(u1.trans s7).updN hD1,az,?_,by rw[List.length_append];exact Nat.add_le_add_right u4 1,_,rfl⟩
      have e1:(W.map fun u=>mk (stp Ss u) st (1/(n:Rat)))[j]? =some (mk (stp Ss u) st (1/(n:Rat))):=by rw[List.getElem?_map,hW];rfl
      rw[take_snoc e1]
      exact Paired.app (Paired.mapP u3 fun _ _ z=>bI.keep k1 (bI.same s7 z)) (.cons (bI.keep k1 d7') .nil)
    .rintro ys σ H6 ⟨u1,u2,u3,u4,_⟩
     rw[List.take_of_length_le (by rw[List.length_map,List.length_map];exact Nat.le_refl _)]at u3
     have to6:=to.to u1
     have hw6:=u1 _ _ hw
     have hd6:=u1 _ _ hd
     refine r1 _ H6 d wt D1 kvs ys W _ st v4 _ _ _ to6.rdy u2 u3 (fun q hq=>?_) hw6 (aM hw hD1) hd6 (h4.same u1) (by rw[List.length_map]) w0 (by omega) (by omega) ?_
     .obtain⟨u,hu,rfl⟩:=List.mem_map.mp hq
      obtain⟨p,ok⟩:=all u (li.lt (List.mem_append_right _ hu))
      exact(Bs li n8 (by omega) hu ok).2.2.2.2
     .intro H7 p t v v' y6 hp low kp rd7 hw7 hd7 cv fv
      have gp:∀j u,W[j]? =some u->(W.map fun u=>mk (stp Ss u) st (1/(n:Rat))).getD j 0=mk (stp Ss u) st (1/(n:Rat)):=fun j u hj=>by
       rw[List.getD_eq_getElem?_getD,List.getElem?_map,hj]
       rfl
      rw[gp p t hp]at low cv fv
      have st':=GZ li all n8 (by omega) (by omega) hp (fun j u hj=>by
       have:=low j (by rw[List.length_map];exact(List.getElem?_eq_some_iff.mp hj).1)
       rw[gp j u hj]at this
       exact this)
      have to7:To Pt H H7:=⟨fun b' o e n=>kp b' o (to6.but b' o e n) n (aM e hw0) (aM e hd0),rd,rd7⟩
      have sq:∀b zs,fD K H6 b zs->fD K H7 b zs:=fun b zs h=>by
       obtain⟨ps,hP,_⟩:=to6.rdy
       rcases h with(z|⟨o,z⟩)|z
       .exact .inl (.inl (kp _ _ z (bW z hP fun z=>nomatch z) (bW z hw6 fun z=>nomatch z) (bW z hd6 fun z=>nomatch z)))
       .exact .inl (.inr ⟨o,kp _ _ z (bW z hP fun z=>nomatch z) (bW z hw6 fun z=>nomatch z) (bW z hd6 fun z=>nomatch z)⟩)
       .exact .inr z
      have tW:=List.mem_of_getElem? hp
      have nt:t∉ts:=fun z=>(List.nodup_append.mp li.nd).2.2 t z t tW rfl
      have le:=List.length_eraseIdx_of_lt (l:=W) (i:=p) (List.getElem?_eq_some_iff.mp hp).1
      refine⟨⟨to7,kk+1,ts++[t],W.eraseIdx p,_,_,_,v',_,_,rfl,hw7,hd7,st',fv,bI.sqT sq (h1'.same u1),fun x hx=>?_,Nat.le_trans (gj _ _ _) (by omega),by rw[le];omega⟩,?_⟩
      .rcases List.mem_append.mp hx with z|z
       .obtain⟨vx,e1,e2⟩:=sd x z
        have ne:x≠t:=fun y=>nt (by rw[<-y];exact z)
        refine⟨vx,?_,?_⟩
        .rw[jK,if_neg (fun y=>ne (by have:=Sum.inl.inj y;omega))]
         exact e1
        .dsimp only
         rw[if_neg ne]
         exact bB.sqT sq (bB.same u1 e2)
       .rw[List.mem_singleton.mp z]
        refine⟨v,?_,?_⟩
        .rw[jK,if_pos rfl]
        .dsimp only
         rw[if_pos rfl]
         exact cv
      .rw[Hi hw7,Hi hw,List.length_map,List.length_map,le]
       omega
   .have c':¬(1:Int)<W.length:=fun z=>c (decide_eq_true z)
    obtain⟨t,rfl⟩:∃t,W=[t]:=List.length_eq_one_iff.mp (by omega)
    refine⟨_,rfl,(by show 2<=sizeLine;decide),fun tp htp=>?_⟩
    have s6:=aF.upd (o:= .tup [v4,.ref aR]) htp
    have hd6:=s6 _ _ hd
    refine⟨_,rfl,_,rfl,wt,_,_,_,rfl,rfl,.of (s6 _ _ hw),fZ,d,_,rfl,.k (k:= .inl (t:Int)) hd6 (Nat.lt_of_le_of_lt (by omega:kvs.length<=8) (by decide)),?_⟩
    have sq:=cC.updD (K:=K) (kvs':=putK kvs (.inl (t:Int)) (.ref tp)) hd6
    have to7:To Pt H (upd (upd H5 tp (.tup [v4,.ref aR])) d (.dK (putK kvs (.inl (t:Int)) (.ref tp)))):=Tb.updD (to.to s6) hd0 hd6
    have nt:t∉ts:=fun z=>(List.nodup_append.mp li.nd).2.2 t z t (List.mem_singleton.mpr rfl) rfl
    refine⟨_,rfl,k d _ (ts++[t]) _ _ to7 hd0 az (Kr li all n8) fun x hx=>?_⟩
    rcases List.mem_append.mp hx with z|z
    .obtain⟨vx,e1,e2⟩:=sd x z
     have ne:x≠t:=fun y=>nt (by rw[<-y];exact z)
     refine⟨vx,?_,?_⟩
     .rw[jK,if_neg (fun y=>ne (by have:=Sum.inl.inj y;omega))]
      exact e1
     .rw[if_neg ne]
      exact bB.sqT sq (bB.same s6 e2)
    .rw[List.mem_singleton.mp z]
     refine⟨.ref tp,?_,?_⟩
     .rw[jK,if_pos rfl]
     .rw[if_pos rfl]
      exact⟨tp,v4,.ref aR,rfl,sq _ _ bw,bI.sqT sq (h4.same s6),T.r _⟩
  .rintro σ H5 Q5 Q6 hq ⟨v,e,p,xs',e1,hsq,i,j,e2,e3,kb,e4,q⟩
   exact⟨v,e,p,xs',e1,hsq,i,j,e2,e3,kb,e4,hq _ _ q⟩
end
end FQ
namespace FQ
open PySem L2 FK
def Iz(K:PySem.W.Frag)(C Pt:Addr):Sp:=fun vs H Q _=>∃(se b:Addr)(xs:List V)(Ss:List aA)(n:Nat),vs=[.ref se,.ref b]/\cJ K H b xs/\Paired (bM K C H) xs Ss/\xs.length=n/\1<=n/\n<=8/\oG Pt H/\
 ∀(r:Addr)(ls:List Addr)(ts:List Nat)(sp:Nat->Rat×Rat)(H':Hp),To Pt H H'->H r=none->H' r=some (.lst (ls.map V.ref))->ls.length=n->(∀l∈ls,H l=none/\l≠r)->LastOk Ss n ts sp->Rv K H' ls sp->Q (.ref r) H'
section
variable {P:Program} {w:World} {K:PySem.W.Frag} {mg:Str->Option Value} {base:Heap} {aL aR C Pt:Addr}
theorem Il:aQ ["self","tastes","spans"] ["self","tastes"] (aJ lQ):=⟨rfl,rfl,rfl,by decide+kernel,rfl,by decide+kernel,by decide+kernel⟩
theorem KD{f:Addr}{fd:FuncData}(D:tZ K "deal" "Last.deal" lQ f fd)(CT:Cl P w K mg base "check_takers" 2 ["tastes","fewest","most"] (iR K C))(CL:Cl P w K mg base "least_mark_spans" 9 ["tastes"] (Ck K C Pt))(T:Txt K mg aL aR):
  bH P w K mg base dj 10 f fd ["self","tastes"] (Iz K C Pt):=by
 refine D.ok Il (fun vs H Q E h=>?_) (fun cdv A0 outer s H vs Q E hr h=>?_)
 .obtain⟨se,b,xs,Ss,n,rfl,_⟩:=h
  rfl
 .obtain⟨se,b,xs,Ss,n,rfl,hb,hS,hn,n1,n8,rd,k⟩:=h
  have hr2:aZ 2 _:=hr.mono (by decide)
  have hu1:=iU hr
  refine⟨_,au (cz (aO CT hr2 rfl (aj (pv 1) (aj ao (aj ao ak)))))
   (au (aN (i:=2) Il.nd rfl (Or.inr rfl) (aO CL hr rfl (aj (pv 1) ak)))
   (aB (aW (dC ["taker"] rfl (cD.free1 (F:=["spans"]) (js:=[2]) rfl (by decide+kernel) (by decide+kernel) rfl ⟨rfl,trivial⟩ rfl ⟨⟨rfl,rfl,.inl rfl⟩,trivial⟩) (fV rfl T.range (aj (aV aU (by rfl) T.len PySem.boot_len (aj (pv 1) ak)) ak))
    (fun _=>bz (i:=0) (show[Str.ofString "taker",Str.ofString "spans"].Nodup by decide+kernel) rfl (Or.inl rfl)) (fun _=>cG) (fun _=>cA (aj (Bx hu1 (pv 1) (pv 0) (fun _ _=>rfl)) ak)))))),?_⟩
  refine⟨_,rfl,b,xs,Ss,1,8,rfl,hb,hS,by omega,by omega,?_⟩
  refine⟨_,rfl,b,xs,Ss,n,rfl,hb,hS,hn,n1,n8,rd,fun d kvs ts sp H1 to hd0 hd lo sd=>?_⟩
  refine⟨_,rfl,b,_,rfl,.inl (to.sqL hb),n,by rw[hn],by omega,by omega,fun D1 hD1=>?_⟩
  have big:1000<=sizeLine:=by decide
  have nD:d≠D1:=aM hd hD1
  refine iw (lo:=0) (n:=n) (D:=D1) (fun i ys σ H2=>aF H1 H2/\H2 D1=some (.lst ys)/\(∃ls:List Addr,ys=ls.map V.ref/\ls.length=i/\(∀l∈ls,H1 l=none/\l≠D1)/\Rv K H2 ls sp)/\∃x0,σ=[x0,some (.ref d)])
   (by omega) ⟨aF.upd hD1,az,⟨[],rfl,rfl,(fun _ z=>nomatch z),List.nodup_nil,fun t l z=>by cases z⟩,_,rfl⟩ ?_ ?_ ?_
  .rintro i ys σ H2 _ ⟨u1,u2,⟨ls,rfl,e,_⟩,_⟩
   exact⟨u2,by rw[List.length_map];omega⟩
  .rintro i ys σ H2 hi ⟨u1,u2,⟨ls,rfl,e,fr,pc⟩,x0,rfl⟩ cc
   have mi:i∈ts:=lo.perm.mem_iff.mpr (List.mem_range.mpr hi)
   obtain⟨v,e1,cv⟩:=sd i mi
   refine⟨_,rfl,_,rfl,d,v,rfl,.inl ⟨kvs,.inl (i:Int),.inl (u1 _ _ hd),by show V.int _=V.int _;rw[Int.zero_add],e1.symm⟩,(by show 1<=sizeLine;decide),fun l hl=>?_⟩
   have s3:=aF.upd (o:= .lst [v]) hl
   have hl1:H1 l=none:=u1.free hl
   have lD:l≠D1:=(aM u2 hl).symm
   have u23:=s3 _ _ u2
   have k1:=cC.updL (o:= .lst (ls.map V.ref++[.ref l])) u23
   have nl:l∉ls:=fun z=>by
    obtain⟨t,ht⟩:=List.mem_iff_getElem?.mp z
    obtain⟨v',e2,_⟩:=pc.at_ t l ht
    rw[hl]at e2
    cases e2
   refine⟨u23,(u1.trans s3).updN hD1,az,⟨ls++[l],by rw[List.map_append];rfl,by rw[List.length_append,e];rfl,fun y hy=>?_,?_,fun t y ht=>?_⟩,_,rfl⟩
   .rcases List.mem_append.mp hy with z|z
    .exact fr y z
    .rw[List.mem_singleton.mp z]
     exact⟨hl1,lD⟩
   .refine List.nodup_append.mpr ⟨pc.nd,List.pairwise_singleton ..,fun a ha b' hb' z=>?_⟩
    rw[List.mem_singleton.mp hb']at z
    rw[z]at ha
    exact nl ha
   .by_cases c:t<ls.length
    .rw[List.getElem?_append_left c]at ht
     obtain⟨v',e2,cv'⟩:=pc.at_ t y ht
     have yD:=(fr y (List.mem_of_getElem? ht)).2
     exact⟨v',by rw[aG yD];exact s3 _ _ e2,bB.keep k1 (bB.same s3 cv')⟩
    .have tl:=(List.getElem?_eq_some_iff.mp ht).1
     rw[List.length_append]at tl
     have e3:t=ls.length:=by
      have:[l].length=1:=rfl
      omega
     subst e3
     rw[List.getElem?_concat_length]at ht
     cases ht
     rw[e]
     exact⟨v,by rw[aG lD];exact az,bB.keep k1 (bB.same s3 (bB.same u1 cv))⟩
  .rintro ys σ H2 ⟨u1,u2,⟨ls,rfl,e,fr,pc⟩,_⟩
   exact k D1 ls ts sp H2 (to.to u1) (to.free hD1) u2 e (fun l hl=>⟨to.free (fr l hl).1,(fr l hl).2⟩) lo pc
end
end FQ
namespace FK
structure rY(Ss:List aA)(n:Nat)(ts:List Nat)(sp:Nat->Rat×Rat):Prop where
 perm:ts.Perm (List.range n)
 ch:Ch 0 (ts.map sp) 1
 gs:∀t,t<n->∃G:Nat,0<G/\G<=8000000^8/\Gr G (sp t).1/\Gr G (sp t).2
 run:ts=(hv Ss 3 (List.range n) 0 1).map (·.1)
 sps:∀r∈hv Ss 3 (List.range n) 0 1,sp r.1=r.2
 gd:Gd Ss 0 (hv Ss 3 (List.range n) 0 1) 1
 g3:∀r∈hv Ss 3 (List.range n) 0 1,∃G:Nat,0<G/\G<=8000000^3/\Gr G r.2.1/\Gr G r.2.2
 share:∀t,t<n->1/(n:Rat)<=wd (stp Ss t) (sp t)
def IW(R:List (Nat×Rat×Rat))(t:Nat):Rat×Rat:=((R.find? fun r=>decide (r.1=t)).map (·.2)).getD (0,0)
theorem yj:∀{R:List (Nat×Rat×Rat)},(R.map (·.1)).Nodup->∀r∈R,IW R r.1=r.2
 |[],_,r,h=>nomatch h
 |q::R,nd,r,h=>by
  rw[List.map_cons]at nd
  obtain⟨n1,n2⟩:=List.nodup_cons.mp nd
  unfold IW
  rcases List.mem_cons.mp h with z|z
  .rw[z,List.find?_cons_of_pos (by simp)]
   rfl
  .have ne:q.1≠r.1:=fun e=>n1 (by rw[e];exact List.mem_map_of_mem z)
   rw[List.find?_cons_of_neg (by simpa using ne)]
   exact yj n2 r z
theorem Dp{Ss:List aA}{n:Nat}(all:wO Ss n)(n1:1<=n)(n8:n<=8):rY Ss n ((hv Ss 3 (List.range n) 0 1).map (·.1)) (IW (hv Ss 3 (List.range n) 0 1)):=by
 have ln:(List.range n).length=n:=List.length_range ..
 have h:=NB (Ss:=Ss) 3 0 (List.range n) 0 1 (fun z=>by have:=congrArg List.length z;rw[ln]at this;simp at this;omega) (by rw[ln];exact n8) (by rw[ln];exact n8) List.pairwise_lt_range (fun u hu=>all u (List.mem_range.mp hu)) Rat.le_refl (by decide+kernel) Rat.le_refl ⟨1,by decide,by decide,Gr.zero 1,Gr.one 1⟩
 have nd:((hv Ss 3 (List.range n) 0 1).map (·.1)).Nodup:=h.perm.nodup_iff.mpr List.nodup_range
 have sps:=yj nd
 have mem:∀t,t<n->∃r∈hv Ss 3 (List.range n) 0 1,r.1=t:=fun t ht=>by
  obtain⟨r,hr,e⟩:=List.mem_map.mp (h.perm.mem_iff.mpr (List.mem_range.mpr ht))
  exact⟨r,hr,e⟩
 refine⟨h.perm,?_,fun t ht=>?_,rfl,sps,h.gd,h.gs,fun t ht=>?_⟩
 .have:=h.gd.ch
  have e:(hv Ss 3 (List.range n) 0 1).map (IW (hv Ss 3 (List.range n) 0 1)∘fun r=>r.1)=(hv Ss 3 (List.range n) 0 1).map fun r=>r.2:=List.map_congr_left fun r hr=>sps r hr
  rw[List.map_map,e]
  exact this
 .obtain⟨r,hr,rfl⟩:=mem t ht
  rw[sps r hr]
  obtain⟨G,a,b,c⟩:=h.gs r hr
  exact⟨G,a,Nat.le_trans b (Nat.pow_le_pow_right (by decide) (by decide)),c⟩
 .obtain⟨r,hr,rfl⟩:=mem t ht
  rw[sps r hr]
  obtain⟨p,ok⟩:=all r.1 ht
  have:=h.share r hr
  rw[ln]at this
  have e:wd (stp Ss r.1) (0,1)=1:=by
   show F (stp Ss r.1) 1-F (stp Ss r.1) 0=1
   rw[fY ok,cX ok]
   grind
  rw[e]at this
  have np:=cQ (show 0<n by omega)
  have t2:1/(n:Rat)*(n:Rat)<=wd (stp Ss r.1) r.2*(n:Rat):=by
   have:1/(n:Rat)*(n:Rat)=1:=by grind
   rw[this]
   assumption
  exact Rat.le_of_mul_le_mul_right t2 np
end FK
namespace FQ
open PySem L2 FK
structure pJ(Pt dd:Addr)(H H':Hp):Prop where
 but:∀b o,H b=some o->b≠Pt->b≠dd->H' b=some o
 old:oG Pt H
 dold:∃kvs,H dd=some (.dK kvs)
 rdy:oG Pt H'
 dnew:∃kvs,H' dd=some (.dK kvs)
section
variable {K:PySem.W.Frag} {C Pt dd:Addr} {H H' H2:Hp}
theorem pJ.of{kvs:List (Key×V)}(s:To Pt H H')(e:H dd=some (.dK kvs)):pJ Pt dd H H':=⟨fun b o h n _=>s.but b o h n,s.old,⟨_,e⟩,s.rdy,⟨_,s.get e fun _ z=>nomatch z⟩⟩
theorem pJ.trans(h:pJ Pt dd H H')(g:pJ Pt dd H' H2):pJ Pt dd H H2:=⟨fun b o e n m=>g.but b o (h.but b o e n m) n m,h.old,h.dold,g.rdy,g.dnew⟩
theorem pJ.get(h:pJ Pt dd H H'){b:Addr}{o:HO}(e:H b=some o)(n:∀ps,o≠ .tbl ps)(m:∀kvs,o≠ .dK kvs):H' b=some o:=by
 obtain⟨ps,hP,_⟩:=h.old
 obtain⟨kvs,hd⟩:=h.dold
 exact h.but b o e (bW e hP (n ps)) (bW e hd (m kvs))
theorem pJ.lst(h:pJ Pt dd H H'){b:Addr}{xs:List V}(e:H b=some (.lst xs)):H' b=some (.lst xs):=h.get e (fun _ z=>nomatch z) (fun _ z=>nomatch z)
theorem pJ.sqT(h:pJ Pt dd H H'):∀b zs,fD K H b zs->fD K H' b zs:=fun b zs x=>by
 rcases x with(z|⟨o,z⟩)|z
 .exact .inl (.inl (h.get z (fun _ z=>nomatch z) (fun _ z=>nomatch z)))
 .exact .inl (.inr ⟨o,h.get z (fun _ z=>nomatch z) (fun _ z=>nomatch z)⟩)
 .exact .inr z
theorem pJ.sqL(h:pJ Pt dd H H'):∀{b:Addr}{zs:List V},cJ K H b zs->cJ K H' b zs:=fun{b zs}x=>by
 rcases x with(z|⟨o,z⟩)|z
 .exact .inl (.inl (h.get z (fun _ z=>nomatch z) (fun _ z=>nomatch z)))
 .exact .inl (.inr ⟨o,h.get z (fun _ z=>nomatch z) (fun _ z=>nomatch z)⟩)
 .exact .inr z
theorem je.sqT(k:∀b zs,fD K H b zs->fD K H' b zs){x:V}{q:Rat×Int}(h:je K H x q):je K H' x q:=by
 obtain⟨p,y,z,e,h1,h2,h3⟩:=h
 exact⟨p,y,z,e,k _ _ h1,bI.sqT k h2,h3⟩
theorem bM.gto{x:V}{S:aA}(s:pJ Pt dd H H')(h:bM K C H x S):bM K C H' x S:=by
 obtain⟨t,lt,ll,p,e,⟨⟨dx,h1⟩,⟨ts,h2,h3⟩,⟨ls,h4,h5⟩⟩,ok⟩:=h
 exact⟨t,lt,ll,p,e,⟨⟨dx,s.get h1 (fun _ z=>nomatch z) (fun _ z=>nomatch z)⟩,⟨ts,s.lst h2,Paired.mapP h3 fun _ _ z=>je.sqT s.sqT z⟩,⟨ls,s.lst h4,Paired.mapP h5 fun _ _ z=>bB.sqT s.sqT z⟩⟩,ok⟩
end
def QZ(K:PySem.W.Frag)(C:Addr):Sp:=fun vs H Q _=>∃(x lt ll:Addr)(z y:V)(p:Nat)(S:aA)(a b:Rat)(h m D:Nat),vs=[.ref x,z,y]/\bY K C H x lt ll S/\aX p S/\bB K H z (a,b)/\bI K H y ((h:Rat)/(m:Rat))/\(0<=a/\a<b/\b<=1)/\(0<h/\h<m/\m<=8)/\(0<D/\D<=8000000^8/\Gr D a/\Gr D b)/\
 ∀v H',aF H H'->bI K H' v (mw S a b h m)->Q v H'
section
variable {P:Program} {w:World} {K:PySem.W.Frag} {mg:Str->Option Value} {base:Heap} {aL aR C Pt:Addr}
theorem Ws:aQ ["taste","span","part"] ["taste","span","part"] (aJ jy):=⟨rfl,rfl,rfl,by decide+kernel,rfl,by decide+kernel,by decide+kernel⟩
theorem Tp{f:Addr}{fd:FuncData}(D:bJ K mg "mark_within" jy ["taste","span","part"] f fd)(CT:Cl P w K mg base "times" 3 ["one","other"] (rR K))(MM:Ml P w K mg base C "mark" 8 ["self","start","share"] (jz K C))(MW:Ml P w K mg base C "worth" 9 ["self","piece"] (jd K C))(TC:kY K C):
  bH P w K mg base dj 10 f fd ["taste","span","part"] (QZ K C):=by
 refine D.fn.ok Ws (fun vs H Q E h=>?_) (fun cdv A outer s H vs Q E hr h=>?_)
 .obtain⟨x,lt,ll,z,y,p,S,a,b,h,m,D,rfl,_⟩:=h
  rfl
 .obtain⟨x,lt,ll,z,y,p,S,a,b,h,m,D,rfl,ta,ok,hz,hy,⟨a0,ab,b1⟩,⟨h0,hm,m8⟩,⟨d0,d1,ga,gb⟩,k⟩:=h
  have hr3:aZ 3 _:=hr.mono (by decide)
  have hr8:aZ 8 _:=hr.mono (by decide)
  refine⟨_,aB (aW (cV MM TC.cl hr8 (pv 0) (aj (aD aK (pv 1) ao (fun _ _=>rfl)) (aj (aO CT hr3 rfl (aj (cV MW TC.cl hr (pv 0) (aj (cA (aj (pv 1) ak)) ak)) (aj (pv 2) ak))) ak)))),?_⟩
  have dk:mY D:=⟨d0,Nat.lt_of_le_of_lt d1 (by decide)⟩
  have pc:rZ D [(a,b)]:=⟨dk,fun p hp=>by rw[List.mem_singleton.mp hp];exact⟨a0,ab,b1⟩,List.pairwise_singleton ..,fun p hp=>by rw[List.mem_singleton.mp hp];exact⟨ga,gb⟩,by show 1<=1000;decide⟩
  obtain⟨dx,hx⟩:=ta.ins
  obtain⟨pz,za,zb,rfl,hpz,fa,fb⟩:=hz
  refine⟨_,rfl,x,dx,_,rfl,hx,rfl,_,rfl,pz,_,_,_,rfl,rfl,hpz,rfl,_,rfl,x,dx,_,rfl,hx,rfl,_,rfl,(by show 1<=sizeLine;decide),fun l1 hl1=>?_⟩
  have s1:=aF.upd (o:= .lst [.ref pz]) hl1
  refine⟨x,lt,ll,l1,_,p,D,S,[(a,b)],rfl,ta.same s1,ok,dW,.cons ⟨pz,za,zb,rfl,s1.sqT hpz,fa.same s1,fb.same s1⟩ .nil,pc,fun v2 H2 s2 d2=>?_⟩
  have wf:=(yH ok pc 1).1
  rw[List.take_of_length_le (by show 1<=1;decide),uo]at wf
  rw[uo]at d2
  obtain⟨f0,f1⟩:=vB h0 hm
  have m0:0<m:=by omega
  have gf:Gr m ((h:Rat)/(m:Rat)):=by
   have:=oX m0 (h:Int)
   rw[Rat.intCast_natCast]at this
   exact this
  have bf:Bd 10 ((h:Rat)/(m:Rat)):=gf.bd m0 (Rat.le_of_lt f0) (m:=1) (by rw[show((1:Nat):Rat)=1 from rfl];grind) (by omega) (by omega)
  have s12:=s1.trans s2
  refine⟨_,rfl,v2,y,_,_,rfl,d2,hy.same s12,wf,Bd.fit bf (Rat.le_of_lt f0) (by decide),trivial,fun v3 H3 s3 d3=>?_⟩
  have s13:=s12.trans s3
  obtain⟨e1,e2,e3,e4,e5,e6,G,_⟩:=iC ok a0 ab b1 h0 hm m8 d0 ga gb
  obtain⟨N,n0,n1,hN⟩:=ok.num
  have few:=ok.few
  have gFa:=pM ok hN ga
  have gFb:=pM ok hN gb
  have gw:Gr (D*N*m) (wd S (a,b)*((h:Rat)/(m:Rat))):=Gr.mul (Gr.sub gFb gFa) gf
  have gs:Gr (D*N*m) (F S a+wd S (a,b)*((h:Rat)/(m:Rat))):=Gr.add gFa.up gw
  have l1':D*N<=8000000^8*1000000:=Nat.mul_le_mul d1 (by omega)
  have l2':D*N*m<=8000000^8*1000000*8:=Nat.mul_le_mul l1' m8
  have dk2:mY (D*N*m):=⟨Nat.mul_pos (Nat.mul_pos d0 n0) m0,Nat.lt_of_le_of_lt l2' (by decide)⟩
  have fa0:=ie ok a
  have w1:wd S (a,b)*((h:Rat)/(m:Rat))<=1:=by grind
  refine⟨x,lt,ll,za,v3,p,S,a,_,rfl,ta.same s13,ok,fa.same s13,d3,⟨a0,by grind,dk.bd ga a0 (by grind)⟩,Bd.fit (nA ok dk ga (by grind)) fa0 (by decide),Bd.fit (dk2.bd gw (Rat.le_of_lt e5) w1) (Rat.le_of_lt e5) (by decide),⟨by grind,dk2.bd gs (by grind) (Rat.le_of_lt e6)⟩,fun v4 H4 s4 d4=>?_⟩
  rw[e1]at d4
  exact k v4 H4 (s13.trans s4) d4
end
end FQ
namespace FQ
open PySem L2 FK
def Rz(K:PySem.W.Frag)(C Pt:Addr)(d:Nat):Sp:=fun vs H Q _=>∃(b lt dd:Addr)(z:V)(xs:List V)(Ss:List aA)(W:List Nat)(x y:Rat)(kvs:List (Key×V))(k:Nat),vs=[.ref b,.ref lt,z,.ref dd]/\cJ K H b xs/\Paired (bM K C H) xs Ss/\H lt=some (.lst (W.map fun u:Nat=>V.int u))/\bB K H z (x,y)/\H dd=some (.dK kvs)/\W≠[]/\W.length<=2^d/\W.length<=8/\W.Pairwise (· < ·)/\(∀u∈W,u<xs.length)/\(0<=x/\x<y/\y<=1)/\(∃D:Nat,0<D/\D<=8000000^k/\Gr D x/\Gr D y)/\k+d<=8/\oG Pt H/\kvs.length+W.length<=8/\
 ∀kvs' H',pJ Pt dd H H'->H' dd=some (.dK kvs')->(∀r∈hv Ss d W x y,∃v,eZ kvs' (.inl (r.1:Int))=some v/\bB K H' v r.2)->(∀t:Nat,t∉W->eZ kvs' (.inl (t:Int))=eZ kvs (.inl (t:Int)))->kvs'.length<=kvs.length+W.length->Q .non H'
abbrev NG:List Str:=["tastes","takers","span","spans","half","marks","order","point","ahead","behind"]
theorem Oa:aQ NG ["tastes","takers","span","spans"] (aJ bQ):=⟨rfl,rfl,rfl,by decide+kernel,rfl,by decide+kernel,by decide+kernel⟩
theorem Pk{xs:List V}{h:Nat}(hl:h<=xs.length):oK xs none (some (h:Int))=xs.take h:=by
 unfold oK
 rw[HT.sIx_none,HT.sIx_nat,List.drop_zero,Nat.sub_zero,Nat.min_eq_left hl]
theorem Gf{xs:List V}{h:Nat}(hl:h<=xs.length):oK xs (some (h:Int)) none=xs.drop h:=by
 unfold oK
 rw[HT.sIx_none,HT.sIx_nat,Nat.min_eq_left hl,List.take_of_length_le (by rw[List.length_drop];exact Nat.le_refl _)]
theorem zy{W:List Nat}{key:Nat->Rat}{ord:List Int}(inc:W.Pairwise (· < ·))(op:ord.Perm ((List.range (W.map key).length).map fun i:Nat=>(i:Int)))(ow:ord.Pairwise (Lex (W.map key))):
  ord.map (fun i=>W.getD i.toNat 0)=byKey key W/\(∀i∈ord,0<=i/\i.toNat<W.length):=by
 rw[List.length_map]at op
 have inn:∀i∈ord,0<=i/\i.toNat<W.length:=fun i hi=>by
  obtain⟨m,hm,e⟩:=List.mem_map.mp (op.mem_iff.mp hi)
  have:=List.mem_range.mp hm
  omega
 refine⟨FP ?_ ?_,inn⟩
 .have p:=op.map (fun i:Int=>W.getD i.toNat 0)
  rw[List.map_map]at p
  have e:(List.range W.length).map ((fun i:Int=>W.getD i.toNat 0)∘fun i:Nat=>(i:Int))=W:=by
   refine List.ext_getElem? fun i=>?_
   rw[List.getElem?_map]
   by_cases c:i<W.length
   .rw[List.getElem?_range c]
    show some (W.getD (i:Int).toNat 0)=_
    rw[Int.toNat_natCast,List.getD_eq_getElem?_getD,List.getElem?_eq_getElem c]
    rfl
   .rw[List.getElem?_eq_none (by rw[List.length_range];omega),List.getElem?_eq_none (by omega)]
    rfl
  rw[e]at p
  exact p
 .refine List.pairwise_map.mpr (List.Pairwise.imp_of_mem (fun{i j}hi hj l=>?_) ow)
  obtain⟨i0,i1⟩:=inn i hi
  obtain⟨j0,j1⟩:=inn j hj
  have g:∀k:Nat,k<W.length->(W.map key).getD k 0=key (W.getD k 0):=fun k hk=>by
   rw[List.getD_eq_getElem?_getD,List.getElem?_map,List.getD_eq_getElem?_getD,List.getElem?_eq_getElem hk]
   rfl
  rw[iV]
  rcases l with l|⟨l1,l2⟩
  .rw[g _ i1,g _ j1]at l
   exact .inl l
  .rw[g _ i1,g _ j1]at l1
   refine .inr ⟨l1,?_⟩
   have:=List.pairwise_iff_getElem.mp inc i.toNat j.toNat i1 j1 (by omega)
   rw[List.getD_eq_getElem?_getD,List.getD_eq_getElem?_getD,List.getElem?_eq_getElem i1,List.getElem?_eq_getElem j1]
   exact Nat.le_of_lt this
theorem uK{W:List Nat}{L ns:List Int}(inc:W.Pairwise (· < ·))(inn:∀i∈L,0<=i/\i.toNat<W.length)(op:ns.Perm L)(ow:ns.Pairwise (· <= ·)):ns.map (fun i=>W.getD i.toNat 0)=up (L.map fun i=>W.getD i.toNat 0):=by
 refine up_eq (op.map _) (List.pairwise_map.mpr (List.Pairwise.imp_of_mem (fun{i j}hi hj l=>?_) ow))
 obtain⟨i0,i1⟩:=inn i (op.mem_iff.mp hi)
 obtain⟨j0,j1⟩:=inn j (op.mem_iff.mp hj)
 rw[List.getD_eq_getElem?_getD,List.getD_eq_getElem?_getD,List.getElem?_eq_getElem i1,List.getElem?_eq_getElem j1]
 by_cases e:i.toNat=j.toNat
 .show W[i.toNat]<=W[j.toNat]
  simp only[e]
  exact Nat.le_refl _
 .have:=List.pairwise_iff_getElem.mp inc i.toNat j.toNat i1 j1 (by omega)
  exact Nat.le_of_lt this
section
variable {P:Program} {w:World} {K:PySem.W.Frag} {mg:Str->Option Value} {base:Heap} {aL aR C Pt:Addr}
theorem Fx{H:Hp}{xs:List V}{Ss:List aA}(pT:Paired (bM K C H) xs Ss){W:List Nat}(inW:∀u∈W,u<xs.length):∀u∈W,∃p,aX p (stp Ss u):=fun u hu=>by
 have lu:=inW u hu
 obtain⟨S,e,_,_,_,p,_,_,ok⟩:=Paired.get1 pT u xs[u] (List.getElem?_eq_getElem lu)
 refine⟨p,?_⟩
 show aX p (Ss.getD u [])
 rw[List.getD_eq_getElem?_getD,e]
 exact ok
theorem MJ{d:Nat}(CG:Cl P w K mg base "give_by_halves" (11+d) ["tastes","takers","span","spans"] (Rz K C Pt d)){f:Addr}{cdv:Value}{A:Around}{outer:List Env}{s:Shared}{H:Hp}{E:XK}(hr:aZ (11+d) (cx P w K mg base NG "give_by_halves" bQ f cdv A outer s H E).A):
  ∃t,lC (cx P w K mg base NG "give_by_halves" bQ f cdv A outer s H E) (List.drop 7 (bK bQ)) t/\∀(D:Ends)(H1:Hp)(b dd la lb pz:Addr)(xs:List V)(Ss:List aA)(Wa Wb:List Nat)(x y m:Rat)(za zb v:V)(kvs:List (Key×V))(k:Nat)(y1 y4 y5 y6:Option V),
   cJ K H1 b xs->Paired (bM K C H1) xs Ss->H1 la=some (.lst (Wa.map fun u:Nat=>V.int u))->H1 lb=some (.lst (Wb.map fun u:Nat=>V.int u))->fD K H1 pz [za,zb]->bI K H1 za x->bI K H1 zb y->bI K H1 v m->H1 dd=some (.dK kvs)->Wa≠[]->Wb≠[]->Wa.length<=2^d->Wb.length<=2^d->Wa.length+Wb.length<=8->Wa.Pairwise (· < ·)->Wb.Pairwise (· < ·)->(∀u∈Wa,u<xs.length)->(∀u∈Wb,u<xs.length)->(∀u∈Wa,u∉Wb)->0<=x->x<m->m<y->y<=1->(∃D:Nat,0<D/\D<=8000000^k/\Gr D x/\Gr D m/\Gr D y)->k+d<=8->oG Pt H1->kvs.length+(Wa.length+Wb.length)<=8->
   (∀kvs' H' σ',pJ Pt dd H1 H'->H' dd=some (.dK kvs')->(∀r∈hv Ss d Wa x m++hv Ss d Wb m y,∃v,eZ kvs' (.inl (r.1:Int))=some v/\bB K H' v r.2)->(∀t:Nat,t∉Wa->t∉Wb->eZ kvs' (.inl (t:Int))=eZ kvs (.inl (t:Int)))->kvs'.length<=kvs.length+(Wa.length+Wb.length)->D.nx σ' H')->
   t D [some (.ref b),y1,some (.ref pz),some (.ref dd),y4,y5,y6,some v,some (.ref la),some (.ref lb)] H1:=by
 refine⟨_,au (cz (aO CG hr rfl (aj (pv 0) (aj (pv 8) (aj (bC (aj (aD aK (pv 2) ao (fun _ _=>rfl)) (aj (pv 7) ak))) (aj (pv 3) ak))))))
  (aB (cz (aO CG hr rfl (aj (pv 0) (aj (pv 9) (aj (bC (aj (pv 7) (aj (aD aK (pv 2) ao (fun _ _=>rfl)) ak))) (aj (pv 3) ak))))))),?_⟩
 intro D H1 b dd la lb pz xs Ss Wa Wb x y m za zb v kvs k y1 y4 y5 y6 hb pT hla hlb hpz hza hzb hv hdd neA neB lA lB l8 iA iB inA inB dis x0 xm my y1' gr kd rd k8 kk
 obtain⟨G,g0,g1,g2,g3,g4⟩:=gr
 refine⟨_,rfl,_,rfl,_,rfl,pz,_,_,_,rfl,rfl,hpz,rfl,_,rfl,(by show 2<=sizeLine;decide),fun t1 ht1=>?_⟩
 have s1:=aF.upd (o:= .tup [za,v]) ht1
 have to1:To Pt H1 _:= .of rd s1
 refine⟨_,rfl,b,la,dd,.ref t1,xs,Ss,Wa,x,m,kvs,k,rfl,s1.seq hb,Paired.mapP pT fun _ _ z=>bM.same s1 z,s1 _ _ hla,⟨t1,za,v,rfl,bw,hza.same s1,hv.same s1⟩,s1 _ _ hdd,neA,lA,by omega,iA,inA,⟨x0,xm,by grind⟩,⟨G,g0,g1,g2,g3⟩,kd,to1.rdy,by omega,fun kvs1 H2 gt hd1 res1 oth1 len1=>?_⟩
 have gt1:pJ Pt dd H1 H2:=(pJ.of to1 hdd).trans gt
 have hpz2:=gt1.sqT (K:=K) _ _ hpz
 refine⟨_,rfl,_,rfl,_,rfl,_,rfl,pz,_,_,_,rfl,rfl,hpz2,rfl,(by show 2<=sizeLine;decide),fun t2 ht2=>?_⟩
 have s3:=aF.upd (o:= .tup [v,zb]) ht2
 have to3:To Pt H2 _:= .of gt1.rdy s3
 have gt2:pJ Pt dd H1 _:=gt1.trans (pJ.of to3 hd1)
 refine⟨_,rfl,b,lb,dd,.ref t2,xs,Ss,Wb,m,y,kvs1,k,rfl,gt2.sqL hb,Paired.mapP pT fun _ _ z=>bM.gto gt2 z,gt2.lst hlb,⟨t2,v,zb,rfl,bw,bI.sqT gt2.sqT hv,bI.sqT gt2.sqT hzb⟩,s3 _ _ hd1,neB,lB,by omega,iB,inB,⟨by grind,my,y1'⟩,⟨G,g0,g1,g3,g4⟩,kd,to3.rdy,by omega,fun kvs2 H4 gt4 hd4 res2 oth2 len2=>?_⟩
 have gt24:pJ Pt dd H2 H4:=(pJ.of to3 hd1).trans gt4
 refine kk kvs2 H4 _ (gt2.trans gt4) hd4 (fun r hr=>?_) (fun t ha hb'=>?_) (by omega)
 .rcases List.mem_append.mp hr with z|z
  .obtain⟨u,e1,e2⟩:=res1 r z
   have ra:r.1∈Wa:=by
    have p:=(NB (Ss:=Ss) d k Wa x m neA lA (by omega) iA (Fx pT inA) x0 xm (by grind) ⟨G,g0,g1,g2,g3⟩).perm
    exact p.mem_iff.mp (List.mem_map_of_mem z)
   exact⟨u,by rw[oth2 r.1 (dis _ ra)];exact e1,bB.sqT gt24.sqT e2⟩
  .exact res2 r z
 .rw[oth2 t hb',oth1 t ha]
theorem MF{d:Nat}(CG:Cl P w K mg base "give_by_halves" (11+d) ["tastes","takers","span","spans"] (Rz K C Pt d))(T:Txt K mg aL aR){f:Addr}{cdv:Value}{A:Around}{outer:List Env}{s:Shared}{H:Hp}{E:XK}(hr:aZ (11+d) (cx P w K mg base NG "give_by_halves" bQ f cdv A outer s H E).A):
  ∃t,lC (cx P w K mg base NG "give_by_halves" bQ f cdv A outer s H E) (List.drop 5 (bK bQ)) t/\∀(D:Ends)(H1:Hp)(b lt dd lo pz:Addr)(xs:List V)(Ss:List aA)(W:List Nat)(ord:List Int)(x y m:Rat)(za zb v:V)(kvs:List (Key×V))(k:Nat)(y5 y8 y9:Option V),
   cJ K H1 b xs->Paired (bM K C H1) xs Ss->H1 lt=some (.lst (W.map fun u:Nat=>V.int u))->H1 lo=some (.lst (ord.map V.int))->fD K H1 pz [za,zb]->bI K H1 za x->bI K H1 zb y->bI K H1 v m->H1 dd=some (.dK kvs)->2<=W.length->W.length<=2^(d+1)->W.length<=8->W.Pairwise (· < ·)->(∀u∈W,u<xs.length)->ord.map (fun i=>W.getD i.toNat 0)=byKey (fun u=>mw (stp Ss u) x y (W.length/2) W.length) W->(∀i∈ord,0<=i/\i.toNat<W.length)->m=mw (stp Ss ((byKey (fun u=>mw (stp Ss u) x y (W.length/2) W.length) W).getD (W.length/2-1) 0)) x y (W.length/2) W.length->0<=x->x<m->m<y->y<=1->(∃D:Nat,0<D/\D<=8000000^(k+1)/\Gr D x/\Gr D m/\Gr D y)->k+1+d<=8->oG Pt H1->kvs.length+W.length<=8->
   (∀kvs' H' σ',pJ Pt dd H1 H'->H' dd=some (.dK kvs')->(∀r∈hv Ss (d+1) W x y,∃v,eZ kvs' (.inl (r.1:Int))=some v/\bB K H' v r.2)->(∀t:Nat,t∉W->eZ kvs' (.inl (t:Int))=eZ kvs (.inl (t:Int)))->kvs'.length<=kvs.length+W.length->D.nx σ' H')->
   t D [some (.ref b),some (.ref lt),some (.ref pz),some (.ref dd),some (.int ((W.length/2:Nat):Int)),y5,some (.ref lo),some v,y8,y9] H1:=by
 obtain⟨t7,h7,r7⟩:=MJ (P:=P) (w:=w) (mg:=mg) (base:=base) (f:=f) (cdv:=cdv) (A:=A) (outer:=outer) (s:=s) (H:=H) (E:=E) CG hr
 have big:1000<=sizeLine:=by decide
 refine⟨_,au (mU ["place"] (i:=8) Oa.nd rfl (Or.inl rfl) rfl (cD.free1 (F:=["takers"]) (js:=[1]) rfl (by decide+kernel) (by decide+kernel) rfl ⟨rfl,trivial⟩ rfl ⟨⟨rfl,rfl,.inl rfl⟩,trivial⟩) (cu (aV jQ (by rfl) T.sorted PyProof.Rows.boot_sorted (aj (pA rP (pv 6) rz (rE (pv 4))) ak)))
   (fun _=>bz (i:=0) (show[Str.ofString "place",Str.ofString "takers"].Nodup by decide+kernel) rfl (Or.inl rfl)) (fun _=>cG) (fun _=>aD aP (pv 1) (pv 0) (fun _ _=>rfl)))
  (au (mU ["place"] (i:=9) Oa.nd rfl (Or.inl rfl) rfl (cD.free1 (F:=["takers"]) (js:=[1]) rfl (by decide+kernel) (by decide+kernel) rfl ⟨rfl,trivial⟩ rfl ⟨⟨rfl,rfl,.inl rfl⟩,trivial⟩) (cu (aV jQ (by rfl) T.sorted PyProof.Rows.boot_sorted (aj (pA rP (pv 6) (rE (pv 4)) rz) ak)))
   (fun _=>bz (i:=0) (show[Str.ofString "place",Str.ofString "takers"].Nodup by decide+kernel) rfl (Or.inl rfl)) (fun _=>cG) (fun _=>aD aP (pv 1) (pv 0) (fun _ _=>rfl))) h7),?_⟩
 intro D H1 b lt dd lo pz xs Ss W ord x y m za zb v kvs k y5 y8 y9 hb pT hlt hlo hpz hza hzb hv' hdd w2 l2 l8 inc inW eo inn em x0 xm my y1 gr kd rd k8 kk
 have lo':ord.length=W.length:=by
  have:=congrArg List.length eo
  rw[List.length_map,(jO _ W).length_eq]at this
  exact this
 have spl:=zZ (key:=fun u=>mw (stp Ss u) x y (W.length/2) W.length) inc w2
 refine⟨_,rfl,_,rfl,_,rfl,lo,_,rfl,.of hlo,fun l1 hl1=>?_⟩
 have ec1:oK (ord.map V.int) none (some ((W.length/2:Nat):Int))=(ord.take (W.length/2)).map V.int:=by
  rw[Pk (by rw[List.length_map];omega),List.map_take]
 rw[ec1]
 have s1:=aF.upd (o:= .lst ((ord.take (W.length/2)).map V.int)) hl1
 refine⟨l1,_,rfl,dW,by rw[List.length_take];omega,fun l2 ns1 hl2 np1 nw1=>?_⟩
 have s2:=aF.upd (o:= .lst (ns1.map V.int)) hl2
 have s12:=s1.trans s2
 refine⟨l2,rfl,⟨_,dW⟩,fun D1 hD1=>?_⟩
 have e1:=uK inc (fun i hi=>inn i (List.mem_of_mem_take hi)) np1 nw1
 rw[List.map_take,eo]at e1
 have ln1:ns1.length=W.length/2:=by
  have:=np1.length_eq
  rw[List.length_take]at this
  omega
 refine cL (K:=K) (a:=l2) (D:=D1) (xs:=ns1.map V.int) (fun j ys σ H2=>aF (upd (upd H1 l1 (.lst ((ord.take (W.length/2)).map V.int))) l2 (.lst (ns1.map V.int))) H2/\H2 D1=some (.lst ys)/\ys=((ns1.take j).map fun i=>W.getD i.toNat 0).map (fun u:Nat=>V.int u)/\ys.length<=j/\∃x0,σ=[x0,some (.ref lt)])
  (by rw[List.length_map];omega) ⟨aF.upd hD1,az,rfl,Nat.le_refl _,_,rfl⟩ ?_ ?_ ?_
 .rintro j ys σ H2 _ ⟨u1,u2,u3,u4,_⟩
  exact⟨.of (u1 _ _ az),u2,u4⟩
 .rintro j z ys σ H2 hz ⟨u1,u2,u3,u4,x0,rfl⟩ cc
  rw[List.getElem?_map]at hz
  obtain⟨i,hi,rfl⟩:=Option.map_eq_some_iff.mp hz
  obtain⟨i0,i1⟩:=inn i (List.mem_of_mem_take (np1.mem_iff.mp (List.mem_of_getElem? hi)))
  refine⟨_,rfl,_,rfl,lt,_,_,_,rfl,rfl,.of (u1 _ _ (s12 _ _ hlt)),pQ (v:=V.int (W.getD i.toNat 0:Nat)) i0 (by rw[List.getElem?_map,List.getElem?_eq_getElem i1,List.getD_eq_getElem?_getD,List.getElem?_eq_getElem i1];rfl),?_⟩
  refine⟨u2,u1.updN hD1,az,?_,by rw[List.length_append];exact Nat.add_le_add_right u4 1,_,rfl⟩
  rw[take_snoc hi,List.map_append,List.map_append,<-u3]
  rfl
 rintro ys σ H2 ⟨u1,u2,u3,_,_⟩
 rw[List.take_of_length_le (by rw[List.length_map];exact Nat.le_refl _),e1]at u3
 subst u3
 have s3:=s12.trans u1
 have hlo3:=s3 _ _ hlo
 refine⟨_,rfl,_,rfl,_,rfl,lo,_,rfl,.of hlo3,fun l3 hl3=>?_⟩
 have ec2:oK (ord.map V.int) (some ((W.length/2:Nat):Int)) none=(ord.drop (W.length/2)).map V.int:=by
  rw[Gf (by rw[List.length_map];omega),List.map_drop]
 rw[ec2]
 have s4:=aF.upd (o:= .lst ((ord.drop (W.length/2)).map V.int)) hl3
 refine⟨l3,_,rfl,dW,by rw[List.length_drop];omega,fun l4 ns2 hl4 np2 nw2=>?_⟩
 have s5:=aF.upd (o:= .lst (ns2.map V.int)) hl4
 have s45:=s4.trans s5
 refine⟨l4,rfl,⟨_,dW⟩,fun D2 hD2=>?_⟩
 have e2:=uK inc (fun i hi=>inn i (List.mem_of_mem_drop hi)) np2 nw2
 rw[List.map_drop,eo]at e2
 have ln2:ns2.length=W.length-W.length/2:=by
  have:=np2.length_eq
  rw[List.length_drop]at this
  omega
 refine cL (K:=K) (a:=l4) (D:=D2) (xs:=ns2.map V.int) (fun j ys σ H3=>aF (upd (upd H2 l3 (.lst ((ord.drop (W.length/2)).map V.int))) l4 (.lst (ns2.map V.int))) H3/\H3 D2=some (.lst ys)/\ys=((ns2.take j).map fun i=>W.getD i.toNat 0).map (fun u:Nat=>V.int u)/\ys.length<=j/\∃x0,σ=[x0,some (.ref lt)])
  (by rw[List.length_map];omega) ⟨aF.upd hD2,az,rfl,Nat.le_refl _,_,rfl⟩ ?_ ?_ ?_
 .rintro j ys σ H3 _ ⟨v1,v2,v3,v4,_⟩
  exact⟨.of (v1 _ _ az),v2,v4⟩
 .rintro j z ys σ H3 hz ⟨v1,v2,v3,v4,x0,rfl⟩ cc
  rw[List.getElem?_map]at hz
  obtain⟨i,hi,rfl⟩:=Option.map_eq_some_iff.mp hz
  obtain⟨i0,i1⟩:=inn i (List.mem_of_mem_drop (np2.mem_iff.mp (List.mem_of_getElem? hi)))
  refine⟨_,rfl,_,rfl,lt,_,_,_,rfl,rfl,.of (v1 _ _ (s45 _ _ (s3 _ _ hlt))),pQ (v:=V.int (W.getD i.toNat 0:Nat)) i0 (by rw[List.getElem?_map,List.getElem?_eq_getElem i1,List.getD_eq_getElem?_getD,List.getElem?_eq_getElem i1];rfl),?_⟩
  refine⟨v2,v1.updN hD2,az,?_,by rw[List.length_append];exact Nat.add_le_add_right v4 1,_,rfl⟩
  rw[take_snoc hi,List.map_append,List.map_append,<-v3]
  rfl
 rintro ys σ H3 ⟨v1,v2,v3,_,_⟩
 rw[List.take_of_length_le (by rw[List.length_map];exact Nat.le_refl _),e2]at v3
 subst v3
 have s35:=s45.trans v1
 have s6:=s3.trans s35
 have to6:To Pt H1 H3:= .of rd s6
 have p2:2^(d+1)=2^d*2:=Nat.pow_succ ..
 have lab:=spl.la
 have lbb:=spl.lb
 have une:∀(W0:List Nat)(l:Nat),0<l->W0.length=l->W0≠[]:=fun W0 l h1 h2 z=>by
  rw[z]at h2
  simp at h2
  omega
 have nd:(up ((byKey (fun u=>mw (stp Ss u) x y (W.length/2) W.length) W).take (W.length/2))++up ((byKey (fun u=>mw (stp Ss u) x y (W.length/2) W.length) W).drop (W.length/2))).Nodup:=spl.perm.nodup_iff.mpr (inc.imp fun h=>Nat.ne_of_lt h)
 refine r7 D H3 b dd D1 D2 pz xs Ss _ _ x y m za zb v kvs (k+1) _ _ _ _ (s6.seq hb) (Paired.mapP pT fun _ _ z=>bM.same s6 z) (s35 _ _ u2) v2 (s6.sqT hpz) (hza.same s6) (hzb.same s6) (hv'.same s6) (s6 _ _ hdd) (une _ _ (by omega) lab) (une _ _ (by omega) lbb) (by omega) (by omega) (by omega) spl.pa spl.pb
  (fun u hu=>inW u (spl.perm.mem_iff.mp (List.mem_append_left _ hu))) (fun u hu=>inW u (spl.perm.mem_iff.mp (List.mem_append_right _ hu))) (fun u hu hu'=>(List.nodup_append.mp nd).2.2 u hu u hu' rfl) x0 xm my y1 gr kd to6.rdy (by omega) fun kvs' H' σ' gt hd res oth len=>?_
 refine kk kvs' H' σ' ((pJ.of to6 hdd).trans gt) hd (fun r hr=>res r ?_) (fun t ht=>oth t (fun z=>ht (spl.perm.mem_iff.mp (List.mem_append_left _ z))) (fun z=>ht (spl.perm.mem_iff.mp (List.mem_append_right _ z)))) (by omega)
 unfold hv at hr
 rw[if_neg (by omega)]at hr
 rw[em]
 exact hr
end
end FQ
namespace FQ
open PySem L2 FK
section
variable {P:Program} {w:World} {K:PySem.W.Frag} {mg:Str->Option Value} {base:Heap} {aL aR C Pt:Addr}
theorem xj{H:Hp}{dd:Addr}{kvs:List (Key×V)}{z:V}{t:Nat}{x y:Rat}{Ss:List aA}{d:Nat}(rd:oG Pt H)(hdd:H dd=some (.dK kvs))(hz:bB K H z (x,y)):
  pJ Pt dd H (upd H dd (.dK (putK kvs (.inl (t:Int)) z)))/\(∀r∈hv Ss d [t] x y,∃v,eZ (putK kvs (.inl (t:Int)) z) (.inl (r.1:Int))=some v/\bB K (upd H dd (.dK (putK kvs (.inl (t:Int)) z))) v r.2)/\(∀t':Nat,t'∉[t]->eZ (putK kvs (.inl (t:Int)) z) (.inl (t':Int))=eZ kvs (.inl (t':Int))):=by
 obtain⟨ps,h1,h2,h3⟩:=rd
 have nP:Pt≠dd:=bW h1 hdd fun z=>nomatch z
 have gt:pJ Pt dd H (upd H dd (.dK (putK kvs (.inl (t:Int)) z))):=by
  refine⟨fun b o e _ n=>by rw[aG n];exact e,⟨ps,h1,h2,h3⟩,⟨_,hdd⟩,⟨ps,by rw[aG nP];exact h1,h2,?_⟩,⟨_,az⟩⟩
  rcases h3 with h3|⟨c,e1,e2⟩
  .exact .inl h3
  .exact .inr ⟨c,e1,by rw[aG (bW e2 hdd fun z=>nomatch z)];exact e2⟩
 refine⟨gt,fun r hr=>?_,fun t' ht=>?_⟩
 .rw[yP]at hr
  rw[List.mem_singleton.mp hr]
  exact⟨z,by rw[jK,if_pos rfl],bB.sqT gt.sqT hz⟩
 .rw[jK,if_neg fun e=>ht (List.mem_singleton.mpr (by have:=Sum.inl.inj e;omega))]
theorem Th{f:Addr}{fd:FuncData}(D:bJ K mg "give_by_halves" bQ ["tastes","takers","span","spans"] f fd)(T:Txt K mg aL aR):
  bH P w K mg base dj 11 f fd ["tastes","takers","span","spans"] (Rz K C Pt 0):=by
 refine D.fn.ok Oa (fun vs H Q E h=>?_) (fun cdv A outer s H vs Q E hr h=>?_)
 .obtain⟨b,lt,dd,z,xs,Ss,W,x,y,kvs,k,rfl,_⟩:=h
  rfl
 .obtain⟨b,lt,dd,z,xs,Ss,W,x,y,kvs,k,rfl,hb,pT,hlt,hz,hdd,ne,l2,l8,inc,inW,⟨x0,xy,y1⟩,gr,kd,rd,k8,kk⟩:=h
  have hu1:=iU hr
  refine⟨_,au (bU (aY iW (aV aU (by rfl) T.len PySem.boot_len (aj (pv 1) ak)) ao (bx _)) (au (rH hu1 (pv 3) (aD aP (pv 1) ao (fun _ _=>rfl)) (pv 2) rfl) (aB BK)) bc) bN,?_⟩
  have lp:=List.length_pos_iff.mpr ne
  obtain⟨t,rfl⟩:∃t,W=[t]:=List.length_eq_one_iff.mp (by simp at l2;omega)
  refine⟨_,rfl,lt,_,rfl,.inl (.of hlt),rfl,_,rfl,jk ?_⟩
  refine⟨_,rfl,_,rfl,_,rfl,lt,_,_,_,rfl,rfl,.of hlt,fZ,dd,_,rfl,.k (k:= .inl (t:Int)) hdd (Nat.lt_of_le_of_lt (by have:[t].length=1:=rfl;omega:kvs.length<=8) (by decide)),?_⟩
  obtain⟨gt,r1,r2⟩:=xj (K:=K) (Ss:=Ss) (d:=0) (t:=t) rd hdd hz
  exact kk _ _ gt az r1 r2 (gj _ _ _)
theorem Qh{d:Nat}{f:Addr}{fd:FuncData}(D:bJ K mg "give_by_halves" bQ ["tastes","takers","span","spans"] f fd)(CG:Cl P w K mg base "give_by_halves" (11+d) ["tastes","takers","span","spans"] (Rz K C Pt d))(CM:Cl P w K mg base "made" 2 ["a","b"] (jb K))(CMW:Cl P w K mg base "mark_within" 10 ["taste","span","part"] (QZ K C))(CR:Cl P w K mg base "ranked" 5 ["those"] (iQ K Pt))(T:Txt K mg aL aR):
  bH P w K mg base dj (11+d+1) f fd ["tastes","takers","span","spans"] (Rz K C Pt (d+1)):=by
 refine D.fn.ok Oa (fun vs H Q E h=>?_) (fun cdv A outer s H vs Q E hr h=>?_)
 .obtain⟨b,lt,dd,z,xs,Ss,W,x,y,kvs,k,rfl,_⟩:=h
  rfl
 .obtain⟨b,lt,dd,z,xs,Ss,W,x,y,kvs,k,rfl,hb,pT,hlt,hz,hdd,ne,l2,l8,inc,inW,⟨x0,xy,y1⟩,gr,kd,rd,k8,kk⟩:=h
  have hu1:=iU hr
  have hr2:aZ 2 _:=hr.mono (by omega)
  have hr5:aZ 5 _:=hr.mono (by omega)
  have hr10:aZ 10 _:=hr.mono (by omega)
  have big:1000<=sizeLine:=by decide
  obtain⟨t5,h5,r5⟩:=MF (P:=P) (w:=w) (mg:=mg) (base:=base) (f:=f) (cdv:=cdv) (A:=A) (outer:=outer) (s:=s) (H:=H) (E:=E) CG T hr
  refine⟨_,au (bU (aY iW (aV aU (by rfl) T.len PySem.boot_len (aj (pv 1) ak)) ao (bx _)) (au (rH hu1 (pv 3) (aD aP (pv 1) ao (fun _ _=>rfl)) (pv 2) rfl) (aB BK)) bc)
   (au (aN (i:=4) Oa.nd rfl (Or.inr rfl) (bj mR (aV aU (by rfl) T.len PySem.boot_len (aj (pv 1) ak)) ao))
   (au (mU ["taker"] (i:=5) Oa.nd rfl (Or.inl rfl) rfl (cD.free1 (F:=["tastes","span","half","takers"]) (js:=[0,2,4,1]) rfl (by decide+kernel) (by decide+kernel) rfl ⟨rfl,rfl,rfl,rfl,trivial⟩ rfl ⟨⟨rfl,rfl,.inl rfl⟩,⟨rfl,rfl,.inl rfl⟩,⟨rfl,rfl,.inl rfl⟩,⟨rfl,rfl,.inl rfl⟩,trivial⟩) (cu (pv 1))
    (fun _=>bz (i:=0) (show[Str.ofString "taker",Str.ofString "tastes",Str.ofString "span",Str.ofString "half",Str.ofString "takers"].Nodup by decide+kernel) rfl (Or.inl rfl)) (fun _=>cG)
    (fun _=>aO CMW hr10 rfl (aj (aD aP (pv 1) (pv 0) (fun _ _=>rfl)) (aj (pv 2) (aj (aO CM hr2 rfl (aj (pv 3) (aj (aV aU (by rfl) T.len PySem.boot_len (aj (pv 4) ak)) ak))) ak)))))
   (au (aN (i:=6) Oa.nd rfl (Or.inl rfl) (aO CR hr5 rfl (aj (pv 5) ak)))
   (au (aN (i:=7) Oa.nd rfl (Or.inl rfl) (aD aP (pv 5) (aD aP (pv 6) (bj lV (pv 4) ao) (fun _ _=>rfl)) (fun _ _=>rfl))) h5)))),?_⟩
  have lp:=List.length_pos_iff.mpr ne
  have lw:(W.map fun u:Nat=>V.int u).length=W.length:=List.length_map ..
  refine⟨_,rfl,lt,_,rfl,.inl (.of hlt),rfl,_,rfl,?_⟩
  refine fH (fun c=>?_) (fun c=>?_)
  .have c':W.length=1:=by
    have:=of_decide_eq_true c
    injection this with this
    rw[lw]at this
    omega
   obtain⟨t,rfl⟩:∃t,W=[t]:=List.length_eq_one_iff.mp c'
   refine⟨_,rfl,_,rfl,_,rfl,lt,_,_,_,rfl,rfl,.of hlt,fZ,dd,_,rfl,.k (k:= .inl (t:Int)) hdd (Nat.lt_of_le_of_lt (by have:[t].length=1:=rfl;omega:kvs.length<=8) (by decide)),?_⟩
   obtain⟨gt,r1,r2⟩:=xj (K:=K) (Ss:=Ss) (d:=d+1) (t:=t) rd hdd hz
   exact kk _ _ gt az r1 r2 (gj _ _ _)
  .have w2:2<=W.length:=by
    have:W.length≠1:=fun z=>c (decide_eq_true (by rw[lw,z];rfl))
    omega
   have h0:0<W.length/2:=by omega
   have hm:W.length/2<W.length:=by omega
   obtain⟨D,d0,d1,ga,gb⟩:=gr
   have d8:D<=8000000^8:=Nat.le_trans d1 (Nat.pow_le_pow_right (by decide) (by omega))
   refine⟨_,rfl,lt,_,rfl,.inl (.of hlt),(W.length:Int),2,by rw[lw],rfl,⟨by decide,by decide⟩,?_⟩
   refine⟨_,rfl,lt,rfl,⟨_,.of hlt⟩,fun D1 hD1=>?_⟩
   have fac:∀u∈W,∃p,aX p (stp Ss u)/\eQ (mw (stp Ss u) x y (W.length/2) W.length):=fun u hu=>by
    obtain⟨p,ok⟩:=Fx pT inW u hu
    obtain⟨e1,e2,e3,e4,e5,e6,G,g0,g1,g2,g3,g4⟩:=iC ok x0 xy y1 h0 hm l8 d0 ga gb
    have dG:mY G:=⟨g0,Nat.lt_of_le_of_lt (Nat.le_trans g1 (Nat.mul_le_mul_right _ d8)) (by decide)⟩
    exact⟨p,ok,Bd.fit (dG.bd g4 (by grind) (by grind)) (by grind) (by decide)⟩
   refine cL (K:=K) (a:=lt) (D:=D1) (xs:=W.map fun u:Nat=>V.int u) (fun j ys σ H2=>aF H H2/\H2 D1=some (.lst ys)/\Paired (bI K H2) ys ((W.map fun u=>mw (stp Ss u) x y (W.length/2) W.length).take j)/\ys.length<=j/\∃x0,σ=[x0,some (.ref b),some z,some (.int ((W.length/2:Nat):Int)),some (.ref lt)])
    (by rw[lw];omega) ⟨aF.upd hD1,az,.nil,Nat.le_refl _,_,rfl⟩ ?_ ?_ ?_
   .rintro j ys σ H2 _ ⟨u1,u2,u3,u4,_⟩
    exact⟨.of (u1 _ _ hlt),u2,u4⟩
   .rintro j v ys σ H2 hv' ⟨u1,u2,u3,u4,x0',rfl⟩ cc
    rw[List.getElem?_map]at hv'
    obtain⟨u,hu,rfl⟩:=Option.map_eq_some_iff.mp hv'
    have uW:=List.mem_of_getElem? hu
    have ux:=inW u uW
    obtain⟨S,eS,tp,l1,l2,p,ex,ta,ok⟩:=Paired.get1 pT u xs[u] (List.getElem?_eq_getElem ux)
    have es:stp Ss u=S:=by
     show Ss.getD u []=S
     rw[List.getD_eq_getElem?_getD,eS]
     rfl
    refine⟨_,rfl,_,rfl,b,_,_,_,rfl,rfl,u1.seq hb,bZ (List.getElem?_eq_getElem ux),_,rfl,_,rfl,_,rfl,lt,_,rfl,.inl (.of (u1 _ _ hlt)),((W.length/2:Nat):Int),(W.length:Int),by rw[lw];rfl,by omega,by omega,.of_bits (n:=10) (by omega) (by decide),fun v3 H3 s3 d3=>?_⟩
    rw[Rat.intCast_natCast,Rat.intCast_natCast]at d3
    have u13:=u1.trans s3
    rw[ex]
    refine⟨tp,l1,l2,z,v3,p,S,x,y,W.length/2,W.length,D,rfl,ta.same u13,ok,bB.same u13 hz,d3,⟨x0,xy,y1⟩,⟨h0,hm,l8⟩,⟨d0,d8,ga,gb⟩,fun v4 H4 s4 d4=>?_⟩
    have u24:=s4 _ _ (s3 _ _ u2)
    have k1:=cC.updL (o:= .lst (ys++[v4])) u24
    refine⟨u24,(u13.trans s4).updN hD1,az,?_,by rw[List.length_append];exact Nat.add_le_add_right u4 1,_,rfl⟩
    rw[<-es]at d4
    have e1:(W.map fun u=>mw (stp Ss u) x y (W.length/2) W.length)[j]? =some (mw (stp Ss u) x y (W.length/2) W.length):=by rw[List.getElem?_map,hu];rfl
    rw[take_snoc e1]
    exact Paired.app (Paired.mapP u3 fun _ _ z=>bI.keep k1 (bI.same (s3.trans s4) z)) (.cons (bI.keep k1 d4) .nil)
   .rintro ys σ H2 ⟨u1,u2,u3,u4,_⟩
    rw[List.take_of_length_le (by rw[List.length_map,List.length_map];exact Nat.le_refl _)]at u3
    have lk:(W.map fun u=>mw (stp Ss u) x y (W.length/2) W.length).length=W.length:=List.length_map ..
    refine⟨_,rfl,D1,ys,_,rfl,.of u2,u3,fun q hq=>?_,by rw[lk];omega,dI rd u1,fun l ord H3 to hl hol op ow=>?_⟩
    .obtain⟨u,hu,rfl⟩:=List.mem_map.mp hq
     exact(fac u hu).choose_spec.2
    obtain⟨eo,inn⟩:=zy inc op ow
    have lo':ord.length=W.length:=by
     have:=congrArg List.length eo
     rw[List.length_map,(jO _ W).length_eq]at this
     exact this
    have hi1:ord[W.length/2-1]? =some ord[W.length/2-1]:=List.getElem?_eq_getElem (by omega)
    obtain⟨i0,i1⟩:=inn _ (List.mem_of_getElem? hi1)
    have lys:ys.length=W.length:=by rw[u3.length,lk]
    have gy:ys[(ord[W.length/2-1]'(by omega)).toNat]? =some (ys[(ord[W.length/2-1]'(by omega)).toNat]'(by omega)):=List.getElem?_eq_getElem (by omega)
    obtain⟨q,hq,fq⟩:=Paired.get1 u3 _ _ gy
    have to2:To Pt H H3:=(Tb.of rd u1).trans to
    refine⟨_,rfl,_,rfl,_,rfl,_,_,rfl,rfl,l,_,_,_,rfl,rfl,.of hol,?_,D1,_,_,_,rfl,rfl,.of (to.lst u2),pQ i0 gy,?_⟩
    .rw[show(W.length:Int)/2-1=((W.length/2-1:Nat):Int)by omega]
     exact bZ (by rw[List.getElem?_map,hi1];rfl)
    .have eq:q=mw (stp Ss ((byKey (fun u=>mw (stp Ss u) x y (W.length/2) W.length) W).getD (W.length/2-1) 0)) x y (W.length/2) W.length:=by
      rw[<-eo,List.getD_eq_getElem?_getD,List.getElem?_map,hi1]
      show q=mw (stp Ss (W.getD (ord[W.length/2-1]'(by omega)).toNat 0)) x y (W.length/2) W.length
      rw[List.getElem?_map,List.getElem?_eq_getElem i1]at hq
      rw[List.getD_eq_getElem?_getD,List.getElem?_eq_getElem i1]
      exact(Option.some.inj hq).symm
     obtain⟨pz,za,zb,ez,hpz,hza,hzb⟩:=hz
     subst ez
     have spl:=zZ (key:=fun u=>mw (stp Ss u) x y (W.length/2) W.length) inc w2
     obtain⟨tx,htx,etx⟩:=spl.top
     have etx':mw (stp Ss tx) x y (W.length/2) W.length=q:=by rw[eq];exact etx
     obtain⟨px,okx,_⟩:=fac tx (spl.perm.mem_iff.mp (List.mem_append_left _ htx))
     obtain⟨_,e2,e3,e4,e5,e6,G,g0,g1,g2,g3,g4⟩:=iC okx x0 xy y1 h0 hm l8 d0 ga gb
     rw[etx']at e2 e3 g4
     have kp:=to2.keep
     refine r5 _ H3 b lt dd l pz xs Ss W ord x y q za zb _ kvs k _ _ _ (to2.sqL hb) (Paired.mapP pT fun _ _ z=>bM.tb to2 z) (to2.lst hlt) hol (kp.sqT hpz) (bI.keep kp hza) (bI.keep kp hzb) (bI.keep to.keep fq) (to2.get hdd fun _ z=>nomatch z) w2 l2 l8 inc inW eo inn eq x0 e2 e3 y1 ⟨G,g0,by rw[Nat.pow_succ];exact Nat.le_trans g1 (Nat.mul_le_mul_right _ d1),g2,g4,g3⟩ (by omega) to2.rdy k8 fun kvs' H' σ' gt hd' res oth len=>?_
     exact kk kvs' H' ((pJ.of to2 hdd).trans gt) hd' res oth len
end
end FQ
namespace FQ
open PySem L2 FK
def yh(K:PySem.W.Frag)(C Pt:Addr):Sp:=fun vs H Q _=>∃(se b:Addr)(xs:List V)(Ss:List aA)(n:Nat),vs=[.ref se,.ref b]/\cJ K H b xs/\Paired (bM K C H) xs Ss/\xs.length=n/\1<=n/\n<=8/\oG Pt H/\
 ∀(r:Addr)(ls:List Addr)(ts:List Nat)(sp:Nat->Rat×Rat)(H':Hp),To Pt H H'->H r=none->H' r=some (.lst (ls.map V.ref))->ls.length=n->(∀l∈ls,H l=none/\l≠r)->rY Ss n ts sp->Rv K H' ls sp->Q (.ref r) H'
section
variable {P:Program} {w:World} {K:PySem.W.Frag} {mg:Str->Option Value} {base:Heap} {aL aR aS C Pt:Addr}
theorem xY:aQ ["self","tastes","spans"] ["self","tastes"] (aJ jo):=⟨rfl,rfl,rfl,by decide+kernel,rfl,by decide+kernel,by decide+kernel⟩
theorem Eh{f:Addr}{fd:FuncData}(D:tZ K "deal" "Halves.deal" jo f fd)(CT:Cl P w K mg base "check_takers" 2 ["tastes","fewest","most"] (iR K C))(CG:Cl P w K mg base "give_by_halves" (11+3) ["tastes","takers","span","spans"] (Rz K C Pt 3))(T:Txt K mg aL aR)(mgS:mg "CAKE_SPAN"=some (.ref aS))(cS:∀H,bB K H (.ref aS) (0,1)):
  bH P w K mg base dj 15 f fd ["self","tastes"] (yh K C Pt):=by
 refine D.ok xY (fun vs H Q E h=>?_) (fun cdv A0 outer s H vs Q E hr h=>?_)
 .obtain⟨se,b,xs,Ss,n,rfl,_⟩:=h
  rfl
 .obtain⟨se,b,xs,Ss,n,rfl,hb,hS,hn,n1,n8,rd,k⟩:=h
  have hr2:aZ 2 _:=hr.mono (by decide)
  have hr14:aZ (11+3) _:=hr
  have hu1:=iU hr
  refine⟨_,au (cz (aO CT hr2 rfl (aj (pv 1) (aj ao (aj ao ak)))))
   (au (aN (i:=2) xY.nd rfl (Or.inr rfl) xQ)
   (au (cz (aO CG hr14 rfl (aj (pv 1) (aj (jE nG rfl T.list PyProof.Rows.boot_list (aj (zE rfl T.range (aj (aV aU (by rfl) T.len PySem.boot_len (aj (pv 1) ak)) ak)) ak)) (aj (bD (v:= .ref aS) rfl mgS rfl) (aj (pv 2) ak))))))
   (aB (aW (dC ["taker"] rfl (cD.free1 (F:=["spans"]) (js:=[2]) rfl (by decide+kernel) (by decide+kernel) rfl ⟨rfl,trivial⟩ rfl ⟨⟨rfl,rfl,.inl rfl⟩,trivial⟩) (fV rfl T.range (aj (aV aU (by rfl) T.len PySem.boot_len (aj (pv 1) ak)) ak))
    (fun _=>bz (i:=0) (show[Str.ofString "taker",Str.ofString "spans"].Nodup by decide+kernel) rfl (Or.inl rfl)) (fun _=>cG) (fun _=>cA (aj (Bx hu1 (pv 1) (pv 0) (fun _ _=>rfl)) ak))))))),?_⟩
  refine⟨_,rfl,b,xs,Ss,1,8,rfl,hb,hS,by omega,by omega,?_⟩
  refine fun d hd0=>?_
  have s1:=aF.upd (o:= .dK []) hd0
  refine⟨_,rfl,_,rfl,b,_,rfl,.inl (s1.seq hb),n,by rw[hn],by omega,fun r1 hr1=>?_⟩
  have s2:=aF.upd (o:= .rng 0 n) hr1
  refine⟨r1,n,rfl,az,by omega,rfl,fun lt hlt=>?_⟩
  have s3:=aF.upd (o:= .lst (upTo n)) hlt
  have s13:=s1.trans (s2.trans s3)
  have hd3:=(s2.trans s3) _ _ (az (H:=H) (a:=d) (o:= .dK []))
  have ln:(List.range n).length=n:=List.length_range ..
  have to3:To Pt H _:= .of rd s13
  refine⟨_,rfl,b,lt,d,.ref aS,xs,Ss,List.range n,0,1,[],0,rfl,s13.seq hb,Paired.mapP hS fun _ _ z=>bM.same s13 z,az,cS _,hd3,fun z=>by have:=congrArg List.length z;rw[ln]at this;simp at this;omega,by rw[ln];exact n8,by rw[ln];exact n8,List.pairwise_lt_range,fun u hu=>by have:=List.mem_range.mp hu;omega,⟨Rat.le_refl,by decide+kernel,Rat.le_refl⟩,⟨1,by decide,by decide,Gr.zero 1,Gr.one 1⟩,by decide,to3.rdy,by rw[ln];show 0+n<=8;omega,fun kvs H1 gt hd res oth len=>?_⟩
  have to:To Pt H H1:=⟨fun b' o e n'=>gt.but b' o (s13 _ _ e) n' (aM e hd0),rd,gt.rdy⟩
  have all:=Fy hS
  rw[hn]at all
  have lo:=Dp all n1 n8
  generalize hts:(hv Ss 3 (List.range n) 0 1).map (·.1)=ts at lo
  generalize hsp:IW (hv Ss 3 (List.range n) 0 1)=sp at lo
  have sd:Vl K H1 kvs ts sp:=fun t ht=>by
   rw[<-hts]at ht
   obtain⟨q,hq,rfl⟩:=List.mem_map.mp ht
   obtain⟨v,e1,e2⟩:=res q hq
   exact⟨v,e1,by rw[lo.sps q hq];exact e2⟩
  refine⟨_,rfl,b,_,rfl,.inl (to.sqL hb),n,by rw[hn],by omega,by omega,fun D1 hD1=>?_⟩
  have big:1000<=sizeLine:=by decide
  have nD:d≠D1:=aM hd hD1
  refine iw (lo:=0) (n:=n) (D:=D1) (fun i ys σ H2=>aF H1 H2/\H2 D1=some (.lst ys)/\(∃ls:List Addr,ys=ls.map V.ref/\ls.length=i/\(∀l∈ls,H1 l=none/\l≠D1)/\Rv K H2 ls sp)/\∃x0,σ=[x0,some (.ref d)])
   (by omega) ⟨aF.upd hD1,az,⟨[],rfl,rfl,(fun _ z=>nomatch z),List.nodup_nil,fun t l z=>by cases z⟩,_,rfl⟩ ?_ ?_ ?_
  .rintro i ys σ H2 _ ⟨u1,u2,⟨ls,rfl,e,_⟩,_⟩
   exact⟨u2,by rw[List.length_map];omega⟩
  .rintro i ys σ H2 hi ⟨u1,u2,⟨ls,rfl,e,fr,pc⟩,x0,rfl⟩ cc
   have mi:i∈ts:=lo.perm.mem_iff.mpr (List.mem_range.mpr hi)
   obtain⟨v,e1,cv⟩:=sd i mi
   refine⟨_,rfl,_,rfl,d,v,rfl,.inl ⟨kvs,.inl (i:Int),.inl (u1 _ _ hd),by show V.int _=V.int _;rw[Int.zero_add],e1.symm⟩,(by show 1<=sizeLine;decide),fun l hl=>?_⟩
   have s3:=aF.upd (o:= .lst [v]) hl
   have hl1:H1 l=none:=u1.free hl
   have lD:l≠D1:=(aM u2 hl).symm
   have u23:=s3 _ _ u2
   have k1:=cC.updL (o:= .lst (ls.map V.ref++[.ref l])) u23
   have nl:l∉ls:=fun z=>by
    obtain⟨t,ht⟩:=List.mem_iff_getElem?.mp z
    obtain⟨v',e2,_⟩:=pc.at_ t l ht
    rw[hl]at e2
    cases e2
   refine⟨u23,(u1.trans s3).updN hD1,az,⟨ls++[l],by rw[List.map_append];rfl,by rw[List.length_append,e];rfl,fun y hy=>?_,?_,fun t y ht=>?_⟩,_,rfl⟩
   .rcases List.mem_append.mp hy with z|z
    .exact fr y z
    .rw[List.mem_singleton.mp z]
     exact⟨hl1,lD⟩
   .refine List.nodup_append.mpr ⟨pc.nd,List.pairwise_singleton ..,fun a ha b' hb' z=>?_⟩
    rw[List.mem_singleton.mp hb']at z
    rw[z]at ha
    exact nl ha
   .by_cases c:t<ls.length
    .rw[List.getElem?_append_left c]at ht
     obtain⟨v',e2,cv'⟩:=pc.at_ t y ht
     have yD:=(fr y (List.mem_of_getElem? ht)).2
     exact⟨v',by rw[aG yD];exact s3 _ _ e2,bB.keep k1 (bB.same s3 cv')⟩
    .have tl:=(List.getElem?_eq_some_iff.mp ht).1
     rw[List.length_append]at tl
     have e3:t=ls.length:=by
      have:[l].length=1:=rfl
      omega
     subst e3
     rw[List.getElem?_concat_length]at ht
     cases ht
     rw[e]
     exact⟨v,by rw[aG lD];exact az,bB.keep k1 (bB.same s3 (bB.same u1 cv))⟩
  .rintro ys σ H2 ⟨u1,u2,⟨ls,rfl,e,fr,pc⟩,_⟩
   exact k D1 ls ts sp H2 (to.to u1) (to.free hD1) u2 e (fun l hl=>⟨to.free (fr l hl).1,(fr l hl).2⟩) lo pc
end
end FQ
namespace FQ
open PySem L2 FK
theorem Wu{K:PySem.W.Frag}{a p q:Addr}{od:Option Addr}{n:Nat}{sl:Array (Option Value)}(h:K.lookup a=some ⟨.type "tuple",od,.seq #[.ref p,.ref q] n,sl⟩):∀H:Hp,fD K H a [.ref p,.ref q]:=
 fun _=> .inr ⟨_,_,n,h,rfl,rfl,(by show 2<=sizeLine;decide),.cons rfl (.cons rfl .nil)⟩
end FQ
namespace PySem
namespace F
theorem lri_no_len:typeLookup (.type "list_reverseiterator") "__len__"=pure none:=by rw[typeLookup_type,builtinLookup_eq_fast];kernel_rfl
theorem lri_hint:typeLookup (.type "list_reverseiterator") "__length_hint__"=pure (some (.builtin "list_reverseiterator.__length_hint__")):=by rw[typeLookup_type,builtinLookup_eq_fast];kernel_rfl
end F
section
variable {prog:Program} {w:World} {A:Around} {E:Value->Shared->Prop} {s:Shared}
theorem Gx{it l:Addr}{i:Int}{Q:Bool->Shared->Prop}(hit:s.heap.IsRevIter it l i)(h:Q false s):wpAny (model prog w) A (Builtin.List.listLengthHint (.ref it)) Q E s:=by
 unfold Builtin.List.listLengthHint
 refine wpAny_bind (wpAny_specialOf hit.typeIs F.lri_no_len ?_)
 show wpAny _ _ (specialOf (Value.ref it) (Str.ofString "__length_hint__")>>=_) _ _ _
 refine wpAny_bind (wpAny_specialOf hit.typeIs F.lri_hint ?_)
 generalize hid:("list_reverseiterator.__length_hint__":String)=id0
 wp_delta
 rw[show splitId id0=some ("list_reverseiterator","__length_hint__")from by subst hid;decide+kernel]
 subst hid
 refine wpAny_bind (wpAny_isInstance (T:="list_reverseiterator") (b:=true) hit.typeIs (by rw[isSubtype_type];kernel_rfl) ?_)
 refine wpAny_ite_split (fun hab=>absurd hab (by decide)) (fun _=>?_)
 refine wpAny_ite_split (fun _=>?_) (fun hab=>absurd (by decide+kernel) hab)
 refine wpAny_ite_split (fun hab=>absurd hab (by decide+kernel)) (fun _=>?_)
 exact wpAny_pure h
theorem yM{R:Result->Shared->Prop}{it l:Addr}{items:Array Value}(hh:A.handled=none)(hne:l≠it)(hit:s.heap.IsRevIter it l ((items.size:Int)-1))(hl:s.heap.IsList l items)(S:Addr)(res:Value)(c₀:Nat)
  (hS:s.heap.get? S=some {cls:= .type "list",data:= .seq #[] c₀})(hSl:S≠l)
  (hR:∀h' tk acc' c',(∀b o,b≠S->b≠it->s.heap.get? b=some o->h'.get? b=some o)->h'.get? S=some {cls:= .type "list",dict:=none,data:= .seq acc' c',slots:= #[]}->
   ItemsOf (fun i v=>items[items.size-1-i]? =some v) acc' items.size->R (.ok (.ret res)) {s with heap:=h',toks:=tk})(hn:items.size<=sizeLine):
  wpAny (model prog w) A.in1 (Builtin.List.listExtendWith (.ref S) (.ref it) res)
   (fun fin s'=>match fin with| .done f=>R (.ok f) s'| .again c'=>c'.quiet=true/\codeAny (model prog w) A c' R s') (fun e s'=>R (.error e) s') s:=by
 have hSi:S≠it:=fun e=>by
  obtain⟨o,ho,hc,_⟩:=hit
  rw[<-e,hS]at ho
  cases ho
  exact absurd (show Value.type "list"=Value.type "list_reverseiterator" from hc) (by decide)
 have hSf:S∉[it,l]:=fun hm=>by
  rcases List.mem_cons.mp hm with e|e
  .exact hSi e
  .exact hSl (List.mem_singleton.mp e)
 unfold Builtin.List.listExtendWith
 refine wpAny_bind (wpAny_typeOf (T:="list_reverseiterator") hit.typeIs ?_)
 have h1:Builtin.List.listSameRef (.ref S) (.ref it)=false:=by simp[Builtin.List.listSameRef,hSi]
 have h2:(Value.type "list_reverseiterator"==Value.type "list")=false:=by decide
 have h3:(Value.type "list_reverseiterator"==Value.type "tuple")=false:=by decide
 simp only[h1,h2,h3,Bool.or_false,Bool.false_eq_true,if_false]
 refine wpAny_bind (wpAny_pyIter_revIter hit ?_)
 refine wpAny_bind (wpAny_holding (Gx hit ?_))
 refine wpAny_ite_split (fun hab=>absurd hab (by decide+kernel)) (fun _=>?_)
 have W:=(Walks.listRev (prog:=prog) (w:=w) (A:=A.in1) hh it l hne items).toS
 refine wpAny_pure ⟨plainId_quiet F.plain_extend_loop _,codeAny_extend_loopS W hn S hSf res items.size 0 _ #[] c₀ rfl (Nat.zero_le _) ⟨Nat.zero_le _,by simpa using hit,hl⟩ hS (ItemsOf.nil _) fun s' acc' c' hm hS' hacc=>?_⟩
 rw[Moved.eq_with hm]
 refine hR s'.heap s'.toks acc' c' (fun b o hb hb2 e=>hm.heap b o (fun hmem=>?_) e) hS' hacc
 rcases List.mem_cons.mp hmem with e'|hmem
 .exact hb e'
 .exact hb2 (List.mem_singleton.mp hmem)
theorem uh{R:Result->Shared->Prop}{it l:Addr}{items:Array Value}(hh:A.handled=none)(hne:l≠it)(hit:s.heap.IsRevIter it l ((items.size:Int)-1))(hl:s.heap.IsList l items)(S:Addr)
  (hS:s.heap.get? S=some {cls:= .type "list",data:= .seq #[]})(hSl:S≠l)
  (hR:∀h' tk acc' c',(∀b o,b≠S->b≠it->s.heap.get? b=some o->h'.get? b=some o)->h'.get? S=some {cls:= .type "list",dict:=none,data:= .seq acc' c',slots:= #[]}->
   ItemsOf (fun i v=>items[items.size-1-i]? =some v) acc' items.size->R (.ok (.ret .none)) {s with heap:=h',toks:=tk})(hn:items.size<=sizeLine):
  wpAny (model prog w) A.in1 (Builtin.«list.__init__» ⟨[.ref S,.ref it],[]⟩)
   (fun fin s'=>match fin with| .done f=>R (.ok f) s'| .again c'=>c'.quiet=true/\codeAny (model prog w) A c' R s') (fun e s'=>R (.error e) s') s:=by
 have hSi:S≠it:=fun e=>by
  obtain⟨o,ho,hc,_⟩:=hit
  rw[<-e,hS]at ho
  cases ho
  exact absurd (show Value.type "list"=Value.type "list_reverseiterator" from hc) (by decide)
 show wpAny _ _ (do let old<-Builtin.List.listItems (.ref S);Builtin.List.listUpdate (.ref S) (fun _=> #[]);letGo old.toList.reverse;Builtin.List.listExtendWith (.ref S) (.ref it) .none) _ _ s
 refine wpAny_bind ?_
 unfold Builtin.List.listItems
 refine wpAny_bind (wpAny_seqItems hS rfl (wpAny_pure ?_))
 show wpAny _ _ (updateSeq S (fun _=> #[])>>=fun _=>letGo (#[]:Array Value).toList.reverse>>=fun _=>Builtin.List.listExtendWith (.ref S) (.ref it) .none) _ _ s
 refine wpAny_bind (wpAny_updateSeq hS rfl ?_)
 have hS₂:=Heap.get?_update_self (Obj.mapSeq (fun _=>(#[]:Array Value))) hS rfl
 have oth:∀b o,b≠S->s.heap.get? b=some o->(s.heap.update S (Obj.mapSeq (fun _=>(#[]:Array Value)))).get? b=some o:=
  fun b o hb e=>(Heap.get?_update_other _ _ (Ne.symm hb)).trans e
 refine wpAny_bind (wpAny_letGo ?_)
 refine yM hh hne (hit.at fun o e=>oth it o (Ne.symm hSi) e) (hl.at fun o e=>oth l o (Ne.symm hSl) e) S .none _ hS₂ hSl (fun h' tk acc' c' hk hS' hacc=>?_) hn
 exact hR h' tk acc' c' (fun b o hb hb2 e=>hk b o hb hb2 (oth b o hb e)) hS' hacc
theorem uf{Q:Value->Shared->Prop}{it l:Addr}{items:Array Value}(hh:A.handled=none)(hne:l≠it)(hit:s.heap.IsRevIter it l ((items.size:Int)-1))(hl:s.heap.IsList l items)(hn:items.size<=sizeLine)
  (hQ:∀h' tk acc' c',(∀b o,b≠it->s.heap.get? b=some o->h'.get? b=some o)->
   h'.get? s.heap.objs.size=some {cls:= .type "list",dict:=none,data:= .seq acc' c',slots:= #[]}->ItemsOf (fun i v=>items[items.size-1-i]? =some v) acc' items.size->Q (.ref s.heap.objs.size) {s with heap:=h',toks:=tk}):
  wpAny (model prog w) A (call (.type "list") [.ref it]) Q E s:=by
 refine callType_codes (Q₁:=fun obj s₁=>obj= .ref s.heap.objs.size/\s₁={s with heap:=s.heap.push {cls:= .type "list",data:= .seq #[]}}) F.called_list (F.typeCall_list_1 _) F.entry_list_init
  (code_list_new _ ⟨rfl,rfl⟩) fun obj s₁ h₁=>?_
 obtain⟨rfl,rfl⟩:=h₁
 have hS:(s.heap.push {cls:= .type "list",data:= .seq #[]}).get? s.heap.objs.size=some {cls:= .type "list",data:= .seq #[]}:=Heap.get?_push_size _ rfl
 have hSl:s.heap.objs.size≠l:=fun e=>by
  obtain⟨o,ho,_⟩:=id hl
  rw[<-e]at ho
  exact Nat.lt_irrefl _ (Heap.lt_size ho)
 refine⟨⟨_,hS,rfl⟩,F.args_list_init_2 _ _,uh (A:=A.in1) hh hne (hit.at fun o e=>Heap.get?_push_of_some _ e) (hl.at fun o e=>Heap.get?_push_of_some _ e) _ hS hSl (fun h' tk acc' c' hk hS' hacc=>?_) hn⟩
 exact⟨rfl,hQ h' tk acc' c' (fun b o hb e=>hk b o (Nat.ne_of_lt (Heap.lt_size e)) hb (Heap.get?_push_of_some _ e)) hS' hacc⟩
end
end PySem
namespace L2
open PySem PySem.Spec PyProof.Rows
section
variable {X:Cx}
def Uj(K:PySem.W.Frag)(t:TA):TE:=fun σ H Q=>t σ H fun vs H1=>∃a xs,vs=[.ref a]/\cJ K H1 a xs/\∀p,H1 p=none->Q (.ref p) (upd H1 p (.lst xs.reverse))
theorem Lr{e:Expr}{ta:TA}{p p' pos pos':Pos}(hc:X.calm=true)(hg:Gl X "list")(hm:X.mg "list"=none)(hg':Gl X "reversed")(hm':X.mg "reversed"=none)(ha:PA X [e] ta)
  (hs:starEach [e] X.env=[(false,eval e X.env)]:=by rfl)(hs':starEach [.Call (.Name "reversed" p') [e] [] pos'] X.env=[(false,eval (.Call (.Name "reversed" p') [e] [] pos') X.env)]:=by rfl):
  PE X (.Call (.Name "list" p) [.Call (.Name "reversed" p') [e] [] pos'] [] pos) (Uj X.K ta):=by
 intro pins s σ H Q I h
 refine wpAny_Call_Name_kw (jm I hg hm boot_list ?_)
 refine PyProof.Rows.callWith_type1 ?_ hs' rfl
 rw[hs']
 show wpAny _ _ (spliced ((false,eval (.Call (.Name "reversed" p') [e] [] pos') X.env)::backTo pos [])) _ _ s
 refine Calls.spliced_cons ?_
 refine wpAny_Call_Name_kw (jm I hg' hm' boot_reversed ?_)
 refine PyProof.Rows.callWith_type1 (cZ (ha pos' pins s σ H _ I h) fun us s1⟨vs,H1,I1,r1,q1⟩=>?_) hs rfl
 obtain⟨a,xs,rfl,hq,q⟩:=q1
 obtain⟨u,rfl,rx⟩:=r1.one
 cases (show u=Value.ref a from rx)
 obtain⟨its,rv,pl,hz⟩:=I1.list hq
 refine call_reversed_list pl.isList ?_
 refine Calls.spliced_nil ?_
 have old:∀b o,s1.heap.get? b=some o->(s1.heap.push (revObj a ((its.toArray.size:Int)-1))).get? b=some o:=fun b o e=>Heap.get?_push_of_some _ e
 have hp:a≠s1.heap.objs.size:=fun e=>by
  obtain⟨o,n,e1,_⟩:=pl
  exact absurd (Heap.lt_size e1) (by rw[e];exact Nat.lt_irrefl _)
 refine uf (it:=s1.heap.objs.size) (l:=a) (items:=its.toArray) (I1.ok.hd hc) hp ⟨_,Heap.get?_push_size _ rfl,rfl,rfl⟩ (pl.isList.at fun o e=>old a o e) (by have:=rv.length;rw[List.size_toArray];omega) fun h' tk acc' c' hk hS' hacc=>?_
 have kp:∀b o,s1.heap.get? b=some o->h'.get? b=some o:=fun b o e=>hk b o (fun z=>absurd (Heap.lt_size e) (by rw[z];exact Nat.lt_irrefl _)) (old b o e)
 have hle:s1.heap.objs.size<=(s1.heap.push (revObj a ((its.toArray.size:Int)-1))).objs.size:=by rw[Heap.size_push];exact Nat.le_succ _
 obtain⟨n1,n2⟩:=hacc
 have ea:acc'.toList=its.reverse:=by
  refine List.ext_getElem? fun i=>?_
  rw[Array.getElem?_toList]
  by_cases c:i<its.length
  .have hi:i<acc'.size:=by rw[n1,List.size_toArray];exact c
   have:=n2 i _ (Array.getElem?_eq_getElem hi)
   rw[Array.getElem?_eq_getElem hi,List.getElem?_reverse c,<-this,List.size_toArray]
   simp
  .rw[Array.getElem?_eq_none (by rw[n1,List.size_toArray];omega),List.getElem?_eq_none (by rw[List.length_reverse];omega)]
 refine⟨.ref _,_,I1.laid (t':=tk) (o:= .lst xs.reverse) kp hle ?_,rfl,q _ (I1.hok.fresh hle)⟩
 exact⟨by rw[List.length_reverse];exact hz,its.reverse,c',rv.reverse,by rw[<-ea];simpa using hS'⟩
def Wj{α:Type}[DecidableEq α](K:PySem.W.Frag)(R:Hp->V->α->Prop):R2:=fun x y H Q=>∃p xs ds d,y= .ref p/\cJ K H p xs/\Paired (R H) xs ds/\R H x d/\Q (.bl (decide (d∈ds))) H
theorem Qn{α:Type}[DecidableEq α]{R:Hp->V->α->Prop}{dd:Nat}(hR:wM X.K R dd)(hu:X.A.units+(dd+1)<cLine):qK X (compareOp .In) (Wj X.K R):=by
 intro pins s σ H x y v u Q I rx ry h
 obtain⟨p,xs,ds,d,rfl,hq,hD,hd,q⟩:=h
 cases (show u=Value.ref p from ry)
 obtain⟨its,r,pl,hz⟩:=I.list hq
 have ld:=hD.length
 have lr:=r.length
 classical
 let f:Value->Bool:=fun u'=>decide (∃(m:Nat)(c:α),its[m]? =some u'/\ds[m]? =some c/\c=d)
 have fe:∀(m:Nat)(u':Value)(c:α),its[m]? =some u'->ds[m]? =some c->f u'=decide (c=d):=fun m u' c h1 h2=>by
  by_cases hc:c=d
  .rw[decide_eq_true hc]
   exact decide_eq_true ⟨m,c,h1,h2,hc⟩
  .rw[decide_eq_false hc]
   refine decide_eq_false fun⟨m',c',g1,g2,g3⟩=>hc ?_
   have im:m<xs.length:=by have:=(List.getElem?_eq_some_iff.mp h1).1;omega
   have im':m'<xs.length:=by have:=(List.getElem?_eq_some_iff.mp g1).1;omega
   obtain⟨w1,e1,r1⟩:=r.get (List.getElem?_eq_getElem im)
   obtain⟨w2,e2,r2⟩:=r.get (List.getElem?_eq_getElem im')
   rw[h1]at e1
   rw[g1]at e2
   cases e1
   cases e2
   have ex:=BP r1 r2
   have a1:=Paired.get hD m _ _ (List.getElem?_eq_getElem im) h2
   have a2:=Paired.get hD m' _ _ (List.getElem?_eq_getElem im') g2
   rw[ex]at a1
   rw[<-g3]
   exact hR.inj rfl I a1 a2
 have en:its.toArray.any f=decide (d∈ds):=by
  rw[Bool.eq_iff_iff,decide_eq_true_iff,show its.toArray.any f=its.any f by simp,List.any_eq_true]
  constructor
  .rintro ⟨u',hu',e⟩
   obtain⟨m,c,_,g2,rfl⟩:=of_decide_eq_true e
   exact List.mem_of_getElem? g2
  .intro hm
   obtain⟨m,hm'⟩:=List.mem_iff_getElem?.mp hm
   have im:m<its.length:=by have:=(List.getElem?_eq_some_iff.mp hm').1;omega
   exact⟨its[m],List.getElem_mem im,decide_eq_true ⟨m,d,List.getElem?_eq_getElem im,hm',rfl⟩⟩
 refine SeqAt.in_listAt f pl.isList (fun y' hy'=>?_) ⟨.bl _,H,I,rfl,by rw[en];exact q⟩
 obtain⟨m,hm1,hm2⟩:=Array.mem_iff_getElem.mp hy'
 have im:m<its.length:=by simpa using hm1
 have g:its[m]? =some y':=by
  rw[List.getElem?_eq_getElem im]
  congr 1
 have g2:ds[m]? =some (ds[m]'(by omega)):=List.getElem?_eq_getElem _
 have g1:xs[m]? =some (xs[m]'(by omega)):=List.getElem?_eq_getElem _
 obtain⟨w1,e1,r1⟩:=r.get g1
 rw[g]at e1
 cases e1
 rw[fe _ _ _ g g2]
 exact hR.eq (by rfl) I (by rw[in1_units];omega) (Paired.get hD m _ _ g1 g2) hd r1 rx
end
end L2
namespace FK
theorem Bt{p:Nat}{S:aA}(ok:aX p S){a b:Rat}{h m D:Nat}(a0:0<=a)(ab:a<b)(b1:b<=1)(h0:0<h)(hm:h<m)(m8:m<=8)(ga:Gr D a)(gb:Gr D b):
  ∃w:Nat,0<w/\w<=8000000/\Gr (D*w) (mw S a b h m):=by
 have m0:0<m:=by omega
 obtain⟨f0,f1⟩:=vB h0 hm
 have w0:0<wd S (a,b):=by
  have:=iT ok a0 ab b1
  show 0<F S b-F S a
  grind
 obtain⟨q0,q1⟩:=vP w0 f0 f1
 have fb:=qR ok b1
 have wd':wd S (a,b)=F S b-F S a:=rfl
 have lt1:F S a+wd S (a,b)*((h:Rat)/(m:Rat))<1:=by grind
 have fa:=ie ok a
 have tp:=ok.tp
 have g:Gr (D*m*p) ((F S a+wd S (a,b)*((h:Rat)/(m:Rat)))*tot S):=by
  have e:(F S a+wd S (a,b)*((h:Rat)/(m:Rat)))*tot S=A 0 S a+(A 0 S b-A 0 S a)*((h:Rat)/(m:Rat)):=by
   rw[wd']
   unfold F
   have:tot S≠0:=by grind
   grind
  rw[e]
  have g1:Gr (D*p) (A 0 S a):=jL (Gr.zero _) (fun z hz=>(ok.gr z hz).up') ga.up
  have g2:Gr (D*p) (A 0 S b):=jL (Gr.zero _) (fun z hz=>(ok.gr z hz).up') gb.up
  have g3:Gr m ((h:Rat)/(m:Rat)):=by
   have:=oX m0 (h:Int)
   rw[Rat.intCast_natCast]at this
   exact this
  have g4:=Gr.mul (Gr.sub g2 g1) g3
  have ed:D*m*p=D*p*m:=Nat.mul_right_comm D m p
  rw[ed]
  exact Gr.add g1.up g4
 obtain⟨x,e1,x0,x1,fx,w,w0',w1,gx⟩:=oJ ok (E:=D*m) (by grind) (Rat.le_of_lt lt1) g
 have em:mw S a b h m=x:=by
  unfold mw mk
  rw[e1]
  rfl
 rw[em]
 refine⟨m*p*w,Nat.mul_pos (Nat.mul_pos m0 ok.pos) w0',?_,?_⟩
 .have a1:m*p<=8*1000:=Nat.mul_le_mul m8 ok.few
  have a2:m*p*w<=8*1000*1000:=Nat.mul_le_mul a1 w1
  omega
 .rw[show D*(m*p*w)=D*m*p*w by rw[<-Nat.mul_assoc,<-Nat.mul_assoc]]
  exact gx
theorem Ad{p:Nat}{S:aA}(ok:aX p S){a b:Rat×Rat}{D:Nat}(a0:0<=a.1)(ab:a.1<a.2)(a1:a.2<=1)(b0:0<=b.1)(bb:b.1<b.2)(b1:b.2<=1)(le:wd S b<=wd S a)(ga:Gr D a.1)(gb:Gr D b.1)(gb':Gr D b.2):
  fO (wl S) (F S a.1+wd S b)=some (mk S a.1 (wd S b))/\a.1<mk S a.1 (wd S b)/\mk S a.1 (wd S b)<=a.2/\F S (mk S a.1 (wd S b))=F S a.1+wd S b/\0<wd S b/\F S a.1+wd S b<=1/\∃w:Nat,0<w/\w<=1000000/\Gr (D*w) (mk S a.1 (wd S b)):=by
 have wa:wd S a=F S a.2-F S a.1:=rfl
 have wb:wd S b=F S b.2-F S b.1:=rfl
 have w0:0<wd S b:=by
  have:=iT ok b0 bb b1
  rw[wb]
  grind
 have fb:=qR ok a1
 have le1:F S a.1+wd S b<=1:=by grind
 have fa:=ie ok a.1
 have tp:=ok.tp
 have g:Gr (D*p) ((F S a.1+wd S b)*tot S):=by
  have e:(F S a.1+wd S b)*tot S=A 0 S a.1+(A 0 S b.2-A 0 S b.1):=by
   rw[wb]
   unfold F
   have:tot S≠0:=by grind
   grind
  rw[e]
  have g1:Gr (D*p) (A 0 S a.1):=jL (Gr.zero _) (fun z hz=>(ok.gr z hz).up') ga.up
  have g2:Gr (D*p) (A 0 S b.1):=jL (Gr.zero _) (fun z hz=>(ok.gr z hz).up') gb.up
  have g3:Gr (D*p) (A 0 S b.2):=jL (Gr.zero _) (fun z hz=>(ok.gr z hz).up') gb'.up
  exact Gr.add g1 (Gr.sub g3 g2)
 obtain⟨x,e1,x0,x1,fx,w,w0',w1,gx⟩:=oJ ok (E:=D) (by grind) le1 g
 have em:mk S a.1 (wd S b)=x:=by
  unfold mk
  rw[e1]
  rfl
 rw[em]
 refine⟨e1,rW ok (by grind),qI ok (x:=a.2) (y:=x) (by grind) x1 (by grind),fx,w0,le1,p*w,Nat.mul_pos ok.pos w0',?_,?_⟩
 .have:=Nat.mul_le_mul ok.few w1
  omega
 .rw[<-Nat.mul_assoc]
  exact gx
theorem Ch.wo(S:aA):∀{C:List (Rat×Rat)}{a b:Rat},Ch a C b->Wo S C=F S b-F S a
 |[],a,b,h=>by
  have e:a=b:=h
  show(0:Rat)=_
  rw[e]
  grind
 |q::C,a,b,h=>by
  have ih:=Ch.wo S h.2.2
  have e:q.1=a:=h.1
  show(F S q.2-F S q.1)+Wo S C=_
  rw[ih,e]
  grind
structure jN(D:Nat)(p:Rat×Rat):Prop where
 x0:0<=p.1
 lt:p.1<p.2
 y1:p.2<=1
 g1:Gr D p.1
 g2:Gr D p.2
theorem jN.wn{D p:Nat}{S:aA}{q:Rat×Rat}(h:jN D q)(ok:aX p S):0<wd S q:=by
 have:=iT ok h.x0 h.lt h.y1
 show 0<F S q.2-F S q.1
 grind
end FK
namespace FQ
open PySem L2 FK
def yo(K:PySem.W.Frag)(C:Addr):Sp:=fun vs H Q _=>∃(x lt ll:Addr)(z:V)(p:Nat)(S:aA)(a b:Rat)(D:Nat),vs=[.ref x,z]/\bY K C H x lt ll S/\aX p S/\bB K H z (a,b)/\(0<=a/\a<b/\b<=1)/\(0<D/\D<=8000000^8/\Gr D a/\Gr D b)/\
 ∀(l:Addr)(v1 v2 v3:V)(H':Hp),aF H H'->H l=none->H' l=some (.lst [v1,v2,v3])->bB K H' v1 (a,mw S a b 1 3)->bB K H' v2 (mw S a b 1 3,mw S a b 2 3)->bB K H' v3 (mw S a b 2 3,b)->Q (.ref l) H'
section
variable {P:Program} {w:World} {K:PySem.W.Frag} {mg:Str->Option Value} {base:Heap} {aL aR C:Addr}
theorem tQ:aQ ["taste","span","first","second"] ["taste","span"] (aJ mG):=⟨rfl,rfl,rfl,by decide+kernel,rfl,by decide+kernel,by decide+kernel⟩
theorem En{f:Addr}{fd:FuncData}(D:bJ K mg "in_thirds" mG ["taste","span"] f fd)(CM:Cl P w K mg base "mark_within" 10 ["taste","span","part"] (QZ K C)):bH P w K mg base dj 11 f fd ["taste","span"] (yo K C):=by
 refine D.fn.ok tQ (fun vs H Q E h=>?_) (fun cdv A outer s H vs Q E hr h=>?_)
 .obtain⟨x,lt,ll,z,p,S,a,b,D,rfl,_⟩:=h
  rfl
 .obtain⟨x,lt,ll,z,p,S,a,b,Dg,rfl,ta,ok,hz,lim,gr,k⟩:=h
  refine⟨_,au (aN (i:=2) tQ.nd rfl (Or.inl rfl) (aO CM hr rfl (aj (pv 0) (aj (pv 1) (aj (bC (aj ao (aj ao ak))) ak)))))
   (au (aN (i:=3) tQ.nd rfl (Or.inl rfl) (aO CM hr rfl (aj (pv 0) (aj (pv 1) (aj (bC (aj ao (aj ao ak))) ak)))))
   (aB (aW (cA (aj (bC (aj (aD aK (pv 1) ao (fun _ _=>rfl)) (aj (pv 2) ak))) (aj (bC (aj (pv 2) (aj (pv 3) ak))) (aj (bC (aj (pv 3) (aj (aD aK (pv 1) ao (fun _ _=>rfl)) ak))) ak))))))),?_⟩
  refine⟨_,rfl,_,rfl,(by show 2<=sizeLine;decide),fun t1 ht1=>?_⟩
  have s1:=aF.upd (o:= .tup [.int 1,.int 3]) ht1
  have q1:bI K (upd H t1 (.tup [.int 1,.int 3])) (.ref t1) (((1:Nat):Rat)/((3:Nat):Rat)):= .of bw (by decide+kernel) (by decide+kernel)
  refine⟨x,lt,ll,z,.ref t1,p,S,a,b,1,3,Dg,rfl,ta.same s1,ok,bB.same s1 hz,q1,lim,⟨by decide,by decide,by decide⟩,gr,fun v1 H2 s2 d1=>?_⟩
  have s12:=s1.trans s2
  refine⟨_,rfl,_,rfl,(by show 2<=sizeLine;decide),fun t2 ht2=>?_⟩
  have s3:=aF.upd (o:= .tup [.int 2,.int 3]) ht2
  have s13:=s12.trans s3
  have q2:bI K (upd H2 t2 (.tup [.int 2,.int 3])) (.ref t2) (((2:Nat):Rat)/((3:Nat):Rat)):= .of bw (by decide+kernel) (by decide+kernel)
  refine⟨x,lt,ll,z,.ref t2,p,S,a,b,2,3,Dg,rfl,ta.same s13,ok,bB.same s13 hz,q2,lim,⟨by decide,by decide,by decide⟩,gr,fun v2 H4 s4 d2=>?_⟩
  have s14:=s13.trans s4
  obtain⟨pz,za,zb,rfl,hpz,fa,fb⟩:=bB.same s14 hz
  refine⟨_,rfl,pz,_,_,_,rfl,rfl,hpz,rfl,_,rfl,(by show 2<=sizeLine;decide),fun u1 hu1=>?_⟩
  have w1:=aF.upd (o:= .tup [za,v1]) hu1
  refine⟨_,rfl,_,rfl,(by show 2<=sizeLine;decide),fun u2 hu2=>?_⟩
  have w2:=aF.upd (o:= .tup [v1,v2]) hu2
  have w12:=w1.trans w2
  refine⟨_,rfl,_,rfl,pz,_,_,_,rfl,rfl,w12.sqT hpz,rfl,(by show 2<=sizeLine;decide),fun u3 hu3=>?_⟩
  have w3:=aF.upd (o:= .tup [v2,zb]) hu3
  refine⟨(by show 3<=sizeLine;decide),fun l hl=>?_⟩
  have w4:=aF.upd (o:= .lst [.ref u1,.ref u2,.ref u3]) hl
  have w14:=w12.trans (w3.trans w4)
  have d1':=d1.same (s3.trans (s4.trans w14))
  have d2':=d2.same w14
  exact k l _ _ _ _ (s14.trans w14) ((s14.trans (w12.trans w3)).free hl) az ⟨u1,za,v1,rfl,(w2.trans (w3.trans w4)).sqT bw,fa.same w14,d1'⟩ ⟨u2,v1,v2,rfl,(w3.trans w4).sqT bw,d1',d2'⟩ ⟨u3,v2,zb,rfl,w4.sqT bw,d2',fb.same w14⟩
end
end FQ
namespace FQ
open PySem L2 FK
theorem _root_.FK.jN.pc{D:Nat}{q:Rat×Rat}(dk:mY D)(h:jN D q):rZ D [q]:=
 ⟨dk,fun p hp=>by rw[List.mem_singleton.mp hp];exact⟨h.x0,h.lt,h.y1⟩,List.pairwise_singleton ..,fun p hp=>by rw[List.mem_singleton.mp hp];exact⟨h.g1,h.g2⟩,by show 1<=1000;decide⟩
theorem _root_.FK.jN.fit{p D:Nat}{S:aA}{q:Rat×Rat}(ok:aX p S)(dk:mY D)(h:jN D q):eQ (wd S q):=by
 have wf:=(yH ok (h.pc dk) 1).1
 rw[List.take_of_length_le (by show 1<=1;decide),uo]at wf
 exact wf
theorem GR{qs:List Rat}{a b:Int}(h:Lex qs b a):qs.getD b.toNat 0<=qs.getD a.toNat 0:=by
 rcases h with z|⟨z,_⟩
 .exact Rat.le_of_lt z
 .rw[z]
  exact Rat.le_refl
theorem Bw{qs:List Rat}{ord:List Int}(op:ord.Perm ((List.range qs.length).map fun i:Nat=>(i:Int)))(ow:ord.Pairwise fun a b=>Lex qs b a)(h0:0<qs.length):
  ∃(i:Nat)(r:List Int),ord=(i:Int)::r/\i<qs.length/\r.length+1=qs.length/\∀k,k<qs.length->qs.getD k 0<=qs.getD i 0:=by
 have le:=op.length_eq
 rw[List.length_map,List.length_range]at le
 cases ord with
 |nil=>simp at le;omega
 |cons x r=>
  obtain⟨i,hi,e⟩:=List.mem_map.mp (op.mem_iff.mp (List.mem_cons_self ..))
  have hi':=List.mem_range.mp hi
  subst e
  refine⟨i,r,rfl,hi',le,fun k hk=>?_⟩
  have hm:=op.mem_iff.mpr (List.mem_map.mpr ⟨k,List.mem_range.mpr hk,rfl⟩)
  rcases List.mem_cons.mp hm with z|z
  .have:k=i:=by omega
   subst this
   exact Rat.le_refl
  .have:=GR ((List.pairwise_cons.mp ow).1 _ z)
   rw[Int.toNat_natCast,Int.toNat_natCast]at this
   exact this
theorem Li{qs:List Rat}{ord:List Int}(op:ord.Perm ((List.range qs.length).map fun i:Nat=>(i:Int)))(ow:ord.Pairwise fun a b=>Lex qs b a)(h2:2<=qs.length):
  ∃(i j:Nat)(r:List Int),ord=(i:Int)::(j:Int)::r/\i<qs.length/\j<qs.length/\i≠j/\qs.getD j 0<=qs.getD i 0/\∀k,k<qs.length->k≠i->qs.getD k 0<=qs.getD j 0:=by
 have nd:ord.Nodup:=op.nodup_iff.mpr (show List.Pairwise (· ≠ ·) _ from List.pairwise_map.mpr (List.nodup_range.imp fun h e=>h (by omega)))
 obtain⟨i,r,rfl,hi,lr,mi⟩:=Bw op ow (by omega)
 cases r with
 |nil=>simp at lr;omega
 |cons y r=>
  obtain⟨j,hj,e⟩:=List.mem_map.mp (op.mem_iff.mp (List.mem_cons_of_mem _ (List.mem_cons_self ..)))
  have hj':=List.mem_range.mp hj
  subst e
  have ne:i≠j:=fun z=>(List.nodup_cons.mp nd).1 (by rw[z];exact List.mem_cons_self ..)
  refine⟨i,j,r,rfl,hi,hj',ne,mi j hj',fun k hk ki=>?_⟩
  have hm:=op.mem_iff.mpr (List.mem_map.mpr ⟨k,List.mem_range.mpr hk,rfl⟩)
  rcases List.mem_cons.mp hm with z|z
  .omega
  .rcases List.mem_cons.mp z with z|z
   .have:k=j:=by omega
    subst this
    exact Rat.le_refl
   .have:=GR ((List.pairwise_cons.mp (List.pairwise_cons.mp ow).2).1 _ z)
    rw[Int.toNat_natCast,Int.toNat_natCast]at this
    exact this
theorem mO{S:aA}{L:List (Rat×Rat)}{i:Nat}{q:Rat×Rat}(h:L[i]? =some q):(L.map (wd S)).getD i 0=wd S q:=by
 rw[List.getD_eq_getElem?_getD,List.getElem?_map,h]
 rfl
theorem JC{S:aA}{L:List (Rat×Rat)}{i:Nat}{q:Rat×Rat}(h:L[i]? =some q)(m:∀k,k<(L.map (wd S)).length->(L.map (wd S)).getD k 0<=(L.map (wd S)).getD i 0):∀z∈L,wd S z<=wd S q:=fun z hz=>by
 obtain⟨k,hk⟩:=List.mem_iff_getElem?.mp hz
 have:=m k (by rw[List.length_map];exact(List.getElem?_eq_some_iff.mp hk).1)
 rw[mO hk,mO h]at this
 exact this
theorem kW{α:Type}{L:List α}{i:Nat}{z:α}(h:z∈L.eraseIdx i):∃k,k≠i/\L[k]? =some z:=by
 obtain⟨j,hj⟩:=List.mem_iff_getElem?.mp h
 rw[List.getElem?_eraseIdx]at hj
 by_cases c:j<i
 .rw[if_pos c]at hj
  exact⟨j,by omega,hj⟩
 .rw[if_neg c]at hj
  exact⟨j+1,by omega,hj⟩
theorem qW{α:Type}{L:List α}{i k:Nat}{z:α}(ki:k≠i)(h:L[k]? =some z):z∈L.eraseIdx i:=by
 rcases Nat.lt_or_gt_of_ne ki with c|c
 .refine List.mem_of_getElem? (i:=k) ?_
  rw[List.getElem?_eraseIdx,if_pos c]
  exact h
 .refine List.mem_of_getElem? (i:=k-1) ?_
  rw[List.getElem?_eraseIdx,if_neg (by omega),show k-1+1=k by omega]
  exact h
def zW(K:PySem.W.Frag)(C Pt:Addr):Sp:=fun vs H Q _=>∃(x lt ll l:Addr)(xs:List V)(p D:Nat)(S:aA)(L:List (Rat×Rat)),vs=[.ref x,.ref l]/\bY K C H x lt ll S/\aX p S/\cJ K H l xs/\Paired (bB K H) xs L/\mY D/\(∀q∈L,jN D q)/\L.length<=3/\oG Pt H/\
 ∀(r:Addr)(ord:List Int)(H':Hp),To Pt H H'->H r=none->H' r=some (.lst (ord.map V.int))->ord.Perm ((List.range (L.map (wd S)).length).map fun i:Nat=>(i:Int))->ord.Pairwise (fun a b=>Lex (L.map (wd S)) b a)->Q (.ref r) H'
def Jd(K:PySem.W.Frag)(C Pt:Addr):Sp:=fun vs H Q _=>∃(x lt ll l:Addr)(xs:List V)(p D:Nat)(S:aA)(L:List (Rat×Rat)),vs=[.ref x,.ref l]/\bY K C H x lt ll S/\aX p S/\H l=some (.lst xs)/\Paired (bB K H) xs L/\mY D/\(∀q∈L,jN D q)/\0<L.length/\L.length<=3/\oG Pt H/\
 ∀(i:Nat)(v:V)(q:Rat×Rat)(H1:Hp),To Pt H H1->xs[i]? =some v->L[i]? =some q->(∀z∈L,wd S z<=wd S q)->Q v (upd H1 l (.lst (xs.eraseIdx i)))
structure Fp(S:aA)(D:Nat)(L:List (Rat×Rat))(i:Nat)(a:Rat×Rat)(m:Rat):Prop where
 at_:L[i]? =some a
 lt:a.1<m
 le:m<=a.2
 as:∃b∈L.eraseIdx i,wd S b=wd S (a.1,m)
 max:∀z∈L.eraseIdx i,wd S z<=wd S (a.1,m)
 g:∃w:Nat,0<w/\w<=1000000/\Gr (D*w) m
def Je(K:PySem.W.Frag)(C Pt:Addr):Sp:=fun vs H Q _=>∃(x lt ll l:Addr)(xs:List V)(p D:Nat)(S:aA)(L:List (Rat×Rat)),vs=[.ref x,.ref l]/\bY K C H x lt ll S/\aX p S/\cJ K H l xs/\Paired (bB K H) xs L/\(0<D/\D<=8000000^8)/\(∀q∈L,jN D q)/\2<=L.length/\L.length<=3/\oG Pt H/\
 ∀(i:Nat)(a:Rat×Rat)(m:Rat)(t:Addr)(sv rv:V)(H':Hp),To Pt H H'->Fp S D L i a m->fD K H' t [.int i,sv,rv]->bB K H' sv (a.1,m)->((rv= .non/\m=a.2)\/(m<a.2/\bB K H' rv (m,a.2)))->Q (.ref t) H'
section
variable {P:Program} {w:World} {K:PySem.W.Frag} {mg:Str->Option Value} {base:Heap} {aL aR C Pt:Addr}
abbrev Xu:List Str:=["taste","spans","order"]
theorem Ij:aQ Xu ["taste","spans"] (aJ qu):=⟨rfl,rfl,rfl,by decide+kernel,rfl,by decide+kernel,by decide+kernel⟩
theorem zc{f:Addr}{fd:FuncData}(D:bJ K mg "dearest" qu ["taste","spans"] f fd)(CR:Cl P w K mg base "ranked" 5 ["those"] (iQ K Pt))(MW:Ml P w K mg base C "worth" 9 ["self","piece"] (jd K C))(T:Txt K mg aL aR)(TC:kY K C):
  bH P w K mg base dj 10 f fd ["taste","spans"] (zW K C Pt):=by
 refine D.fn.ok Ij (fun vs H Q E h=>?_) (fun cdv A outer s H vs Q E hr h=>?_)
 .obtain⟨x,lt,ll,l,xs,p,D,S,L,rfl,_⟩:=h
  rfl
 .obtain⟨x,lt,ll,l,xs,p,Dg,S,L,rfl,ta,ok,hl,pL,dk,sp,l3,rd,k⟩:=h
  have hr5:aZ 5 _:=hr.mono (by decide)
  have big:1000<=sizeLine:=by decide
  have lL:=pL.length
  refine⟨_,au (aN (i:=2) Ij.nd rfl (Or.inl rfl) (aO CR hr5 rfl (aj (dC ["span"] rfl (cD.free1 (F:=["taste"]) (js:=[0]) rfl (by decide+kernel) (by decide+kernel) rfl ⟨rfl,trivial⟩ rfl ⟨⟨rfl,rfl,.inl rfl⟩,trivial⟩) (cu (pv 1))
    (fun _=>bz (i:=0) (show[Str.ofString "span",Str.ofString "taste"].Nodup by decide+kernel) rfl (Or.inl rfl)) (fun _=>cG) (fun _=>cV MW TC.cl hr (pv 1) (aj (cA (aj (pv 0) ak)) ak))) ak)))
   (aB (aW (Lr rfl rfl T.list rfl T.reversed (aj (pv 2) ak)))),?_⟩
  refine⟨_,rfl,l,rfl,⟨_,hl⟩,fun D1 hD1=>?_⟩
  refine cL (K:=K) (a:=l) (D:=D1) (xs:=xs) (fun j ys σ H2=>aF H H2/\H2 D1=some (.lst ys)/\Paired (bI K H2) ys ((L.map (wd S)).take j)/\ys.length<=j/\∃x0,σ=[x0,some (.ref x)])
   (by omega) ⟨aF.upd hD1,az,.nil,Nat.le_refl _,_,rfl⟩ ?_ ?_ ?_
  .rintro j ys σ H2 _ ⟨u1,u2,u3,u4,_⟩
   exact⟨u1.seq hl,u2,u4⟩
  .rintro j y ys σ H2 hy ⟨u1,u2,u3,u4,x0,rfl⟩ cc
   obtain⟨q,hq,hco⟩:=Paired.get1 pL j y hy
   have so:=sp q (List.mem_of_getElem? hq)
   have ta2:=ta.same u1
   obtain⟨dx,hx⟩:=ta2.ins
   refine⟨_,rfl,x,dx,_,rfl,hx,rfl,_,rfl,(by show 1<=sizeLine;decide),fun l1 hl1=>?_⟩
   have s1:=aF.upd (o:= .lst [y]) hl1
   refine⟨x,lt,ll,l1,_,p,Dg,S,[q],rfl,ta2.same s1,ok,dW,.cons (bB.same s1 (bB.same u1 hco)) .nil,so.pc dk,fun v7 H7 s7 d7=>?_⟩
   rw[uo]at d7
   have s17:=s1.trans s7
   have u27:=s17 _ _ u2
   have k1:=cC.updL (o:= .lst (ys++[v7])) u27
   refine⟨u27,(u1.trans s17).updN hD1,az,?_,by rw[List.length_append];exact Nat.add_le_add_right u4 1,_,rfl⟩
   have e1:(L.map (wd S))[j]? =some (wd S q):=by rw[List.getElem?_map,hq];rfl
   rw[take_snoc e1]
   exact Paired.app (Paired.mapP u3 fun _ _ z=>bI.keep k1 (bI.same s17 z)) (.cons (bI.keep k1 d7) .nil)
  .rintro ys σ H2 ⟨u1,u2,u3,u4,_⟩
   rw[List.take_of_length_le (by rw[List.length_map];omega)]at u3
   have to2:To Pt H H2:= .of rd u1
   refine⟨D1,ys,L.map (wd S),rfl,.of u2,u3,fun q hq=>?_,by rw[List.length_map];omega,to2.rdy,fun lo ord H3 to3 hlo hord op ow=>?_⟩
   .obtain⟨z,hz,rfl⟩:=List.mem_map.mp hq
    exact(sp z hz).fit ok dk
   .refine⟨_,rfl,lo,_,rfl,.of hord,fun r hr'=>?_⟩
    have to13:=to2.trans to3
    have s4:=aF.upd (o:= .lst (ord.map V.int).reverse) hr'
    exact k r ord.reverse _ (to13.to s4) (to13.free hr') (by rw[List.map_reverse];exact az) ((List.reverse_perm ord).trans op) (List.pairwise_reverse.mpr ow)
theorem QW:aQ ["taste","spans"] ["taste","spans"] (aJ iM):=⟨rfl,rfl,rfl,by decide+kernel,rfl,by decide+kernel,by decide+kernel⟩
theorem Ld{f:Addr}{fd:FuncData}(D:bJ K mg "take_dearest" iM ["taste","spans"] f fd)(CD:Cl P w K mg base "dearest" 10 ["taste","spans"] (zW K C Pt)):bH P w K mg base dj 11 f fd ["taste","spans"] (Jd K C Pt):=by
 refine D.fn.ok QW (fun vs H Q E h=>?_) (fun cdv A outer s H vs Q E hr h=>?_)
 .obtain⟨x,lt,ll,l,xs,p,D,S,L,rfl,_⟩:=h
  rfl
 .obtain⟨x,lt,ll,l,xs,p,Dg,S,L,rfl,ta,ok,hl,pL,dk,sp,l0,l3,rd,k⟩:=h
  refine⟨_,aB (aW (iY PySem.F.plainAttrs_list PySem.F.slot_list_pop PySem.F.type_list_pop xJ (pv 1) (aj (aD aP (aO CD hr rfl (aj (pv 0) (aj (pv 1) ak))) ao (fun _ _=>rfl)) ak))),?_⟩
  have lL:=pL.length
  refine⟨_,rfl,.inl ⟨rfl,_,.of hl⟩,_,rfl,_,rfl,x,lt,ll,l,xs,p,Dg,S,L,rfl,ta,ok,.of hl,pL,dk,sp,l3,rd,fun r ord H1 to1 hr0 hord op ow=>?_⟩
  obtain⟨i,rr,rfl,hi,_,mi⟩:=Bw op ow (by rw[List.length_map];exact l0)
  rw[List.length_map]at hi
  refine⟨r,_,_,_,rfl,rfl,.of hord,fZ,?_⟩
  obtain⟨v,hv⟩:∃v,xs[i]? =some v:=⟨_,List.getElem?_eq_getElem (by omega)⟩
  obtain⟨q,hq,_⟩:=Paired.get1 pL i v hv
  refine⟨l,xs,i,i,v,rfl,rfl,to1.lst hl,by omega,by omega,?_,hv,k i v q H1 to1 hv hq (JC hq mi)⟩
  exact(seqIndex_of (by omega) (by omega)).trans (by rw[Int.toNat_natCast])
abbrev Xx:List Str:=["taste","spans","order","span","point","rest"]
theorem tU:aQ Xx ["taste","spans"] (aJ qC):=⟨rfl,rfl,rfl,by decide+kernel,rfl,by decide+kernel,by decide+kernel⟩
theorem Le{f:Addr}{fd:FuncData}(D:bJ K mg "trimmed" qC ["taste","spans"] f fd)(CD:Cl P w K mg base "dearest" 10 ["taste","spans"] (zW K C Pt))(MM:Ml P w K mg base C "mark" 8 ["self","start","share"] (jz K C))(MW:Ml P w K mg base C "worth" 9 ["self","piece"] (jd K C))(TC:kY K C):
  bH P w K mg base dj 11 f fd ["taste","spans"] (Je K C Pt):=by
 refine D.fn.ok tU (fun vs H Q E h=>?_) (fun cdv A outer s H vs Q E hr h=>?_)
 .obtain⟨x,lt,ll,l,xs,p,D,S,L,rfl,_⟩:=h
  rfl
 .obtain⟨x,lt,ll,l,xs,p,Dg,S,L,rfl,ta,ok,hl,pL,⟨d0,d8⟩,sp,l2,l3,rd,k⟩:=h
  have hr8:aZ 8 _:=hr.mono (by decide)
  have hr9:aZ 9 _:=hr.mono (by decide)
  have hu:_+(0+1)<cLine:=iU hr
  have dk:mY Dg:=⟨d0,Nat.lt_of_le_of_lt d8 (by decide)⟩
  have lL:=pL.length
  refine⟨_,au (aN (i:=2) tU.nd rfl (Or.inl rfl) (aO CD hr rfl (aj (pv 0) (aj (pv 1) ak))))
   (au (aN (i:=3) tU.nd rfl (Or.inl rfl) (aD aP (pv 1) (aD aP (pv 2) ao (fun _ _=>rfl)) (fun _ _=>rfl)))
   (au (aN (i:=4) tU.nd rfl (Or.inl rfl) (cV MM TC.cl hr8 (pv 0) (aj (aD aK (pv 3) ao (fun _ _=>rfl)) (aj (cV MW TC.cl hr9 (pv 0) (aj (cA (aj (aD aP (pv 1) (aD aP (pv 2) ao (fun _ _=>rfl)) (fun _ _=>rfl)) ak)) ak)) ak))))
   (au (aN (i:=5) tU.nd rfl (Or.inl rfl) (xR (aY (vK cM cM hu) (pv 4) (aD aK (pv 3) ao (fun _ _=>rfl)) (bx _)) kh (bC (aj (pv 4) (aj (aD aK (pv 3) ao (fun _ _=>rfl)) ak)))))
   (aB (aW (bC (aj (aD aP (pv 2) ao (fun _ _=>rfl)) (aj (bC (aj (aD aK (pv 3) ao (fun _ _=>rfl)) (aj (pv 4) ak))) (aj (pv 5) ak))))))))),?_⟩
  refine⟨_,rfl,_,rfl,x,lt,ll,l,xs,p,Dg,S,L,rfl,ta,ok,hl,pL,dk,sp,l3,rd,fun r ord H1 to1 hr0 hord op ow=>?_⟩
  obtain⟨i,j,rr,rfl,hi,hj,ne,le,mx⟩:=Li op ow (by rw[List.length_map];exact l2)
  rw[List.length_map]at hi hj
  obtain⟨vi,hvi⟩:∃v,xs[i]? =some v:=⟨_,List.getElem?_eq_getElem (by omega)⟩
  obtain⟨vj,hvj⟩:∃v,xs[j]? =some v:=⟨_,List.getElem?_eq_getElem (by omega)⟩
  obtain⟨a,ha,ca⟩:=Paired.get1 pL i vi hvi
  obtain⟨b,hb,cb⟩:=Paired.get1 pL j vj hvj
  rw[mO ha,mO hb]at le
  have sa:=sp a (List.mem_of_getElem? ha)
  have sb:=sp b (List.mem_of_getElem? hb)
  obtain⟨e1,e2,e3,e4,e5,e6,wg,w0,w1,gm⟩:=Ad ok sa.x0 sa.lt sa.y1 sb.x0 sb.lt sb.y1 le sa.g1 sb.g1 sb.g2
  have hl1:=to1.sqL hl
  have a1:qT ((((i:Int)::(j:Int)::rr).map V.int)) 1=some (V.int j):=bZ (j:=1) rfl
  refine⟨_,rfl,_,rfl,r,_,_,_,rfl,rfl,.of hord,fZ,l,_,_,_,rfl,rfl,hl1,bZ hvi,?_⟩
  obtain⟨pz,za,zb,rfl,hpz,fa,fb⟩:=bB.keep to1.keep ca
  have ta1:=ta.tb to1
  obtain⟨dx,hx⟩:=ta1.ins
  refine⟨_,rfl,x,dx,_,rfl,hx,rfl,_,rfl,pz,_,_,_,rfl,rfl,hpz,rfl,_,rfl,x,dx,_,rfl,hx,rfl,_,rfl,_,rfl,r,_,_,_,rfl,rfl,.of hord,a1,l,_,_,_,rfl,rfl,hl1,bZ hvj,(by show 1<=sizeLine;decide),fun l2 hl2=>?_⟩
  have s2:=aF.upd (o:= .lst [vj]) hl2
  refine⟨x,lt,ll,l2,_,p,Dg,S,[b],rfl,ta1.same s2,ok,dW,.cons (bB.same s2 (bB.keep to1.keep cb)) .nil,sb.pc dk,fun v3 H3 s3 d3=>?_⟩
  rw[uo]at d3
  have s23:=s2.trans s3
  have fita:eQ (F S a.1):=Bd.fit (nA ok dk sa.g1 (by have:=sa.lt;have:=sa.y1;grind)) (ie ok a.1) (by decide)
  have ftm:Ft 280 (F S a.1+wd S b):=by
   obtain⟨N,n0,n1,hN⟩:=ok.num
   have few:=ok.few
   have gs:Gr (Dg*N) (F S a.1+wd S b):=Gr.add (pM ok hN sa.g1) (Gr.sub (pM ok hN sb.g2) (pM ok hN sb.g1))
   have l1':Dg*N<=8000000^8*1000000:=Nat.mul_le_mul d8 (by omega)
   have dk2:mY (Dg*N):=⟨Nat.mul_pos d0 n0,Nat.lt_of_le_of_lt l1' (by decide)⟩
   have f0:=ie ok a.1
   exact⟨by grind,dk2.bd gs (by grind) e6⟩
  refine⟨x,lt,ll,za,v3,p,S,a.1,wd S b,rfl,ta1.same s23,ok,fa.same s23,d3,⟨sa.x0,by have:=sa.lt;have:=sa.y1;grind,dk.bd sa.g1 sa.x0 (by have:=sa.lt;have:=sa.y1;grind)⟩,fita,sb.fit ok dk,ftm,fun v4 H4 s4 d4=>?_⟩
  rw[e1]at d4
  have d4':bI K H4 v4 (mk S a.1 (wd S b)):=d4
  have s24:=s23.trans s4
  have to4:=to1.to s24
  have hpz4:=s24.sqT hpz
  have fb4:=fb.same s24
  have fa4:=fa.same s24
  have hord4:=s24 _ _ hord
  have wdm:wd S (a.1,mk S a.1 (wd S b))=wd S b:=by
   show F S (mk S a.1 (wd S b))-F S a.1=wd S b
   rw[e4]
   grind
  have tr:Fp S Dg L i a (mk S a.1 (wd S b)):=⟨ha,e2,e3,⟨b,qW ne.symm hb,wdm.symm⟩,fun z hz=>by
   obtain⟨kk,kn,hk⟩:=kW hz
   have:=mx kk (by rw[List.length_map];exact(List.getElem?_eq_some_iff.mp hk).1) kn
   rw[mO hk,mO hb]at this
   rw[wdm]
   exact this,wg,w0,w1,gm⟩
  refine⟨_,rfl,_,rfl,pz,_,_,_,rfl,rfl,hpz4,rfl,_,_,d4',fb4,_,rfl,?_⟩
  refine fH (fun c=>?_) (fun c=>?_)
  .have c':mk S a.1 (wd S b)=a.2:=vA (of_decide_eq_true c)
   refine⟨_,rfl,r,_,_,_,rfl,rfl,.of hord4,fZ,_,rfl,pz,_,_,_,rfl,rfl,hpz4,rfl,_,rfl,(by show 2<=sizeLine;decide),fun t5 ht5=>?_⟩
   have s5:=aF.upd (o:= .tup [za,v4]) ht5
   refine⟨_,rfl,(by show 3<=sizeLine;decide),fun t6 ht6=>?_⟩
   have s6:=aF.upd (o:= .tup [.int i,.ref t5,.non]) ht6
   exact k i a _ t6 (.ref t5) .non _ (to4.to (s5.trans s6)) tr bw ⟨t5,za,v4,rfl,s6.sqT bw,fa4.same (s5.trans s6),d4'.same (s5.trans s6)⟩ (.inl ⟨rfl,c'⟩)
  .have c':mk S a.1 (wd S b)<a.2:=by
    have:¬mk S a.1 (wd S b)=a.2:=fun z=>c (decide_eq_true (by rw[z]))
    grind
   refine⟨_,rfl,_,rfl,pz,_,_,_,rfl,rfl,hpz4,rfl,(by show 2<=sizeLine;decide),fun t4 ht4=>?_⟩
   have s45:=aF.upd (o:= .tup [v4,zb]) ht4
   refine⟨_,rfl,r,_,_,_,rfl,rfl,.of (s45 _ _ hord4),fZ,_,rfl,pz,_,_,_,rfl,rfl,s45.sqT hpz4,rfl,_,rfl,(by show 2<=sizeLine;decide),fun t5 ht5=>?_⟩
   have s5:=aF.upd (o:= .tup [za,v4]) ht5
   refine⟨_,rfl,(by show 3<=sizeLine;decide),fun t6 ht6=>?_⟩
   have s6:=aF.upd (o:= .tup [.int i,.ref t5,.ref t4]) ht6
   have s56:=s5.trans s6
   have s46:=s45.trans s56
   exact k i a _ t6 (.ref t5) (.ref t4) _ (to4.to s46) tr bw ⟨t5,za,v4,rfl,s6.sqT bw,fa4.same s46,d4'.same s46⟩ (.inr ⟨c',t4,v4,zb,rfl,s56.sqT bw,d4'.same s46,fb4.same s46⟩)
end
end FQ
namespace FK
theorem jg{α:Type}:∀{L:List α}{i:Nat}{x:α},L[i]? =some x->(x::L.eraseIdx i).Perm L
 |[],_,_,h=>by simp at h
 |y::L,0,x,h=>by
  have:y=x:=by simpa using h
  rw[this]
  exact List.Perm.refl _
 |y::L,i+1,x,h=>by
  have h':L[i]? =some x:=by simpa using h
  exact(List.Perm.swap ..).trans ((jg h').cons y)
structure OJ(S:aA)(D:Nat)(r:Rat×Rat)(s t:Rat)(D':Nat):Prop where
 lo:r.1<s
 st:s<t
 hi:t<r.2
 e1:wd S (r.1,s)=wd S r/3
 e2:wd S (s,t)=wd S r/3
 e3:wd S (t,r.2)=wd S r/3
 w:∃v:Nat,0<v/\v<=8000000^2/\D'=D*v
 gs:Gr D' s
 gt:Gr D' t
theorem Rm{p D:Nat}{S:aA}(ok:aX p S){r:Rat×Rat}(d0:0<D)(h:jN D r):∃D',OJ S D r (mw S r.1 r.2 1 3) (mw S r.1 r.2 2 3) D':=by
 obtain⟨_,a1,a2,a3,_⟩:=iC ok h.x0 h.lt h.y1 (h:=1) (m:=3) (by decide) (by decide) (by decide) d0 h.g1 h.g2
 obtain⟨_,b1,b2,b3,_⟩:=iC ok h.x0 h.lt h.y1 (h:=2) (m:=3) (by decide) (by decide) (by decide) d0 h.g1 h.g2
 obtain⟨w1,p1,q1,g1⟩:=Bt ok h.x0 h.lt h.y1 (h:=1) (m:=3) (by decide) (by decide) (by decide) h.g1 h.g2
 obtain⟨w2,p2,q2,g2⟩:=Bt ok h.x0 h.lt h.y1 (h:=2) (m:=3) (by decide) (by decide) (by decide) h.g1 h.g2
 have wn:=h.wn ok
 have c1:((1:Nat):Rat)/((3:Nat):Rat)=1/3:=rfl
 have c2:((2:Nat):Rat)/((3:Nat):Rat)=2/3:=rfl
 have er:wd S (r.1,r.2)=wd S r:=rfl
 rw[c1,er]at a3
 rw[c2,er]at b3
 have wr:wd S r=F S r.2-F S r.1:=rfl
 refine⟨D*(w1*w2),a1,rW ok (by grind),b2,?_,?_,?_,⟨w1*w2,Nat.mul_pos p1 p2,?_,rfl⟩,?_,?_⟩
 .show F S (mw S r.1 r.2 1 3)-F S r.1=_
  grind
 .show F S (mw S r.1 r.2 2 3)-F S (mw S r.1 r.2 1 3)=_
  grind
 .show F S r.2-F S (mw S r.1 r.2 2 3)=_
  grind
 .have:=Nat.mul_le_mul q1 q2
  omega
 .rw[<-Nat.mul_assoc]
  exact g1.up
 .rw[Nat.mul_comm w1 w2,<-Nat.mul_assoc]
  exact g2.up
def Ac(r:Rat×Rat)(s t:Rat):List (Rat×Rat):=[(r.1,s),(s,t),(t,r.2)]
theorem OJ.sp{S:aA}{D D':Nat}{r:Rat×Rat}{s t:Rat}(h:OJ S D r s t D')(hr:jN D r):∀q∈Ac r s t,jN D' q:=by
 obtain⟨v,v0,v1,rfl⟩:=h.w
 have a:=h.lo
 have b:=h.st
 have c:=h.hi
 have x:=hr.x0
 have y:=hr.y1
 intro q hq
 rcases List.mem_cons.mp hq with e|e
 .rw[e]
  exact⟨x,a,by show s<=1;grind,hr.g1.up,h.gs⟩
 .rcases List.mem_cons.mp e with e|e
  .rw[e]
   exact⟨by show 0<=s;grind,b,by show t<=1;grind,h.gs,h.gt⟩
  .rw[List.mem_singleton.mp e]
   exact⟨by show 0<=t;grind,c,y,h.gt,hr.g2.up⟩
theorem OJ.same{S:aA}{D D':Nat}{r:Rat×Rat}{s t:Rat}(h:OJ S D r s t D'):∀q∈Ac r s t,wd S q=wd S r/3:=by
 intro q hq
 rcases List.mem_cons.mp hq with e|e
 .rw[e];exact h.e1
 .rcases List.mem_cons.mp e with e|e
  .rw[e];exact h.e2
  .rw[List.mem_singleton.mp e];exact h.e3
end FK
namespace FQ
open PySem L2 FK
theorem PK{α:Type}[DecidableEq α]{L:List α}{x:α}(h:x∈L):L[L.idxOf x]? =some x:=List.getElem?_eq_some_iff.mpr ⟨List.idxOf_lt_length_iff.mpr h,List.getElem_idxOf _⟩
section
variable {S0:aA} {p0 D0 D':Nat} {t1 t2:Rat}
theorem Js(ok0:aX p0 S0)(th:OJ S0 D0 (0,1) t1 t2 D'):∀q∈Ac (0,1) t1 t2,wd S0 q=1/3:=fun q hq=>by
 have e:=th.same q hq
 have w:wd S0 ((0:Rat),(1:Rat))=F S0 1-F S0 0:=rfl
 rw[w,fY ok0,cX ok0]at e
 grind
end
theorem Paired.erase'{α β:Type}{F:α->β->Prop}:∀{xs:List α}{ys:List β}(i:Nat),Paired F xs ys->Paired F (xs.eraseIdx i) (ys.eraseIdx i)
 |_,_,i,.nil=>by rw[List.eraseIdx_nil,List.eraseIdx_nil];exact .nil
 |_,_,0,.cons r t=>t
 |_,_,i+1,.cons r t=> .cons r (Paired.erase' i t)
theorem Paired.set'{α β:Type}{F:α->β->Prop}:∀{xs:List α}{ys:List β}(i:Nat){x:α}{y:β},F x y->Paired F xs ys->Paired F (xs.set i x) (ys.set i y)
 |_,_,i,_,_,_,.nil=>by rw[List.set_nil,List.set_nil];exact .nil
 |_,_,0,_,_,h,.cons r t=> .cons h t
 |_,_,i+1,_,_,h,.cons r t=> .cons r (Paired.set' i h t)
theorem BV{K:PySem.W.Frag}:wM K (bB K) 2:=tG Ih Ih
theorem PJ{A:Around}{k:Nat}(hr:aZ k A):A.units+(2+1)<cLine:=Nat.lt_of_le_of_lt (Nat.add_le_add_left (by decide:3<=64) _) hr.units
structure ig(K:PySem.W.Frag)(S:aA)(n:Nat)(H:Hp)(r:Addr)(ls:List Addr)(sp:Nat->Rat×Rat):Prop where
 is:H r=some (.lst (ls.map V.ref))
 len:ls.length=n
 at_:∀(t:Nat)(l:Addr),ls[t]? =some l->∃v,H l=some (.lst [v])/\bB K H v (sp t)
 ok:∀t,t<n->∃D,mY D/\jN D (sp t)/\wd S (sp t)=1/(n:Rat)
def Ci(K:PySem.W.Frag)(C Pt:Addr):Sp:=fun vs H Q _=>∃(a:Addr)(x:Nat->V)(S:aA),vs=[.ref a]/\cJ K H a [x 0,x 1,x 2]/\(∀t,t<3->bM K C H (x t) S)/\oG Pt H/\
 ∀(r:Addr)(ls:List Addr)(sp:Nat->Rat×Rat)(H':Hp),To Pt H H'->ig K S 3 H' r ls sp->Q (.ref r) H'
abbrev Xc:List Str:=["tastes","spans","trimming","small","third","second","pieces"]
theorem xW:aQ Xc ["tastes"] (aJ cO):=⟨rfl,rfl,rfl,by decide+kernel,rfl,by decide+kernel,by decide+kernel⟩
section
variable {P:Program} {w:World} {K:PySem.W.Frag} {mg:Str->Option Value} {base:Heap} {aL aR aS C Pt:Addr}
theorem Jp{f:Addr}{cdv:Value}{A:Around}{outer:List Env}{s:Shared}{H:Hp}{E:XK}:
  ∃tb,lC (cx P w K mg base Xc "deal_without_envy" cO f cdv A outer s H E) (List.drop 6 (bK cO)) tb/\∀(Q:VK)(H0 H1:Hp)(lsp tm:Addr)(S:aA)(v0 sv v1 v2 i:V)(b0 b1 b2:Rat×Rat)(D:Nat)(x0 y6:Option V),
   To Pt H0 H1->H1 lsp=some (.lst [v0])->bB K H1 v0 b0->bB K H1 v1 b1->bB K H1 v2 b2->fD K H1 tm [i,sv,.non]->mY D->(jN D b0/\wd S b0=1/3)->(jN D b1/\wd S b1=1/3)->(jN D b2/\wd S b2=1/3)->
   (∀(r:Addr)(ls:List Addr)(sp:Nat->Rat×Rat)(H':Hp),To Pt H0 H'->ig K S 3 H' r ls sp->Q (.ref r) H')->
   tb {nx:=fun _ H'=>Q .non H',rt:=Q} [x0,some (.ref lsp),some (.ref tm),some sv,some v2,some v1,y6] H1:=by
 refine⟨_,au (aN (i:=6) xW.nd rfl (Or.inl rfl) (cA (aj (cA (aj (aD aP (pv 1) ao (fun _ _=>rfl)) ak)) (aj (cA (aj (pv 5) ak)) (aj (cA (aj (pv 4) ak)) ak)))))
  (au (bU (aY vN (aD aK (pv 2) ao (fun _ _=>rfl)) kh (bx _)) bN bc)
  (aB (aW (pv 6)))),?_⟩
 intro Q H0 H1 lsp tm S v0 sv v1 v2 i b0 b1 b2 D x0 y6 to1 hsp c0 c1 c2 hTm dk s0 s1 s2 k
 refine⟨_,rfl,lsp,_,_,_,rfl,rfl,.of hsp,rfl,(by show 1<=sizeLine;decide),fun l0 hl0=>?_⟩
 have e0:=aF.upd (o:= .lst [v0]) hl0
 refine⟨_,rfl,(by show 1<=sizeLine;decide),fun l1 hl1=>?_⟩
 have e1:=aF.upd (o:= .lst [v1]) hl1
 refine⟨_,rfl,(by show 1<=sizeLine;decide),fun l2 hl2=>?_⟩
 have e2:=aF.upd (o:= .lst [v2]) hl2
 refine⟨(by show 3<=sizeLine;decide),fun lp hlp=>?_⟩
 have e3:=aF.upd (o:= .lst [.ref l0,.ref l1,.ref l2]) hlp
 have e23:=e2.trans e3
 have e13:=e1.trans e23
 have e03:=e0.trans e13
 have g0:=e13 _ _ (show(upd H1 l0 (.lst [v0])) l0=some (.lst [v0])from az)
 have g1:=e23 _ _ (show(upd (upd H1 l0 (.lst [v0])) l1 (.lst [v1])) l1=some (.lst [v1])from az)
 have g2:=e3 _ _ (show(upd (upd (upd H1 l0 (.lst [v0])) l1 (.lst [v1])) l2 (.lst [v2])) l2=some (.lst [v2])from az)
 refine⟨_,rfl,tm,_,_,_,rfl,rfl,e03.sqT hTm,rfl,rfl,_,rfl,jD rfl ⟨_,rfl,?_⟩⟩
 refine k lp [l0,l1,l2] (fun t=>match t with|0=>b0|1=>b1|_=>b2) _ (to1.to e03) ⟨az,rfl,fun t l ht=>?_,fun t ht=>?_⟩
 .match t,ht with
  |0,ht=>cases ht;exact⟨v0,g0,bB.same e03 c0⟩
  |1,ht=>cases ht;exact⟨v1,g1,bB.same e03 c1⟩
  |2,ht=>cases ht;exact⟨v2,g2,bB.same e03 c2⟩
  |n+3,ht=>cases ht
 .match t,ht with
  |0,_=>exact⟨D,dk,s0⟩
  |1,_=>exact⟨D,dk,s1⟩
  |2,_=>exact⟨D,dk,s2⟩
theorem Hs{f:Addr}{fd:FuncData}(D:bJ K mg "deal_without_envy" cO ["tastes"] f fd)(CI:Cl P w K mg base "in_thirds" 11 ["taste","span"] (yo K C))(CM:Cl P w K mg base "trimmed" 11 ["taste","spans"] (Je K C Pt))(CT:Cl P w K mg base "take_dearest" 11 ["taste","spans"] (Jd K C Pt))(mgS:mg "CAKE_SPAN"=some (.ref aS))(cS:∀H,bB K H (.ref aS) (0,1)):
  bH P w K mg base dj 13 f fd ["tastes"] (Ci K C Pt):=by
 refine D.fn.ok xW (fun vs H Q E h=>?_) (fun cdv A outer s H vs Q E hr h=>?_)
 .obtain⟨a,x,S,rfl,_⟩:=h
  rfl
 .obtain⟨a,x,S,rfl,ha,hT,rt,k⟩:=h
  have hr11:aZ 11 _:=hr.mono (by decide)
  have hu3:=PJ hr
  obtain⟨t6,h6,r6⟩:=Jp (P:=P) (w:=w) (K:=K) (mg:=mg) (base:=base) (Pt:=Pt) (f:=f) (cdv:=cdv) (A:=A) (outer:=outer) (s:=s) (H:=H) (E:=E)
  refine⟨_,au (aN (i:=1) xW.nd rfl (Or.inl rfl) (aO CI hr11 rfl (aj (aD aP (pv 0) ao (fun _ _=>rfl)) (aj (bD (v:= .ref aS) rfl mgS rfl) ak))))
   (au (aN (i:=2) xW.nd rfl (Or.inl rfl) (aO CM hr11 rfl (aj (aD aP (pv 0) ao (fun _ _=>rfl)) (aj (pv 1) ak))))
   (au (aN (i:=3) xW.nd rfl (Or.inl rfl) (aD aK (pv 2) ao (fun _ _=>rfl)))
   (au (Qy (pv 3) (Qw (pv 1) (aD aK (pv 2) ao (fun _ _=>rfl)) set_list))
   (au (aN (i:=4) xW.nd rfl (Or.inl rfl) (aO CT hr11 rfl (aj (aD aP (pv 0) ao (fun _ _=>rfl)) (aj (pv 1) ak))))
   (au (bU (aY (Qn BV hu3) (pv 3) (pv 1) rfl) (au (cz (iY PySem.F.plainAttrs_list PySem.F.slot_list_remove PySem.F.type_list_remove (Eb BV hu3) (pv 1) (aj (pv 3) ak))) (aB (aN (i:=5) xW.nd rfl (Or.inl rfl) (pv 3))))
    (aB (aN (i:=5) xW.nd rfl (Or.inl rfl) (aO CT hr11 rfl (aj (aD aP (pv 0) ao (fun _ _=>rfl)) (aj (pv 1) ak)))))) h6))))),?_⟩
  obtain⟨y0,lt0,ll0,p0,ex0,ta0,ok0⟩:=hT 0 (by decide)
  obtain⟨y1,lt1,ll1,p1,ex1,ta1,ok1⟩:=hT 1 (by decide)
  obtain⟨y2,lt2,ll2,p2,ex2,ta2,ok2⟩:=hT 2 (by decide)
  have ha':cJ K H a [.ref y0,.ref y1,.ref y2]:=by
   rw[<-ex0,<-ex1,<-ex2]
   exact ha
  have s01:jN 1 ((0:Rat),(1:Rat)):=⟨Rat.le_refl,by decide+kernel,Rat.le_refl,Gr.zero 1,Gr.one 1⟩
  obtain⟨D1,th⟩:=Rm ok0 (by decide) s01
  refine⟨_,rfl,a,_,_,_,rfl,rfl,ha',rfl,y0,lt0,ll0,.ref aS,p0,S,0,1,1,rfl,ta0,ok0,cS H,⟨Rat.le_refl,by decide+kernel,Rat.le_refl⟩,⟨by decide,by decide,Gr.zero 1,Gr.one 1⟩,fun lsp w1 w2 w3 H1 s1 hsp0 hsp c1 c2 c3=>?_⟩
  have pL:Paired (bB K H1) [w1,w2,w3] (Ac (0,1) (mw S 0 1 1 3) (mw S 0 1 2 3)):= .cons c1 (.cons c2 (.cons c3 .nil))
  have len:(Ac (0,1) (mw S 0 1 1 3) (mw S 0 1 2 3)).length=3:=rfl
  have th':OJ S 1 (0,1) (mw S 0 1 1 3) (mw S 0 1 2 3) D1:=th
  have spL:∀q∈Ac (0,1) (mw S 0 1 1 3) (mw S 0 1 2 3),jN D1 q:=th'.sp s01
  have w3L:=Js ok0 th'
  generalize mw S 0 1 1 3=t1 at pL len th' spL w3L
  generalize mw S 0 1 2 3=t2 at pL len th' spL w3L
  generalize Ac (0,1) t1 t2=L at pL len spL w3L
  obtain⟨wv,wv0,wv1,eD⟩:=th'.w
  have d10:0<D1:=by rw[eD];omega
  have d11:D1<=8000000^2:=by rw[eD];omega
  have dk:mY D1:=⟨d10,Nat.lt_of_le_of_lt d11 (by decide)⟩
  have to1:To Pt H H1:= .of rt s1
  refine⟨_,rfl,a,_,_,_,rfl,rfl,to1.sqL ha',rfl,_,rfl,y1,lt1,ll1,lsp,_,p1,D1,S,_,rfl,ta1.tb to1,ok1,.of hsp,pL,⟨d10,Nat.le_trans d11 (by decide)⟩,spL,by rw[len];decide,by rw[len];decide,to1.rdy,fun i aa m tm sv rv H2 to2 tr hTm csv hrv=>?_⟩
  have em:m=aa.2:=by
   obtain⟨b,hb,eb⟩:=tr.as
   obtain⟨kx,_,hk⟩:=kW hb
   rw[w3L b (List.mem_of_getElem? hk)]at eb
   have ea:=w3L aa (List.mem_of_getElem? tr.at_)
   have f1:wd S (aa.1,m)=F S m-F S aa.1:=rfl
   have f2:wd S aa=F S aa.2-F S aa.1:=rfl
   have le:=tr.le
   have lt:=tr.lt
   have sa:=spL aa (List.mem_of_getElem? tr.at_)
   have x0:=sa.x0
   have y1:=sa.y1
   have ab:=sa.lt
   exact qH ok0 (by grind) (by grind) (by grind) y1 (by grind)
  have erv:rv= .non:=by
   rcases hrv with⟨z,_⟩|⟨z,_⟩
   .exact z
   .rw[em]at z
    exact absurd z (by grind)
  subst erv
  subst em
  have eaa:(aa.1,aa.2)=aa:=rfl
  have csv:bB K H2 sv aa:=csv
  have to12:=to1.trans to2
  have hsp2:=to2.lst hsp
  refine⟨_,rfl,tm,_,_,_,rfl,rfl,hTm,rfl,?_⟩
  obtain⟨hi,_⟩:=List.getElem?_eq_some_iff.mp tr.at_
  have it:Du [w1,w2,w3].length (i:Int)=some i:=by
   have:[w1,w2,w3].length=3:=rfl
   unfold Du
   rw[if_pos (by omega),if_pos (by omega),Int.toNat_natCast]
  refine⟨_,rfl,_,rfl,_,rfl,tm,_,_,_,rfl,rfl,hTm,rfl,lsp,_,(i:Int),i,rfl,rfl,hsp2,it,?_⟩
  have to3:=to12.upd (o:= .lst ([w1,w2,w3].set i sv)) hsp0 ⟨_,hsp2⟩
  have k23:cC H2 (upd H2 lsp (.lst ([w1,w2,w3].set i sv))):=cC.updL hsp2
  have eset:L.set i aa=L:=by
   refine List.ext_getElem? fun j=>?_
   by_cases c:i=j
   .subst c
    rw[List.getElem?_set_self hi,tr.at_]
   .rw[List.getElem?_set_ne c]
  have pL3:Paired (bB K (upd H2 lsp (.lst ([w1,w2,w3].set i sv)))) ([w1,w2,w3].set i sv) L:=by
   have:=Paired.set' i (bB.keep k23 csv) (Paired.mapP pL fun _ _ z=>bB.keep k23 (bB.keep to2.keep z))
   rw[eset]at this
   exact this
  refine⟨_,rfl,a,_,_,_,rfl,rfl,to3.sqL ha',rfl,_,rfl,y2,lt2,ll2,lsp,_,p2,D1,S,L,rfl,ta2.tb to3,ok2,az,pL3,dk,spL,by rw[len];decide,by rw[len];decide,to3.rdy,fun kk v3 q3 H4 to4 hv3 hq3 mx3=>?_⟩
  have to34:=to3.trans to4
  have hsp4:=to4.lst (show(upd H2 lsp (.lst ([w1,w2,w3].set i sv))) lsp=some (.lst ([w1,w2,w3].set i sv))from az)
  have to5:=to34.upd (o:= .lst (([w1,w2,w3].set i sv).eraseIdx kk)) hsp0 ⟨_,hsp4⟩
  have k45:cC H4 (upd H4 lsp (.lst (([w1,w2,w3].set i sv).eraseIdx kk))):=cC.updL hsp4
  have co5:∀{u:V}{z:Rat×Rat},bB K H2 u z->bB K (upd H4 lsp (.lst (([w1,w2,w3].set i sv).eraseIdx kk))) u z:=fun c=>bB.keep k45 (bB.keep to4.keep (bB.keep k23 c))
  have cv3:=bB.keep k45 (bB.keep to4.keep (Paired.get pL3 kk v3 q3 hv3 hq3))
  have pL5:Paired (bB K (upd H4 lsp (.lst (([w1,w2,w3].set i sv).eraseIdx kk)))) (([w1,w2,w3].set i sv).eraseIdx kk) (L.eraseIdx kk):=Paired.erase' kk (Paired.mapP pL3 fun _ _ z=>bB.keep k45 (bB.keep to4.keep z))
  have perm3:=jg hq3
  have len5:(L.eraseIdx kk).length=2:=by
   have:=perm3.length_eq
   rw[List.length_cons,len]at this
   omega
  have sub5:∀q∈L.eraseIdx kk,q∈L:=fun q hq=>perm3.mem_iff.mp (List.mem_cons_of_mem _ hq)
  have hTm5:fD K (upd H4 lsp (.lst (([w1,w2,w3].set i sv).eraseIdx kk))) tm [.int i,sv,.non]:=k45.sqT (to4.keep.sqT (k23.sqT hTm))
  have good:∀q∈L,jN D1 q/\wd S q=1/3:=fun q hq=>⟨spL q hq,w3L q hq⟩
  have g3:=good q3 (List.mem_of_getElem? hq3)
  have sq5:(upd H4 lsp (.lst (([w1,w2,w3].set i sv).eraseIdx kk))) lsp=some (.lst (([w1,w2,w3].set i sv).eraseIdx kk)):=az
  refine⟨_,rfl,_,rfl,lsp,_,_,aa,rfl,.of sq5,pL5,co5 csv,_,rfl,?_⟩
  have one:∀{jj:Nat}{q:Rat×Rat}{H6:Hp},(L.eraseIdx kk)[jj]? =some q->Paired (bB K H6) ((([w1,w2,w3].set i sv).eraseIdx kk).eraseIdx jj) ((L.eraseIdx kk).eraseIdx jj)->∃v0 b0,(([w1,w2,w3].set i sv).eraseIdx kk).eraseIdx jj=[v0]/\b0∈L/\bB K H6 v0 b0:=fun{jj q H6}hj pz=>by
   have permj:=jg hj
   obtain⟨b0,eb0⟩:∃b0,(L.eraseIdx kk).eraseIdx jj=[b0]:=by
    refine List.length_eq_one_iff.mp ?_
    have:=permj.length_eq
    rw[List.length_cons,len5]at this
    omega
   rw[eb0]at pz permj
   cases pz':(([w1,w2,w3].set i sv).eraseIdx kk).eraseIdx jj with
   |nil=>rw[pz']at pz;cases pz
   |cons u us=>
    rw[pz']at pz
    cases pz with
    |cons r t=>
     cases t
     exact⟨u,b0,rfl,sub5 b0 (permj.mem_iff.mp (by simp)),r⟩
  refine fH (fun d=>?_) (fun d=>?_)
  .have d':aa∈L.eraseIdx kk:=by
    have d2:=d
    simp only[decide_eq_true_eq]at d2
    exact d2
   refine⟨_,rfl,.inl ⟨rfl,_,.of sq5⟩,_,rfl,lsp,_,sv,_,aa,rfl,rfl,sq5,pL5,co5 csv,d',?_⟩
   have hj:(L.eraseIdx kk)[@List.idxOf _ instBEqOfDecidableEq aa (L.eraseIdx kk)]? =some aa:=PK d'
   generalize @List.idxOf _ instBEqOfDecidableEq aa (L.eraseIdx kk)=jj at hj ⊢
   obtain⟨v0,b0,ez,mb,cv0'⟩:=one hj (Paired.erase' jj pL5)
   rw[ez]
   have k56:cC (upd H4 lsp (.lst (([w1,w2,w3].set i sv).eraseIdx kk))) (upd (upd H4 lsp (.lst (([w1,w2,w3].set i sv).eraseIdx kk))) lsp (.lst [v0])):=cC.updL sq5
   have to6:=to5.upd (o:= .lst [v0]) hsp0 ⟨_,sq5⟩
   refine⟨_,rfl,?_⟩
   exact r6 Q H _ lsp tm S v0 sv sv v3 (.int i) b0 aa q3 D1 _ _ to6 az (bB.keep k56 cv0') (bB.keep k56 (co5 csv)) (bB.keep k56 cv3) (k56.sqT hTm5) dk (good b0 mb) (good aa (List.mem_of_getElem? tr.at_)) g3 k
  .refine⟨_,rfl,a,_,_,_,rfl,rfl,to5.sqL ha',rfl,_,rfl,y1,lt1,ll1,lsp,_,p1,D1,S,_,rfl,ta1.tb to5,ok1,sq5,pL5,dk,(fun q hq=>spL q (sub5 q hq)),by rw[len5];decide,by rw[len5];decide,to5.rdy,fun jj v1 q1 H6 to6 hv1 hq1 mx1=>?_⟩
   have hsp6:=to6.lst sq5
   obtain⟨v0,b0,ez,mb,cv0'⟩:=one hq1 (Paired.erase' jj (Paired.mapP pL5 fun _ _ z=>bB.keep to6.keep z))
   have cv1':=bB.keep to6.keep (Paired.get pL5 jj v1 q1 hv1 hq1)
   rw[ez]
   have k67:cC H6 (upd H6 lsp (.lst [v0])):=cC.updL hsp6
   have to7:=(to5.trans to6).upd (o:= .lst [v0]) hsp0 ⟨_,hsp6⟩
   exact r6 Q H _ lsp tm S v0 sv v1 v3 (.int i) b0 q1 q3 D1 _ _ to7 az (bB.keep k67 cv0') (bB.keep k67 cv1') (bB.keep k67 (bB.keep to6.keep cv3)) (k67.sqT (to6.keep.sqT hTm5)) dk (good b0 mb) (good q1 (sub5 q1 (List.mem_of_getElem? hq1))) g3 k
def yp(K:PySem.W.Frag)(C Pt:Addr):Sp:=fun vs H Q _=>∃(se a:Addr)(x:Nat->V)(S:aA),vs=[.ref se,.ref a]/\cJ K H a [x 0,x 1,x 2]/\(∀t,t<3->bM K C H (x t) S)/\oG Pt H/\
 ∀(r:Addr)(ls:List Addr)(sp:Nat->Rat×Rat)(H':Hp),To Pt H H'->ig K S 3 H' r ls sp->Q (.ref r) H'
theorem Mm:aQ ["self","tastes"] ["self","tastes"] (aJ jW):=⟨rfl,rfl,rfl,by decide+kernel,rfl,by decide+kernel,by decide+kernel⟩
theorem Eo{f:Addr}{fd:FuncData}(D:tZ K "deal" "Three.deal" jW f fd)(CT:Cl P w K mg base "check_takers" 2 ["tastes","fewest","most"] (iR K C))(CE:Cl P w K mg base "deal_without_envy" 13 ["tastes"] (Ci K C Pt)):bH P w K mg base dj 14 f fd ["self","tastes"] (yp K C Pt):=by
 refine D.ok Mm (fun vs H Q E h=>?_) (fun cdv A0 outer s H vs Q E hr h=>?_)
 .obtain⟨se,a,x,S,rfl,_⟩:=h
  rfl
 .obtain⟨se,a,x,S,rfl,ha,hT,rt,k⟩:=h
  have hr2:aZ 2 _:=hr.mono (by decide)
  refine⟨_,au (cz (aO CT hr2 rfl (aj (pv 1) (aj ao (aj ao ak))))) (aB (aW (aO CE hr rfl (aj (pv 1) ak)))),?_⟩
  refine⟨_,rfl,a,[x 0,x 1,x 2],[S,S,S],3,3,rfl,ha,.cons (hT 0 (by decide)) (.cons (hT 1 (by decide)) (.cons (hT 2 (by decide)) .nil)),(by show(3:Int)<=3;decide),(by show(3:Int)<=3;decide),?_⟩
  exact⟨_,rfl,a,x,S,rfl,ha,hT,rt,k⟩
end
end FQ
namespace FQ
open PySem L2 FK
def oE(g:Bool->Bool->Bool):Sp:=fun vs H Q _=>∃a b:Bool,vs=[.bl a,.bl b]/\Q (.bl (g a b)) H
def oU(st:Stmt):Pos:=match bK st with
 |[.Return (some (.Call _ [_,_,.Lambda _ _ _ p] _ _)) _]=>p
 |_=>⟨0,0,0,0⟩
def gY(st:Stmt):Scope:=match bK st with
 |[.Return (some (.Call _ [_,_,.Lambda _ _ sc _] _ _)) _]=>sc
 |_=>{kind:= .function,names:=[],isGenerator:=false,isCoroutine:=false}
def lJ(st:Stmt):Arguments:=match bK st with
 |[.Return (some (.Call _ [_,_,.Lambda as _ _ _] _ _)) _]=>as
 |_=>du (.Pass ⟨0,0,0,0⟩)
def lK(st:Stmt):Expr:=match bK st with
 |[.Return (some (.Call _ [_,_,.Lambda _ b _ _] _ _)) _]=>b
 |_=> .Constant .none 0 ⟨0,0,0,0⟩
theorem Ko{H:Hp}{P c f:Addr}{ps ps':Array Value}{o1 o2:HO}(hP:H P=some (.tbl ps))(hc:H c=none)(hf:H f=none):Ou P H (upd (upd (upd H P (.tbl ps')) c o1) f o2):=fun b o e n=>by
 rw[aG (aM e hf),aG (aM e hc),aG n]
 exact e
def Uu:Stmt->List Stmt
 | .While _ b _ _=>b
 |_=>[]
abbrev Nt:List Stmt:=Uu ((bK dJ).getD 8 (.Pass ⟨0,0,0,0⟩))
abbrev RP:List Str:=["one","other","keeps","ones","others","i","j","start","spans","point","kept"]
theorem fW:aQ RP ["one","other","keeps"] (aJ dJ):=⟨rfl,rfl,rfl,by decide+kernel,rfl,by decide+kernel,by decide+kernel⟩
abbrev Ai(P:Addr)(H:Hp):Prop:=Ready P (oU bA) (lq "without") H
theorem uM{P P':Addr}{H H':Hp}{ps:Array Value}{pos:Pos}{qual:Str}(h:Ou P H H')(hP:H P=some (.tbl ps))(hne:P'≠P)(r:Ready P' pos qual H):Ready P' pos qual H':=by
 obtain⟨qs,h1,h2,h3⟩:=r
 refine⟨qs,h _ _ h1 hne,h2,?_⟩
 rcases h3 with h3|⟨c,e1,e2⟩
 .exact .inl h3
 .exact .inr ⟨c,e1,h _ _ e2 (bW e2 hP fun z=>nomatch z)⟩
structure TT(Pt Pw:Addr)(H H':Hp):Prop where
 but:∀b o,H b=some o->b≠Pt->b≠Pw->H' b=some o
 old:oG Pt H
 oldw:Ai Pw H
 rdy:oG Pt H'
 rdyw:Ai Pw H'
section
variable {K:PySem.W.Frag} {C Pt Pw:Addr} {H H' H2:Hp}
theorem TT.trans(h:TT Pt Pw H H')(g:TT Pt Pw H' H2):TT Pt Pw H H2:=⟨fun b o e n m=>g.but b o (h.but b o e n m) n m,h.old,h.oldw,g.rdy,g.rdyw⟩
theorem TT.of(a:oG Pt H)(b:Ai Pw H)(s:aF H H'):TT Pt Pw H H':=⟨fun _ _ e _ _=>s _ _ e,a,b,dI a s,dI b s⟩
theorem TT.to(h:TT Pt Pw H H')(s:aF H' H2):TT Pt Pw H H2:=h.trans (.of h.rdy h.rdyw s)
theorem TT.tb(b:Ai Pw H)(ne:Pw≠Pt)(s:To Pt H H'):TT Pt Pw H H':=by
 obtain⟨ps,hP,_⟩:=id s.old
 exact⟨fun c o e n _=>s.but c o e n,s.old,b,s.rdy,uM s.but hP ne b⟩
theorem TT.tw(a:oG Pt H)(b:Ai Pw H)(ne:Pw≠Pt)(s:Ou Pw H H')(c:Ai Pw H'):TT Pt Pw H H':=by
 obtain⟨ps,hP,_⟩:=id b
 exact⟨fun c o e _ n=>s c o e n,a,b,uM s hP ne.symm a,c⟩
theorem TT.get(h:TT Pt Pw H H'){b:Addr}{o:HO}(e:H b=some o)(n:∀ps,o≠ .tbl ps):H' b=some o:=by
 obtain⟨ps,hP,_⟩:=h.old
 obtain⟨qs,hQ,_⟩:=h.oldw
 exact h.but b o e (bW e hP (n ps)) (bW e hQ (n qs))
theorem TT.keep(h:TT Pt Pw H H'):cC H H':=fun _ _ e _ n=>h.get e n
theorem TT.lst(h:TT Pt Pw H H'){b:Addr}{xs:List V}(e:H b=some (.lst xs)):H' b=some (.lst xs):=h.get e fun _ z=>nomatch z
theorem TT.sqL(h:TT Pt Pw H H'){b:Addr}{xs:List V}(hx:cJ K H b xs):cJ K H' b xs:=by
 rcases hx with(z|⟨o,z⟩)|z
 .exact .inl (.inl (h.lst z))
 .exact .inl (.inr ⟨o,h.get z fun _ z=>nomatch z⟩)
 .exact .inr z
end
structure Vj(K:PySem.W.Frag)(H:Hp)(m:Rat)(v0 v1 w0 w1:V):Prop where
 a:bI K H v0 0
 b:bI K H v1 1
 c:bI K H w0 0
 d:bI K H w1 m
 m0:0<m
 m1:m<1
 fit:eQ m
theorem bI.nn{K:PySem.W.Frag}{H:Hp}{x:V}{q:Rat}(h:bI K H x q):x≠ .non:=by
 obtain⟨p,rfl,_⟩:=h.sq
 exact fun z=>nomatch z
def Cp(K:PySem.W.Frag):Sp:=fun vs H Q _=>∃(p t:Addr)(x y:V),vs=[.ref p]/\cJ K H p [.ref t]/\fD K H t [x,y]/\∀(r:Addr)H',aF H H'->H' r=some (.lst [x,y])->Q (.ref r) H'
def wD(K:PySem.W.Frag):Sp:=fun vs H Q _=>∃(a b:Addr)(i j:Nat)(m:Rat)(v0 v1 w0 w1:V),vs=[.ref a,.int i,.ref b,.int j]/\cJ K H a [v0,v1]/\cJ K H b [w0,w1]/\Vj K H m v0 v1 w0 w1/\((i=0/\j=0/\Q w0 H)\/(i=1/\j=1/\Q w1 H)\/(i=1/\j=2/\Q v1 H))
section
variable {P:Program} {w:World} {K:PySem.W.Frag} {mg:Str->Option Value} {base:Heap} {aL aR:Addr}
theorem wz:aQ ["piece","points","span"] ["piece"] (aJ ww):=⟨rfl,rfl,rfl,by decide+kernel,rfl,by decide+kernel,by decide+kernel⟩
theorem HD{f:Addr}{fd:FuncData}(D:bJ K mg "turns" ww ["piece"] f fd):bH P w K mg base dj 1 f fd ["piece"] (Cp K):=by
 refine D.fn.ok wz (fun vs H Q E h=>?_) (fun cdv A outer s H vs Q E hr h=>?_)
 .obtain⟨p,t,x,y,rfl,_⟩:=h
  rfl
 .obtain⟨p,t,x,y,rfl,hp,ht,k⟩:=h
  refine⟨_,au (aN (i:=1) wz.nd rfl (Or.inl rfl) (cA ak))
   (au (dB PassesOwn.never rfl (cu (pv 0)) (bz (i:=2) wz.nd rfl (Or.inl rfl))
    (aB (cz (iY PySem.F.plainAttrs_list PySem.F.slot_list_extend PySem.F.type_list_extend yX (pv 1) (aj (pv 2) ak)))))
   (aB (aW (pv 1)))),?_⟩
  refine⟨Nat.zero_le _,fun r hr=>?_⟩
  have s0:aF H (upd H r (.lst [])):=aF.upd hr
  refine⟨_,rfl,p,rfl,⟨_,s0.seq hp⟩,?_⟩
  refine dh (K:=K) (a:=p) (xs:=[.ref t]) (fun i σ H'=>aF H H'/\∃(x2:Option V),σ=[some (.ref p),some (.ref r),x2]/\H' r=some (.lst (if i=0 then[]else[x,y])))
   ⟨s0,_,rfl,az⟩ (fun i σ H' _ h=>h.1.seq hp) ?_ ?_
  .rintro i u σ H' hx ⟨s1,x2,rfl,hz⟩
   match i,hx with
   |0,hx=>
    cases hx
    refine⟨_,rfl,.inl ⟨rfl,_,.of hz⟩,_,rfl,r,t,_,_,rfl,rfl,hz,s1.sqT ht,(by show 0+2<=sizeLine;decide),?_⟩
    exact⟨s1.updN hr,_,rfl,az⟩
   |n+1,hx=>cases hx
  .rintro σ H' ⟨s1,x2,rfl,hz⟩
   exact⟨_,rfl,k r H' s1 hz⟩
theorem QQ:aQ ["ahead","passed","other_ahead","other_passed"] ["ahead","passed","other_ahead","other_passed"] (aJ qy):=⟨rfl,rfl,rfl,by decide+kernel,rfl,by decide+kernel,by decide+kernel⟩
theorem Hx{f:Addr}{fd:FuncData}(D:bJ K mg "nearest" qy ["ahead","passed","other_ahead","other_passed"] f fd)(CB:Cl P w K mg base "below" 1 ["one","other"] (dD K))(T:Txt K mg aL aR):bH P w K mg base dj 2 f fd ["ahead","passed","other_ahead","other_passed"] (wD K):=by
 refine D.fn.ok QQ (fun vs H Q E h=>?_) (fun cdv A outer s H vs Q E hr h=>?_)
 .obtain⟨a,b,i,j,m,v0,v1,w0,w1,rfl,_⟩:=h
  rfl
 .obtain⟨a,b,i,j,m,v0,v1,w0,w1,rfl,ha,hb,hl,k⟩:=h
  refine⟨_,au (bU (aY iW (pv 3) (aV aU (by rfl) T.len PySem.boot_len (aj (pv 2) ak)) (bx _)) (aB (aW (aD aP (pv 0) (pv 1) (fun _ _=>rfl)))) bc)
   (au (bU (PW.pt (jr (aY gQ (pv 1) (aV aU (by rfl) T.len PySem.boot_len (aj (pv 0) ak)) (bx _)) (fX (bV (aO CB hr rfl (aj (aD aP (pv 0) (pv 1) (fun _ _=>rfl)) (aj (aD aP (pv 2) (pv 3) (fun _ _=>rfl)) ak))))))) (aB (aW (aD aP (pv 0) (pv 1) (fun _ _=>rfl)))) bc)
   (aB (aW (aD aP (pv 2) (pv 3) (fun _ _=>rfl))))),?_⟩
  have f1:eQ (1:Rat):=⟨by decide,⟨by decide,by decide⟩⟩
  have ix0:∀(x y:V),qT [x,y] ((0:Nat):Int)=some x:=fun x y=>bZ rfl
  have ix1:∀(x y:V),qT [x,y] ((1:Nat):Int)=some y:=fun x y=>bZ rfl
  rcases k with⟨rfl,rfl,k⟩|⟨rfl,rfl,k⟩|⟨rfl,rfl,k⟩
  .refine⟨_,rfl,_,rfl,b,_,rfl,.inl hb,rfl,_,rfl,nj (fun z=>by cases z) ?_⟩
   refine⟨_,rfl,_,rfl,a,_,rfl,.inl ha,_,_,rfl,rfl,_,rfl,jk ?_⟩
   refine⟨_,rfl,_,rfl,a,_,_,_,rfl,rfl,ha,ix0 v0 v1,_,rfl,_,rfl,b,_,_,_,rfl,rfl,hb,ix0 w0 w1,v0,w0,0,0,rfl,hl.a,hl.c,eQ.zero,eQ.zero,_,rfl,?_⟩
   rw[decide_eq_false (by grind)]
   exact dY ⟨_,rfl,_,rfl,b,_,_,_,rfl,rfl,hb,ix0 w0 w1,k⟩
  .refine⟨_,rfl,_,rfl,b,_,rfl,.inl hb,rfl,_,rfl,nj (fun z=>by cases z) ?_⟩
   refine⟨_,rfl,_,rfl,a,_,rfl,.inl ha,_,_,rfl,rfl,_,rfl,jk ?_⟩
   refine⟨_,rfl,_,rfl,a,_,_,_,rfl,rfl,ha,ix1 v0 v1,_,rfl,_,rfl,b,_,_,_,rfl,rfl,hb,ix1 w0 w1,v1,w1,1,m,rfl,hl.b,hl.d,f1,hl.fit,_,rfl,?_⟩
   rw[decide_eq_false (by have:=hl.m1;grind)]
   exact dY ⟨_,rfl,_,rfl,b,_,_,_,rfl,rfl,hb,ix1 w0 w1,k⟩
  .refine⟨_,rfl,_,rfl,b,_,rfl,.inl hb,rfl,_,rfl,xx rfl ?_⟩
   exact⟨_,rfl,_,rfl,a,_,_,_,rfl,rfl,ha,ix1 v0 v1,k⟩
end
end FQ
namespace FQ
open PySem L2 FK
abbrev gW:Bool->Bool->Bool:=fun a b=>a&& !b
section
variable {P:Program} {w:World} {K:PySem.W.Frag} {mg:Str->Option Value} {base:Heap} {aL aR:Addr}
theorem Ut{f:Addr}{cdv:Value}{A:Around}{outer:List Env}{s:Shared}{H:Hp}{E:XK}(hr:aZ 4 (cx P w K mg base RP "combined" dJ f cdv A outer s H E).A):
  ∃t,lC (cx P w K mg base RP "combined" dJ f cdv A outer s H E) (List.drop 3 Nt) t/\∀(D:Ends)(l:Nj)(H':Hp)(x0 x1 x3 x4 x10:Option V)(sp:Addr)(pv stv:V),l.At H'->Ru P w K mg base 1 l 2 (oE gW)->
   (D.nx [x0,x1,some (.ref l.f),x3,x4,some (.int 1),some (.int 1),some .non,some (.ref sp),some pv,some (.bl false)] H'->t D [x0,x1,some (.ref l.f),x3,x4,some (.int 1),some (.int 1),some .non,some (.ref sp),some pv,x10] H')/\
   (D.nx [x0,x1,some (.ref l.f),x3,x4,some (.int 1),some (.int 2),some pv,some (.ref sp),some pv,some (.bl true)] H'->t D [x0,x1,some (.ref l.f),x3,x4,some (.int 1),some (.int 2),some .non,some (.ref sp),some pv,x10] H')/\
   (stv≠ .non->H' sp=some (.lst [])->(∀tp,H' tp=none->D.nx [x0,x1,some (.ref l.f),x3,x4,some (.int 2),some (.int 2),some .non,some (.ref sp),some pv,some (.bl false)] (upd (upd H' tp (.tup [stv,pv])) sp (.lst [.ref tp])))->t D [x0,x1,some (.ref l.f),x3,x4,some (.int 2),some (.int 2),some stv,some (.ref sp),some pv,x10] H'):=by
 have hr1:aZ 1 _:=hr.mono (by decide)
 refine⟨_,au (aN (i:=10) fW.nd rfl (Or.inl rfl) (HR hr1 (pv 2) (aj (jZ iW (bj dH (pv 5) ao) ao (bx _)) (aj (jZ iW (bj dH (pv 6) ao) ao (bx _)) ak))))
  (aB (bU (PW.pt (jr (bV (pv 10)) (fX (aY Qo (pv 7) kh (bx _))))) (aB (aN (i:=7) fW.nd rfl (Or.inl rfl) (pv 9)))
   (aB (bU (PW.pt (jr (cY (bV (pv 10))) (fX (aY vN (pv 7) kh (bx _)))))
    (au (cz (iY PySem.F.plainAttrs_list PySem.F.slot_list_append PySem.F.type_list_append di (pv 8) (aj (bC (aj (pv 7) (aj (pv 9) ak))) ak)))
    (aB (aN (i:=7) fW.nd rfl (Or.inl rfl) kh))) bc)))),?_⟩
 intro D l H' x0 x1 x3 x4 x10 sp pv stv hAt hF
 have two:(0:Int)<2:=by decide
 refine⟨fun k=>?_,fun k=>?_,fun ne hsp k=>?_⟩
 .refine⟨_,rfl,l,2,oE gW,rfl,hF,_,rfl,_,_,rfl,rfl,two,rfl,_,rfl,_,_,rfl,rfl,two,rfl,hAt,rfl,true,true,rfl,?_⟩
  refine⟨_,rfl,_,rfl,dY ⟨_,rfl,_,rfl,jk ⟨_,rfl,rfl,_,rfl,jD rfl k⟩⟩⟩
 .refine⟨_,rfl,l,2,oE gW,rfl,hF,_,rfl,_,_,rfl,rfl,two,rfl,_,rfl,_,_,rfl,rfl,two,rfl,hAt,rfl,true,false,rfl,?_⟩
  refine⟨_,rfl,_,rfl,jk ⟨_,rfl,rfl,_,rfl,xx rfl ⟨_,rfl,k⟩⟩⟩
 .refine⟨_,rfl,l,2,oE gW,rfl,hF,_,rfl,_,_,rfl,rfl,two,rfl,_,rfl,_,_,rfl,rfl,two,rfl,hAt,rfl,false,false,rfl,?_⟩
  refine⟨_,rfl,_,rfl,dY ⟨_,rfl,_,rfl,jk ⟨_,rfl,rfl,_,rfl,NK ne ?_⟩⟩⟩
  refine⟨_,rfl,.inl ⟨rfl,_,.of hsp⟩,_,rfl,_,rfl,(by show 2<=sizeLine;decide),fun tp htp=>?_⟩
  exact⟨sp,[],_,rfl,rfl,(aF.upd htp) _ _ hsp,(by show 0<sizeLine;decide),k tp htp⟩
theorem Xg(x y:V):qT [x,y] 0=some x:=bZ (j:=0) rfl
theorem VM(x y:V):qT [x,y] 1=some y:=bZ (j:=1) rfl
theorem RX(CN:Cl P w K mg base "nearest" 2 ["ahead","passed","other_ahead","other_passed"] (wD K))(T:Txt K mg aL aR){f:Addr}{cdv:Value}{A:Around}{outer:List Env}{s:Shared}{H:Hp}{E:XK}(hr:aZ 4 (cx P w K mg base RP "combined" dJ f cdv A outer s H E).A):
  ∃t,lC (cx P w K mg base RP "combined" dJ f cdv A outer s H E) Nt t/\∀(D:Ends)(l:Nj)(H':Hp)(x0 x1 x9 x10:Option V)(o1 o2 sp:Addr)(m:Rat)(v0 v1 w0 w1:V),l.At H'->Ru P w K mg base 1 l 2 (oE gW)->cJ K H' o1 [v0,v1]->cJ K H' o2 [w0,w1]->Vj K H' m v0 v1 w0 w1->
   (D.nx [x0,x1,some (.ref l.f),some (.ref o1),some (.ref o2),some (.int 1),some (.int 1),some .non,some (.ref sp),some w0,some (.bl false)] H'->t D [x0,x1,some (.ref l.f),some (.ref o1),some (.ref o2),some (.int 0),some (.int 0),some .non,some (.ref sp),x9,x10] H')/\
   (D.nx [x0,x1,some (.ref l.f),some (.ref o1),some (.ref o2),some (.int 1),some (.int 2),some w1,some (.ref sp),some w1,some (.bl true)] H'->t D [x0,x1,some (.ref l.f),some (.ref o1),some (.ref o2),some (.int 1),some (.int 1),some .non,some (.ref sp),x9,x10] H')/\
   (H' sp=some (.lst [])->(∀tp,H' tp=none->D.nx [x0,x1,some (.ref l.f),some (.ref o1),some (.ref o2),some (.int 2),some (.int 2),some .non,some (.ref sp),some v1,some (.bl false)] (upd (upd H' tp (.tup [w1,v1])) sp (.lst [.ref tp])))->t D [x0,x1,some (.ref l.f),some (.ref o1),some (.ref o2),some (.int 1),some (.int 2),some w1,some (.ref sp),x9,x10] H'):=by
 have hu:=iU hr
 have hr2:aZ 2 _:=hr.mono (by decide)
 obtain⟨t3,h3,r3⟩:=Ut (P:=P) (w:=w) (K:=K) (mg:=mg) (base:=base) (f:=f) (cdv:=cdv) (A:=A) (outer:=outer) (s:=s) (H:=H) (E:=E) hr
 refine⟨_,au (aN (i:=9) fW.nd rfl (Or.inl rfl) (aO CN hr2 rfl (aj (pv 3) (aj (pv 5) (aj (pv 4) (aj (pv 6) ak))))))
  (au (bU (PW.pt (jr (aY gQ (pv 5) (aV aU (by rfl) T.len PySem.boot_len (aj (pv 3) ak)) (bx _)) (fX (aY (vK cM cM hu) (aD aP (pv 3) (pv 5) (fun _ _=>rfl)) (pv 9) (bx _))))) (aB (HW (i:=5) fW.nd rfl (Or.inl rfl) ao GF)) bc)
  (au (bU (PW.pt (jr (aY gQ (pv 6) (aV aU (by rfl) T.len PySem.boot_len (aj (pv 4) ak)) (bx _)) (fX (aY (vK cM cM hu) (aD aP (pv 4) (pv 6) (fun _ _=>rfl)) (pv 9) (bx _))))) (aB (HW (i:=6) fW.nd rfl (Or.inl rfl) ao GF)) bc) h3)),?_⟩
 intro D l H' x0 x1 x9 x10 o1 o2 sp m v0 v1 w0 w1 hAt hF h1 h2 hl
 have ne:∀{p q:Rat},p≠q->¬fr p=fr q:=fun n z=>n (vA z)
 refine⟨fun k=>?_,fun k=>?_,fun hsp k=>?_⟩
 .refine⟨_,rfl,_,rfl,_,rfl,_,rfl,o1,o2,0,0,m,v0,v1,w0,w1,rfl,h1,h2,hl,.inl ⟨rfl,rfl,?_⟩⟩
  refine⟨_,rfl,_,rfl,o1,_,rfl,.inl h1,_,_,rfl,rfl,_,rfl,jk ?_⟩
  refine⟨_,rfl,_,rfl,o1,_,_,_,rfl,rfl,h1,Xg v0 v1,_,rfl,_,_,hl.a,hl.c,_,rfl,xx rfl ?_⟩
  refine⟨_,rfl,_,_,rfl,rfl,?_⟩
  refine⟨_,rfl,_,rfl,o2,_,rfl,.inl h2,_,_,rfl,rfl,_,rfl,jk ?_⟩
  refine⟨_,rfl,_,rfl,o2,_,_,_,rfl,rfl,h2,Xg w0 w1,_,rfl,_,_,hl.c,hl.c,_,rfl,xx rfl ?_⟩
  refine⟨_,rfl,_,_,rfl,rfl,?_⟩
  exact(r3 D l H' x0 x1 _ _ _ sp w0 .non hAt hF).1 k
 .refine⟨_,rfl,_,rfl,_,rfl,_,rfl,o1,o2,1,1,m,v0,v1,w0,w1,rfl,h1,h2,hl,.inr (.inl ⟨rfl,rfl,?_⟩)⟩
  refine⟨_,rfl,_,rfl,o1,_,rfl,.inl h1,_,_,rfl,rfl,_,rfl,jk ?_⟩
  refine⟨_,rfl,_,rfl,o1,_,_,_,rfl,rfl,h1,VM v0 v1,_,rfl,_,_,hl.b,hl.d,_,rfl,nj (ne (by have:=hl.m1;grind)) ?_⟩
  refine⟨_,rfl,_,rfl,o2,_,rfl,.inl h2,_,_,rfl,rfl,_,rfl,jk ?_⟩
  refine⟨_,rfl,_,rfl,o2,_,_,_,rfl,rfl,h2,VM w0 w1,_,rfl,_,_,hl.d,hl.d,_,rfl,xx rfl ?_⟩
  refine⟨_,rfl,_,_,rfl,rfl,?_⟩
  exact(r3 D l H' x0 x1 _ _ _ sp w1 .non hAt hF).2.1 k
 .refine⟨_,rfl,_,rfl,_,rfl,_,rfl,o1,o2,1,2,m,v0,v1,w0,w1,rfl,h1,h2,hl,.inr (.inr ⟨rfl,rfl,?_⟩)⟩
  refine⟨_,rfl,_,rfl,o1,_,rfl,.inl h1,_,_,rfl,rfl,_,rfl,jk ?_⟩
  refine⟨_,rfl,_,rfl,o1,_,_,_,rfl,rfl,h1,VM v0 v1,_,rfl,_,_,hl.b,hl.b,_,rfl,xx rfl ?_⟩
  refine⟨_,rfl,_,_,rfl,rfl,?_⟩
  refine⟨_,rfl,_,rfl,o2,_,rfl,.inl h2,_,_,rfl,rfl,_,rfl,dY (dY ?_)⟩
  exact(r3 D l H' x0 x1 _ _ _ sp v1 w1 hAt hF).2.2 hl.d.nn hsp k
def Cg(P:Program)(w:World)(K:PySem.W.Frag)(mg:Str->Option Value)(base:Heap):Sp:=fun vs H Q _=>∃(p q:Addr)(l:Nj)(a b:V)(m:Rat)(D:Nat),vs=[.ref p,.ref q,.ref l.f]/\cJ K H p [a]/\cJ K H q [b]/\bB K H a (0,1)/\bB K H b (0,m)/\0<m/\m<1/\mY D/\Gr D m/\l.At H/\Ru P w K mg base 1 l 2 (oE gW)/\
 ∀(r:Addr)(v:V)(H':Hp),aF H H'->H r=none->H' r=some (.lst [v])->bB K H' v (m,1)->Q (.ref r) H'
def Yc(σ:St):Nat:=match σ with
 |[_,_,_,_,_,some (.int i),some (.int j),_,_,_,_]=>(4-i-j).toNat
 |_=>0
theorem Hr{f:Addr}{fd:FuncData}(D:bJ K mg "combined" dJ ["one","other","keeps"] f fd)(CC:Cl P w K mg base "check_piece" 4 ["piece"] (wC K))(CT:Cl P w K mg base "turns" 1 ["piece"] (Cp K))(CN:Cl P w K mg base "nearest" 2 ["ahead","passed","other_ahead","other_passed"] (wD K))(T:Txt K mg aL aR):bH P w K mg base dj 5 f fd ["one","other","keeps"] (Cg P w K mg base):=by
 refine D.fn.ok fW (fun vs H Q E h=>?_) (fun cdv A outer s H vs Q E hr h=>?_)
 .obtain⟨p,q,l,a,b,m,D,rfl,_⟩:=h
  rfl
 .obtain⟨p,q,l,a,b,m,Dg,rfl,hp,hq,ca,cb,m0,m1,dk,gm,hAt,hF,k⟩:=h
  have hr1:aZ 1 _:=hr.mono (by decide)
  obtain⟨t1,h1,r1⟩:=RX (P:=P) (w:=w) (K:=K) (mg:=mg) (base:=base) (f:=f) (cdv:=cdv) (A:=A) (outer:=outer) (s:=s) (H:=H) (E:=E) CN T hr
  refine⟨_,au (cz (aO CC hr rfl (aj (pv 0) ak)))
   (au (cz (aO CC hr rfl (aj (pv 1) ak)))
   (au (aN (i:=3) fW.nd rfl (Or.inl rfl) (aO CT hr1 rfl (aj (pv 0) ak)))
   (au (aN (i:=4) fW.nd rfl (Or.inl rfl) (aO CT hr1 rfl (aj (pv 1) ak)))
   (au (aN (i:=5) fW.nd rfl (Or.inl rfl) ao)
   (au (aN (i:=6) fW.nd rfl (Or.inl rfl) ao)
   (au (aN (i:=7) fW.nd rfl (Or.inl rfl) kh)
   (au (aN (i:=8) fW.nd rfl (Or.inl rfl) (cA ak))
   (au (pC PassesOwn.never (PW.pt (gB (aY gQ (pv 5) (aV aU (by rfl) T.len PySem.boot_len (aj (pv 3) ak)) (bx _)) (fJ (aY gQ (pv 6) (aV aU (by rfl) T.len PySem.boot_len (aj (pv 4) ak)) (bx _))))) h1)
   (aB (aW (pv 8))))))))))),?_⟩
  have pa:=vQ dk Rat.le_refl (show(0:Rat)<1 by decide+kernel) Rat.le_refl (Gr.zero Dg) (Gr.one Dg)
  have pb:=vQ dk Rat.le_refl m0 (Rat.le_of_lt m1) (Gr.zero Dg) gm
  refine⟨_,rfl,p,_,Dg,[(0,1)],rfl,hp,.cons ca .nil,pa,?_⟩
  refine⟨_,rfl,q,_,Dg,[(0,m)],rfl,hq,.cons cb .nil,pb,?_⟩
  obtain⟨ta,v0,v1,rfl,hta,fa0,fa1⟩:=ca
  obtain⟨tb,w0,w1,rfl,htb,fb0,fb1⟩:=cb
  refine⟨_,rfl,p,ta,v0,v1,rfl,hp,hta,fun o1 Ha sa ho1=>?_⟩
  refine⟨_,rfl,q,tb,w0,w1,rfl,sa.seq hq,sa.sqT htb,fun o2 Hb sb ho2=>?_⟩
  have sab:=sa.trans sb
  refine⟨Nat.zero_le _,fun sp hsp=>?_⟩
  have sc:=aF.upd (o:= .lst []) hsp
  have sac:=sab.trans sc
  have hsp0:(upd Hb sp (.lst [])) sp=some (.lst []):=az
  have hA:l.At (upd Hb sp (.lst [])):=⟨sac _ _ hAt.1,sac _ _ hAt.2⟩
  have hO1:cJ K (upd Hb sp (.lst [])) o1 [v0,v1]:= .of (sc _ _ (sb _ _ ho1))
  have hO2:cJ K (upd Hb sp (.lst [])) o2 [w0,w1]:= .of (sc _ _ ho2)
  have fitm:eQ m:=Bd.fit (dk.bd gm (Rat.le_of_lt m0) (Rat.le_of_lt m1)) (Rat.le_of_lt m0) (by decide)
  have hl:Vj K (upd Hb sp (.lst [])) m v0 v1 w0 w1:=⟨fa0.same sac,fa1.same sac,fb0.same sac,fb1.same sac,m0,m1,fitm⟩
  have spn:H sp=none:=sab.free hsp
  generalize (upd Hb sp (.lst []))=Hc at sc sac hsp0 hA hO1 hO2 hl
  refine pI (fun σ H'=>∃x9 x10:Option V,(H'=Hc/\(σ=[some (.ref p),some (.ref q),some (.ref l.f),some (.ref o1),some (.ref o2),some (.int 0),some (.int 0),some .non,some (.ref sp),x9,x10]\/σ=[some (.ref p),some (.ref q),some (.ref l.f),some (.ref o1),some (.ref o2),some (.int 1),some (.int 1),some .non,some (.ref sp),x9,x10]\/σ=[some (.ref p),some (.ref q),some (.ref l.f),some (.ref o1),some (.ref o2),some (.int 1),some (.int 2),some w1,some (.ref sp),x9,x10]))
    \/∃tp,Hc tp=none/\H'=upd (upd Hc tp (.tup [w1,v1])) sp (.lst [.ref tp])/\σ=[some (.ref p),some (.ref q),some (.ref l.f),some (.ref o1),some (.ref o2),some (.int 2),some (.int 2),some .non,some (.ref sp),x9,x10])
   (fun σ _=>Yc σ) ⟨_,_,.inl ⟨rfl,.inl rfl⟩⟩ ?_ ?_
  .rintro σ H' ⟨x9,x10,⟨rfl,h|h|h⟩|⟨tp,htp,rfl,rfl⟩⟩
   .subst h
    refine⟨_,rfl,_,rfl,o1,_,rfl,.inl hO1,_,_,rfl,rfl,_,rfl,jk (jk ?_)⟩
    exact(r1 _ l H' _ _ _ _ o1 o2 sp m v0 v1 w0 w1 hA hF hO1 hO2 hl).1 ⟨⟨_,_,.inl ⟨rfl,.inr (.inl rfl)⟩⟩,by show(4-1-1:Int).toNat<(4-0-0:Int).toNat;decide⟩
   .subst h
    refine⟨_,rfl,_,rfl,o1,_,rfl,.inl hO1,_,_,rfl,rfl,_,rfl,jk (jk ?_)⟩
    exact(r1 _ l H' _ _ _ _ o1 o2 sp m v0 v1 w0 w1 hA hF hO1 hO2 hl).2.1 ⟨⟨_,_,.inl ⟨rfl,.inr (.inr rfl)⟩⟩,by show(4-1-2:Int).toNat<(4-1-1:Int).toNat;decide⟩
   .subst h
    refine⟨_,rfl,_,rfl,o1,_,rfl,.inl hO1,_,_,rfl,rfl,_,rfl,jk (jk ?_)⟩
    exact(r1 _ l H' _ _ _ _ o1 o2 sp m v0 v1 w0 w1 hA hF hO1 hO2 hl).2.2 hsp0 fun tp htp=>⟨⟨_,_,.inr ⟨tp,htp,rfl,rfl⟩⟩,by show(4-2-2:Int).toNat<(4-1-2:Int).toNat;decide⟩
   .have s1:=aF.upd (o:= .tup [w1,v1]) htp
    have kp:cC (upd Hc tp (.tup [w1,v1])) (upd (upd Hc tp (.tup [w1,v1])) sp (.lst [.ref tp])):=cC.updL (s1 _ _ hsp0)
    have kk:=(cC.of s1).trans kp
    have n1:cJ K (upd (upd Hc tp (.tup [w1,v1])) sp (.lst [.ref tp])) o1 [v0,v1]:= .of (by rw[aG (aM (sb _ _ ho1) hsp)];exact s1 _ _ (sc _ _ (sb _ _ ho1)))
    have n2:cJ K (upd (upd Hc tp (.tup [w1,v1])) sp (.lst [.ref tp])) o2 [w0,w1]:= .of (by rw[aG (aM ho2 hsp)];exact s1 _ _ (sc _ _ ho2))
    refine⟨_,rfl,_,rfl,o1,_,rfl,.inl n1,_,_,rfl,rfl,_,rfl,dY ?_⟩
    refine⟨_,rfl,_,rfl,o2,_,rfl,.inl n2,_,_,rfl,rfl,_,rfl,dY ?_⟩
    exact⟨_,rfl,k sp (.ref tp) _ ((sac.trans s1).updN spn) spn az ⟨tp,w1,v1,rfl,kp.sqT (.of az),bI.keep kk hl.d,bI.keep kk hl.b⟩⟩
  .rintro σ H Q Q' hq ⟨v,e,u,e2,a,ys,e3,hs,i,j,e4,e5,z,e6,q⟩
   refine⟨v,e,u,e2,a,ys,e3,hs,i,j,e4,e5,z,e6,?_⟩
   cases z with
   |true=>exact hq _ _ q
   |false=>
    obtain⟨v,e,u,e2,a,ys,e3,hs,i,j,e4,e5,z,e6,q⟩:=q
    exact⟨v,e,u,e2,a,ys,e3,hs,i,j,e4,e5,z,e6,hq _ _ q⟩
end
end FQ
namespace FQ
open PySem L2 FK
theorem An{P:Addr}{H H':Hp}{ps:Array Value}(h:Ou P H H')(hP:H P=some (.tbl ps)):cC H H':=fun b o e _ n=>h b o e (bW e hP (n ps))
theorem Nu{K:PySem.W.Frag}{P a:Addr}{H H':Hp}{ps:Array Value}{xs:List V}(h:Ou P H H')(hP:H P=some (.tbl ps))(h1:cJ K H a xs):cJ K H' a xs:=by
 rcases h1 with(z|⟨o,z⟩)|z
 .exact .inl (.inl (h _ _ z (bW z hP fun z=>nomatch z)))
 .exact .inl (.inr ⟨o,h _ _ z (bW z hP fun z=>nomatch z)⟩)
 .exact .inr z
def Od(K:PySem.W.Frag)(Pw:Addr):Sp:=fun vs H Q _=>∃(p q:Addr)(a b:V)(m:Rat)(D:Nat),vs=[.ref p,.ref q]/\cJ K H p [a]/\cJ K H q [b]/\bB K H a (0,1)/\bB K H b (0,m)/\0<m/\m<1/\mY D/\Gr D m/\Ai Pw H/\
 ∀(r:Addr)(v:V)(H':Hp),Ou Pw H H'->H r=none->H' r=some (.lst [v])->bB K H' v (m,1)->Ai Pw H'->Q (.ref r) H'
theorem Ex:aQ ["one","other"] ["one","other"] (aJ bA):=⟨rfl,rfl,rfl,by decide+kernel,rfl,by decide+kernel,by decide+kernel⟩
theorem zP:aQ ["in_one","in_other"] ["in_one","in_other"] (gY bA):=⟨rfl,rfl,rfl,by decide+kernel,rfl,by decide+kernel,by decide+kernel⟩
theorem zr{P:Program}{w:World}{K:PySem.W.Frag}{mg:Str->Option Value}{base:Heap}{f c Pt:Addr}{fd:FuncData}(D:bJ K mg "without" bA ["one","other"] f fd)(hcd:fd.code= .ref c)(C:PySem.W.CodeHd base c Pt)(bm:BM mg base)
  (CB:Cl P w K mg base "combined" 5 ["one","other","keeps"] (Cg P w K mg base)):bH P w K mg base dj 6 f fd ["one","other"] (Od K Pt):=by
 refine D.fn.okC hcd Ex (fun vs H Q E h=>?_) (fun A outer s H vs Q E hr h=>?_)
 .obtain⟨p,q,a,b,m,D,rfl,_⟩:=h
  rfl
 .obtain⟨p,q,a,b,m,Dg,rfl,hp,hq,ca,cb,m0,m1,dk,gm,⟨ps,hP,ht,hc⟩,k⟩:=h
  refine⟨_,aB (aW (aO CB hr rfl (aj (pv 0) (aj (pv 1) (aj (Qt (c:=c) (P:=Pt) rfl C bm rfl) ak))))),?_⟩
  refine⟨_,rfl,_,rfl,ps,hP,ht,?_⟩
  have fnv:∀(f' c':Addr)(pm ctv:Value),Ru P w K mg base 1 ⟨f',c',lq "without",lJ bA,lK bA,gY bA,pm,ctv⟩ 2 (oE gW):=fun f' c' pm ctv=>by
   refine Km (k:=0) (N:=["in_one","in_other"]) (ps:=["in_one","in_other"]) zP (fun us hl=> ?hb) (fun A outer s H vs Q hr⟨a,b,e,q⟩=>?_)
   case hb=>exact match us,hl with|[_,_],_=>rfl
   subst e
   refine⟨_,vR (pv 0) (vU (tu (pv 1))),?_⟩
   refine⟨_,rfl,a,rfl,?_⟩
   cases a with
   |true=>exact jk ⟨_,rfl,b,rfl,q⟩
   |false=>exact dY q
  rcases hc with hc|⟨c',hc1,hc2⟩
  .refine .inl ⟨hc,fun c' f' pm ctv hc' hf' hne=>?_⟩
   have bt:=Ko (ps':=ps++ #[rawInt (oU bA).line,rawInt (oU bA).col,.ref c']) (o1:=jB c' (lq "without")) (o2:=ud f' (lq "without") (lJ bA) (lK bA) (gY bA) c' pm ctv) hP hc' hf'
   have nPc:Pt≠c':=aM hP hc'
   have nPf:Pt≠f':=aM hP hf'
   have kb:=An bt hP
   refine⟨p,q,⟨f',c',lq "without",lJ bA,lK bA,gY bA,pm,ctv⟩,a,b,m,Dg,rfl,Nu bt hP hp,Nu bt hP hq,bB.keep kb ca,bB.keep kb cb,m0,m1,dk,gm,⟨az,?_⟩,fnv f' c' pm ctv,fun r v H' s1 hr hz hv=>?_⟩
   .show(upd (upd _ _ _) f' _) c'=_
    rw[aG (Ne.symm hne)]
    exact az
   .refine k r v H' (fun b o e n=>s1 _ _ (bt b o e n)) ?_ hz hv ⟨ps++ #[rawInt (oU bA).line,rawInt (oU bA).col,.ref c'],s1 _ _ ?_,?_,.inr ⟨c',?_,s1 _ _ ?_⟩⟩
    .cases e:H r with
     |none=>rfl
     |some o=>
      by_cases z:r=Pt
      .subst z
       exact nomatch (((aG nPf).trans ((aG nPc).trans az)).symm.trans hr)
      .exact nomatch (bt r o e z).symm.trans hr
    .rw[aG nPf,aG nPc]
     exact az
    .rw[Array.toList_append]
     exact pF _ ht
    .rw[Array.toList_append]
     exact codeAmong_snoc _ ht hc
    .rw[aG (Ne.symm hne)]
     exact az
  .refine .inr ⟨c',hc1,hc2,fun f' pm ctv hf'=>?_⟩
   have s0:=aF.upd (o:=ud f' (lq "without") (lJ bA) (lK bA) (gY bA) c' pm ctv) hf'
   refine⟨p,q,⟨f',c',lq "without",lJ bA,lK bA,gY bA,pm,ctv⟩,a,b,m,Dg,rfl,s0.seq hp,s0.seq hq,bB.same s0 ca,bB.same s0 cb,m0,m1,dk,gm,⟨az,s0 _ _ hc2⟩,fnv f' c' pm ctv,fun r v H' s1 hr hz hv=>?_⟩
   have s2:=s0.trans s1
   exact k r v H' (fun b o e _=>s2 _ _ e) (s0.free hr) hz hv ⟨ps,s2 _ _ hP,ht,.inr ⟨c',hc1,s2 _ _ hc2⟩⟩
end FQ
namespace FK
def hh(S:aA)(x:Rat):Rat:=mk S x (1/2)
def gg(S1 S2:aA)(x:Rat):Rat:=F S2 (hh S1 x)-F S2 x
theorem xq{p:Nat}{S:aA}(ok:aX p S){x:Rat}(x0:0<=x)(x1:x<=hh S 0):fO (wl S) (F S x+1/2)=some (hh S x)/\0<=hh S x/\hh S x<=1/\F S (hh S x)=F S x+1/2/\x<hh S x/\hh S 0<=hh S x:=by
 have z:∃t,fO (wl S) (1/2)=some t/\0<=t/\t<=1/\F S t=1/2:=nJ ok (by decide+kernel) (by decide+kernel)
 obtain⟨m,rm,m0,m1,fm⟩:=z
 have em:hh S 0=m:=by
  show(fO (wl S) (F S 0+1/2)).getD 0=m
  rw[cX ok,show(0:Rat)+1/2=1/2 by grind,rm]
  rfl
 rw[em]at x1 ⊢
 have fx:=dF ok x1
 rw[fm]at fx
 have fx0:=ie ok x
 obtain⟨t,rt,t0,t1,ft⟩:=nJ ok (y:=F S x+1/2) (by grind) (by grind)
 have et:hh S x=t:=by
  show(fO (wl S) (F S x+1/2)).getD 0=t
  rw[rt]
  rfl
 rw[et]
 refine⟨rt,t0,t1,ft,rW ok (by grind),qI ok t0 m1 (by rw[ft,fm];grind)⟩
theorem jT{p:Nat}{S:aA}(ok:aX p S):0<hh S 0/\hh S 0<1/\F S (hh S 0)=1/2/\hh S (hh S 0)=1:=by
 have m:=nJ ok (y:=1/2) (by decide+kernel) (by decide+kernel)
 obtain⟨m,rm,m0,m1,fm⟩:=m
 have em:hh S 0=m:=by
  show(fO (wl S) (F S 0+1/2)).getD 0=m
  rw[cX ok,show(0:Rat)+1/2=1/2 by grind,rm]
  rfl
 have fo:=fY ok
 have fz:=cX ok
 have p1:0<m:=rW ok (by rw[fz,fm];decide+kernel)
 have p2:m<1:=rW ok (by rw[fo,fm];decide+kernel)
 obtain⟨_,t0,t1,ft,_⟩:=xq ok (x:=hh S 0) (by rw[em];exact m0) Rat.le_refl
 rw[em]at t0 t1 ft ⊢
 refine⟨p1,p2,fm,qH ok t0 t1 (by decide+kernel) Rat.le_refl ?_⟩
 rw[ft,fm,fo]
 grind
def st(S:aA)(e:Rat):Rat:=if hh S 0<e then(fO (wl S) (F S e-1/2)).getD 0 else e
theorem Cq{p:Nat}{S:aA}(ok:aX p S){e:Rat}(e0:0<=e)(e1:e<=1):0<=st S e/\st S e<=hh S 0/\(hh S 0<e->fO (wl S) (F S e-1/2)=some (st S e)/\hh S (st S e)=e/\0<=F S e-1/2):=by
 obtain⟨m0,m1,fm,_⟩:=jT ok
 by_cases c:hh S 0<e
 .have fe:=dF ok (Rat.le_of_lt c)
  rw[fm]at fe
  have fl:=qR ok e1
  obtain⟨t,rt,t0,t1,ft⟩:=nJ ok (y:=F S e-1/2) (by grind) (by grind)
  have et:st S e=t:=by
   unfold st
   rw[if_pos c,rt]
   rfl
  rw[et]
  have tm:t<=hh S 0:=qI ok (Rat.le_of_lt m0) t1 (by rw[ft,fm];grind)
  obtain⟨_,a0,a1,fa,_⟩:=xq ok t0 tm
  refine⟨t0,tm,fun _=>⟨rt,qH ok a0 a1 e0 e1 ?_,by grind⟩⟩
  rw[fa,ft]
  grind
 .have et:st S e=e:=if_neg c
  rw[et]
  exact⟨e0,by grind,fun z=>absurd z c⟩
end FK
namespace FK
theorem JF{p:Nat}{S:aA}(ok:aX p S):(0:Rat)∈ends S:=by
 obtain⟨T,hT⟩:=qZ 0 0 S
 unfold ends wl
 rw[hT]
 exact List.mem_cons_self
theorem Lg{p:Nat}{S:aA}(ok:aX p S):(1:Rat)∈ends S:=by
 have hl':S.length<(wl S).length:=by rw[gO];omega
 have hi:(wl S)[S.length]? =some (wl S)[S.length]:=List.getElem?_eq_getElem hl'
 obtain⟨_,e⟩:=fL ok hi
 rw[e,List.take_length,ok.top,fY ok]at hi
 exact List.mem_map.mpr ⟨_,List.mem_of_getElem? hi,rfl⟩
theorem Bc{p:Nat}{S:aA}(ok:aX p S){u:Rat}(hu:u∈ends S):0<=u/\u<=1/\Gr p u:=by
 obtain⟨z,hz,rfl⟩:=List.mem_map.mp hu
 obtain⟨i,hi⟩:=List.mem_iff_getElem?.mp hz
 obtain⟨_,rfl⟩:=fL ok hi
 exact⟨gD ok i,sH ok i,qL ok i⟩
def sts(S1 S2:aA):List Rat:=(ends S1++ends S2).map (st S1)
section
variable {p1 p2:Nat} {S1 S2:aA} (o1:aX p1 S1) (o2:aX p2 S2)
include o1 o2
theorem uZ{u:Rat}(hu:u∈ends S1++ends S2):0<=u/\u<=1/\Gr (p1*p2) u:=by
 rcases List.mem_append.mp hu with h|h
 .obtain⟨a,b,c⟩:=Bc o1 h
  exact⟨a,b,c.up⟩
 .obtain⟨a,b,c⟩:=Bc o2 h
  exact⟨a,b,c.up'⟩
theorem Aa{x:Rat}(hx:x∈sts S1 S2):0<=x/\x<=hh S1 0:=by
 obtain⟨u,hu,rfl⟩:=List.mem_map.mp hx
 obtain⟨a,b,_⟩:=uZ o1 o2 hu
 obtain⟨c,d,_⟩:=Cq o1 a b
 exact⟨c,d⟩
theorem tX:(0:Rat)∈sts S1 S2:=by
 refine List.mem_map.mpr ⟨0,List.mem_append_left _ (JF o1),?_⟩
 exact if_neg (by have:=(jT o1).1;grind)
theorem Mw:hh S1 0∈sts S1 S2:=by
 refine List.mem_map.mpr ⟨1,List.mem_append_left _ (Lg o1),?_⟩
 obtain⟨m0,m1,fm,hm⟩:=jT o1
 obtain⟨a,b,c⟩:=Cq o1 (e:=1) (by decide+kernel) Rat.le_refl
 obtain⟨_,d,_⟩:=c m1
 obtain⟨_,_,_,e,_⟩:=xq o1 a b
 rw[d,fY o1]at e
 exact qH o1 a (by grind) (by grind) (by grind) (by rw[fm];grind)
theorem wG{x:Rat}(hx:x∈sts S1 S2):GX 2000000000 x:=by
 obtain⟨u,hu,rfl⟩:=List.mem_map.mp hx
 obtain⟨a,b,g⟩:=uZ o1 o2 hu
 have k1:=o1.few
 have k2:=o2.few
 have pp:=Nat.mul_pos o1.pos o2.pos
 have pl:p1*p2<=1000000:=Nat.mul_le_mul k1 k2
 by_cases c:hh S1 0<u
 .obtain⟨_,_,h⟩:=Cq o1 a b
  obtain⟨hr,_,h0⟩:=h c
  have t:=o1.tp
  have ey:(F S1 u-1/2)*tot S1=A 0 S1 u-tot S1/((2:Nat):Rat):=by
   unfold F
   rw[show((2:Nat):Rat)=2 from rfl]
   grind
  have gA:Gr (2*(p1*p2)) (A 0 S1 u):=(jL (Gr.zero _) (fun z hz=>(o1.gr z hz).up) g).up'
  have gT:Gr (p2*(p1*2)) (tot S1/((2:Nat):Rat)):=(Gr.div o1.tg (by decide)).up'
  have gy:Gr (2*p2*p1) ((F S1 u-1/2)*tot S1):=by
   rw[ey]
   refine Gr.sub ?_ ?_
   .rw[show 2*p2*p1=2*(p1*p2)by rw[Nat.mul_assoc,Nat.mul_comm p2]]
    exact gA
   .rw[show 2*p2*p1=p2*(p1*2)by rw[Nat.mul_comm 2,Nat.mul_assoc,Nat.mul_comm 2]]
    exact gT
  obtain⟨x,rx,_,_,_,w,w0,w1,gx⟩:=oJ o1 h0 (by have:=qR o1 b;grind) gy
  rw[hr]at rx
  rw[Option.some.inj rx]
  refine⟨2*p2*p1*w,Nat.mul_pos (Nat.mul_pos (by have:=o2.pos;omega) o1.pos) w0,?_,gx⟩
  refine Nat.le_trans (Nat.mul_le_mul (Nat.mul_le_mul (Nat.mul_le_mul (Nat.le_refl 2) k2) k1) w1) (by decide)
 .rw[show st S1 u=u from if_neg c]
  exact⟨p1*p2,pp,by omega,g⟩
end
end FK
namespace FQ
open PySem L2 FK
structure JP(S1 S2:aA)(D:Nat)(x:Rat):Prop where
 d:mY D
 g:Gr D x
 gh:Gr D (hh S1 x)
 x0:0<=x
 lt:x<hh S1 x
 h1:hh S1 x<=1
 r:fO (wl S1) (F S1 x+1/2)=some (hh S1 x)
 half:F S1 (hh S1 x)=F S1 x+1/2
 fit:(0<=x/\x<=1/\Bd 280 x)/\eQ (F S1 x)/\Ft 280 (F S1 x+1/2)
 fg:Ft 280 (gg S1 S2 x)
theorem Bh:Bd 10 (1/2:Rat):=⟨by decide+kernel,by decide+kernel⟩
theorem Bg{p1 p2:Nat}{S1 S2:aA}(o1:aX p1 S1)(o2:aX p2 S2){x:Rat}(x0:0<=x)(xm:x<=hh S1 0)(g:GX 4000000000000 x):∃D,JP S1 S2 D x:=by
 obtain⟨G,g0,g1,gx⟩:=g
 obtain⟨rr,h0,h1,fh,lt,_⟩:=xq o1 x0 xm
 have m1:=(jT o1).2.1
 have fl:F S1 x+1/2<=1:=by rw[<-fh];exact qR o1 h1
 obtain⟨y,ry,y0,y1,fy,w,w0,w1,gy⟩:=qg o1 (a:=x) (s:=1/2) (D:=G) (E:=2) x0 (by decide+kernel) fl gx ⟨1,by rw[show((2:Nat):Rat)=2 from rfl];grind⟩
 rw[rr]at ry
 have ey:=Option.some.inj ry
 rw[<-ey]at gy
 have k1:=o1.few
 have k0:=o1.pos
 have l3:G*2*p1*w<=4000000000000*2*1000*1000:=Nat.mul_le_mul (Nat.mul_le_mul (Nat.mul_le_mul g1 (Nat.le_refl 2)) k1) w1
 have dk:mY (G*2*p1*w):=⟨Nat.mul_pos (Nat.mul_pos (by omega) k0) w0,Nat.lt_of_le_of_lt l3 (by decide)⟩
 have gx':Gr (G*2*p1*w) x:=gx.up.up.up
 have f0:=ie o1 x
 obtain⟨N,n0,n1,hN⟩:=o1.num
 have gF:Gr (2*(G*N)) (F S1 x+1/2):=Gr.add (pM o1 hN gx).up' (Gr.up (D:=2) ⟨1,by rw[show((2:Nat):Rat)=2 from rfl];grind⟩)
 have l1:G*N<=4000000000000*1000000:=Nat.mul_le_mul g1 (by omega)
 have lt2:2*(G*N)<2^280:=by
  refine Nat.lt_of_le_of_lt (Nat.mul_le_mul (Nat.le_refl 2) l1) (by decide)
 obtain⟨N2,b0,b1,hN2⟩:=o2.num
 have k2:=o2.few
 have gG:Gr (G*2*p1*w*N2) (gg S1 S2 x):=Gr.sub (pM o2 hN2 gy) (pM o2 hN2 gx')
 have l4:G*2*p1*w*N2<=4000000000000*2*1000*1000*1000000:=Nat.mul_le_mul l3 (by omega)
 have lt4:G*2*p1*w*N2<2^280:=Nat.lt_of_le_of_lt l4 (by decide)
 have gn:0<=gg S1 S2 x:=by
  have:=dF o2 (Rat.le_of_lt lt)
  unfold gg
  grind
 have gl:gg S1 S2 x<=1:=by
  have:=qR o2 h1
  have:=ie o2 x
  unfold gg
  grind
 refine⟨G*2*p1*w,dk,gx',gy,x0,lt,h1,rr,fh,⟨⟨x0,by grind,dk.bd gx' x0 (by grind)⟩,Bd.fit (nA o1 dk gx' (by grind)) f0 (by decide),by grind,gF.bd (Nat.mul_pos (by decide) (Nat.mul_pos g0 n0)) (by grind) (m:=1) (by rw[show((1:Nat):Rat)=1 from rfl];exact fl) (by omega) lt2⟩,gn,gG.bd (Nat.mul_pos dk.pos b0) gn (m:=1) (by rw[show((1:Nat):Rat)=1 from rfl];exact gl) (by omega) lt4⟩
theorem JP.pc{S1 S2:aA}{D:Nat}{x:Rat}(h:JP S1 S2 D x):rZ D [(x,hh S1 x)]:=
 ⟨h.d,fun p hp=>by rw[List.mem_singleton.mp hp];exact⟨h.x0,h.lt,h.h1⟩,List.pairwise_singleton ..,fun p hp=>by rw[List.mem_singleton.mp hp];exact⟨h.g,h.gh⟩,by show 1<=1000;decide⟩
theorem RW(S1 S2:aA)(x:Rat):Wo S2 [(x,hh S1 x)]=gg S1 S2 x:=by
 show(F S2 (hh S1 x)-F S2 x)+0=F S2 (hh S1 x)-F S2 x
 grind
theorem HJ{qs:List Rat}{ord:List Int}(op:ord.Perm ((List.range qs.length).map fun i:Nat=>(i:Int)))(ow:ord.Pairwise (Lex qs)):
  (ord.map fun i=>qs.getD i.toNat 0).Pairwise (· <= ·)/\(∀x,x∈(ord.map fun i=>qs.getD i.toNat 0)↔x∈qs)/\(∀i∈ord,0<=i/\i.toNat<qs.length)/\ord.length=qs.length:=by
 have inn:∀i∈ord,0<=i/\i.toNat<qs.length:=fun i hi=>by
  obtain⟨m,hm,e⟩:=List.mem_map.mp (op.mem_iff.mp hi)
  have:=List.mem_range.mp hm
  omega
 refine⟨List.pairwise_map.mpr (ow.imp fun{a b}l=>?_),fun x=>⟨fun h=>?_,fun h=>?_⟩,inn,?_⟩
 .rcases l with l|⟨l,_⟩
  .exact Rat.le_of_lt l
  .rw[l];exact Rat.le_refl
 .obtain⟨i,hi,rfl⟩:=List.mem_map.mp h
  obtain⟨_,i1⟩:=inn i hi
  rw[List.getD_eq_getElem?_getD,List.getElem?_eq_getElem i1]
  exact List.getElem_mem i1
 .obtain⟨j,hj⟩:=List.mem_iff_getElem?.mp h
  have jl:=(List.getElem?_eq_some_iff.mp hj).1
  refine List.mem_map.mpr ⟨(j:Int),op.mem_iff.mpr (List.mem_map.mpr ⟨j,List.mem_range.mpr jl,rfl⟩),?_⟩
  rw[Int.toNat_natCast,List.getD_eq_getElem?_getD,hj]
  rfl
 .have:=op.length_eq
  rw[List.length_map,List.length_range]at this
  exact this
def Uc(K:PySem.W.Frag)(C Pt:Addr):Sp:=fun vs H Q _=>∃(x y:V)(S1 S2:aA),vs=[x,y]/\bM K C H x S1/\bM K C H y S2/\oG Pt H/\
 ∀(l:Addr)(ys:List V)(Z:List Rat)(H':Hp),To Pt H H'->H l=none->H' l=some (.lst ys)->Paired (bB K H') ys (Z.map fun z=>(z,gg S1 S2 z))->Z.Pairwise (· <= ·)->(∀x,x∈Z↔x∈sts S1 S2)->Z.length<=18->Q (.ref l) H'
abbrev Vk:List Str:=["first","second","middle","starts","corner","rising"]
section
variable {P:Program} {w:World} {K:PySem.W.Frag} {mg:Str->Option Value} {base:Heap} {aL aR aH C Pt:Addr}
theorem Ik:aQ Vk ["first","second"] (aJ fC):=⟨rfl,rfl,rfl,by decide+kernel,rfl,by decide+kernel,by decide+kernel⟩
theorem MK(CR:Cl P w K mg base "ranked" 5 ["those"] (iQ K Pt))(MM:Ml P w K mg base C "mark" 8 ["self","start","share"] (jz K C))(MW:Ml P w K mg base C "worth" 9 ["self","piece"] (jd K C))(TC:kY K C)(hH:mg "HALF"=some (.ref aH))(hT:∀H:Hp,fD K H aH [.int 1,.int 2])
  {f:Addr}{cdv:Value}{A:Around}{outer:List Env}{s:Shared}{H:Hp}{E:XK}(hr:aZ 9 (cx P w K mg base Vk "half_line" fC f cdv A outer s H E).A):
  ∃t,lC (cx P w K mg base Vk "half_line" fC f cdv A outer s H E) (List.drop 3 (bK fC)) t/\∀(D:Ends)(H1:Hp)(x y lt ll lt' ll' ls:Addr)(vs:List V)(p1 p2:Nat)(S1 S2:aA)(y2 y4 y5:Option V),
   bY K C H1 x lt ll S1->aX p1 S1->bY K C H1 y lt' ll' S2->aX p2 S2->H1 ls=some (.lst vs)->Paired (bI K H1) vs (sts S1 S2)->oG Pt H1->
   (∀(l:Addr)(ys:List V)(Z:List Rat)(H':Hp),To Pt H1 H'->H1 l=none->H' l=some (.lst ys)->Paired (bB K H') ys (Z.map fun z=>(z,gg S1 S2 z))->Z.Pairwise (· <= ·)->(∀x,x∈Z↔x∈sts S1 S2)->Z.length<=18->D.rt (.ref l) H')->
   t D [some (.ref x),some (.ref y),y2,some (.ref ls),y4,y5] H1:=by
 have hr5:aZ 5 _:=hr.mono (by decide)
 have hr8:aZ 8 _:=hr.mono (by decide)
 have big:1000<=sizeLine:=by decide
 refine⟨_,au (mU ["place"] (i:=5) Ik.nd rfl (Or.inl rfl) rfl (cD.free1 (F:=["starts"]) (js:=[3]) rfl (by decide+kernel) (by decide+kernel) rfl ⟨rfl,trivial⟩ rfl ⟨⟨rfl,rfl,.inl rfl⟩,trivial⟩) (cu (aO CR hr5 rfl (aj (pv 3) ak)))
   (fun _=>bz (i:=0) (show[Str.ofString "place",Str.ofString "starts"].Nodup by decide+kernel) rfl (Or.inl rfl)) (fun _=>cG) (fun _=>aD aP (pv 1) (pv 0) (fun _ _=>rfl)))
  (aB (aW (dC ["start"] rfl (cD.free1 (F:=["second","first"]) (js:=[1,0]) rfl (by decide+kernel) (by decide+kernel) rfl ⟨rfl,rfl,trivial⟩ rfl ⟨⟨rfl,rfl,.inl rfl⟩,⟨rfl,rfl,.inl rfl⟩,trivial⟩) (cu (pv 5))
   (fun _=>bz (i:=0) (show[Str.ofString "start",Str.ofString "second",Str.ofString "first"].Nodup by decide+kernel) rfl (Or.inl rfl)) (fun _=>cG)
   (fun _=>bC (aj (pv 0) (aj (cV MW TC.cl hr (pv 1) (aj (cA (aj (bC (aj (pv 0) (aj (cV MM TC.cl hr8 (pv 2) (aj (pv 0) (aj (bD (v:= .ref aH) rfl hH rfl) ak))) ak))) ak)) ak)) ak)))))),?_⟩
 intro D H1 x y lt ll lt' ll' ls vs p1 p2 S1 S2 y2 y4 y5 tx o1 ty o2 hls pv rd k
 have lv:=pv.length
 have l18:(sts S1 S2).length<=18:=by
  unfold sts ends
  rw[List.length_map,List.length_append,List.length_map,List.length_map,gO,gO]
  have:=o1.len
  have:=o2.len
  omega
 have ft:∀q∈sts S1 S2,∃D,JP S1 S2 D q:=fun q hq=>by
  obtain⟨a,b⟩:=Aa o1 o2 hq
  exact Bg o1 o2 a b ((wG o1 o2 hq).mono (by decide))
 refine⟨_,rfl,ls,vs,sts S1 S2,rfl,.of hls,pv,fun q hq=>?_,by omega,rd,fun l ord H2 to hl hol op ow=>?_⟩
 .obtain⟨D,h⟩:=ft q hq
  exact Bd.fit h.fit.1.2.2 h.x0 (by decide)
 obtain⟨zw,zm,inn,lo⟩:=HJ op ow
 have hls2:=to.lst hls
 refine⟨l,rfl,⟨_,.of hol⟩,fun D1 hD1=>?_⟩
 have pv2:Paired (bI K H2) vs (sts S1 S2):=Paired.mapP pv fun _ _ z=>bI.keep to.keep z
 refine cL (K:=K) (a:=l) (D:=D1) (xs:=ord.map V.int) (fun j ys σ H3=>aF H2 H3/\H3 D1=some (.lst ys)/\Paired (bI K H2) ys ((ord.take j).map fun i=>(sts S1 S2).getD i.toNat 0)/\ys.length<=j/\∃x0,σ=[x0,some (.ref ls)])
  (by rw[List.length_map];omega) ⟨aF.upd hD1,az,.nil,Nat.le_refl _,_,rfl⟩ ?_ ?_ ?_
 .rintro j ys σ H3 _ ⟨u1,u2,u3,u4,_⟩
  exact⟨.of (u1 _ _ hol),u2,u4⟩
 .rintro j z ys σ H3 hz ⟨u1,u2,u3,u4,x0,rfl⟩ cc
  rw[List.getElem?_map]at hz
  obtain⟨i,hi,rfl⟩:=Option.map_eq_some_iff.mp hz
  obtain⟨i0,i1⟩:=inn i (List.mem_of_getElem? hi)
  obtain⟨v,hv⟩:∃v,vs[i.toNat]? =some v:=⟨_,List.getElem?_eq_getElem (by omega)⟩
  obtain⟨q,hq,fq⟩:=Paired.get1 pv2 i.toNat v hv
  refine⟨_,rfl,_,rfl,ls,_,_,_,rfl,rfl,.of (u1 _ _ hls2),pQ i0 hv,?_⟩
  refine⟨u2,u1.updN hD1,az,?_,by rw[List.length_append];exact Nat.add_le_add_right u4 1,_,rfl⟩
  rw[take_snoc hi,List.map_append]
  refine Paired.app u3 (.cons ?_ .nil)
  show bI K H2 v ((sts S1 S2).getD i.toNat 0)
  rw[List.getD_eq_getElem?_getD,hq]
  exact fq
 rintro ys σ H3 ⟨u1,u2,u3,_,_⟩
 rw[List.take_of_length_le (by rw[List.length_map];exact Nat.le_refl _)]at u3
 have to3:=to.to u1
 have lz:=u3.length
 rw[List.length_map]at lz
 generalize hZ:(ord.map fun i=>(sts S1 S2).getD i.toNat 0)=Z at*
 have lZ:Z.length=ord.length:=by rw[<-hZ,List.length_map]
 have tx3:=tx.tb to3
 have ty3:=ty.tb to3
 obtain⟨dx,hx⟩:=tx3.ins
 obtain⟨dy,hy⟩:=ty3.ins
 have p3:Paired (bI K H3) ys Z:=Paired.mapP u3 fun _ _ z=>z.same u1
 refine⟨_,rfl,D1,rfl,⟨_,.of u2⟩,fun D2 hD2=>?_⟩
 refine cL (K:=K) (a:=D1) (D:=D2) (xs:=ys) (fun j zs σ H4=>aF H3 H4/\H4 D2=some (.lst zs)/\Paired (bB K H4) zs ((Z.take j).map fun z=>(z,gg S1 S2 z))/\zs.length<=j/\∃x0,σ=[x0,some (.ref y),some (.ref x)])
  (by omega) ⟨aF.upd hD2,az,.nil,Nat.le_refl _,_,rfl⟩ ?_ ?_ ?_
 .rintro j zs σ H4 _ ⟨w1,w2,w3,w4,_⟩
  exact⟨.of (w1 _ _ u2),w2,w4⟩
 .rintro j v zs σ H4 hv ⟨w1,w2,w3,w4,x0,rfl⟩ cc
  obtain⟨q,hq,fq⟩:=Paired.get1 p3 j v hv
  obtain⟨Dg,hf⟩:=ft q ((zm q).mp (List.mem_of_getElem? hq))
  refine⟨_,rfl,_,rfl,y,dy,_,rfl,w1 _ _ hy,rfl,_,rfl,_,rfl,x,dx,_,rfl,w1 _ _ hx,rfl,_,rfl,x,lt,ll,v,.ref aH,p1,S1,q,1/2,rfl,tx3.same w1,o1,fq.same w1,uD hT _,hf.fit.1,hf.fit.2.1,Bd.fit Bh (by decide+kernel) (by decide),hf.fit.2.2,fun v5 H5 s5 a5=>?_⟩
  rw[hf.r]at a5
  refine⟨(by show 2<=sizeLine;decide),fun t1 ht1=>?_⟩
  have s6:=aF.upd (o:= .tup [v,v5]) ht1
  refine⟨(by show 1<=sizeLine;decide),fun l1 hl1=>?_⟩
  have s7:=aF.upd (o:= .lst [.ref t1]) hl1
  have s47:=(w1.trans s5).trans (s6.trans s7)
  refine⟨y,lt',ll',l1,_,p2,Dg,S2,[(q,hh S1 q)],rfl,ty3.same s47,o2,dW,.cons ⟨t1,v,v5,rfl,s7.sqT bw,fq.same s47,bI.same (s6.trans s7) a5⟩ .nil,hf.pc,fun v8 H8 s8 d8=>?_⟩
  rw[RW]at d8
  refine⟨(by show 2<=sizeLine;decide),fun t2 ht2=>?_⟩
  have s9:=aF.upd (o:= .tup [v,v8]) ht2
  have s49:=s5.trans ((s6.trans s7).trans (s8.trans s9))
  have k9:=cC.updL (o:= .lst (zs++[.ref t2])) (s49 _ _ w2)
  refine⟨s49 _ _ w2,(w1.trans s49).updN hD2,az,?_,by rw[List.length_append];exact Nat.add_le_add_right w4 1,_,rfl⟩
  rw[take_snoc hq,List.map_append]
  refine Paired.app (Paired.mapP w3 fun _ _ z=>bB.keep k9 (bB.same s49 z)) (.cons ?_ .nil)
  exact bB.keep k9 ⟨t2,v,v8,rfl,bw,fq.same (w1.trans s49),d8.same s9⟩
 rintro zs σ H4 ⟨w1,w2,w3,w4,_⟩
 rw[List.take_of_length_le (by omega)]at w3
 exact k D2 zs Z H4 (to3.to w1) (to3.free hD2) w2 w3 zw zm (by omega)
theorem Ti{f:Addr}{fd:FuncData}(D:bJ K mg "half_line" fC ["first","second"] f fd)(CB:Cl P w K mg base "below" 1 ["one","other"] (dD K))(CN:Cl P w K mg base "minus" 3 ["one","other"] (jc K))(CR:Cl P w K mg base "ranked" 5 ["those"] (iQ K Pt))
  (MC:Ml P w K mg base C "corners" 1 ["self"] (mV K C))(MU:Ml P w K mg base C "worth_up_to" 7 ["self","point"] (qF K C))(MP:Ml P w K mg base C "point_at" 7 ["self","worth"] (jJ K C))(MM:Ml P w K mg base C "mark" 8 ["self","start","share"] (jz K C))(MW:Ml P w K mg base C "worth" 9 ["self","piece"] (jd K C))
  (T:Txt K mg aL aR)(TC:kY K C)(hH:mg "HALF"=some (.ref aH))(hT:∀H:Hp,fD K H aH [.int 1,.int 2]):bH P w K mg base dj 10 f fd ["first","second"] (Uc K C Pt):=by
 refine D.fn.ok Ik (fun vs H Q E h=>?_) (fun cdv A outer s H vs Q E hr h=>?_)
 .obtain⟨x,y,S1,S2,rfl,_⟩:=h
  rfl
 .obtain⟨x,y,S1,S2,rfl,⟨x,lt,ll,p1,rfl,tx,o1⟩,⟨y,lt',ll',p2,rfl,ty,o2⟩,rd,k⟩:=h
  have hr1:aZ 1 _:=hr.mono (by decide)
  have hr3:aZ 3 _:=hr.mono (by decide)
  have hr7:aZ 7 _:=hr.mono (by decide)
  have hr8:aZ 8 _:=hr.mono (by decide)
  have big:1000<=sizeLine:=by decide
  obtain⟨t1,h1,r1⟩:=MK (P:=P) (w:=w) (mg:=mg) (base:=base) (f:=f) (cdv:=cdv) (A:=A) (outer:=outer) (s:=s) (H:=H) (E:=E) CR MM MW TC hH hT hr
  refine⟨_,au (aN (i:=2) Ik.nd rfl (Or.inl rfl) (cV MM TC.cl hr8 (pv 0) (aj (bD (v:= .ref aL) rfl T.left rfl) (aj (bD (v:= .ref aH) rfl hH rfl) ak))))
   (au (aN (i:=3) Ik.nd rfl (Or.inr rfl) (cA ak))
   (au (dB PassesOwn.never rfl (cu (bj zu (zB MC TC.cl hr1 (pv 0)) (zB MC TC.cl hr1 (pv 1)))) (bz (i:=4) Ik.nd rfl (Or.inl rfl))
    (aB (bU (bV (aO CB hr1 rfl (aj (pv 2) (aj (aD aK (pv 4) ao (fun _ _=>rfl)) ak))))
     (aB (cz (iY PySem.F.plainAttrs_list PySem.F.slot_list_append PySem.F.type_list_append di (pv 3) (aj (cV MP TC.cl hr7 (pv 0) (aj (aO CN hr3 rfl (aj (cV MU TC.cl hr7 (pv 0) (aj (aD aK (pv 4) ao (fun _ _=>rfl)) ak)) (aj (bD (v:= .ref aH) rfl hH rfl) ak))) ak)) ak))))
     (aB (cz (iY PySem.F.plainAttrs_list PySem.F.slot_list_append PySem.F.type_list_append di (pv 3) (aj (aD aK (pv 4) ao (fun _ _=>rfl)) ak)))))))
   h1)),?_⟩
  obtain⟨dx,hx⟩:=tx.ins
  obtain⟨dy,hy⟩:=ty.ins
  obtain⟨D0,h0⟩:=Bg o1 o2 Rat.le_refl (Rat.le_of_lt (jT o1).1) ((wG o1 o2 (tX o1 o2)).mono (by decide))
  have hfit:eQ (1/2:Rat):=Bd.fit Bh (by decide+kernel) (by decide)
  have fm:eQ (hh S1 0):=Bd.fit (h0.d.bd h0.gh (Rat.le_of_lt (jT o1).1) h0.h1) (Rat.le_of_lt (jT o1).1) (by decide)
  refine⟨_,rfl,x,dx,_,rfl,hx,rfl,x,lt,ll,.ref aL,.ref aH,p1,S1,0,1/2,rfl,tx,o1,T.l H,uD hT _,h0.fit.1,h0.fit.2.1,hfit,h0.fit.2.2,fun vm H1 s1 a1=>?_⟩
  rw[h0.r]at a1
  have a1':bI K H1 vm (hh S1 0):=a1
  refine⟨Nat.zero_le _,fun ls hls=>?_⟩
  have s2:=aF.upd (o:= .lst []) hls
  have s12:=s1.trans s2
  refine⟨_,rfl,x,dx,_,rfl,s12 _ _ hx,rfl,x,lt,ll,S1,rfl,tx.same s12,fun l1 ts1 hl1 pt1=>?_⟩
  have s3:=aF.upd (o:= .lst ts1) hl1
  have s13:=s12.trans s3
  refine⟨_,rfl,y,dy,_,rfl,s13 _ _ hy,rfl,y,lt',ll',S2,rfl,ty.same s13,fun l2 ts2 hl2 pt2=>?_⟩
  have s4:=aF.upd (o:= .lst ts2) hl2
  have q1:=pt1.length
  have q2:=pt2.length
  rw[gO]at q1 q2
  have e1:=o1.len
  have e2:=o2.len
  refine⟨l1,l2,ts1,ts2,rfl,rfl,s4 _ _ az,az,by omega,fun l3 hl3=>?_⟩
  have s5:=aF.upd (o:= .lst (ts1++ts2)) hl3
  refine⟨l3,rfl,⟨_,dW⟩,?_⟩
  have s35:=s3.trans (s4.trans s5)
  have s15:=s12.trans s35
  generalize hB:upd (upd (upd (upd H1 ls (.lst [])) l1 (.lst ts1)) l2 (.lst ts2)) l3 (.lst (ts1++ts2))=B at*
  have hlB:B ls=some (.lst []):=s35 _ _ az
  have hl3B:B l3=some (.lst (ts1++ts2)):=by rw[<-hB];exact az
  have pB:Paired (bB K B) (ts1++ts2) (wl S1++wl S2):=Paired.app (Paired.mapP pt1 fun _ _ z=>bB.same s35 z) (Paired.mapP pt2 fun _ _ z=>bB.same (s4.trans s5) z)
  have txB:=tx.same s15
  have hxB:=s15 _ _ hx
  have hmB:=a1'.same (s2.trans s35)
  have lsn:H ls=none:=s1.free hls
  have hne:l3≠ls:=fun z=>by
   rw[z,hlB]at hl3B
   have e:=congrArg List.length (HO.lst.inj (Option.some.inj hl3B))
   rw[List.length_append]at e
   simp at e
   omega
  have gp:mY (p1*p2):=⟨Nat.mul_pos o1.pos o2.pos,Nat.lt_of_le_of_lt (Nat.mul_le_mul o1.few o2.few) (by decide)⟩
  obtain⟨N,n0,n1,hN⟩:=o1.num
  refine dh (K:=K) (a:=l3) (xs:=ts1++ts2) (fun i σ H2=>(aF H H2/\cC B H2/\H2 l3=some (.lst (ts1++ts2)))/\∃(vs:List V)(y4 y5:Option V),σ=[some (.ref x),some (.ref y),some vm,some (.ref ls),y4,y5]/\H2 ls=some (.lst vs)/\Paired (bI K H2) vs (((wl S1++wl S2).take i).map fun c=>st S1 c.1))
   ⟨⟨s15,cC.refl _,hl3B⟩,[],_,_,rfl,hlB,.nil⟩ (fun j σ H2 _ h=> .of h.1.2.2) ?_ ?_
  .rintro i vc σ H2 hvc ⟨⟨u0,u1,u5⟩,vs,y4,y5,rfl,u2,u3⟩
   obtain⟨c,hc,cc⟩:=Paired.get1 pB i vc hvc
   obtain⟨pc,va,vb,rfl,hpc,hva,hvb⟩:=bB.keep u1 cc
   have ce:c.1∈ends S1++ends S2:=by
    unfold ends
    rw[<-List.map_append]
    exact List.mem_map_of_mem (List.mem_of_getElem? hc)
   obtain⟨c0,c1,cg⟩:=uZ o1 o2 ce
   have cb:=gp.bd cg c0 c1
   have lvs:vs.length<=18:=by
    rw[u3.length,List.length_map,List.length_take,List.length_append,gO,gO]
    omega
   have vm2:=a1'.same (s2.trans s35) |>.keep u1
   refine⟨_,rfl,_,rfl,pc,_,_,_,rfl,rfl,hpc,rfl,vm,va,hh S1 0,c.1,rfl,vm2,hva,fm,Bd.fit cb c0 (by decide),_,rfl,?_⟩
   refine fH (fun d=>?_) (fun d=>?_)
   .have d':hh S1 0<c.1:=of_decide_eq_true d
    obtain⟨_,_,sh⟩:=Cq o1 c0 c1
    obtain⟨sr,_,s0⟩:=sh d'
    have fb:=nA o1 gp cg c1
    have f0:=ie o1 c.1
    have fl:=qR o1 c1
    have gF:Gr (2*(p1*p2*N)) (F S1 c.1-1/2):=Gr.sub (pM o1 hN cg).up' (Gr.up (D:=2) ⟨1,by rw[show((2:Nat):Rat)=2 from rfl];grind⟩)
    have l1':p1*p2*N<=1000*1000*1000000:=Nat.mul_le_mul (Nat.mul_le_mul o1.few o2.few) (by have:=o1.few;omega)
    refine⟨_,rfl,.inl ⟨rfl,_,.of u2⟩,_,rfl,x,dx,_,rfl,u0 _ _ hx,rfl,_,rfl,x,dx,_,rfl,u0 _ _ hx,rfl,_,rfl,pc,_,_,_,rfl,rfl,hpc,rfl,x,lt,ll,va,p1,S1,c.1,rfl,tx.same u0,o1,hva,c0,c1,cb,fun v5 H5 s5 d5=>?_⟩
    refine⟨v5,.ref aH,_,_,rfl,d5,uD hT _,Bd.fit fb f0 (by decide),hfit,by grind,fun v6 H6 s6 d6=>?_⟩
    have s56:=s5.trans s6
    refine⟨x,lt,ll,v6,p1,S1,_,rfl,(tx.same u0).same s56,o1,d6,⟨s0,gF.bd (Nat.mul_pos (by decide) (Nat.mul_pos gp.pos n0)) s0 (m:=1) (by rw[show((1:Nat):Rat)=1 from rfl];grind) (by omega) (by omega)⟩,fun v7 H7 s7 a7=>?_⟩
    rw[sr]at a7
    have s57:=s56.trans s7
    have v27:=s57 _ _ u2
    have k1:=cC.updL (o:= .lst (vs++[v7])) v27
    refine⟨ls,vs,_,rfl,rfl,v27,by omega,⟨(u0.trans s57).updN lsn,(u1.trans fun b o e _ _=>s57 b o e).trans k1,?_⟩,_,_,_,rfl,az,?_⟩
    .rw[aG hne]
     exact s57 _ _ u5
    .rw[take_snoc hc,List.map_append]
     exact Paired.app (Paired.mapP u3 fun _ _ z=>bI.keep k1 (bI.same s57 z)) (.cons (bI.keep k1 a7) .nil)
   .have d':¬hh S1 0<c.1:=fun z=>d (decide_eq_true z)
    have k1:=cC.updL (o:= .lst (vs++[va])) u2
    refine⟨_,rfl,.inl ⟨rfl,_,.of u2⟩,_,rfl,pc,_,_,_,rfl,rfl,hpc,rfl,ls,vs,_,rfl,rfl,u2,by omega,⟨u0.updN lsn,u1.trans k1,?_⟩,_,_,_,rfl,az,?_⟩
    .rw[aG hne]
     exact u5
    .rw[take_snoc hc,List.map_append]
     refine Paired.app (Paired.mapP u3 fun _ _ z=>bI.keep k1 z) (.cons (bI.keep k1 ?_) .nil)
     show bI K H2 va (st S1 c.1)
     rw[show st S1 c.1=c.1 from if_neg d']
     exact hva
  .rintro σ H2 ⟨⟨u0,u1,u5⟩,vs,y4,y5,rfl,u2,u3⟩
   rw[List.take_of_length_le (by rw[List.length_append,List.length_append,gO,gO];omega)]at u3
   have e3:(wl S1++wl S2).map (fun c=>st S1 c.1)=sts S1 S2:=by
    unfold sts ends
    rw[<-List.map_append,List.map_map]
    rfl
   rw[e3]at u3
   exact r1 _ H2 x y lt ll lt' ll' ls vs p1 p2 S1 S2 _ _ _ (tx.same u0) o1 (ty.same u0) o2 u2 u3 (dI rd u0) fun l ys Z H' to hl e pz pw me l18=>k l ys Z H' ((Tb.of rd u0).trans to) (u0.free hl) e pz pw me l18
end
end FQ
namespace FQ
open PySem L2 FK
theorem Be{p:Nat}{S:aA}(o:aX p S){z:Rat}(z0:0<=z)(z1:z<=hh S 0):gg S S z=1/2:=by
 obtain⟨_,_,_,h,_⟩:=xq o z0 z1
 unfold gg
 rw[h]
 grind
theorem Ie{p:Nat}{S:aA}(o:aX p S){Z:List Rat}(pw:Z.Pairwise (· <= ·))(me:∀x,x∈Z↔x∈sts S S):fO (Z.map fun z=>(z,gg S S z)) (1/2)=some 0:=by
 have h0:=(me 0).mpr (tX o o)
 have hm:=(me (hh S 0)).mpr (Mw o o)
 have ms:=jT o
 have inn:∀z∈Z,0<=z/\z<=hh S 0:=fun z hz=>Aa o o ((me z).mp hz)
 match Z,pw,h0,hm,inn with
 |[],_,h0,_,_=>cases h0
 |[a],_,h0,hm,_=>
  have e1:=List.mem_singleton.mp h0
  have e2:=List.mem_singleton.mp hm
  rw[e2,<-e1]at ms
  exact absurd ms.1 (by grind)
 |a::b::Z,pw,h0,_,inn=>
  have ea:a=0:=by
   have a0:=(inn a (List.mem_cons_self ..)).1
   rcases List.mem_cons.mp h0 with z|z
   .exact z.symm
   .have:=(List.pairwise_cons.mp pw).1 0 z
    grind
  have ga:=Be o (inn a (List.mem_cons_self ..)).1 (inn a (List.mem_cons_self ..)).2
  have gb:=Be o (inn b (List.mem_cons_of_mem _ (List.mem_cons_self ..))).1 (inn b (List.mem_cons_of_mem _ (List.mem_cons_self ..))).2
  show(if ue (a,gg S S a) (b,gg S S b) (1/2)then some (pW (a,gg S S a) (b,gg S S b) (1/2))else _)=_
  rw[ga,gb,ea]
  rw[if_pos ⟨fun z=>absurd z.1 (by show ¬(1/2:Rat)<1/2;grind),fun z=>absurd z.1 (by show ¬(1/2:Rat)<1/2;grind)⟩]
  show some (if(1/2:Rat)=1/2 then(0:Rat)else _)=some 0
  rw[if_pos rfl]
def Oc(K:PySem.W.Frag):Sp:=fun vs H Q _=>vs=[]/\∀(r:Addr)(v:V)(H':Hp),aF H H'->H r=none->H' r=some (.lst [v])->bB K H' v (0,1)->Q (.ref r) H'
def Cj(K:PySem.W.Frag)(C Pt Pw:Addr):Sp:=fun vs H Q _=>∃(se a:Addr)(x0 x1:V)(S:aA),vs=[.ref se,.ref a]/\cJ K H a [x0,x1]/\bM K C H x0 S/\bM K C H x1 S/\oG Pt H/\Ai Pw H/\
 ∀(r:Addr)(ls:List Addr)(sp:Nat->Rat×Rat)(H':Hp),TT Pt Pw H H'->ig K S 2 H' r ls sp->Q (.ref r) H'
section
variable {P:Program} {w:World} {K:PySem.W.Frag} {mg:Str->Option Value} {base:Heap} {aL aR aH C Pt Pw:Addr}
theorem TY:aQ [] [] (aJ wy):=⟨rfl,rfl,rfl,by decide+kernel,rfl,by decide+kernel,by decide+kernel⟩
theorem Qm{f:Addr}{fd:FuncData}(D:bJ K mg "whole" wy [] f fd)(T:Txt K mg aL aR):bH P w K mg base dj 1 f fd [] (Oc K):=by
 refine D.fn.ok TY (fun vs H Q E h=>?_) (fun cdv A outer s H vs Q E hr h=>?_)
 .obtain⟨rfl,_⟩:=h
  rfl
 .obtain⟨rfl,k⟩:=h
  refine⟨_,aB (aW (cA (aj (bC (aj (bD (v:= .ref aL) rfl T.left rfl) (aj (bD (v:= .ref aR) rfl T.right rfl) ak))) ak))),?_⟩
  refine⟨(by show 2<=sizeLine;decide),fun t ht=>⟨(by show 1<=sizeLine;decide),fun l hl=>?_⟩⟩
  have s1:=aF.upd (o:= .tup [.ref aL,.ref aR]) ht
  have s2:=aF.upd (o:= .lst [.ref t]) hl
  exact k l (.ref t) _ (s1.trans s2) (s1.free hl) az ⟨t,.ref aL,.ref aR,rfl,s2.sqT bw,T.l _,T.r _⟩
theorem QH:aQ ["self","tastes","start","piece"] ["self","tastes"] (aJ lO):=⟨rfl,rfl,rfl,by decide+kernel,rfl,by decide+kernel,by decide+kernel⟩
theorem Ht{f:Addr}{fd:FuncData}(D:tZ K "deal" "Even.deal" lO f fd)(CT:Cl P w K mg base "check_takers" 2 ["tastes","fewest","most"] (iR K C))(CH:Cl P w K mg base "half_line" 10 ["first","second"] (Uc K C Pt))(CR:Cl P w K mg base "reached" 6 ["line","up"] (mW K))
  (MM:Ml P w K mg base C "mark" 8 ["self","start","share"] (jz K C))(CA:Cl P w K mg base "whole" 1 [] (Oc K))(CW:Cl P w K mg base "without" 6 ["one","other"] (Od K Pw))(T:Txt K mg aL aR)(TC:kY K C)(hH:mg "HALF"=some (.ref aH))(hT:∀H:Hp,fD K H aH [.int 1,.int 2])(ne:Pw≠Pt):
  bH P w K mg base dj 11 f fd ["self","tastes"] (Cj K C Pt Pw):=by
 refine D.ok QH (fun vs H Q E h=>?_) (fun cdv A0 outer s H vs Q E hr h=>?_)
 .obtain⟨se,a,x0,x1,S,rfl,_⟩:=h
  rfl
 .obtain⟨se,a,x0,x1,S,rfl,ha,t0,t1,rt,rw',k⟩:=h
  have hr1:aZ 1 _:=hr.mono (by decide)
  have hr2:aZ 2 _:=hr.mono (by decide)
  have hr6:aZ 6 _:=hr.mono (by decide)
  have hr8:aZ 8 _:=hr.mono (by decide)
  refine⟨_,au (cz (aO CT hr2 rfl (aj (pv 1) (aj ao (aj ao ak)))))
   (au (aN (i:=2) QH.nd rfl (Or.inl rfl) (aO CR hr6 rfl (aj (aO CH hr rfl (aj (aD aP (pv 1) ao (fun _ _=>rfl)) (aj (aD aP (pv 1) ao (fun _ _=>rfl)) ak))) (aj (bD (v:= .ref aH) rfl hH rfl) ak))))
   (au (aN (i:=3) QH.nd rfl (Or.inl rfl) (cA (aj (bC (aj (pv 2) (aj (cV MM TC.cl hr8 (aD aP (pv 1) ao (fun _ _=>rfl)) (aj (pv 2) (aj (bD (v:= .ref aH) rfl hH rfl) ak))) ak))) ak)))
   (aB (aW (cA (aj (pv 3) (aj (aO CW hr6 rfl (aj (Qs CA hr1 rfl) (aj (pv 3) ak))) ak))))))),?_⟩
  refine⟨_,rfl,a,[x0,x1],[S,S],2,2,rfl,ha,.cons t0 (.cons t1 .nil),(by show(2:Int)<=2;decide),(by show(2:Int)<=2;decide),?_⟩
  refine⟨_,rfl,a,_,_,_,rfl,rfl,ha,rfl,_,rfl,a,_,_,_,rfl,rfl,ha,rfl,x0,x1,S,S,rfl,t0,t1,rt,fun l ys Z H1 to hl hy pz pw me l18=>?_⟩
  obtain⟨y0,lt0,ll0,p0,rfl,ta0,o0⟩:=id t0
  have rx:=Ie o0 pw me
  have ms:=jT o0
  obtain⟨Dg,hf⟩:=Bg o0 o0 Rat.le_refl (Rat.le_of_lt ms.1) ((wG o0 o0 (tX o0 o0)).mono (by decide))
  have hfit:eQ (1/2:Rat):=Bd.fit Bh (by decide+kernel) (by decide)
  have ln:JQ (Z.map fun z=>(z,gg S S z)):=by
   refine⟨by rw[List.length_map];omega,fun p hp=>?_,fun i p q h1 h2=>?_⟩
   .obtain⟨z,hz,rfl⟩:=List.mem_map.mp hp
    have zs:=(me z).mp hz
    obtain⟨za,zb⟩:=Aa o0 o0 zs
    obtain⟨Dz,hz'⟩:=Bg o0 o0 za zb ((wG o0 o0 zs).mono (by decide))
    exact⟨⟨hz'.x0,hz'.fit.1.2.2⟩,hz'.fg⟩
   .rw[List.getElem?_map]at h1 h2
    obtain⟨u,hu,rfl⟩:=Option.map_eq_some_iff.mp h1
    obtain⟨v,hv,rfl⟩:=Option.map_eq_some_iff.mp h2
    obtain⟨iu,eu⟩:=List.getElem?_eq_some_iff.mp hu
    obtain⟨iv,ev'⟩:=List.getElem?_eq_some_iff.mp hv
    show u<=v
    rw[<-eu,<-ev']
    exact List.pairwise_iff_getElem.mp pw i (i+1) iu iv (by omega)
  refine⟨l,ys,.ref aH,_,1/2,rfl,.of hy,pz,uD hT _,ln,⟨by decide+kernel,Bh.mono (by decide)⟩,fun v2 H2 s2 a2=>?_⟩
  rw[rx]at a2
  have a2':bI K H2 v2 0:=a2
  have tt2:TT Pt Pw H H2:=(TT.tb rw' ne to).to s2
  have ta2:=(ta0.tb to).same s2
  obtain⟨dx,hx⟩:=ta2.ins
  refine⟨_,rfl,_,rfl,a,_,_,_,rfl,rfl,tt2.sqL ha,rfl,y0,dx,_,rfl,hx,rfl,_,rfl,y0,lt0,ll0,v2,.ref aH,p0,S,0,1/2,rfl,ta2,o0,a2',uD hT _,hf.fit.1,hf.fit.2.1,hfit,hf.fit.2.2,fun v3 H3 s3 a3=>?_⟩
  rw[hf.r]at a3
  have a3':bI K H3 v3 (hh S 0):=a3
  refine⟨(by show 2<=sizeLine;decide),fun t4 ht4=>⟨(by show 1<=sizeLine;decide),fun l0 hl0=>?_⟩⟩
  have s4:=aF.upd (o:= .tup [v2,v3]) ht4
  have s5:=aF.upd (o:= .lst [.ref t4]) hl0
  have tt5:=((tt2.to s3).to s4).to s5
  have c0:bB K (upd (upd H3 t4 (.tup [v2,v3])) l0 (.lst [.ref t4])) (.ref t4) (0,hh S 0):=⟨t4,v2,v3,rfl,s5.sqT bw,a2'.same (s3.trans (s4.trans s5)),a3'.same (s4.trans s5)⟩
  have hl0':(upd (upd H3 t4 (.tup [v2,v3])) l0 (.lst [.ref t4])) l0=some (.lst [.ref t4]):=az
  generalize (upd (upd H3 t4 (.tup [v2,v3])) l0 (.lst [.ref t4]))=H5 at tt5 c0 hl0'
  refine⟨_,rfl,rfl,fun lw vw H6 s6 hlw hws c6=>?_⟩
  have tt6:=tt5.to s6
  refine⟨_,rfl,lw,l0,vw,.ref t4,hh S 0,Dg,rfl,.of hws,.of (s6 _ _ hl0'),c6,bB.same s6 c0,ms.1,ms.2.1,hf.d,hf.gh,tt6.rdyw,fun r7 v7 H7 b7 hr7 hz7 c7 rw7=>?_⟩
  have tt7:=tt6.trans (TT.tw tt6.rdy tt6.rdyw ne b7 rw7)
  have kb:cC H6 H7:=by
   obtain⟨ps,hP,_⟩:=id tt6.rdyw
   exact An b7 hP
  have g0:H7 l0=some (.lst [.ref t4]):=by
   obtain⟨ps,hP,_⟩:=id tt6.rdyw
   exact b7 _ _ (s6 _ _ hl0') (bW (s6 _ _ hl0') hP fun z=>nomatch z)
  refine⟨(by show 2<=sizeLine;decide),fun r hr'=>?_⟩
  have s8:=aF.upd (o:= .lst [.ref l0,.ref r7]) hr'
  have f0:=cX o0
  have f1:=fY o0
  refine k r [l0,r7] (fun t=>match t with|0=>(0,hh S 0)|_=>(hh S 0,1)) _ (tt7.to s8) ⟨az,rfl,fun t l ht=>?_,fun t ht=>?_⟩
  .match t,ht with
   |0,ht=>cases ht;exact⟨_,s8 _ _ g0,bB.same s8 (bB.keep kb (bB.same s6 c0))⟩
   |1,ht=>cases ht;exact⟨_,s8 _ _ hz7,bB.same s8 c7⟩
   |n+2,ht=>cases ht
  .match t,ht with
   |0,_=>
    refine⟨Dg,hf.d,⟨Rat.le_refl,ms.1,Rat.le_of_lt ms.2.1,Gr.zero _,hf.gh⟩,?_⟩
    show F S (hh S 0)-F S 0=1/((2:Nat):Rat)
    rw[ms.2.2.1,f0]
    show(1/2:Rat)-0=1/2
    grind
   |1,_=>
    refine⟨Dg,hf.d,⟨Rat.le_of_lt ms.1,ms.2.1,Rat.le_refl,hf.gh,Gr.one _⟩,?_⟩
    show F S 1-F S (hh S 0)=1/((2:Nat):Rat)
    rw[ms.2.2.1,f1]
    show(1:Rat)-1/2=1/2
    grind
end
end FQ
namespace FK
theorem uE{ts:List Nat}{n:Nat}(hp:ts.Perm (List.range n))(hi:ts.Pairwise (· < ·)):ts=List.range n:=
 List.Perm.eq_of_pairwise (fun a b _ _ h1 h2=>absurd h1 (by omega)) hi List.pairwise_lt_range hp
theorem Nm{S:aA}{h:Rat}:∀{C:List (Rat×Rat)},(∀q∈C,h<=wd S q)->(C.length:Rat)*h<=Wo S C
 |[],_=>by
  show((0:Nat):Rat)*h<=0
  rw[show((0:Nat):Rat)=0 from rfl]
  grind
 |q::C,hh=>by
  have a:h<=wd S q:=hh q (List.mem_cons_self ..)
  have b:=Nm (C:=C) fun z hz=>hh z (List.mem_cons_of_mem _ hz)
  have e:Wo S (q::C)=wd S q+Wo S C:=rfl
  rw[e,List.length_cons,show((C.length+1:Nat):Rat)=(C.length:Rat)+1 from Rat.natCast_add ..]
  grind
theorem Nk{S:aA}{h:Rat}:∀{C:List (Rat×Rat)},(∀q∈C,h<=wd S q)->Wo S C<=(C.length:Rat)*h->∀q∈C,wd S q=h
 |[],_,_,q,hq=>nomatch hq
 |q::C,hh,le,z,hz=>by
  have a:h<=wd S q:=hh q (List.mem_cons_self ..)
  have b:=Nm (C:=C) fun z hz=>hh z (List.mem_cons_of_mem _ hz)
  have e:Wo S (q::C)=wd S q+Wo S C:=rfl
  rw[e,List.length_cons,show((C.length+1:Nat):Rat)=(C.length:Rat)+1 from Rat.natCast_add ..]at le
  rcases List.mem_cons.mp hz with r|r
  .rw[r];grind
  .exact Nk (C:=C) (fun z hz=>hh z (List.mem_cons_of_mem _ hz)) (by grind) z r
theorem Ch.next:∀{C:List (Rat×Rat)}{a b:Rat},Ch a C b->∀{i:Nat}{p q:Rat×Rat},C[i]? =some p->C[i+1]? =some q->p.2=q.1
 |[],_,_,_,i,p,q,h,_=>by simp at h
 |[x],_,_,_,i,p,q,_,h=>by simp at h
 |x::y::C,a,b,c,0,p,q,h1,h2=>by
  cases h1
  cases h2
  exact c.2.2.1.symm
 |x::y::C,a,b,c,i+1,p,q,h1,h2=>Ch.next c.2.2 (i:=i) h1 h2
theorem Ch.in1:∀{C:List (Rat×Rat)}{a b:Rat},Ch a C b->a<=b/\∀p∈C,a<=p.1/\p.1<p.2/\p.2<=b
 |[],a,b,h=>⟨by have e:a=b:=h;grind,fun p hp=>nomatch hp⟩
 |x::C,a,b,h=>by
  obtain⟨h1,h2,h3⟩:=h
  obtain⟨le,ih⟩:=Ch.in1 h3
  refine⟨by grind,fun p hp=>?_⟩
  rcases List.mem_cons.mp hp with r|r
  .rw[r];exact⟨by grind,h2,le⟩
  .have:=ih p r
   exact⟨by grind,this.2.1,this.2.2⟩
theorem Br{p:Nat}{S:aA}(ok:aX p S){n:Nat}{sp:Nat->Rat×Rat}(n0:0<n)(ch:Ch 0 ((List.range n).map sp) 1)(sh:∀t,t<n->1/(n:Rat)<=wd S (sp t)):∀t,t<n->wd S (sp t)=1/(n:Rat):=fun t ht=>by
 have np:=cQ n0
 refine Nk (h:=1/(n:Rat)) (C:=(List.range n).map sp) (fun q hq=>?_) ?_ (sp t) (List.mem_map.mpr ⟨t,List.mem_range.mpr ht,rfl⟩)
 .obtain⟨u,hu,rfl⟩:=List.mem_map.mp hq
  exact sh u (List.mem_range.mp hu)
 .rw[Ch.wo S ch,fY ok,cX ok,List.length_map,List.length_range]
  grind
theorem sy{n:Nat}{sp:Nat->Rat×Rat}(ch:Ch 0 ((List.range n).map sp) 1):∀t,t+1<n->(sp t).2=(sp (t+1)).1:=fun t ht=>
 Ch.next ch (i:=t) (by rw[List.getElem?_map,List.getElem?_range (by omega)];rfl) (by rw[List.getElem?_map,List.getElem?_range ht];rfl)
theorem mX{S:aA}{n u:Nat}(h:u<n):stp (List.replicate n S) u=S:=by
 show(List.replicate n S).getD u []=S
 rw[List.getD_eq_getElem?_getD,List.getElem?_replicate,if_pos h]
 rfl
theorem DK{p:Nat}{S:aA}(ok:aX p S){n:Nat}{ts:List Nat}{sp:Nat->Rat×Rat}(n0:0<n)(h:LastOk (List.replicate n S) n ts sp):Ch 0 ((List.range n).map sp) 1/\∀t,t<n->wd S (sp t)=1/(n:Rat):=by
 have lt:∀{t},t∈ts->t<n:=fun m=>List.mem_range.mp (h.perm.mem_iff.mp m)
 have ln:ts.length=n:=by have:=h.perm.length_eq;rw[List.length_range]at this;exact this
 have inc:ts.Pairwise (· < ·):=by
  refine List.pairwise_iff_getElem.mpr fun i j hi hj hij=>?_
  have ti:=List.pairwise_iff_getElem.mp h.tie i j hi hj hij
  have mi:=List.getElem_mem hi
  have mj:=List.getElem_mem hj
  have ju:=h.just i ts[i] (List.getElem?_eq_getElem hi) (by omega)
  rw[mX (lt mi)]at ju
  refine ti.2 ?_
  rw[mX (lt mj)]
  exact ju
 have e:=uE h.perm inc
 have ch:=h.ch
 rw[e]at ch
 refine⟨ch,Br ok n0 ch fun t ht=>?_⟩
 have at_:ts[t]? =some t:=by rw[e,List.getElem?_range ht]
 by_cases c:t+1<n
 .have:=h.just t t at_ c
  rw[mX ht]at this
  rw[this]
  exact Rat.le_refl
 .have:=h.last t t at_ (by omega)
  rw[mX ht]at this
  exact this
theorem Pz{Ss:List aA}{S:aA}{a b:Rat}{R:List (Nat×Rat×Rat)}(g:Gd Ss a R b)(e:∀r∈R,stp Ss r.1=S):(R.map (·.1)).Pairwise (· < ·):=by
 induction g with
 |one t a b ab=>exact List.pairwise_singleton ..
 |two a m b R1 R2 h0 h1 c1 c2 c3 c4 g1 g2 i1 i2=>
  have e1:=fun r hr=>e r (List.mem_append_left _ hr)
  have e2:=fun r hr=>e r (List.mem_append_right _ hr)
  rw[List.map_append]
  refine List.pairwise_append.mpr ⟨i1 e1,i2 e2,fun x hx y hy=>?_⟩
  obtain⟨r,hr,rfl⟩:=List.mem_map.mp hx
  obtain⟨q,hq,rfl⟩:=List.mem_map.mp hy
  obtain⟨z,hz,ez⟩:=c3
  rw[e1 z hz]at ez
  exact c4 r hr q hq (by rw[e1 r hr];exact ez) (by rw[e2 q hq];exact ez)
theorem xn{p:Nat}{S:aA}(ok:aX p S){n:Nat}{ts:List Nat}{sp:Nat->Rat×Rat}(n0:0<n)(h:rY (List.replicate n S) n ts sp):Ch 0 ((List.range n).map sp) 1/\∀t,t<n->wd S (sp t)=1/(n:Rat):=by
 have lt:∀{t},t∈ts->t<n:=fun m=>List.mem_range.mp (h.perm.mem_iff.mp m)
 have inc:=Pz (S:=S) h.gd fun r hr=>mX (lt (by rw[h.run];exact List.mem_map.mpr ⟨r,hr,rfl⟩))
 rw[<-h.run]at inc
 have e:=uE h.perm inc
 have ch:=h.ch
 rw[e]at ch
 refine⟨ch,Br ok n0 ch fun t ht=>?_⟩
 have:=h.share t ht
 rw[mX ht]at this
 exact this
end FK
namespace FQ
open PySem L2 FK
def fP(K:PySem.W.Frag)(C Pt Pw:Addr)(G:Nat->(Nat->Rat×Rat)->Prop)(lo hi:Nat):Sp:=fun vs H Q _=>∃(se b:Addr)(xs:List V)(S:aA)(n:Nat),vs=[.ref se,.ref b]/\cJ K H b xs/\(∀x∈xs,bM K C H x S)/\xs.length=n/\lo<=n/\n<=hi/\oG Pt H/\Ai Pw H/\
 ∀(r:Addr)(ls:List Addr)(sp:Nat->Rat×Rat)(H':Hp),TT Pt Pw H H'->ig K S n H' r ls sp->G n sp->Q (.ref r) H'
def Py:Nat->(Nat->Rat×Rat)->Prop:=fun _ _=>True
def Dl:Nat->(Nat->Rat×Rat)->Prop:=fun n sp=>∀t,t+1<n->(sp t).2=(sp (t+1)).1
def Vb:Nat->(Nat->Rat×Rat)->Prop:=fun _ sp=>(sp 1).1=0
theorem jY{α β:Type}{R:α->β->Prop}{b:β}:∀{xs:List α},(∀x∈xs,R x b)->Paired R xs (List.replicate xs.length b)
 |[],_=> .nil
 |x::xs,h=> .cons (h x (List.mem_cons_self ..)) (jY fun y hy=>h y (List.mem_cons_of_mem _ hy))
section
variable {K:PySem.W.Frag} {C Pt Pw:Addr}
theorem vJ{H:Hp}{xs:List V}{S:aA}{n:Nat}(h:∀x∈xs,bM K C H x S)(hn:xs.length=n)(n1:1<=n):∃p,aX p S:=by
 cases xs with
 |nil=>simp at hn;omega
 |cons x xs=>
  obtain⟨_,_,_,p,_,_,ok⟩:=h x (List.mem_cons_self ..)
  exact⟨p,ok⟩
theorem Bq{S:aA}{n:Nat}{H:Hp}{r:Addr}{ls:List Addr}{sp:Nat->Rat×Rat}(is:H r=some (.lst (ls.map V.ref)))(len:ls.length=n)(pc:∀(t:Nat)(l:Addr),ls[t]? =some l->∃v,H l=some (.lst [v])/\bB K H v (sp t))
  (ch:Ch 0 ((List.range n).map sp) 1)(w:∀t,t<n->wd S (sp t)=1/(n:Rat))(g:∀t,t<n->∃D,mY D/\Gr D (sp t).1/\Gr D (sp t).2):ig K S n H r ls sp:=
 ⟨is,len,pc,fun t ht=>by
  obtain⟨D,dk,g1,g2⟩:=g t ht
  obtain⟨a,b,c⟩:=(Ch.in1 ch).2 (sp t) (List.mem_map.mpr ⟨t,List.mem_range.mpr ht,rfl⟩)
  exact⟨D,dk,⟨a,b,c,g1,g2⟩,w t ht⟩⟩
theorem Kp(ne:Pw≠Pt):∀vs H Q E,fP K C Pt Pw Dl 1 8 vs H Q E->Iz K C Pt vs H Q E:=by
 rintro vs H Q E ⟨se,b,xs,S,n,rfl,hb,hx,hn,n1,n8,rt,rw',k⟩
 obtain⟨p,ok⟩:=vJ hx hn n1
 refine⟨se,b,xs,List.replicate n S,n,rfl,hb,by rw[<-hn];exact jY hx,hn,n1,n8,rt,fun r ls ts sp H' to _ is len _ lo pc=>?_⟩
 obtain⟨ch,w⟩:=DK ok (by omega) lo
 refine k r ls sp H' (TT.tb rw' ne to) (Bq is len pc.at_ ch w fun t ht=>?_) (sy ch)
 obtain⟨G,g0,g1,g2,g3⟩:=lo.gs t ht
 exact⟨G,⟨g0,Nat.lt_of_le_of_lt g1 (by decide)⟩,g2,g3⟩
theorem Do(ne:Pw≠Pt):∀vs H Q E,fP K C Pt Pw Dl 1 8 vs H Q E->yh K C Pt vs H Q E:=by
 rintro vs H Q E ⟨se,b,xs,S,n,rfl,hb,hx,hn,n1,n8,rt,rw',k⟩
 obtain⟨p,ok⟩:=vJ hx hn n1
 refine⟨se,b,xs,List.replicate n S,n,rfl,hb,by rw[<-hn];exact jY hx,hn,n1,n8,rt,fun r ls ts sp H' to _ is len _ lo pc=>?_⟩
 obtain⟨ch,w⟩:=xn ok (by omega) lo
 refine k r ls sp H' (TT.tb rw' ne to) (Bq is len pc.at_ ch w fun t ht=>?_) (sy ch)
 obtain⟨G,g0,g1,g2,g3⟩:=lo.gs t ht
 exact⟨G,⟨g0,Nat.lt_of_le_of_lt g1 (by decide)⟩,g2,g3⟩
theorem Jt(ne:Pw≠Pt):∀vs H Q E,fP K C Pt Pw Py 3 3 vs H Q E->yp K C Pt vs H Q E:=by
 rintro vs H Q E ⟨se,b,xs,S,n,rfl,hb,hx,hn,n1,n8,rt,rw',k⟩
 have:n=3:=by omega
 subst this
 match xs,hn,hx,hb with
 |[a,b',c],_,hx,hb=>
  refine⟨se,b,(fun t=>match t with|0=>a|1=>b'|_=>c),S,rfl,hb,fun t ht=>?_,rt,fun r ls sp H' to li=>k r ls sp H' (TT.tb rw' ne to) li trivial⟩
  match t,ht with
  |0,_=>exact hx a (by simp)
  |1,_=>exact hx b' (by simp)
  |2,_=>exact hx c (by simp)
theorem Kd:∀vs H Q E,fP K C Pt Pw Py 2 2 vs H Q E->Cj K C Pt Pw vs H Q E:=by
 rintro vs H Q E ⟨se,b,xs,S,n,rfl,hb,hx,hn,n1,n8,rt,rw',k⟩
 have:n=2:=by omega
 subst this
 match xs,hn,hx,hb with
 |[a,b'],_,hx,hb=>exact⟨se,b,a,b',S,rfl,hb,hx a (by simp),hx b' (by simp),rt,rw',fun r ls sp H' tt li=>k r ls sp H' tt li trivial⟩
theorem De:∀vs H Q E,fP K C Pt Pw Vb 2 2 vs H Q E->yf K C vs H Q E:=by
 rintro vs H Q E ⟨se,b,xs,S,n,rfl,hb,hx,hn,n1,n8,rt,rw',k⟩
 have:n=2:=by omega
 subst this
 obtain⟨p,ok⟩:=vJ hx hn (by decide)
 match xs,hn,hx,hb with
 |[a,b'],_,hx,hb=>
  refine⟨se,b,a,b',S,S,rfl,hb,hx a (by simp),hx b' (by simp),fun m D r l0 l1 v0 v1 H' sm _ _ _ _ hm is h0 h1 c0 c1=>?_⟩
  have e:chosen S m=((m,1),(0,m)):=if_neg (by rw[hm.half];grind)
  rw[e]at c0 c1
  have f0:=cX ok
  have f1:=fY ok
  have fm:=hm.half
  refine k r [l0,l1] (fun t=>match t with|0=>(m,1)|_=>(0,m)) H' (TT.of rt rw' sm) ⟨is,rfl,fun t l ht=>?_,fun t ht=>?_⟩ rfl
  .match t,ht with
   |0,ht=>cases ht;exact⟨v0,h0,c0⟩
   |1,ht=>cases ht;exact⟨v1,h1,c1⟩
   |n+2,ht=>cases ht
  .match t,ht with
   |0,_=>
    refine⟨D,hm.d,⟨Rat.le_of_lt hm.m0,hm.m1,Rat.le_refl,hm.g,Gr.one _⟩,?_⟩
    show F S 1-F S m=1/((2:Nat):Rat)
    rw[f1,fm]
    show(1:Rat)-1/2=1/2
    grind
   |1,_=>
    refine⟨D,hm.d,⟨Rat.le_refl,hm.m0,Rat.le_of_lt hm.m1,Gr.zero _,hm.g⟩,?_⟩
    show F S m-F S 0=1/((2:Nat):Rat)
    rw[f0,fm]
    show(1/2:Rat)-0=1/2
    grind
end
end FQ
namespace FK
theorem qY{p:Nat}{S:aA}(ok:aX p S){n:Nat}{X:Rat}(h:CQ (List.replicate n S) n X):∀j,j<=n->F S (ef ((List.replicate n S).take j) X)=(j:Rat)*X
 |0,_=>by
  show F S 0=((0:Nat):Rat)*X
  rw[cX ok,show((0:Nat):Rat)=0 from rfl]
  grind
 |j+1,hj=>by
  have ih:=qY ok h j (by omega)
  have:=(h.hist j S (by omega) (by rw[List.getElem?_replicate,if_pos (by omega)])).2.2.1
  rw[this,ih,show((j+1:Nat):Rat)=(j:Rat)+1 from Rat.natCast_add ..]
  grind
theorem Gg{p:Nat}{S:aA}(ok:aX p S){n:Nat}{X:Rat}(n0:0<n)(h:CQ (List.replicate n S) n X):X=1/(n:Rat):=by
 have e:=qY ok h n (Nat.le_refl _)
 rw[h.top,fY ok]at e
 have:=cQ n0
 grind
end FK
namespace FQ
open PySem L2 FK
section
variable {K:PySem.W.Frag} {C Pt Pw:Addr}
theorem Fw:∀vs H Q E,fP K C Pt Pw Dl 1 6 vs H Q E->Cd K C vs H Q E:=by
 rintro vs H Q E ⟨se,b,xs,S,n,rfl,hb,hx,hn,n1,n8,rt,rw',k⟩
 obtain⟨p,ok⟩:=vJ hx hn n1
 refine⟨se,b,xs,List.replicate n S,n,rfl,hb,by rw[<-hn];exact jY hx,hn,n1,n8,fun r ls X H' sm _ is len _ cw pc=>?_⟩
 have eX:=Gg ok (by omega) cw
 obtain⟨D,dk,_,_,pt⟩:=Nv cw
 have lr:(List.replicate n S).length=n:=List.length_replicate ..
 refine k r ls (Wt (List.replicate n S) X) H' (TT.of rt rw' sm) ⟨is,len,pc.at_,fun t ht=>?_⟩ fun t ht=>rfl
 have a:=pt t (by omega) (by omega)
 have b:=pt (t+1) (by omega) (by omega)
 have f0:=qY ok cw t (by omega)
 have f1:=qY ok cw (t+1) (by omega)
 rw[show((t+1:Nat):Rat)=(t:Rat)+1 from Rat.natCast_add ..]at f1
 have xp:=cw.pos
 refine⟨D,dk,⟨a.1,rW ok (by rw[f0,f1];grind),b.2.1,a.2.2,b.2.2⟩,?_⟩
 show F S (ef ((List.replicate n S).take (t+1)) X)-F S (ef ((List.replicate n S).take t) X)=_
 rw[f0,f1,<-eX]
 grind
end
end FQ
namespace L2
open PySem PySem.Spec PyProof.Rows
theorem ir{X:Cx}:nu X (.builtin "isinstance") (fun xs H Q=>∃a D C dx fs b,xs=[.ref a,.ref C]/\H a=some (.ins D dx fs)/\RK X.K D/\PySem.W.kitOne X.K (.ref D) (.ref C)=some b/\Q (.bl b) H):=by
 intro pins s σ H xs us Q I r h
 obtain⟨a,D,C,dx,fs,b,rfl,hH,ic,hk,q⟩:=h
 obtain⟨u,v,rfl,ru,rv⟩:=r.two
 cases (show v=Value.ref C from rv)
 exact pZ I ru (nQ.ins hH ic.cl ic.ha ic.hn ic.htk ic.hm) hk fun tk=>⟨.bl b,H,I.tok tk,rfl,q⟩
end L2
namespace FQ
open PySem L2 FK
def TF(_:Hp)(x:V)(b:Bool):Prop:=x= .bl b
theorem QF{K:PySem.W.Frag}:wM K TF 0 where
 inj:=fun _ _ h1 h2=>by
  have h:V.bl _=V.bl _:=h1.symm.trans h2
  exact V.bl.inj h
 eq:=fun{X pins σ H s A x y u v a b}_ _ _ h1 h2 r1 r2=>by
  cases (show x= .bl a from h1)
  cases (show y= .bl b from h2)
  cases (show u=Value.bool a from r1)
  cases (show v=Value.bool b from r2)
  have e:(a==b)=decide (a=b):=Bool.beq_eq_decide_eq a b
  rw[<-e]
  exact SeqAt.EqAt.bool_bool a b
theorem pR{H:Hp}:∀bs:List Bool,Paired (TF H) (bs.map V.bl) bs
 |[]=> .nil
 |_::bs=> .cons rfl (pR bs)
structure RM(K:PySem.W.Frag)(mg:Str->Option Value)(W:Nat->Addr):Prop where
 isi:mg "isinstance"=none
 n0:mg "Choose"=some (.ref (W 0))
 n1:mg "Last"=some (.ref (W 1))
 n2:mg "Halves"=some (.ref (W 2))
 n3:mg "Three"=some (.ref (W 3))
 n4:mg "Even"=some (.ref (W 4))
 n5:mg "Alike"=some (.ref (W 5))
 n6:mg "Way"=some (.ref (W 6))
 ic:∀k,k<=6->RK K (W k)
 kit:∀k n,k<=6->n<6->PySem.W.kitOne K (.ref (W k)) (.ref (W n))=some (decide (k=n))
 way:∀k,k<6->PySem.W.kitOne K (.ref (W k)) (.ref (W 6))=some true
def Tc(k:Nat):List Bool:=[decide (k=0),decide (k=1),decide (k=2),decide (k=3),decide (k=4),decide (k=5)]
def Ud(W:Nat->Addr):Sp:=fun vs H Q _=>∃(a:Addr)(k:Nat)(dx:Addr)(fs:_),vs=[.ref a]/\k<=6/\H a=some (.ins (W k) dx fs)/\∀(r:Addr)H',aF H H'->H' r=some (.lst ((Tc k).map V.bl))->Q (.ref r) H'
section
variable {P:Program} {w:World} {K:PySem.W.Frag} {mg:Str->Option Value} {base:Heap} {W:Nat->Addr}
theorem TQ:aQ ["_law_way","_law_found"] ["_law_way"] (aJ kj):=⟨rfl,rfl,rfl,by decide+kernel,rfl,by decide+kernel,by decide+kernel⟩
theorem Tj{f:Addr}{fd:FuncData}(D:bJ K mg "_law_kinds" kj ["_law_way"] f fd)(Ks:RM K mg W):bH P w K mg base dj 1 f fd ["_law_way"] (Ud W):=by
 refine D.fn.ok TQ (fun vs H Q E h=>?_) (fun cdv A outer s H vs Q E hr h=>?_)
 .obtain⟨a,k,dx,fs,rfl,_⟩:=h
  rfl
 .obtain⟨a,k,dx,fs,rfl,k6,ha,q⟩:=h
  refine⟨_,au (aN (i:=1) TQ.nd rfl (Or.inl rfl) (cA (aj (aV ir (by rfl) Ks.isi PyProof.Rows.boot_isinstance (aj (pv 0) (aj (bD (v:= .ref (W 0)) rfl Ks.n0 rfl) ak))) (aj (aV ir (by rfl) Ks.isi PyProof.Rows.boot_isinstance (aj (pv 0) (aj (bD (v:= .ref (W 1)) rfl Ks.n1 rfl) ak))) (aj (aV ir (by rfl) Ks.isi PyProof.Rows.boot_isinstance (aj (pv 0) (aj (bD (v:= .ref (W 2)) rfl Ks.n2 rfl) ak))) (aj (aV ir (by rfl) Ks.isi PyProof.Rows.boot_isinstance (aj (pv 0) (aj (bD (v:= .ref (W 3)) rfl Ks.n3 rfl) ak))) ak))))))
   (aB (aW (bj zu (pv 1) (cA (aj (aV ir (by rfl) Ks.isi PyProof.Rows.boot_isinstance (aj (pv 0) (aj (bD (v:= .ref (W 4)) rfl Ks.n4 rfl) ak))) (aj (aV ir (by rfl) Ks.isi PyProof.Rows.boot_isinstance (aj (pv 0) (aj (bD (v:= .ref (W 5)) rfl Ks.n5 rfl) ak))) ak)))))),?_⟩
  have ic:=Ks.ic k k6
  have kt:=fun n hn=>Ks.kit k n k6 hn
  have big:1000<=sizeLine:=by decide
  refine⟨_,rfl,a,W k,_,dx,fs,_,rfl,ha,ic,kt 0 (by decide),_,rfl,a,W k,_,dx,fs,_,rfl,ha,ic,kt 1 (by decide),_,rfl,a,W k,_,dx,fs,_,rfl,ha,ic,kt 2 (by decide),_,rfl,a,W k,_,dx,fs,_,rfl,ha,ic,kt 3 (by decide),(by show 4<=sizeLine;omega),fun p1 h1=>?_⟩
  have s1:=aF.upd (o:= .lst [.bl (decide (k=0)),.bl (decide (k=1)),.bl (decide (k=2)),.bl (decide (k=3))]) h1
  have ha1:=s1 _ _ ha
  refine⟨_,rfl,_,rfl,a,W k,_,dx,fs,_,rfl,ha1,ic,kt 4 (by decide),_,rfl,a,W k,_,dx,fs,_,rfl,ha1,ic,kt 5 (by decide),(by show 2<=sizeLine;omega),fun p2 h2=>?_⟩
  have s2:=aF.upd (o:= .lst [.bl (decide (k=4)),.bl (decide (k=5))]) h2
  refine⟨p1,p2,_,_,rfl,rfl,s2 _ _ az,az,(by show 4+2<=sizeLine;omega),fun p3 h3=>?_⟩
  exact q p3 _ ((s1.trans s2).trans (aF.upd h3)) az
end
end FQ
namespace FQ
open PySem L2 FK
abbrev CZ:List Str:=["_law_script","_law_steps","_law_many","_law_ways","_law_counts","_law_k","_law_n","_law_tastes","_law_found"]
theorem nM:aQ CZ ["_law_script"] (aJ dM):=⟨rfl,rfl,rfl,by decide+kernel,rfl,by decide+kernel,by decide+kernel⟩
def XN:Stmt->List Stmt
 | .For _ _ b _ _=>b
 |_=>[]
abbrev Rx:List Stmt:=XN (Rb (bK dM) 4)
def cnt(m k:Nat):Nat:=match k with
 |0=>2
 |3=>3
 |4=>2
 |_=>m
def gK(k:Nat):Nat->(Nat->Rat×Rat)->Prop:=match k with
 |0=>Vb
 |1=>Dl
 |2=>Dl
 |5=>Dl
 |_=>Py
section
variable {P:Program} {w:World} {K:PySem.W.Frag} {mg:Str->Option Value} {base:Heap} {aL aR C Pt Pw:Addr} {W:Nat->Addr}
theorem ig.get{S:aA}{n:Nat}{H:Hp}{r:Addr}{ls:List Addr}{sp:Nat->Rat×Rat}(h:ig K S n H r ls sp){t:Nat}(ht:t<n):∃l p x y,(ls.map V.ref)[t]? =some (.ref l)/\cJ K H l [.ref p]/\fD K H p [x,y]/\bI K H x (sp t).1/\bI K H y (sp t).2:=by
 have tl:t<ls.length:=by rw[h.len];exact ht
 have hl:ls[t]? =some ls[t]:=List.getElem?_eq_getElem tl
 obtain⟨v,h1,p,x,y,rfl,h2,h3,h4⟩:=h.at_ t _ hl
 exact⟨ls[t],p,x,y,by rw[List.getElem?_map,hl];rfl,.of h1,h2,h3,h4⟩
theorem ig.same{S:aA}{n:Nat}{H H':Hp}{r:Addr}{ls:List Addr}{sp:Nat->Rat×Rat}(s:aF H H')(h:ig K S n H r ls sp):ig K S n H' r ls sp:=
 ⟨s _ _ h.is,h.len,fun t l ht=>by
  obtain⟨v,h1,h2⟩:=h.at_ t l ht
  exact⟨v,s _ _ h1,bB.same s h2⟩,h.ok⟩
theorem Qf{f:Addr}{cdv:Value}{A:Around}{outer:List Env}{s:Shared}{H:Hp}{E:XK}(hr:aZ 15 (cx P w K mg base CZ "law" dM f cdv A outer s H E).A):
  ∃t,lC (cx P w K mg base CZ "law" dM f cdv A outer s H E) (List.drop 6 Rx) t/\∀(D:Ends)(H1:Hp)(x0 x1 x2 x3 x4 x6 x7:Option V)(k m:Nat)(S:aA)(r:Addr)(ls:List Addr)(sp:Nat->Rat×Rat),ig K S (cnt m k) H1 r ls sp->gK k (cnt m k) sp->
   (∀H2,aF H1 H2->D.nx [x0,x1,x2,x3,x4,some (.int k),x6,x7,some (.ref r)] H2)->t D [x0,x1,x2,x3,x4,some (.int k),x6,x7,some (.ref r)] H1:=by
 have hu:=iU hr
 refine⟨_,aB (bU (PW.pt (jr (aY iW (pv 5) ao (bx _)) (fX (aY (vL cM cM hu) (aD aK (aD aP (aD aP (pv 8) ao (fun _ _=>rfl)) ao (fun _ _=>rfl)) ao (fun _ _=>rfl)) (bC (aj ao (aj ao ak))) (bx _))))) (aB (aW xP)) bc),?_⟩
 intro D H1 x0 x1 x2 x3 x4 x6 x7 k m S r ls sp li g q
 refine⟨_,rfl,rfl,_,rfl,?_⟩
 by_cases e:k=0
 .subst e
  refine xx rfl ?_
  obtain⟨l,p,x,y,a1,a2,a3,a4,a5⟩:=li.get (t:=1) (by show 1<2;decide)
  refine⟨_,rfl,r,_,_,_,rfl,rfl,.of li.is,bZ (j:=1) a1,l,_,_,_,rfl,rfl,a2,rfl,p,_,_,_,rfl,rfl,a3,rfl,(by show 2<=sizeLine;decide),fun t ht=>?_⟩
  have s1:=aF.upd (o:= .tup [.int 0,.int 1]) ht
  have g0:(sp 1).1=0:=g
  rw[g0]at a4
  exact⟨_,_,a4.same s1,JD,_,rfl,jD rfl (q _ s1)⟩
 .refine nj (fun z=>e (by have:=V.int.inj z;omega)) ?_
  exact dY (q _ (.refl _))
theorem Qe(T:Txt K mg aL aR){f:Addr}{cdv:Value}{A:Around}{outer:List Env}{s:Shared}{H:Hp}{E:XK}(hr:aZ 15 (cx P w K mg base CZ "law" dM f cdv A outer s H E).A):
  ∃t,lC (cx P w K mg base CZ "law" dM f cdv A outer s H E) (List.drop 5 Rx) t/\∀(D:Ends)(H1:Hp)(x0 x1 x2 x3 x4 x6 x7:Option V)(k m:Nat)(S:aA)(r:Addr)(ls:List Addr)(sp:Nat->Rat×Rat),k<6->m<=8->ig K S (cnt m k) H1 r ls sp->gK k (cnt m k) sp->
   (∀H2 y6,aF H1 H2->D.nx [x0,x1,x2,x3,x4,some (.int k),y6,x7,some (.ref r)] H2)->t D [x0,x1,x2,x3,x4,some (.int k),x6,x7,some (.ref r)] H1:=by
 have hu:=iU hr
 obtain⟨t6,h6,r6⟩:=Qf (P:=P) (w:=w) (K:=K) (mg:=mg) (base:=base) (f:=f) (cdv:=cdv) (A:=A) (outer:=outer) (s:=s) (H:=H) (E:=E) hr
 refine⟨_,au (bU (aY Ep (pv 5) (bC (aj ao (aj ao (aj ao ak)))) rfl) (aB (dB PassesOwn.never rfl (qp rfl T.range (aj ao (aj (aV aU (by rfl) T.len PySem.boot_len (aj (pv 8) ak)) ak))) (bz (i:=6) nM.nd rfl (Or.inl rfl))
   (aB (bU (aY (vL cM cM hu) (aD aK (aD aP (aD aP (pv 8) (bj lV (pv 6) ao) (fun _ _=>rfl)) ao (fun _ _=>rfl)) ao (fun _ _=>rfl)) (aD aK (aD aP (aD aP (pv 8) (pv 6) (fun _ _=>rfl)) ao (fun _ _=>rfl)) ao (fun _ _=>rfl)) (bx _)) (aB (aW xP)) bc)))) bc) h6,?_⟩
 intro D H1 x0 x1 x2 x3 x4 x6 x7 k m S r ls sp k6 m8 li g q
 refine⟨_,rfl,(by show 3<=sizeLine;decide),fun t ht=>?_⟩
 have s1:=aF.upd (o:= .tup [.int 1,.int 2,.int 5]) ht
 have len:=li.len
 have is1:=s1 _ _ li.is
 have c8:cnt m k<=8:=by
  unfold cnt
  split<;>omega
 refine⟨t,_,rfl,.inr bw,rfl,rfl,_,rfl,?_⟩
 refine fH (fun h=>?_) (fun h=>?_)
 .have h':inV (.int k) (([1,2,5]:List Int).map V.int)=true:=h
  have mk:=Bl.mp h'
  have gc:Dl (cnt m k) sp:=by
   have:k=1\/k=2\/k=5:=by
    simp at mk
    omega
   rcases this with rfl|rfl|rfl<;>exact g
  refine⟨_,rfl,r,_,rfl,.inl (.of is1),1,((cnt m k:Nat):Int),by rw[List.length_map,len],⟨by decide,by decide,by omega,by omega⟩,?_⟩
  refine jC (lo:=1) (n:=(((cnt m k:Nat):Int)-1).toNat) (fun i σ H2=>aF H1 H2/\∃y6,σ=[x0,x1,x2,x3,x4,some (.int k),y6,x7,some (.ref r)]) ⟨s1,_,rfl⟩ ?_ ?_
  .rintro i σ H2 hi ⟨s2,y6,rfl⟩
   obtain⟨l,p,x,y,a1,a2,a3,a4,a5⟩:=li.get (t:=i) (by omega)
   obtain⟨l',p',x',y',b1,b2,b3,b4,b5⟩:=li.get (t:=i+1) (by omega)
   have e:=gc i (by omega)
   have i1:qT (ls.map V.ref) (1+(i:Int)-1)=some (.ref l):=by
    rw[show(1+(i:Int)-1)=(i:Int)by omega]
    exact bZ a1
   have i2:qT (ls.map V.ref) (1+(i:Int))=some (.ref l'):=by
    rw[show(1+(i:Int))=((i+1:Nat):Int)by omega]
    exact bZ b1
   have is2:=s2 _ _ li.is
   refine⟨_,rfl,_,rfl,_,_,rfl,rfl,r,_,_,_,rfl,rfl,.of is2,i1,l,_,_,_,rfl,rfl,s2.seq a2,rfl,p,_,_,_,rfl,rfl,s2.sqT a3,rfl,?_⟩
   refine⟨_,rfl,_,rfl,r,_,_,_,rfl,rfl,.of is2,i2,l',_,_,_,rfl,rfl,s2.seq b2,rfl,p',_,_,_,rfl,rfl,s2.sqT b3,rfl,?_⟩
   rw[e]at a5
   exact⟨_,_,a5.same s2,b4.same s2,_,rfl,jD rfl ⟨s2,_,rfl⟩⟩
  .rintro σ H2 ⟨s2,y6,rfl⟩
   exact r6 D H2 x0 x1 x2 x3 x4 y6 x7 k m S r ls sp (li.same s2) g fun H3 s3=>q H3 _ (s2.trans s3)
 .exact r6 D _ x0 x1 x2 x3 x4 x6 x7 k m S r ls sp (li.same s1) g fun H3 s3=>q H3 _ (s1.trans s3)
end
end FQ
namespace FQ
open PySem L2 FK
section
variable {P:Program} {w:World} {K:PySem.W.Frag} {mg:Str->Option Value} {base:Heap} {aL aR C Pt Pw:Addr} {W:Nat->Addr}
def Dh(m:Nat):List V:=[.int 2,.int m,.int m,.int 3,.int 2,.int m]
theorem vd{m k:Nat}(h:k<6):qT (Dh m) (k:Int)=some (.int (cnt m k)):=by
 have:k=0\/k=1\/k=2\/k=3\/k=4\/k=5:=by omega
 rcases this with rfl|rfl|rfl|rfl|rfl|rfl<;>exact bZ rfl
theorem Qd(T:Txt K mg aL aR)(CW:Cl P w K mg base "_law_worth" 4 ["_law_steps","_law_piece"] (mH K)){f:Addr}{cdv:Value}{A:Around}{outer:List Env}{s:Shared}{H:Hp}{E:XK}(hr:aZ 15 (cx P w K mg base CZ "law" dM f cdv A outer s H E).A):
  ∃t,lC (cx P w K mg base CZ "law" dM f cdv A outer s H E) (List.drop 4 Rx) t/\∀(D:Ends)(H1:Hp)(x0 x2 x3 x6 x7:Option V)(k m p:Nat)(S:aA)(r lst lc:Addr)(ts:List V)(ls:List Addr)(sp:Nat->Rat×Rat),k<6->1<=m->m<=4->H1 lst=some (.lst ts)->Paired (je K H1) ts S->aX p S->H1 lc=some (.lst (Dh m))->ig K S (cnt m k) H1 r ls sp->gK k (cnt m k) sp->
   (∀H2 y6,aF H1 H2->D.nx [x0,some (.ref lst),x2,x3,some (.ref lc),some (.int k),y6,x7,some (.ref r)] H2)->t D [x0,some (.ref lst),x2,x3,some (.ref lc),some (.int k),x6,x7,some (.ref r)] H1:=by
 have hu:=iU hr
 have hr4:aZ 4 _:=hr.mono (by decide)
 obtain⟨t5,h5,r5⟩:=Qe (P:=P) (w:=w) (K:=K) (mg:=mg) (base:=base) (f:=f) (cdv:=cdv) (A:=A) (outer:=outer) (s:=s) (H:=H) (E:=E) T hr
 refine⟨_,au (bU (PW.pt (gB (bV (aV (wU rfl) (by rfl) T.any PyProof.Rows.boot_any (aj (dC ["_law_piece"] rfl (cD.free1 (F:=["_law_steps","_law_counts","_law_k"]) (js:=[1,4,5]) rfl (by decide+kernel) (by decide+kernel) rfl ⟨rfl,rfl,rfl,trivial⟩ rfl ⟨⟨rfl,rfl,.inl rfl⟩,⟨rfl,rfl,.inl rfl⟩,⟨rfl,rfl,.inl rfl⟩,trivial⟩) (cu (pv 8))
   (fun _=>bz (i:=0) (show[Str.ofString "_law_piece",Str.ofString "_law_steps",Str.ofString "_law_counts",Str.ofString "_law_k"].Nodup by decide+kernel) rfl (Or.inl rfl)) (fun _=>cG)
   (fun _=>jZ (vL cM cM hu) (aO CW hr4 rfl (aj (pv 1) (aj (pv 0) ak))) (bC (aj ao (aj (aD aP (pv 2) (pv 3) (fun _ _=>rfl)) ak))) (bx _))) ak)))
  (fJ (aY Bv (aV aU (by rfl) T.len PySem.boot_len (aj (pv 8) ak)) (aD aP (pv 4) (pv 5) (fun _ _=>rfl)) (bx _))))) (aB (aW xP)) bc) h5,?_⟩
 intro D H1 x0 x2 x3 x6 x7 k m p S r lst lc ts ls sp k6 m1 m4 hL hS ok hC li g q
 have big:1000<=sizeLine:=by decide
 have len:=li.len
 have c1:1<=cnt m k/\cnt m k<=8:=by
  unfold cnt
  split<;>omega
 refine⟨_,rfl,r,rfl,⟨_,.of li.is⟩,fun D1 hD1=>?_⟩
 refine cL (K:=K) (a:=r) (D:=D1) (xs:=ls.map V.ref) (fun j ys σ H2=>aF H1 H2/\H2 D1=some (.lst ys)/\ys=List.replicate j (V.bl false)/\∃y0,σ=[y0,some (.ref lst),some (.ref lc),some (.int k)])
  (by rw[List.length_map];omega) ⟨aF.upd hD1,az,rfl,_,rfl⟩ ?_ ?_ ?_
 .rintro j ys σ H2 _ ⟨u1,u2,u3,_⟩
  refine⟨.of (u1 _ _ li.is),u2,?_⟩
  rw[u3,List.length_replicate]
  exact Nat.le_refl _
 .rintro j y ys σ H2 hy ⟨u1,u2,u3,y0,rfl⟩ cc
  have jl:j<cnt m k:=by
   have:=(List.getElem?_eq_some_iff.mp hy).1
   rw[List.length_map]at this
   omega
  obtain⟨l,pp,x,z,a1,a2,a3,a4,a5⟩:=(li.same u1).get jl
  rw[a1]at hy
  cases hy
  obtain⟨Dg,dk,sa,wt⟩:=li.ok j jl
  have co:bB K H2 (.ref pp) (sp j):=⟨pp,x,z,rfl,a3,a4,a5⟩
  have so:Fo Dg [sp j]:=⟨fun q hq=>by rw[List.mem_singleton.mp hq];exact⟨sa.x0,Rat.le_of_lt sa.lt,sa.y1⟩,fun q hq=>by rw[List.mem_singleton.mp hq];exact⟨sa.g1,sa.g2⟩,by show 1<=1000;decide⟩
  refine⟨_,rfl,_,rfl,lst,l,ts,[.ref pp],p,Dg,S,[sp j],rfl,.of (u1 _ _ hL),Paired.mapP hS fun _ _ z=>je.same u1 z,ok,a2,.cons co .nil,so,dk,fun v H3 s3 dv=>?_⟩
  rw[uo,wt]at dv
  obtain⟨f1,f2⟩:=Ke c1.1 c1.2
  have u13:=u1.trans s3
  refine⟨_,rfl,_,rfl,lc,_,_,_,rfl,rfl,.of (u13 _ _ hC),vd k6,(by show 2<=sizeLine;omega),fun tp htp=>?_⟩
  have s4:=aF.upd (o:= .tup [.int 1,.int (cnt m k)]) htp
  have d4:bI K (upd H3 tp (.tup [.int 1,.int (cnt m k)])) (.ref tp) (1/(cnt m k:Rat)):= .of bw f1.symm (by rw[f2])
  refine⟨_,_,dv.same s4,d4,(s3.trans s4) _ _ u2,(u13.trans s4).updN hD1,az,?_,_,rfl⟩
  rw[u3,List.replicate_succ',decide_eq_true (rfl:fr (1/(cnt m k:Rat))=fr (1/(cnt m k:Rat)))]
  rfl
 .rintro ys σ H2 ⟨u1,u2,u3,_⟩
  have any0:(List.replicate (ls.map V.ref).length false).any id=false:=by
   rw[List.any_eq_false]
   intro b hb
   rw[(List.mem_replicate.mp hb).2]
   decide
  refine⟨D1,List.replicate (ls.map V.ref).length false,rfl,.of (by rw[u2,u3,List.map_replicate]),_,rfl,?_⟩
  rw[any0]
  refine dY ?_
  refine⟨_,rfl,r,_,rfl,.inl (.of (u1 _ _ li.is)),_,rfl,_,rfl,lc,_,_,_,rfl,rfl,.of (u1 _ _ hC),vd k6,rfl,_,rfl,jD (by rw[List.length_map,len]) ?_⟩
  exact r5 D H2 x0 _ x2 x3 _ x6 x7 k m S r ls sp k6 (by omega) (li.same u1) g fun H3 y6 s3=>q H3 y6 (u1.trans s3)
end
end FQ
namespace L2
open PySem PySem.Spec PyProof.Rows
theorem ph{X:Cx}{e:Expr}{t u:TE}(h:PE X e t)(k:PE X e u):PE X e (fun σ H Q=>t σ H Q\/u σ H Q):=fun pins s σ H Q I q=>q.elim (h pins s σ H Q I) (k pins s σ H Q I)
end L2
namespace FQ
open PySem L2 FK
structure Vh(P:Program)(w:World)(K:PySem.W.Frag)(mg:Str->Option Value)(base:Heap)(C Pt Pw:Addr)(W:Nat->Addr):Prop where
 d0:Ml P w K mg base (W 0) "deal" 10 ["self","tastes"] (fP K C Pt Pw Vb 2 2)
 d1:Ml P w K mg base (W 1) "deal" 10 ["self","tastes"] (fP K C Pt Pw Dl 1 8)
 d2:Ml P w K mg base (W 2) "deal" 15 ["self","tastes"] (fP K C Pt Pw Dl 1 8)
 d3:Ml P w K mg base (W 3) "deal" 14 ["self","tastes"] (fP K C Pt Pw Py 3 3)
 d4:Ml P w K mg base (W 4) "deal" 11 ["self","tastes"] (fP K C Pt Pw Py 2 2)
 d5:Ml P w K mg base (W 5) "deal" 10 ["self","tastes"] (fP K C Pt Pw Dl 1 6)
def yG(W:Nat->Addr)(H:Hp)(lw:Addr):Prop:=∃aw:List Addr,H lw=some (.lst (aw.map V.ref))/\∀k,k<6->∃a dx,aw[k]? =some a/\H a=some (.ins (W k) dx [])
section
variable {P:Program} {w:World} {K:PySem.W.Frag} {mg:Str->Option Value} {base:Heap} {aL aR C Pt Pw:Addr} {W:Nat->Addr}
theorem yG.tt{H H':Hp}{lw:Addr}(t:TT Pt Pw H H')(h:yG W H lw):yG W H' lw:=by
 obtain⟨aw,h1,h2⟩:=h
 refine⟨aw,t.lst h1,fun k hk=>?_⟩
 obtain⟨a,dx,e,g⟩:=h2 k hk
 exact⟨a,dx,e,t.get g fun _ z=>nomatch z⟩
theorem Qc(T:Txt K mg aL aR)(CW:Cl P w K mg base "_law_worth" 4 ["_law_steps","_law_piece"] (mH K))(Ds:Vh P w K mg base C Pt Pw W)(Ks:RM K mg W){f:Addr}{cdv:Value}{A:Around}{outer:List Env}{s:Shared}{H:Hp}{E:XK}(hr:aZ 15 (cx P w K mg base CZ "law" dM f cdv A outer s H E).A):
  ∃t,lC (cx P w K mg base CZ "law" dM f cdv A outer s H E) (List.drop 3 Rx) t/\∀(D:Ends)(H1:Hp)(x0 x2 x6 x8:Option V)(k m p:Nat)(S:aA)(lst lc lw lt:Addr)(ts xs:List V),k<6->1<=m->m<=4->H1 lst=some (.lst ts)->Paired (je K H1) ts S->aX p S->H1 lc=some (.lst (Dh m))->yG W H1 lw->H1 lt=some (.lst xs)->(∀x∈xs,bM K C H1 x S)->xs.length=cnt m k->oG Pt H1->Ai Pw H1->
   (∀H2 y6 y8,TT Pt Pw H1 H2->D.nx [x0,some (.ref lst),x2,some (.ref lw),some (.ref lc),some (.int k),y6,some (.ref lt),y8] H2)->t D [x0,some (.ref lst),x2,some (.ref lw),some (.ref lc),some (.int k),x6,some (.ref lt),x8] H1:=by
 have hr10:aZ 10 _:=hr.mono (by decide)
 have hr14:aZ 14 _:=hr.mono (by decide)
 have hr11:aZ 11 _:=hr.mono (by decide)
 obtain⟨t4,h4,r4⟩:=Qd (P:=P) (w:=w) (K:=K) (mg:=mg) (base:=base) (f:=f) (cdv:=cdv) (A:=A) (outer:=outer) (s:=s) (H:=H) (E:=E) T CW hr
 refine⟨_,au (aN (i:=8) nM.nd rfl (Or.inl rfl)
  (ph (cV Ds.d0 (Ks.ic 0 (by decide)).cl hr10 (aD aP (pv 3) (pv 5) (fun _ _=>rfl)) (aj (pv 7) ak))
  (ph (cV Ds.d1 (Ks.ic 1 (by decide)).cl hr10 (aD aP (pv 3) (pv 5) (fun _ _=>rfl)) (aj (pv 7) ak))
  (ph (cV Ds.d2 (Ks.ic 2 (by decide)).cl hr (aD aP (pv 3) (pv 5) (fun _ _=>rfl)) (aj (pv 7) ak))
  (ph (cV Ds.d3 (Ks.ic 3 (by decide)).cl hr14 (aD aP (pv 3) (pv 5) (fun _ _=>rfl)) (aj (pv 7) ak))
  (ph (cV Ds.d4 (Ks.ic 4 (by decide)).cl hr11 (aD aP (pv 3) (pv 5) (fun _ _=>rfl)) (aj (pv 7) ak))
   (cV Ds.d5 (Ks.ic 5 (by decide)).cl hr10 (aD aP (pv 3) (pv 5) (fun _ _=>rfl)) (aj (pv 7) ak)))))))) h4,?_⟩
 intro D H1 x0 x2 x6 x8 k m p S lst lc lw lt ts xs k6 m1 m4 hL hS ok hC hW hT hX hn rt rw' q
 obtain⟨aw,hw1,hw2⟩:=hW
 obtain⟨a,dx,ea,ho⟩:=hw2 k k6
 have at_:qT (aw.map V.ref) (k:Int)=some (.ref a):=bZ (by rw[List.getElem?_map,ea];rfl)
 have go:∀(r:Addr)(ls:List Addr)(sp:Nat->Rat×Rat)(H2:Hp),TT Pt Pw H1 H2->ig K S (cnt m k) H2 r ls sp->gK k (cnt m k) sp->t4 D [x0,some (.ref lst),x2,some (.ref lw),some (.ref lc),some (.int k),x6,some (.ref lt),some (.ref r)] H2:=fun r ls sp H2 tt li g=>
  r4 D H2 x0 x2 _ x6 _ k m p S r lst lc ts ls sp k6 m1 m4 (tt.lst hL) (Paired.mapP hS fun _ _ z=>je.keep tt.keep z) ok (tt.lst hC) li g fun H3 y6 s3=>q H3 y6 _ (tt.to s3)
 have:k=0\/k=1\/k=2\/k=3\/k=4\/k=5:=by omega
 rcases this with rfl|rfl|rfl|rfl|rfl|rfl
 .exact .inl ⟨_,rfl,_,rfl,lw,_,_,_,rfl,rfl,.of hw1,at_,a,dx,_,rfl,ho,rfl,_,rfl,a,lt,xs,S,_,rfl,.of hT,hX,hn,Nat.le_refl _,Nat.le_refl _,rt,rw',go⟩
 .exact .inr (.inl ⟨_,rfl,_,rfl,lw,_,_,_,rfl,rfl,.of hw1,at_,a,dx,_,rfl,ho,rfl,_,rfl,a,lt,xs,S,_,rfl,.of hT,hX,hn,by show 1<=m;omega,by show m<=8;omega,rt,rw',go⟩)
 .exact .inr (.inr (.inl ⟨_,rfl,_,rfl,lw,_,_,_,rfl,rfl,.of hw1,at_,a,dx,_,rfl,ho,rfl,_,rfl,a,lt,xs,S,_,rfl,.of hT,hX,hn,by show 1<=m;omega,by show m<=8;omega,rt,rw',go⟩))
 .exact .inr (.inr (.inr (.inl ⟨_,rfl,_,rfl,lw,_,_,_,rfl,rfl,.of hw1,at_,a,dx,_,rfl,ho,rfl,_,rfl,a,lt,xs,S,_,rfl,.of hT,hX,hn,Nat.le_refl _,Nat.le_refl _,rt,rw',go⟩)))
 .exact .inr (.inr (.inr (.inr (.inl ⟨_,rfl,_,rfl,lw,_,_,_,rfl,rfl,.of hw1,at_,a,dx,_,rfl,ho,rfl,_,rfl,a,lt,xs,S,_,rfl,.of hT,hX,hn,Nat.le_refl _,Nat.le_refl _,rt,rw',go⟩))))
 .exact .inr (.inr (.inr (.inr (.inr ⟨_,rfl,_,rfl,lw,_,_,_,rfl,rfl,.of hw1,at_,a,dx,_,rfl,ho,rfl,_,rfl,a,lt,xs,S,_,rfl,.of hT,hX,hn,by show 1<=m;omega,by show m<=6;omega,rt,rw',go⟩))))
end
end FQ
namespace FQ
open PySem L2 FK
section
variable {P:Program} {w:World} {K:PySem.W.Frag} {mg:Str->Option Value} {base:Heap} {aL aR C Pt Pw:Addr} {W:Nat->Addr}
def jf(K:PySem.W.Frag)(C D:Addr)(H:Hp)(x:V)(S:aA):Prop:=∃t lt ll p,x= .ref t/\bY K C H t lt ll S/\aX p S/\D≠lt/\D≠ll
theorem jf.same{D:Addr}{H H':Hp}{x:V}{S:aA}(s:aF H H')(h:jf K C D H x S):jf K C D H' x S:=by
 obtain⟨t,lt,ll,p,e,h1,h2,h3⟩:=h
 exact⟨t,lt,ll,p,e,h1.same s,h2,h3⟩
theorem jf.grow{D:Addr}{H:Hp}{x:V}{S:aA}{ys zs:List V}(hD:H D=some (.lst ys))(h:jf K C D H x S):jf K C D (upd H D (.lst zs)) x S:=by
 obtain⟨t,lt,ll,p,e,h1,h2,h3,h4⟩:=h
 exact⟨t,lt,ll,p,e,h1.but hD h3 h4,h2,h3,h4⟩
theorem jf.s{D:Addr}{H:Hp}{x:V}{S:aA}(h:jf K C D H x S):bM K C H x S:=by
 obtain⟨t,lt,ll,p,e,h1,h2,_⟩:=h
 exact⟨t,lt,ll,p,e,h1,h2⟩
theorem Qa(T:Txt K mg aL aR)(CC:Cl P w K mg base "_law_cell_at" 1 ["_law_script","_law_k"] (zV K))(MC:Mc P w K mg base "Taste" C 5 ["self","steps"] (tV K C))(CW:Cl P w K mg base "_law_worth" 4 ["_law_steps","_law_piece"] (mH K))(Ds:Vh P w K mg base C Pt Pw W)(Ks:RM K mg W){f:Addr}{cdv:Value}{A:Around}{outer:List Env}{s:Shared}{H:Hp}{E:XK}(hr:aZ 15 (cx P w K mg base CZ "law" dM f cdv A outer s H E).A):
  ∃t,lC (cx P w K mg base CZ "law" dM f cdv A outer s H E) (List.drop 1 Rx) t/\∀(D:Ends)(H1:Hp)(x2 x6 x7 x8:Option V)(k m p:Nat)(S:aA)(a lst lc lw:Addr)(ns:List Int)(ts:List V),k<6->1<=m->m<=4->cJ K H1 a (ns.map V.int)->H1 lst=some (.lst ts)->Paired (je K H1) ts S->aX p S->H1 lc=some (.lst (Dh m))->yG W H1 lw->oG Pt H1->Ai Pw H1->
   (∀H2 y6 y7 y8,TT Pt Pw H1 H2->D.nx [some (.ref a),some (.ref lst),x2,some (.ref lw),some (.ref lc),some (.int k),y6,y7,y8] H2)->t D [some (.ref a),some (.ref lst),x2,some (.ref lw),some (.ref lc),some (.int k),x6,x7,x8] H1:=by
 have hr1:aZ 1 _:=hr.mono (by decide)
 have hr6:aZ 6 _:=hr.mono (by decide)
 obtain⟨t3,h3,r3⟩:=Qc (P:=P) (w:=w) (K:=K) (mg:=mg) (base:=base) (f:=f) (cdv:=cdv) (A:=A) (outer:=outer) (s:=s) (H:=H) (E:=E) T CW Ds Ks hr
 refine⟨_,au (aN (i:=7) nM.nd rfl (Or.inr rfl) (dC ["_law_n"] rfl (cD.free1 (F:=["_law_steps"]) (js:=[1]) rfl (by decide+kernel) (by decide+kernel) rfl ⟨rfl,trivial⟩ rfl ⟨⟨rfl,rfl,.inl rfl⟩,trivial⟩) (fV rfl T.range (aj (aD aP (pv 4) (pv 5) (fun _ _=>rfl)) ak))
   (fun _=>bz (i:=0) (show[Str.ofString "_law_n",Str.ofString "_law_steps"].Nodup by decide+kernel) rfl (Or.inl rfl)) (fun _=>cG) (fun _=>Tu MC hr6 rfl (aj (jE jP rfl T.list PyProof.Rows.boot_list (aj (pv 1) ak)) ak))))
  (au (bU (aY iW (bj dH (aO CC hr1 rfl (aj (pv 0) (aj ao ak))) ao) ao (bx _)) (aB (aN (i:=7) nM.nd rfl (Or.inr rfl) (dC ["_law_n"] rfl (cD.free1 (F:=["_law_tastes"]) (js:=[7]) rfl (by decide+kernel) (by decide+kernel) rfl ⟨rfl,trivial⟩ rfl ⟨⟨rfl,rfl,.inl rfl⟩,trivial⟩) (fV rfl T.range (aj (aD aP (pv 4) (pv 5) (fun _ _=>rfl)) ak))
   (fun _=>bz (i:=0) (show[Str.ofString "_law_n",Str.ofString "_law_tastes"].Nodup by decide+kernel) rfl (Or.inl rfl)) (fun _=>cG) (fun _=>aD aP (pv 1) ao (fun _ _=>rfl))))) bc) h3),?_⟩
 intro D H1 x2 x6 x7 x8 k m p S a lst lc lw ns ts k6 m1 m4 ha hL hS ok hC hW rt rw' q
 have big:1000<=sizeLine:=by decide
 have c1:1<=cnt m k/\cnt m k<=8:=by
  unfold cnt
  split<;>omega
 refine⟨_,rfl,_,rfl,lc,_,_,_,rfl,rfl,.of hC,vd k6,_,rfl,by omega,by omega,fun D1 hD1=>?_⟩
 refine iw (lo:=0) (n:=cnt m k) (D:=D1) (fun i ys σ H2=>aF H1 H2/\H2 D1=some (.lst ys)/\ys.length=i/\(∀x∈ys,jf K C D1 H2 x S)/\∃y0,σ=[y0,some (.ref lst)])
  (by omega) ⟨aF.upd hD1,az,rfl,(fun x hx=>nomatch hx),_,rfl⟩ ?_ ?_ ?_
 .rintro i ys σ H2 _ ⟨u1,u2,u3,_⟩
  exact⟨u2,by omega⟩
 .rintro i ys σ H2 hi ⟨u1,u2,u3,u4,y0,rfl⟩ cc
  have hL2:=u1 _ _ hL
  refine⟨_,rfl,lst,ts,rfl,.inl (.of hL2),fun lh hlh=>?_⟩
  have s2:=aF.upd (o:= .lst ts) hlh
  refine Hh (C:=C) (p:=p) (S:=S) dW (Paired.mapP hS fun _ _ z=>je.same (u1.trans s2) z) ok fun x lt ll H3 s3 hx hlt hll ta=>?_
  have s23:=s2.trans s3
  have hD3:=s23 _ _ u2
  have n1:D1≠lt:=aM (s2 _ _ u2) hlt
  have n2:D1≠ll:=aM (s2 _ _ u2) hll
  refine⟨hD3,(u1.trans s23).updN hD1,az,by rw[List.length_append,u3];rfl,fun y hy=>?_,_,rfl⟩
  rcases List.mem_append.mp hy with z|z
  .exact((u4 y z).same s23).grow hD3
  .rw[List.mem_singleton.mp z]
   exact jf.grow hD3 ⟨x,lt,ll,p,rfl,ta,ok,n1,n2⟩
 .rintro ys σ H2 ⟨u1,u2,u3,u4,y0,rfl⟩
  have ha2:=u1.seq ha
  have hC2:=u1 _ _ hC
  have tt2:TT Pt Pw H1 H2:= .of rt rw' u1
  have tx2:∀x∈ys,bM K C H2 x S:=fun x hx=>(u4 x hx).s
  refine⟨_,rfl,a,ns,2,rfl,ha2,_,_,rfl,rfl,(by show(0:Int)<2;decide),rfl,_,rfl,?_⟩
  have fin:∀(lt:Addr)(xs:List V)(H3:Hp),aF H2 H3->H3 lt=some (.lst xs)->(∀x∈xs,bM K C H3 x S)->xs.length=cnt m k->t3 D [some (.ref a),some (.ref lst),x2,some (.ref lw),some (.ref lc),some (.int k),x6,some (.ref lt),x8] H3:=fun lt xs H3 s3 h1 h2 h3=>by
   have tt3:=tt2.to s3
   exact r3 D H3 _ x2 x6 x8 k m p S lst lc lw lt ts xs k6 m1 m4 (tt3.lst hL) (Paired.mapP hS fun _ _ z=>je.keep tt3.keep z) ok (tt3.lst hC) (hW.tt tt3) h1 h2 h3 tt3.rdy tt3.rdyw fun H4 y6 y8 t4=>q H4 y6 _ y8 (tt3.trans t4)
  refine fH (fun h=>?_) (fun h=>?_)
  .refine⟨_,rfl,_,rfl,lc,_,_,_,rfl,rfl,.of hC2,vd k6,_,rfl,by omega,by omega,fun D2 hD2=>?_⟩
   obtain⟨x0,hx0⟩:∃x,ys[0]? =some x:=⟨_,List.getElem?_eq_getElem (by omega)⟩
   have tx0:=tx2 x0 (List.mem_of_getElem? hx0)
   refine iw (lo:=0) (n:=cnt m k) (D:=D2) (fun i zs σ H3=>aF H2 H3/\H3 D2=some (.lst zs)/\zs=List.replicate i x0/\∃y0,σ=[y0,some (.ref D1)])
    (by omega) ⟨aF.upd hD2,az,rfl,_,rfl⟩ ?_ ?_ ?_
   .rintro i zs σ H3 _ ⟨w1,w2,w3,_⟩
    exact⟨w2,by rw[w3,List.length_replicate];exact Nat.le_refl _⟩
   .rintro i zs σ H3 hi ⟨w1,w2,w3,y1,rfl⟩ cc
    refine⟨_,rfl,D1,_,_,_,rfl,rfl,.of (w1 _ _ u2),bZ (j:=0) hx0,w2,w1.updN hD2,az,?_,_,rfl⟩
    rw[w3,List.replicate_succ']
   .rintro zs σ H3 ⟨w1,w2,w3,y1,rfl⟩
    refine fin D2 zs H3 w1 w2 (fun x hx=>?_) (by rw[w3,List.length_replicate])
    rw[w3]at hx
    rw[(List.mem_replicate.mp hx).2]
    obtain⟨t,lt,ll,pp,e,h1,h2⟩:=tx0
    exact⟨t,lt,ll,pp,e,h1.same w1,h2⟩
  .exact fin D1 ys H2 (.refl _) u2 tx2 u3
end
end FQ
namespace FQ
open PySem L2 FK
section
variable {P:Program} {w:World} {K:PySem.W.Frag} {mg:Str->Option Value} {base:Heap} {aL aR C Pt Pw:Addr} {W:Nat->Addr}
structure WY(P:Program)(w:World)(K:PySem.W.Frag)(mg:Str->Option Value)(base:Heap)(C Pt Pw:Addr)(W:Nat->Addr):Prop where
 cell:Cl P w K mg base "_law_cell_at" 1 ["_law_script","_law_k"] (zV K)
 steps:Cl P w K mg base "_law_steps_by" 2 ["_law_cell"] (uP K)
 worth:Cl P w K mg base "_law_worth" 4 ["_law_steps","_law_piece"] (mH K)
 kinds:Cl P w K mg base "_law_kinds" 1 ["_law_way"] (Ud W)
 make:Mc P w K mg base "Taste" C 5 ["self","steps"] (tV K C)
 dls:Vh P w K mg base C Pt Pw W
 ks:RM K mg W
 mkp:∀k,k<=6->Xa K (W k)
theorem PX(T:Txt K mg aL aR)(CC:WY P w K mg base C Pt Pw W){f:Addr}{cdv:Value}{A:Around}{outer:List Env}{s:Shared}{H:Hp}{E:XK}(hr:aZ 15 (cx P w K mg base CZ "law" dM f cdv A outer s H E).A):
  ∃t,lC (cx P w K mg base CZ "law" dM f cdv A outer s H E) Rx t/\∀(D:Ends)(H1:Hp)(x2 x6 x7 x8:Option V)(k m p:Nat)(S:aA)(a lst lc lw:Addr)(ns:List Int)(ts:List V),k<6->1<=m->m<=4->cJ K H1 a (ns.map V.int)->H1 lst=some (.lst ts)->Paired (je K H1) ts S->aX p S->H1 lc=some (.lst (Dh m))->yG W H1 lw->oG Pt H1->Ai Pw H1->
   (∀H2 y6 y7 y8,TT Pt Pw H1 H2->D.nx [some (.ref a),some (.ref lst),x2,some (.ref lw),some (.ref lc),some (.int k),y6,y7,y8] H2)->t D [some (.ref a),some (.ref lst),x2,some (.ref lw),some (.ref lc),some (.int k),x6,x7,x8] H1:=by
 have hr1:aZ 1 _:=hr.mono (by decide)
 have hu:_+(0+1)<cLine:=iU hr
 obtain⟨t1,h1,r1⟩:=Qa (P:=P) (w:=w) (K:=K) (mg:=mg) (base:=base) (f:=f) (cdv:=cdv) (A:=A) (outer:=outer) (s:=s) (H:=H) (E:=E) T CC.cell CC.make CC.worth CC.dls CC.ks hr
 refine⟨_,au (bU (PW.pt (gB (cY (bV (aV ir (by rfl) T.isi PyProof.Rows.boot_isinstance (aj (aD aP (pv 3) (pv 5) (fun _ _=>rfl)) (aj (bD (v:= .ref (W 6)) rfl CC.ks.n6 rfl) ak)))))
  (fJ (aY (Qp QF hu) (aO CC.kinds hr1 rfl (aj (aD aP (pv 3) (pv 5) (fun _ _=>rfl)) ak)) (dC ["_law_n"] rfl (cD.free1 (F:=["_law_k"]) (js:=[5]) rfl (by decide+kernel) (by decide+kernel) rfl ⟨rfl,trivial⟩ rfl ⟨⟨rfl,rfl,.inl rfl⟩,trivial⟩) (fV rfl T.range (aj ao ak))
   (fun _=>bz (i:=0) (show[Str.ofString "_law_n",Str.ofString "_law_k"].Nodup by decide+kernel) rfl (Or.inl rfl)) (fun _=>cG) (fun _=>jZ iW (pv 1) (pv 0) (bx _))) (bx _))))) (aB (aW xP)) bc) h1,?_⟩
 intro D H1 x2 x6 x7 x8 k m p S a lst lc lw ns ts k6 m1 m4 ha hL hS ok hC hW rt rw' q
 obtain⟨aw,hw1,hw2⟩:=id hW
 obtain⟨o,dx,ea,ho⟩:=hw2 k k6
 have at_:qT (aw.map V.ref) (k:Int)=some (.ref o):=bZ (by rw[List.getElem?_map,ea];rfl)
 refine⟨_,rfl,_,rfl,lw,_,_,_,rfl,rfl,.of hw1,at_,o,W k,_,dx,_,_,rfl,ho,CC.ks.ic k (by omega),CC.ks.way k k6,_,rfl,dY ?_⟩
 refine⟨_,rfl,_,rfl,lw,_,_,_,rfl,rfl,.of hw1,at_,o,k,dx,_,rfl,by omega,ho,fun r H2 s2 hr2=>?_⟩
 refine⟨6,rfl,by decide,by decide,fun D1 hD1=>?_⟩
 refine iw (lo:=0) (n:=6) (D:=D1) (fun i ys σ H3=>aF H2 H3/\H3 D1=some (.lst ys)/\ys=((List.range i).map fun n=>V.bl (decide (k=n)))/\∃y0,σ=[y0,some (.int k)])
  (by decide) ⟨aF.upd hD1,az,rfl,_,rfl⟩ ?_ ?_ ?_
 .rintro i ys σ H3 _ ⟨u1,u2,u3,_⟩
  exact⟨u2,by rw[u3,List.length_map,List.length_range];exact Nat.le_refl _⟩
 .rintro i ys σ H3 hi ⟨u1,u2,u3,y0,rfl⟩ cc
  refine⟨_,rfl,_,rfl,rfl,u2,u1.updN hD1,az,?_,_,rfl⟩
  rw[u3,List.range_succ,List.map_append]
  congr 2
  refine congrArg V.bl (decide_eq_decide.mpr ⟨fun z=>by have:=V.int.inj z;omega,fun z=>by rw[z];congr 1;omega⟩)
 .rintro ys σ H3 ⟨u1,u2,u3,y0,rfl⟩
  have e:ys=(Tc k).map V.bl:=u3
  have s23:=s2.trans u1
  refine⟨Tc k,Tc k,⟨r,_,rfl,.of (u1 _ _ hr2),pR _⟩,⟨D1,_,rfl,.of u2,by rw[e];exact pR _⟩,_,rfl,jD rfl ?_⟩
  have tt:TT Pt Pw H1 H3:= .of rt rw' s23
  exact r1 D H3 x2 x6 x7 x8 k m p S a lst lc lw ns ts k6 m1 m4 (s23.seq ha) (s23 _ _ hL) (Paired.mapP hS fun _ _ z=>je.same s23 z) ok (s23 _ _ hC) (hW.tt tt) tt.rdy tt.rdyw fun H4 y6 y7 y8 t4=>q H4 y6 y7 y8 (tt.trans t4)
end
end FQ
namespace FQ
open PySem L2 FK
def Ob(K:PySem.W.Frag)(Pt Pw:Addr):Sp:=fun vs H Q _=>∃(a:Addr)(ns:List Int),vs=[.ref a]/\cJ K H a (ns.map V.int)/\H Pt=some (.tbl #[])/\H Pw=some (.tbl #[])/\∀H',Q (.bl true) H'
theorem mQ{H:Hp}{x dx:Addr}{o1 o2:HO}(hx:H x=none)(hd:H dx=none)(ne:dx≠x):aF H (upd (upd H dx o1) x o2):=(aF.upd hd).trans (aF.upd (by rw[aG ne.symm];exact hx))
section
variable {P:Program} {w:World} {K:PySem.W.Frag} {mg:Str->Option Value} {base:Heap} {aL aR C Pt Pw:Addr} {W:Nat->Addr}
theorem Qj{f:Addr}{fd:FuncData}(D:bJ K mg "law" dM ["_law_script"] f fd)(CC:WY P w K mg base C Pt Pw W)(T:Txt K mg aL aR):bH P w K mg base dj 16 f fd ["_law_script"] (Ob K Pt Pw):=by
 refine D.fn.ok nM (fun vs H Q E h=>?_) (fun cdv A outer s H vs Q E hr h=>?_)
 .obtain⟨a,ns,rfl,_⟩:=h
  rfl
 .obtain⟨a,ns,rfl,ha,hPt,hPw,q⟩:=h
  have hr1:aZ 1 _:=hr.mono (by decide)
  have hr2:aZ 2 _:=hr.mono (by decide)
  obtain⟨t0,h0,r0⟩:=PX (P:=P) (w:=w) (K:=K) (mg:=mg) (base:=base) (f:=f) (cdv:=cdv) (A:=A) (outer:=outer) (s:=s) (H:=H) (E:=E) T CC hr
  refine⟨_,au (aN (i:=1) nM.nd rfl (Or.inr rfl) (aO CC.steps hr2 rfl (aj (aO CC.cell hr1 rfl (aj (pv 0) (aj ao ak))) ak)))
   (au (aN (i:=2) nM.nd rfl (Or.inl rfl) (bj iD ao (bj dH (aO CC.cell hr1 rfl (aj (pv 0) (aj ao ak))) ao)))
   (au (aN (i:=3) nM.nd rfl (Or.inl rfl) (cA (aj (nW (CC.mkp 0 (by decide)) rfl CC.ks.n0) (aj (nW (CC.mkp 1 (by decide)) rfl CC.ks.n1) (aj (nW (CC.mkp 2 (by decide)) rfl CC.ks.n2) (aj (nW (CC.mkp 3 (by decide)) rfl CC.ks.n3) (aj (nW (CC.mkp 4 (by decide)) rfl CC.ks.n4) (aj (nW (CC.mkp 5 (by decide)) rfl CC.ks.n5) ak))))))))
   (au (aN (i:=4) nM.nd rfl (Or.inr rfl) (cA (aj ao (aj (pv 2) (aj (pv 2) (aj ao (aj ao (aj (pv 2) ak))))))))
   (au (dB PassesOwn.never rfl (fV rfl T.range (aj ao ak)) (bz (i:=5) nM.nd rfl (Or.inr rfl)) h0)
   (aB (aW (tu (aV (wU rfl) (by rfl) T.any PyProof.Rows.boot_any (aj (aO CC.kinds hr1 rfl (aj (nW (CC.mkp 6 (by decide)) rfl CC.ks.n6) ak)) ak))))))))),?_⟩
  have rt:oG Pt H:=⟨_,hPt,trivial,.inl rfl⟩
  have rw':Ai Pw H:=⟨_,hPw,trivial,.inl rfl⟩
  refine⟨_,rfl,a,ns,0,rfl,ha,_,rfl,fun ls ts p S H1 s1 hls hL hS ok=>?_⟩
  refine⟨_,rfl,a,ns,1,rfl,s1.seq ha,_,_,rfl,rfl,(by show(0:Int)<4;decide),_,_,rfl,rfl,?_⟩
  generalize ns.getD 1 0=c1
  obtain⟨m,hm,m1,m4⟩:∃m:Nat,1+c1%4=(m:Int)/\1<=m/\m<=4:=⟨(1+c1%4).toNat,by omega,by omega,by omega⟩
  show xg 2 (V.int (1+c1%4)) _ _ _
  rw[hm]
  refine fun a0 d0 ha0 hd0 n0=>?_
  have s0':=mQ (o1:= .own a0) (o2:= .ins (W 0) d0 []) ha0 hd0 n0
  have o0:(upd (upd H1 d0 (.own a0)) a0 (.ins (W 0) d0 [])) a0=some (.ins (W 0) d0 []):=az
  generalize (upd (upd H1 d0 (.own a0)) a0 (.ins (W 0) d0 []))=G1 at s0' o0
  refine fun a1 d1 ha1 hd1 n1=>?_
  have s1':=mQ (o1:= .own a1) (o2:= .ins (W 1) d1 []) ha1 hd1 n1
  have o1:(upd (upd G1 d1 (.own a1)) a1 (.ins (W 1) d1 [])) a1=some (.ins (W 1) d1 []):=az
  generalize (upd (upd G1 d1 (.own a1)) a1 (.ins (W 1) d1 []))=G2 at s1' o1
  refine fun a2 d2 ha2 hd2 n2=>?_
  have s2':=mQ (o1:= .own a2) (o2:= .ins (W 2) d2 []) ha2 hd2 n2
  have o2:(upd (upd G2 d2 (.own a2)) a2 (.ins (W 2) d2 [])) a2=some (.ins (W 2) d2 []):=az
  generalize (upd (upd G2 d2 (.own a2)) a2 (.ins (W 2) d2 []))=G3 at s2' o2
  refine fun a3 d3 ha3 hd3 n3=>?_
  have s3':=mQ (o1:= .own a3) (o2:= .ins (W 3) d3 []) ha3 hd3 n3
  have o3:(upd (upd G3 d3 (.own a3)) a3 (.ins (W 3) d3 [])) a3=some (.ins (W 3) d3 []):=az
  generalize (upd (upd G3 d3 (.own a3)) a3 (.ins (W 3) d3 []))=G4 at s3' o3
  refine fun a4 d4 ha4 hd4 n4=>?_
  have s4':=mQ (o1:= .own a4) (o2:= .ins (W 4) d4 []) ha4 hd4 n4
  have o4:(upd (upd G4 d4 (.own a4)) a4 (.ins (W 4) d4 [])) a4=some (.ins (W 4) d4 []):=az
  generalize (upd (upd G4 d4 (.own a4)) a4 (.ins (W 4) d4 []))=G5 at s4' o4
  refine fun a5 d5 ha5 hd5 n5=>?_
  have s5':=mQ (o1:= .own a5) (o2:= .ins (W 5) d5 []) ha5 hd5 n5
  have o5:(upd (upd G5 d5 (.own a5)) a5 (.ins (W 5) d5 [])) a5=some (.ins (W 5) d5 []):=az
  generalize (upd (upd G5 d5 (.own a5)) a5 (.ins (W 5) d5 []))=G6 at s5' o5
  have g5:=s5'
  have g4:=s4'.trans g5
  have g3:=s3'.trans g4
  have g2:=s2'.trans g3
  have g1:=s1'.trans g2
  have g0:=s0'.trans g1
  refine⟨(by show 6<=sizeLine;decide),fun lw hlw=>?_⟩
  have sw:=aF.upd (o:= .lst [.ref a0,.ref a1,.ref a2,.ref a3,.ref a4,.ref a5]) hlw
  have hW:yG W (upd G6 lw (.lst [.ref a0,.ref a1,.ref a2,.ref a3,.ref a4,.ref a5])) lw:=by
   refine⟨[a0,a1,a2,a3,a4,a5],az,fun k hk=>?_⟩
   have:k=0\/k=1\/k=2\/k=3\/k=4\/k=5:=by omega
   rcases this with rfl|rfl|rfl|rfl|rfl|rfl
   .exact⟨a0,d0,rfl,sw _ _ (g1 _ _ o0)⟩
   .exact⟨a1,d1,rfl,sw _ _ (g2 _ _ o1)⟩
   .exact⟨a2,d2,rfl,sw _ _ (g3 _ _ o2)⟩
   .exact⟨a3,d3,rfl,sw _ _ (g4 _ _ o3)⟩
   .exact⟨a4,d4,rfl,sw _ _ (g5 _ _ o4)⟩
   .exact⟨a5,d5,rfl,sw _ _ o5⟩
  refine⟨_,rfl,_,rfl,_,rfl,(by show 6<=sizeLine;decide),fun lc hlc=>?_⟩
  have sc:=aF.upd (o:= .lst [.int 2,.int m,.int m,.int 3,.int 2,.int m]) hlc
  have gs:=g0.trans (sw.trans sc)
  have tt0:TT Pt Pw H (upd (upd G6 lw (.lst [.ref a0,.ref a1,.ref a2,.ref a3,.ref a4,.ref a5])) lc (.lst [.int 2,.int m,.int m,.int 3,.int 2,.int m])):= .of rt rw' (s1.trans gs)
  have ttW:TT Pt Pw (upd G6 lw (.lst [.ref a0,.ref a1,.ref a2,.ref a3,.ref a4,.ref a5])) (upd (upd G6 lw (.lst [.ref a0,.ref a1,.ref a2,.ref a3,.ref a4,.ref a5])) lc (.lst [.int 2,.int m,.int m,.int 3,.int 2,.int m])):= .of (dI rt (s1.trans (g0.trans sw))) (dI rw' (s1.trans (g0.trans sw))) sc
  have hW2:=hW.tt ttW
  have hC2:(upd (upd G6 lw (.lst [.ref a0,.ref a1,.ref a2,.ref a3,.ref a4,.ref a5])) lc (.lst [.int 2,.int m,.int m,.int 3,.int 2,.int m])) lc=some (.lst (Dh m)):=az
  have hL2:=gs _ _ hL
  have hS2:=Paired.mapP hS fun _ _ z=>je.same gs z
  have ha2:=(s1.trans gs).seq ha
  generalize (upd (upd G6 lw (.lst [.ref a0,.ref a1,.ref a2,.ref a3,.ref a4,.ref a5])) lc (.lst [.int 2,.int m,.int m,.int 3,.int 2,.int m]))=H2 at tt0 hW2 hC2 hL2 hS2 ha2
  refine⟨6,rfl,by decide,by decide,?_⟩
  refine jC (lo:=0) (n:=6) (fun i σ H3=>TT Pt Pw H2 H3/\∃y5 y6 y7 y8,σ=[some (.ref a),some (.ref ls),some (.int m),some (.ref lw),some (.ref lc),y5,y6,y7,y8]) ⟨.of tt0.rdy tt0.rdyw (.refl _),_,_,_,_,rfl⟩ ?_ ?_
  .rintro i σ H3 hi ⟨tt,y5,y6,y7,y8,rfl⟩
   show t0 _ [some (.ref a),some (.ref ls),some (.int m),some (.ref lw),some (.ref lc),some (.int (0+(i:Int))),y6,y7,y8] H3
   rw[Int.zero_add]
   exact r0 _ H3 _ y6 y7 y8 i m p S a ls lc lw ns ts hi m1 m4 (tt.sqL ha2) (tt.lst hL2) (Paired.mapP hS2 fun _ _ z=>je.keep tt.keep z) ok (tt.lst hC2) (hW2.tt tt) tt.rdy tt.rdyw fun H4 z6 z7 z8 t4=>⟨tt.trans t4,_,_,_,_,rfl⟩
  .rintro σ H3 ⟨tt,y5,y6,y7,y8,rfl⟩
   refine fun a6 d6 ha6 hd6 n6=>?_
   refine⟨a6,6,d6,_,rfl,by decide,az,fun r H4 s4 hr4=>?_⟩
   exact⟨r,Tc 6,rfl,.of hr4,false,rfl,q _⟩
end
end FQ
namespace FQ
open PySem PyProof.Rows L2 FK
section
variable {p:List Value->Prop}
theorem Xo(h:p [])(u:List Value)(e:u.length=0):p u:=by
 cases List.length_eq_zero_iff.mp e
 exact h
theorem wN(h:∀a,p [a])(u:List Value)(e:u.length=1):p u:=by
 cases u with
 |nil=>cases e
 |cons a u=>exact Xo (p:=fun u=>p (a::u)) (h a) u (Nat.succ.inj e)
theorem kZ(h:∀a b,p [a,b])(u:List Value)(e:u.length=2):p u:=by
 cases u with
 |nil=>cases e
 |cons a u=>exact wN (p:=fun u=>p (a::u)) (h a) u (Nat.succ.inj e)
theorem Oi(h:∀a b c,p [a,b,c])(u:List Value)(e:u.length=3):p u:=by
 cases u with
 |nil=>cases e
 |cons a u=>exact kZ (p:=fun u=>p (a::u)) (h a) u (Nat.succ.inj e)
theorem Xp(h:∀a b c d,p [a,b,c,d])(u:List Value)(e:u.length=4):p u:=by
 cases u with
 |nil=>cases e
 |cons a u=>exact Oi (p:=fun u=>p (a::u)) (h a) u (Nat.succ.inj e)
end
theorem Jl{K:PySem.W.Frag}{x:Str}{f c P:Addr}{o1 o2:Value}{d1 d2:Option Addr}{s1 s2:Array (Option Value)}{fd:FuncData}{vs:Array Value}(a:PySem.W.nsIn K mainGlobals x=some (some (.ref f)))(l:K.lookup f=some ⟨o1,d1,.func fd,s1⟩)(hc:fd.code= .ref c)
  (t:K.lookup c=some ⟨o2,d2,.fields vs,s2⟩)(u:(vs[11]? :Option Value)=some (.ref P)):PySem.W.tabIn K x=some (c,P):=by
 unfold PySem.W.tabIn
 simp only[a,l,hc,t,u]
abbrev gR(K:PySem.W.Frag)(x:Str)(st:Stmt):Prop:=∃(f:Addr)(od an:Option Addr)(sl:Array (Option Value))(oc kV dc pm cd ct:Value),PySem.W.nsIn K mainGlobals x=some (some (.ref f))/\K.lookup f=some ⟨oc,od,.func (PySem.W.fnOf x x (du st) (bK st) (aJ st) .none kV dc pm an cd ct),sl⟩/\PySem.W.codeIn K cd x=true/\PySem.W.keepIn K (.ref f)=true
abbrev yu(K:PySem.W.Frag)(C:Addr)(x qual:Str)(st:Stmt):Prop:=∃(f:Addr)(od an:Option Addr)(sl:Array (Option Value))(oc kV dc pm cd ct:Value),PySem.W.findIn K (.ref C) x=some (some (.ref f))/\K.lookup f=some ⟨oc,od,.func (PySem.W.fnOf x qual (du st) (bK st) (aJ st) .none kV dc pm an cd ct),sl⟩/\PySem.W.codeIn K cd qual=true/\PySem.W.keepIn K (.ref f)=true/\PySem.W.isFn K (.ref f)=true
section
variable {K:PySem.W.Frag} {x qual:Str} {st:Stmt} {C f:Addr} {od an:Option Addr} {sl:Array (Option Value)} {oc kV dc pm cd ct:Value}
theorem Xz(a:PySem.W.nsIn K mainGlobals x=some (some (.ref f)))(l:K.lookup f=some ⟨oc,od,.func (PySem.W.fnOf x x (du st) (bK st) (aJ st) .none kV dc pm an cd ct),sl⟩)(c:PySem.W.codeIn K cd x=true)(k:PySem.W.keepIn K (.ref f)=true):gR K x st:=⟨f,od,an,sl,oc,kV,dc,pm,cd,ct,a,l,c,k⟩
theorem XS(a:PySem.W.findIn K (.ref C) x=some (some (.ref f)))(l:K.lookup f=some ⟨oc,od,.func (PySem.W.fnOf x qual (du st) (bK st) (aJ st) .none kV dc pm an cd ct),sl⟩)(c:PySem.W.codeIn K cd qual=true)(k:PySem.W.keepIn K (.ref f)=true)(i:PySem.W.isFn K (.ref f)=true):yu K C x qual st:=⟨f,od,an,sl,oc,kV,dc,pm,cd,ct,a,l,c,k,i⟩
theorem gR.d{h:Heap}{mg:Str->Option Value}(d:gR K x st)(X:K.In h)(G:h.Ns mainGlobals mg)(ps:List Str)(b:∀(kV doc pm:Value)(an:Option Addr)(cdv ct:Value)(us:List Value),us.length=ps.length->bindArgs (PySem.W.fnOf x x (du st) (bK st) (aJ st) .none kV doc pm an cdv ct) ⟨us,[]⟩=pure (ps.zip us)):∃f fd,bJ K mg x st ps f fd:=by
 obtain⟨f,od,an,sl,oc,kV,dc,pm,cd,ct,a,l,c,k⟩:=d
 have F:=sI (st:=st) l c k
 exact⟨_,_,F,PySem.W.mg_of X G a,F.binds b⟩
theorem yu.d(d:yu K C x qual st)(ps:List Str)(b:∀(kV doc pm:Value)(an:Option Addr)(cdv ct:Value)(us:List Value),us.length=ps.length->bindArgs (PySem.W.fnOf x qual (du st) (bK st) (aJ st) .none kV doc pm an cdv ct) ⟨us,[]⟩=pure (ps.zip us)):∃f fd,tZ K x qual st f fd/\Binds K fd ps []/\Meth K C x f:=by
 obtain⟨f,od,an,sl,oc,kV,dc,pm,cd,ct,a,l,c,k,i⟩:=d
 have F:=sI (st:=st) l c k
 exact⟨_,_,F,F.binds b,a,i,k⟩
end
theorem Pb{l:PySem.W.OpenLaw}{q:Program}{w:World}{K:PySem.W.Frag}{h:Heap}{mg:Str->Option Value}{fa:Addr}(X:K.In h)(G:h.Ns mainGlobals mg)(hfa:mg "law"=some (.ref fa))
  {f19:Addr}{od19 an19:Option Addr}{sl19:Array (Option Value)}{oc19 kV19 dc19 pm19 ct19:Value}
  {q19 p19:Addr}{oq19:Value}{dq19:Option Addr}{sq19:Array (Option Value)}{vs19:Array Value}{e19:DefRec}
  {f25:Addr}{od25 an25:Option Addr}{sl25:Array (Option Value)}{oc25 kV25 dc25 pm25 ct25:Value}
  {q25 p25:Addr}{oq25:Value}{dq25:Option Addr}{sq25:Array (Option Value)}{vs25:Array Value}{e25:DefRec}
  {f49:Addr}{od49 an49:Option Addr}{sl49:Array (Option Value)}{oc49 kV49 dc49 pm49 cd49 ct49:Value}
  {C:Addr}
  {W0:Addr}
  {W1:Addr}
  {W2:Addr}
  {W3:Addr}
  {W4:Addr}
  {W5:Addr}
  {W6:Addr}
  {aL aR:Addr}{odL odR:Option Addr}{tL uL tR uR t8 t1 t2:Tok}{nL nR:Nat}{slL slR:Array (Option Value)}
  {aH:Addr}{odH:Option Addr}{tH uH:Tok}{nH:Nat}{slH:Array (Option Value)}
  {aS aS0 aS1:Addr}{odS od0 odq:Option Addr}{t0 u0 t1q u1:Tok}{nS n0 n1:Nat}{slS sl0 sl1q:Array (Option Value)}
  (a19:PySem.W.nsIn K mainGlobals "ranked"=some (some (.ref f19)))
  (l19:K.lookup f19=some ⟨oc19,od19,.func (PySem.W.fnOf "ranked" "ranked" (du dN) (bK dN) (aJ dN) .none kV19 dc19 pm19 an19 (.ref q19) ct19),sl19⟩)(c19:PySem.W.codeIn K (.ref q19) "ranked"=true)(k19:PySem.W.keepIn K (.ref f19)=true)
  (t19:K.lookup q19=some ⟨oq19,dq19,.fields vs19,sq19⟩)(u19:(vs19[11]? :Option Value)=some (.ref p19))(r19:(recsOf q).find? (fun e=>e.name==("ranked":Str))=some e19)
  (a25:PySem.W.nsIn K mainGlobals "without"=some (some (.ref f25)))
  (l25:K.lookup f25=some ⟨oc25,od25,.func (PySem.W.fnOf "without" "without" (du bA) (bK bA) (aJ bA) .none kV25 dc25 pm25 an25 (.ref q25) ct25),sl25⟩)(c25:PySem.W.codeIn K (.ref q25) "without"=true)(k25:PySem.W.keepIn K (.ref f25)=true)
  (t25:K.lookup q25=some ⟨oq25,dq25,.fields vs25,sq25⟩)(u25:(vs25[11]? :Option Value)=some (.ref p25))(r25:(recsOf q).find? (fun e=>e.name==("without":Str))=some e25)
  (a49:PySem.W.nsIn K mainGlobals "law"=some (some (.ref f49)))
  (l49:K.lookup f49=some ⟨oc49,od49,.func (PySem.W.fnOf "law" "law" (du dM) (bK dM) (aJ dM) .none kV49 dc49 pm49 an49 cd49 ct49),sl49⟩)(c49:PySem.W.codeIn K cd49 "law"=true)(k49:PySem.W.keepIn K (.ref f49)=true)
  (hd:gR K "is_whole" ou/\gR K "greatest_divisor" fB/\gR K "is_fraction" jx/\gR K "made" zJ/\gR K "plus" zM/\gR K "minus" wk/\gR K "times" wu/\gR K "over" zK/\gR K "below" wj/\gR K "apart" vZ/\gR K "reaches" jG/\gR K "crossing" oh/\gR K "reached" qz/\gR K "is_span" qw/\gR K "check_piece" jt/\gR K "check_step" kI/\gR K "check_steps" jw/\gR K "worth_line" kJ/\gR K "parted" tK/\gR K "whole" wy/\gR K "turns" ww/\gR K "nearest" qy/\gR K "combined" dJ/\gR K "check_tastes" iJ/\gR K "check_takers" iI/\gR K "mark_within" jy/\gR K "least_mark_spans" cH/\gR K "give_by_halves" bQ/\gR K "in_thirds" mG/\gR K "dearest" qu/\gR K "take_dearest" iM/\gR K "trimmed" qC/\gR K "deal_without_envy" cO/\gR K "half_line" fC/\gR K "next_end_line" gJ/\gR K "common_worth" iK/\gR K "_law_cell_at" iH/\gR K "_law_mixed" km/\gR K "_law_low" nY/\gR K "_law_less" mF/\gR K "_law_sum" nZ/\gR K "_law_left" mD/\gR K "_law_steps_by" bO/\gR K "_law_area" cW/\gR K "_law_worth" kE/\gR K "_law_kinds" kj/\True)
  (d19_25:p19≠p25)
  (nt:PySem.W.noTabs K=true)
  (aC:PySem.W.nsIn K mainGlobals "Taste"=some (some (.ref C)))
  (pgC:PySem.W.plainGet K C Str.empty=true)
  (hdC:PySem.W.hasDictIn K C=true)
  (poC:PySem.W.plainOver K C=true)
  (saC:PySem.W.findIn K (.ref C) "__setattr__"=some (some (.builtin "object.__setattr__")))
  (mkC:PySem.W.makesIn K C=true)
  (kcC:PySem.W.keepIn K (.ref C)=true)
  (nCtold:PySem.W.findIn K (.ref C) "told"=some none)
  (nCline:PySem.W.findIn K (.ref C) "line"=some none)
  (aW0:PySem.W.nsIn K mainGlobals "Choose"=some (some (.ref W0)))
  (pgW0:PySem.W.plainGet K W0 Str.empty=true)
  (hdW0:PySem.W.hasDictIn K W0=true)
  (poW0:PySem.W.plainOver K W0=true)
  (saW0:PySem.W.findIn K (.ref W0) "__setattr__"=some (some (.builtin "object.__setattr__")))
  (mkW0:PySem.W.makesIn K W0=true)
  (kcW0:PySem.W.keepIn K (.ref W0)=true)
  (aW1:PySem.W.nsIn K mainGlobals "Last"=some (some (.ref W1)))
  (pgW1:PySem.W.plainGet K W1 Str.empty=true)
  (hdW1:PySem.W.hasDictIn K W1=true)
  (poW1:PySem.W.plainOver K W1=true)
  (saW1:PySem.W.findIn K (.ref W1) "__setattr__"=some (some (.builtin "object.__setattr__")))
  (mkW1:PySem.W.makesIn K W1=true)
  (kcW1:PySem.W.keepIn K (.ref W1)=true)
  (aW2:PySem.W.nsIn K mainGlobals "Halves"=some (some (.ref W2)))
  (pgW2:PySem.W.plainGet K W2 Str.empty=true)
  (hdW2:PySem.W.hasDictIn K W2=true)
  (poW2:PySem.W.plainOver K W2=true)
  (saW2:PySem.W.findIn K (.ref W2) "__setattr__"=some (some (.builtin "object.__setattr__")))
  (mkW2:PySem.W.makesIn K W2=true)
  (kcW2:PySem.W.keepIn K (.ref W2)=true)
  (aW3:PySem.W.nsIn K mainGlobals "Three"=some (some (.ref W3)))
  (pgW3:PySem.W.plainGet K W3 Str.empty=true)
  (hdW3:PySem.W.hasDictIn K W3=true)
  (poW3:PySem.W.plainOver K W3=true)
  (saW3:PySem.W.findIn K (.ref W3) "__setattr__"=some (some (.builtin "object.__setattr__")))
  (mkW3:PySem.W.makesIn K W3=true)
  (kcW3:PySem.W.keepIn K (.ref W3)=true)
  (aW4:PySem.W.nsIn K mainGlobals "Even"=some (some (.ref W4)))
  (pgW4:PySem.W.plainGet K W4 Str.empty=true)
  (hdW4:PySem.W.hasDictIn K W4=true)
  (poW4:PySem.W.plainOver K W4=true)
  (saW4:PySem.W.findIn K (.ref W4) "__setattr__"=some (some (.builtin "object.__setattr__")))
  (mkW4:PySem.W.makesIn K W4=true)
  (kcW4:PySem.W.keepIn K (.ref W4)=true)
  (aW5:PySem.W.nsIn K mainGlobals "Alike"=some (some (.ref W5)))
  (pgW5:PySem.W.plainGet K W5 Str.empty=true)
  (hdW5:PySem.W.hasDictIn K W5=true)
  (poW5:PySem.W.plainOver K W5=true)
  (saW5:PySem.W.findIn K (.ref W5) "__setattr__"=some (some (.builtin "object.__setattr__")))
  (mkW5:PySem.W.makesIn K W5=true)
  (kcW5:PySem.W.keepIn K (.ref W5)=true)
  (aW6:PySem.W.nsIn K mainGlobals "Way"=some (some (.ref W6)))
  (pgW6:PySem.W.plainGet K W6 Str.empty=true)
  (hdW6:PySem.W.hasDictIn K W6=true)
  (poW6:PySem.W.plainOver K W6=true)
  (saW6:PySem.W.findIn K (.ref W6) "__setattr__"=some (some (.builtin "object.__setattr__")))
  (mkW6:PySem.W.makesIn K W6=true)
  (kcW6:PySem.W.keepIn K (.ref W6)=true)
  (hms:yu K C "__init__" "Taste.__init__" fQ/\yu K C "corners" "Taste.corners" gH/\yu K C "worth_up_to" "Taste.worth_up_to" eO/\yu K C "point_at" "Taste.point_at" fU/\yu K C "span_worth" "Taste.span_worth" fj/\yu K C "worth" "Taste.worth" jq/\yu K C "mark" "Taste.mark" jV/\yu K W0 "deal" "Choose.deal" jn/\yu K W1 "deal" "Last.deal" lQ/\yu K W2 "deal" "Halves.deal" jo/\yu K W3 "deal" "Three.deal" jW/\yu K W4 "deal" "Even.deal" lO/\yu K W5 "deal" "Alike.deal" jU/\True)
  (z1:PySem.W.nsIn K mainGlobals "isinstance"=some none)
  (z2:PySem.W.nsIn K mainGlobals "int"=some none)
  (z3:PySem.W.nsIn K mainGlobals "bool"=some none)
  (z4:PySem.W.nsIn K mainGlobals "tuple"=some none)
  (z5:PySem.W.nsIn K mainGlobals "list"=some none)
  (z6:PySem.W.nsIn K mainGlobals "len"=some none)
  (z7:PySem.W.nsIn K mainGlobals "range"=some none)
  (z8:PySem.W.nsIn K mainGlobals "zip"=some none)
  (z9:PySem.W.nsIn K mainGlobals "sorted"=some none)
  (z10:PySem.W.nsIn K mainGlobals "any"=some none)
  (z11:PySem.W.nsIn K mainGlobals "enumerate"=some none)
  (z12:PySem.W.nsIn K mainGlobals "reversed"=some none)
  (eL:PySem.W.nsIn K mainGlobals "LEFT_END"=some (some (.ref aL)))
  (eLo:K.lookup aL=some ⟨.type "tuple",odL,.seq #[.int 0 tL,.int 1 uL] nL,slL⟩)
  (eR:PySem.W.nsIn K mainGlobals "RIGHT_END"=some (some (.ref aR)))
  (eRo:K.lookup aR=some ⟨.type "tuple",odR,.seq #[.int 1 tR,.int 1 uR] nR,slR⟩)
  (e8:PySem.W.nsIn K mainGlobals "MOST_STEPS"=some (some (.int 8 t8)))
  (e1:PySem.W.nsIn K mainGlobals "GREATEST_SECOND_NUMBER"=some (some (.int 1000 t1)))
  (e2:PySem.W.nsIn K mainGlobals "GREATEST_WEIGHT"=some (some (.int 1000 t2)))
  (haC:PySem.W.findIn K (.ref C) "__class__"=some (some (.builtin "object.__class__")))
  (hnC:PySem.W.specialIn K (.builtin "object.__class__") "__get__"=some (some (.builtin "getset_descriptor.__get__")))
  (htC:PySem.W.takesIn K (.builtin "object.__class__")=some true)
  (hmC:PySem.W.mroIn K C (.type "object")=some true)
  (eH:PySem.W.nsIn K mainGlobals "HALF"=some (some (.ref aH)))
  (eHo:K.lookup aH=some ⟨.type "tuple",odH,.seq #[.int 1 tH,.int 2 uH] nH,slH⟩)
  (oiW0:PySem.W.findIn K (.ref W0) "__init__"=some (some (.builtin "object.__init__")))
  (haW0:PySem.W.findIn K (.ref W0) "__class__"=some (some (.builtin "object.__class__")))
  (hmW0:PySem.W.mroIn K W0 (.type "object")=some true)
  (q0_0:PySem.W.kitOne K (.ref W0) (.ref W0)=some true)
  (q0_1:PySem.W.kitOne K (.ref W0) (.ref W1)=some false)
  (q0_2:PySem.W.kitOne K (.ref W0) (.ref W2)=some false)
  (q0_3:PySem.W.kitOne K (.ref W0) (.ref W3)=some false)
  (q0_4:PySem.W.kitOne K (.ref W0) (.ref W4)=some false)
  (q0_5:PySem.W.kitOne K (.ref W0) (.ref W5)=some false)
  (q0_6:PySem.W.kitOne K (.ref W0) (.ref W6)=some true)
  (oiW1:PySem.W.findIn K (.ref W1) "__init__"=some (some (.builtin "object.__init__")))
  (haW1:PySem.W.findIn K (.ref W1) "__class__"=some (some (.builtin "object.__class__")))
  (hmW1:PySem.W.mroIn K W1 (.type "object")=some true)
  (q1_0:PySem.W.kitOne K (.ref W1) (.ref W0)=some false)
  (q1_1:PySem.W.kitOne K (.ref W1) (.ref W1)=some true)
  (q1_2:PySem.W.kitOne K (.ref W1) (.ref W2)=some false)
  (q1_3:PySem.W.kitOne K (.ref W1) (.ref W3)=some false)
  (q1_4:PySem.W.kitOne K (.ref W1) (.ref W4)=some false)
  (q1_5:PySem.W.kitOne K (.ref W1) (.ref W5)=some false)
  (q1_6:PySem.W.kitOne K (.ref W1) (.ref W6)=some true)
  (oiW2:PySem.W.findIn K (.ref W2) "__init__"=some (some (.builtin "object.__init__")))
  (haW2:PySem.W.findIn K (.ref W2) "__class__"=some (some (.builtin "object.__class__")))
  (hmW2:PySem.W.mroIn K W2 (.type "object")=some true)
  (q2_0:PySem.W.kitOne K (.ref W2) (.ref W0)=some false)
  (q2_1:PySem.W.kitOne K (.ref W2) (.ref W1)=some false)
  (q2_2:PySem.W.kitOne K (.ref W2) (.ref W2)=some true)
  (q2_3:PySem.W.kitOne K (.ref W2) (.ref W3)=some false)
  (q2_4:PySem.W.kitOne K (.ref W2) (.ref W4)=some false)
  (q2_5:PySem.W.kitOne K (.ref W2) (.ref W5)=some false)
  (q2_6:PySem.W.kitOne K (.ref W2) (.ref W6)=some true)
  (oiW3:PySem.W.findIn K (.ref W3) "__init__"=some (some (.builtin "object.__init__")))
  (haW3:PySem.W.findIn K (.ref W3) "__class__"=some (some (.builtin "object.__class__")))
  (hmW3:PySem.W.mroIn K W3 (.type "object")=some true)
  (q3_0:PySem.W.kitOne K (.ref W3) (.ref W0)=some false)
  (q3_1:PySem.W.kitOne K (.ref W3) (.ref W1)=some false)
  (q3_2:PySem.W.kitOne K (.ref W3) (.ref W2)=some false)
  (q3_3:PySem.W.kitOne K (.ref W3) (.ref W3)=some true)
  (q3_4:PySem.W.kitOne K (.ref W3) (.ref W4)=some false)
  (q3_5:PySem.W.kitOne K (.ref W3) (.ref W5)=some false)
  (q3_6:PySem.W.kitOne K (.ref W3) (.ref W6)=some true)
  (oiW4:PySem.W.findIn K (.ref W4) "__init__"=some (some (.builtin "object.__init__")))
  (haW4:PySem.W.findIn K (.ref W4) "__class__"=some (some (.builtin "object.__class__")))
  (hmW4:PySem.W.mroIn K W4 (.type "object")=some true)
  (q4_0:PySem.W.kitOne K (.ref W4) (.ref W0)=some false)
  (q4_1:PySem.W.kitOne K (.ref W4) (.ref W1)=some false)
  (q4_2:PySem.W.kitOne K (.ref W4) (.ref W2)=some false)
  (q4_3:PySem.W.kitOne K (.ref W4) (.ref W3)=some false)
  (q4_4:PySem.W.kitOne K (.ref W4) (.ref W4)=some true)
  (q4_5:PySem.W.kitOne K (.ref W4) (.ref W5)=some false)
  (q4_6:PySem.W.kitOne K (.ref W4) (.ref W6)=some true)
  (oiW5:PySem.W.findIn K (.ref W5) "__init__"=some (some (.builtin "object.__init__")))
  (haW5:PySem.W.findIn K (.ref W5) "__class__"=some (some (.builtin "object.__class__")))
  (hmW5:PySem.W.mroIn K W5 (.type "object")=some true)
  (q5_0:PySem.W.kitOne K (.ref W5) (.ref W0)=some false)
  (q5_1:PySem.W.kitOne K (.ref W5) (.ref W1)=some false)
  (q5_2:PySem.W.kitOne K (.ref W5) (.ref W2)=some false)
  (q5_3:PySem.W.kitOne K (.ref W5) (.ref W3)=some false)
  (q5_4:PySem.W.kitOne K (.ref W5) (.ref W4)=some false)
  (q5_5:PySem.W.kitOne K (.ref W5) (.ref W5)=some true)
  (q5_6:PySem.W.kitOne K (.ref W5) (.ref W6)=some true)
  (oiW6:PySem.W.findIn K (.ref W6) "__init__"=some (some (.builtin "object.__init__")))
  (haW6:PySem.W.findIn K (.ref W6) "__class__"=some (some (.builtin "object.__class__")))
  (hmW6:PySem.W.mroIn K W6 (.type "object")=some true)
  (q6_0:PySem.W.kitOne K (.ref W6) (.ref W0)=some false)
  (q6_1:PySem.W.kitOne K (.ref W6) (.ref W1)=some false)
  (q6_2:PySem.W.kitOne K (.ref W6) (.ref W2)=some false)
  (q6_3:PySem.W.kitOne K (.ref W6) (.ref W3)=some false)
  (q6_4:PySem.W.kitOne K (.ref W6) (.ref W4)=some false)
  (q6_5:PySem.W.kitOne K (.ref W6) (.ref W5)=some false)
  (eS:PySem.W.nsIn K mainGlobals "CAKE_SPAN"=some (some (.ref aS)))
  (eSo:K.lookup aS=some ⟨.type "tuple",odS,.seq #[.ref aS0,.ref aS1] nS,slS⟩)
  (eS0:K.lookup aS0=some ⟨.type "tuple",od0,.seq #[.int 0 t0,.int 1 u0] n0,sl0⟩)
  (eS1:K.lookup aS1=some ⟨.type "tuple",odq,.seq #[.int 1 t1q,.int 1 u1] n1,sl1q⟩):
  ∃(tabs:List (Addr×Addr))(fd:FuncData)(sp:Sp),(∀t∈tabs,∃(y:Str)(e:DefRec),(recsOf q).find? (fun e=>e.name==y)=some e/\PySem.W.tabIn K y=some t)/\PySem.W.noTabs K=true/\(∀(s:Shared)(u:Value),BindsTo s fd ⟨[u],[]⟩ [("_law_script",u)])/\
    (∀base:Heap,K.In base->base.Ns mainGlobals mg->BM mg base->(∀t∈tabs,PySem.W.CodeHd base t.1 t.2)->bH l.prog w K mg base dj 16 fa fd ["_law_script"] sp)/\
    ∀(H:Hp)(a:Addr)(ns:List Int),ns.length<=63->cJ K H a (ns.map V.int)->(∀t∈tabs,H t.2=some (.tbl #[]))->sp [.ref a] H (fun v _=>v= .bl true) E0:=by
 have e:=hfa.symm.trans (PySem.W.mg_of X G a49)
 cases e
 have T:Txt K mg aL aR:=⟨PySem.W.mg_none_of X G z1,PySem.W.mg_none_of X G z2,PySem.W.mg_none_of X G z3,PySem.W.mg_none_of X G z4,PySem.W.mg_none_of X G z5,PySem.W.mg_none_of X G z6,PySem.W.mg_none_of X G z7,PySem.W.mg_none_of X G z8,PySem.W.mg_none_of X G z9,PySem.W.mg_none_of X G z10,PySem.W.mg_none_of X G z11,PySem.W.mg_none_of X G z12,PySem.W.mg_of X G eL,Ra eLo,PySem.W.mg_of X G eR,Ra eRo⟩
 have F19:=sI (st:=dN) l19 c19 k19
 have D_ranked:bJ K mg "ranked" dN ["those"] _ _:=⟨F19,PySem.W.mg_of X G a19,F19.binds (ps:=["those"]) fun _ _ _ _ _ _=>wN fun _=>rfl⟩
 have F25:=sI (st:=bA) l25 c25 k25
 have D_without:bJ K mg "without" bA ["one","other"] _ _:=⟨F25,PySem.W.mg_of X G a25,F25.binds (ps:=["one","other"]) fun _ _ _ _ _ _=>kZ fun _ _=>rfl⟩
 have F49:=sI (st:=dM) l49 c49 k49
 have D_law:bJ K mg "law" dM ["_law_script"] _ _:=⟨F49,PySem.W.mg_of X G a49,F49.binds (ps:=["_law_script"]) fun _ _ _ _ _ _=>wN fun _=>rfl⟩
 obtain⟨h1,h2,h3,h4,h5,h6,h7,h8,h9,h10,h11,h12,h13,h14,h15,h16,h17,h18,h20,h21,h22,h23,h24,h26,h27,h28,h29,h30,h31,h32,h33,h34,h35,h36,h37,h38,h39,h40,h41,h42,h43,h44,h45,h46,h47,h48,_⟩:=hd
 obtain⟨j0,j1,j2,j3,j4,j5,j6,j7,j8,j9,j10,j11,j12,_⟩:=hms
 obtain⟨_,_,D_is_whole⟩:=h1.d X G ["thing"] fun _ _ _ _ _ _=>wN fun _=>rfl
 obtain⟨_,_,D_greatest_divisor⟩:=h2.d X G ["a","b"] fun _ _ _ _ _ _=>kZ fun _ _=>rfl
 obtain⟨_,_,D_is_fraction⟩:=h3.d X G ["thing"] fun _ _ _ _ _ _=>wN fun _=>rfl
 obtain⟨_,_,D_made⟩:=h4.d X G ["a","b"] fun _ _ _ _ _ _=>kZ fun _ _=>rfl
 obtain⟨_,_,D_plus⟩:=h5.d X G ["one","other"] fun _ _ _ _ _ _=>kZ fun _ _=>rfl
 obtain⟨_,_,D_minus⟩:=h6.d X G ["one","other"] fun _ _ _ _ _ _=>kZ fun _ _=>rfl
 obtain⟨_,_,D_times⟩:=h7.d X G ["one","other"] fun _ _ _ _ _ _=>kZ fun _ _=>rfl
 obtain⟨_,_,D_over⟩:=h8.d X G ["one","other"] fun _ _ _ _ _ _=>kZ fun _ _=>rfl
 obtain⟨_,_,D_below⟩:=h9.d X G ["one","other"] fun _ _ _ _ _ _=>kZ fun _ _=>rfl
 obtain⟨_,_,D_apart⟩:=h10.d X G ["one","other"] fun _ _ _ _ _ _=>kZ fun _ _=>rfl
 obtain⟨_,_,D_reaches⟩:=h11.d X G ["one","other","up"] fun _ _ _ _ _ _=>Oi fun _ _ _=>rfl
 obtain⟨_,_,D_crossing⟩:=h12.d X G ["one","other","up"] fun _ _ _ _ _ _=>Oi fun _ _ _=>rfl
 obtain⟨_,_,D_reached⟩:=h13.d X G ["line","up"] fun _ _ _ _ _ _=>kZ fun _ _=>rfl
 obtain⟨_,_,D_is_span⟩:=h14.d X G ["thing"] fun _ _ _ _ _ _=>wN fun _=>rfl
 obtain⟨_,_,D_check_piece⟩:=h15.d X G ["piece"] fun _ _ _ _ _ _=>wN fun _=>rfl
 obtain⟨_,_,D_check_step⟩:=h16.d X G ["step"] fun _ _ _ _ _ _=>wN fun _=>rfl
 obtain⟨_,_,D_check_steps⟩:=h17.d X G ["steps"] fun _ _ _ _ _ _=>wN fun _=>rfl
 obtain⟨_,_,D_worth_line⟩:=h18.d X G ["steps"] fun _ _ _ _ _ _=>wN fun _=>rfl
 obtain⟨_,_,D_parted⟩:=h20.d X G ["line","ups"] fun _ _ _ _ _ _=>kZ fun _ _=>rfl
 obtain⟨_,_,D_whole⟩:=h21.d X G [] fun _ _ _ _ _ _=>Xo rfl
 obtain⟨_,_,D_turns⟩:=h22.d X G ["piece"] fun _ _ _ _ _ _=>wN fun _=>rfl
 obtain⟨_,_,D_nearest⟩:=h23.d X G ["ahead","passed","other_ahead","other_passed"] fun _ _ _ _ _ _=>Xp fun _ _ _ _=>rfl
 obtain⟨_,_,D_combined⟩:=h24.d X G ["one","other","keeps"] fun _ _ _ _ _ _=>Oi fun _ _ _=>rfl
 obtain⟨_,_,D_check_tastes⟩:=h26.d X G ["tastes"] fun _ _ _ _ _ _=>wN fun _=>rfl
 obtain⟨_,_,D_check_takers⟩:=h27.d X G ["tastes","fewest","most"] fun _ _ _ _ _ _=>Oi fun _ _ _=>rfl
 obtain⟨_,_,D_mark_within⟩:=h28.d X G ["taste","span","part"] fun _ _ _ _ _ _=>Oi fun _ _ _=>rfl
 obtain⟨_,_,D_least_mark_spans⟩:=h29.d X G ["tastes"] fun _ _ _ _ _ _=>wN fun _=>rfl
 obtain⟨_,_,D_give_by_halves⟩:=h30.d X G ["tastes","takers","span","spans"] fun _ _ _ _ _ _=>Xp fun _ _ _ _=>rfl
 obtain⟨_,_,D_in_thirds⟩:=h31.d X G ["taste","span"] fun _ _ _ _ _ _=>kZ fun _ _=>rfl
 obtain⟨_,_,D_dearest⟩:=h32.d X G ["taste","spans"] fun _ _ _ _ _ _=>kZ fun _ _=>rfl
 obtain⟨_,_,D_take_dearest⟩:=h33.d X G ["taste","spans"] fun _ _ _ _ _ _=>kZ fun _ _=>rfl
 obtain⟨_,_,D_trimmed⟩:=h34.d X G ["taste","spans"] fun _ _ _ _ _ _=>kZ fun _ _=>rfl
 obtain⟨_,_,D_deal_without_envy⟩:=h35.d X G ["tastes"] fun _ _ _ _ _ _=>wN fun _=>rfl
 obtain⟨_,_,D_half_line⟩:=h36.d X G ["first","second"] fun _ _ _ _ _ _=>kZ fun _ _=>rfl
 obtain⟨_,_,D_next_end_line⟩:=h37.d X G ["line","taste"] fun _ _ _ _ _ _=>kZ fun _ _=>rfl
 obtain⟨_,_,D_common_worth⟩:=h38.d X G ["tastes"] fun _ _ _ _ _ _=>wN fun _=>rfl
 obtain⟨_,_,D__law_cell_at⟩:=h39.d X G ["_law_script","_law_k"] fun _ _ _ _ _ _=>kZ fun _ _=>rfl
 obtain⟨_,_,D__law_mixed⟩:=h40.d X G ["_law_cell","_law_k"] fun _ _ _ _ _ _=>kZ fun _ _=>rfl
 obtain⟨_,_,D__law_low⟩:=h41.d X G ["_law_a","_law_b"] fun _ _ _ _ _ _=>kZ fun _ _=>rfl
 obtain⟨_,_,D__law_less⟩:=h42.d X G ["_law_one","_law_other"] fun _ _ _ _ _ _=>kZ fun _ _=>rfl
 obtain⟨_,_,D__law_sum⟩:=h43.d X G ["_law_one","_law_other"] fun _ _ _ _ _ _=>kZ fun _ _=>rfl
 obtain⟨_,_,D__law_left⟩:=h44.d X G ["_law_one","_law_other"] fun _ _ _ _ _ _=>kZ fun _ _=>rfl
 obtain⟨_,_,D__law_steps_by⟩:=h45.d X G ["_law_cell"] fun _ _ _ _ _ _=>wN fun _=>rfl
 obtain⟨_,_,D__law_area⟩:=h46.d X G ["_law_steps","_law_start","_law_end"] fun _ _ _ _ _ _=>Oi fun _ _ _=>rfl
 obtain⟨_,_,D__law_worth⟩:=h47.d X G ["_law_steps","_law_piece"] fun _ _ _ _ _ _=>kZ fun _ _=>rfl
 obtain⟨_,_,D__law_kinds⟩:=h48.d X G ["_law_way"] fun _ _ _ _ _ _=>wN fun _=>rfl
 have clC:tY K C:=⟨pgC,hdC,poC,saC⟩
 have clW0:tY K W0:=⟨pgW0,hdW0,poW0,saW0⟩
 have clW1:tY K W1:=⟨pgW1,hdW1,poW1,saW1⟩
 have clW2:tY K W2:=⟨pgW2,hdW2,poW2,saW2⟩
 have clW3:tY K W3:=⟨pgW3,hdW3,poW3,saW3⟩
 have clW4:tY K W4:=⟨pgW4,hdW4,poW4,saW4⟩
 have clW5:tY K W5:=⟨pgW5,hdW5,poW5,saW5⟩
 have clW6:tY K W6:=⟨pgW6,hdW6,poW6,saW6⟩
 obtain⟨_,_,M_Taste___init__,b_Taste___init__,h_Taste___init__⟩:=j0.d ["self","steps"] fun _ _ _ _ _ _=>kZ fun _ _=>rfl
 have k_Taste:Mk K C _:=⟨mkC,h_Taste___init__.at_,h_Taste___init__.fn,kcC⟩
 obtain⟨_,_,M_Taste_corners,b_Taste_corners,h_Taste_corners⟩:=j1.d ["self"] fun _ _ _ _ _ _=>wN fun _=>rfl
 obtain⟨_,_,M_Taste_worth_up_to,b_Taste_worth_up_to,h_Taste_worth_up_to⟩:=j2.d ["self","point"] fun _ _ _ _ _ _=>kZ fun _ _=>rfl
 obtain⟨_,_,M_Taste_point_at,b_Taste_point_at,h_Taste_point_at⟩:=j3.d ["self","worth"] fun _ _ _ _ _ _=>kZ fun _ _=>rfl
 obtain⟨_,_,M_Taste_span_worth,b_Taste_span_worth,h_Taste_span_worth⟩:=j4.d ["self","span"] fun _ _ _ _ _ _=>kZ fun _ _=>rfl
 obtain⟨_,_,M_Taste_worth,b_Taste_worth,h_Taste_worth⟩:=j5.d ["self","piece"] fun _ _ _ _ _ _=>kZ fun _ _=>rfl
 obtain⟨_,_,M_Taste_mark,b_Taste_mark,h_Taste_mark⟩:=j6.d ["self","start","share"] fun _ _ _ _ _ _=>Oi fun _ _ _=>rfl
 obtain⟨_,_,M_Choose_deal,b_Choose_deal,h_Choose_deal⟩:=j7.d ["self","tastes"] fun _ _ _ _ _ _=>kZ fun _ _=>rfl
 obtain⟨_,_,M_Last_deal,b_Last_deal,h_Last_deal⟩:=j8.d ["self","tastes"] fun _ _ _ _ _ _=>kZ fun _ _=>rfl
 obtain⟨_,_,M_Halves_deal,b_Halves_deal,h_Halves_deal⟩:=j9.d ["self","tastes"] fun _ _ _ _ _ _=>kZ fun _ _=>rfl
 obtain⟨_,_,M_Three_deal,b_Three_deal,h_Three_deal⟩:=j10.d ["self","tastes"] fun _ _ _ _ _ _=>kZ fun _ _=>rfl
 obtain⟨_,_,M_Even_deal,b_Even_deal,h_Even_deal⟩:=j11.d ["self","tastes"] fun _ _ _ _ _ _=>kZ fun _ _=>rfl
 obtain⟨_,_,M_Alike_deal,b_Alike_deal,h_Alike_deal⟩:=j12.d ["self","tastes"] fun _ _ _ _ _ _=>kZ fun _ _=>rfl
 have b19:PySem.W.tabIn K "ranked"=some (q19,p19):=Jl a19 l19 rfl t19 u19
 have b25:PySem.W.tabIn K "without"=some (q25,p25):=Jl a25 l25 rfl t25 u25
 refine⟨[(q19,p19),(q25,p25)],PySem.W.fnOf "law" "law" (du dM) (bK dM) (aJ dM) .none kV49 dc49 pm49 an49 cd49 ct49,Ob K p19 p25,?_,nt,fun s v=> .of_eq rfl,fun base kb nb bm hT=>?_,fun H a ns hl hS hT=>?_⟩
 .intro t ht
  rcases List.mem_cons.mp ht with rfl|ht
  .exact⟨"ranked",e19,r19,b19⟩
  .skip
   rw[List.mem_singleton.mp ht]
   exact⟨"without",e25,r25,b25⟩
 .have TB_ranked:=hT (q19,p19) List.mem_cons_self
  have TB_without:=hT (q25,p25) (List.mem_cons_of_mem _ List.mem_cons_self)
  have TT:Pa mg:=⟨⟨_,PySem.W.mg_of X G e8⟩,⟨_,PySem.W.mg_of X G e1⟩,⟨_,PySem.W.mg_of X G e2⟩⟩
  have TC:kY K C:=⟨clC,nCtold,nCline⟩
  have CW:=D_is_whole.cl (P:=l.prog) (w:=w) (base:=base) (HF D_is_whole T)
  have CG:=D_greatest_divisor.cl (P:=l.prog) (w:=w) (base:=base) (Qi D_greatest_divisor)
  have CM:=D_made.cl (P:=l.prog) (w:=w) (base:=base) (Bu D_made CW CG)
  have C4:Fe l.prog w K mg base:=⟨D_plus.cl (KZ D_plus CM),D_minus.cl (Hv D_minus CM),D_times.cl (HB D_times CM),D_over.cl (KY D_over CM),D_below.cl (Ho D_below)⟩
  have CF:=D_is_fraction.cl (P:=l.prog) (w:=w) (base:=base) (Kz D_is_fraction CW CG T)
  have CR:=D_reached.cl (zg D_reached (D_reaches.cl (zj D_reaches C4.below)) (D_crossing.cl (qP D_crossing C4 (D_apart.cl (xN D_apart C4.below C4.minus)))) T)
  have CK:=D_check_piece.cl (Hq D_check_piece (D_is_span.cl (La D_is_span CF C4.below T)) C4.below T)
  have CS:=D_check_steps.cl (Hz D_check_steps (D_check_step.cl (Lb D_check_step CF CW T TT)) C4.below T TT)
  have CWL:=D_worth_line.cl (KN D_worth_line C4 T)
  have MC:Mc l.prog w K mg base "Taste" C 5 ["self","steps"] (tV K C):=⟨_,_,k_Taste,PySem.W.mg_of X G aC,b_Taste___init__,KC M_Taste___init__ CS CWL T TC⟩
  have MU:Ml l.prog w K mg base C "worth_up_to" 7 ["self","point"] (qF K C):=⟨_,_,h_Taste_worth_up_to,b_Taste_worth_up_to,Lf M_Taste_worth_up_to CR TC⟩
  have LC:=D__law_cell_at.cl (P:=l.prog) (w:=w) (base:=base) (Ky D__law_cell_at T)
  have LM:=D__law_mixed.cl (P:=l.prog) (w:=w) (base:=base) (Hw D__law_mixed)
  have okl:=Qk (P:=l.prog) (w:=w) (base:=base) D__law_low
  have LL:=D__law_low.cl okl
  have LQ:Cl l.prog w K mg base "_law_low" 1 ["_law_a","_law_b"] (jb K):=D__law_low.cl (okl.imp NP)
  have L3:Law3 l.prog w K mg base:=⟨D__law_less.cl (KJ D__law_less),D__law_left.cl (KH D__law_left LL),D__law_sum.cl (Ql D__law_sum LL)⟩
  have LS:=D__law_steps_by.cl (zp D__law_steps_by LM LQ T)
  have LW:=D__law_worth.cl (Ei D__law_worth (D__law_area.cl (Kw D__law_area L3)) L3.sum LQ)
  have MSW:Ml l.prog w K mg base C "span_worth" 8 ["self","span"] (mJ K C):=⟨_,_,h_Taste_span_worth,b_Taste_span_worth,Hy M_Taste_span_worth C4.minus MU TC⟩
  have MW:Ml l.prog w K mg base C "worth" 9 ["self","piece"] (jd K C):=⟨_,_,h_Taste_worth,b_Taste_worth,HH M_Taste_worth CK C4.plus MSW TC⟩
  have MP:Ml l.prog w K mg base C "point_at" 7 ["self","worth"] (jJ K C):=⟨_,_,h_Taste_point_at,b_Taste_point_at,zf M_Taste_point_at CR TC⟩
  have MM:Ml l.prog w K mg base C "mark" 8 ["self","start","share"] (jz K C):=⟨_,_,h_Taste_mark,b_Taste_mark,KQ M_Taste_mark C4 MU MP T TC⟩
  have IC:RK K C:=⟨clC,haC,hnC,htC,hmC⟩
  have CTs:=D_check_tastes.cl (P:=l.prog) (w:=w) (base:=base) (Em D_check_tastes T IC (PySem.W.mg_of X G aC))
  have CTk:=D_check_takers.cl (El D_check_takers CTs T)
  have ne:p25≠p19:=d19_25.symm
  have CRk:=D_ranked.cl (Ek D_ranked rfl TB_ranked bm C4.below T)
  have CMq:=D_made.cl ((Bu (P:=l.prog) (w:=w) (base:=base) D_made CW CG).imp (NP (K:=K)))
  have CMW:=D_mark_within.cl (Tp D_mark_within C4.times MM MW TC)
  have G0:=D_give_by_halves.cl (P:=l.prog) (w:=w) (base:=base) (Th (C:=C) (Pt:=p19) D_give_by_halves T)
  have G1:=D_give_by_halves.cl (Qh (d:=0) (Pt:=p19) D_give_by_halves G0 CMq CMW CRk T)
  have G2:=D_give_by_halves.cl (Qh (d:=1) (Pt:=p19) D_give_by_halves G1 CMq CMW CRk T)
  have G3:=D_give_by_halves.cl (Qh (d:=2) (Pt:=p19) D_give_by_halves G2 CMq CMW CRk T)
  have cS:∀H,bB K H (.ref aS) (0,1):=fun H=>⟨aS,.ref aS0,.ref aS1,rfl,Wu eSo H,.of (Ra eS0 H) rfl rfl,.of (Ra eS1 H) rfl rfl⟩
  have eH':=PySem.W.mg_of X G eH
  have CLm:=D_least_mark_spans.cl (Hu D_least_mark_spans CMq CRk MM T TC)
  have CTh:=D_in_thirds.cl (En D_in_thirds CMW)
  have CDr:=D_dearest.cl (zc D_dearest CRk MW T TC)
  have CTd:=D_take_dearest.cl (Ld D_take_dearest CDr)
  have CTr:=D_trimmed.cl (Le D_trimmed CDr MM MW TC)
  have CEn:=D_deal_without_envy.cl (Hs D_deal_without_envy CTh CTr CTd (PySem.W.mg_of X G eS) cS)
  have MCn:Ml l.prog w K mg base C "corners" 1 ["self"] (mV K C):=⟨_,_,h_Taste_corners,b_Taste_corners,yZ M_Taste_corners T TC⟩
  have CHL:=D_half_line.cl (Ti D_half_line C4.below C4.minus CRk MCn MU MP MM MW T TC eH' (Ra eHo))
  have CA:=D_whole.cl (P:=l.prog) (w:=w) (base:=base) (Qm D_whole T)
  have CTu:=D_turns.cl (P:=l.prog) (w:=w) (base:=base) (HD (K:=K) (mg:=mg) D_turns)
  have CNr:=D_nearest.cl (Hx D_nearest C4.below T)
  have CCo:=D_combined.cl (Hr D_combined CK CTu CNr T)
  have CWo:=D_without.cl (zr D_without rfl TB_without bm CCo)
  have CXs:=D_crossing.cl (qP D_crossing C4 (D_apart.cl (xN D_apart C4.below C4.minus)))
  have CPt:=D_parted.cl (Ej D_parted C4.below CXs T)
  have CNx:=D_next_end_line.cl (KR D_next_end_line CPt C4 MCn MU MP T TC)
  have CCw:=D_common_worth.cl (Eg D_common_worth CNx T)
  have MD0:Ml l.prog w K mg base W0 "deal" 10 ["self","tastes"] (fP K C p19 p25 Vb 2 2):=⟨_,_,h_Choose_deal,b_Choose_deal,(Ef M_Choose_deal CTk C4.below MM MW T TC eH' (Ra eHo)).imp De⟩
  have MD1:Ml l.prog w K mg base W1 "deal" 10 ["self","tastes"] (fP K C p19 p25 Dl 1 8):=⟨_,_,h_Last_deal,b_Last_deal,(KD M_Last_deal CTk CLm T).imp (Kp ne)⟩
  have MD2:Ml l.prog w K mg base W2 "deal" 15 ["self","tastes"] (fP K C p19 p25 Dl 1 8):=⟨_,_,h_Halves_deal,b_Halves_deal,(Eh M_Halves_deal CTk G3 T (PySem.W.mg_of X G eS) cS).imp (Do ne)⟩
  have MD3:Ml l.prog w K mg base W3 "deal" 14 ["self","tastes"] (fP K C p19 p25 Py 3 3):=⟨_,_,h_Three_deal,b_Three_deal,(Eo M_Three_deal CTk CEn).imp (Jt ne)⟩
  have MD4:Ml l.prog w K mg base W4 "deal" 11 ["self","tastes"] (fP K C p19 p25 Py 2 2):=⟨_,_,h_Even_deal,b_Even_deal,(Ht M_Even_deal CTk CHL CR MM CA CWo T TC eH' (Ra eHo) ne).imp Kd⟩
  have MD5:Ml l.prog w K mg base W5 "deal" 10 ["self","tastes"] (fP K C p19 p25 Dl 1 6):=⟨_,_,h_Alike_deal,b_Alike_deal,(Hn M_Alike_deal CTk CCw MM T TC).imp Fw⟩
  have ks:RM K mg (fun k=>match k with|0=>W0|1=>W1|2=>W2|3=>W3|4=>W4|5=>W5|_=>W6):=⟨PySem.W.mg_none_of X G z1,PySem.W.mg_of X G aW0,PySem.W.mg_of X G aW1,PySem.W.mg_of X G aW2,PySem.W.mg_of X G aW3,PySem.W.mg_of X G aW4,PySem.W.mg_of X G aW5,PySem.W.mg_of X G aW6,fun k hk=>match k,hk with|0,_=>⟨clW0,haW0,hnC,htC,hmW0⟩|1,_=>⟨clW1,haW1,hnC,htC,hmW1⟩|2,_=>⟨clW2,haW2,hnC,htC,hmW2⟩|3,_=>⟨clW3,haW3,hnC,htC,hmW3⟩|4,_=>⟨clW4,haW4,hnC,htC,hmW4⟩|5,_=>⟨clW5,haW5,hnC,htC,hmW5⟩|6,_=>⟨clW6,haW6,hnC,htC,hmW6⟩|n+7,h=>absurd h (by omega),fun k n hk hn=>match k,n,hk,hn with|0,0,_,_=>q0_0|0,1,_,_=>q0_1|0,2,_,_=>q0_2|0,3,_,_=>q0_3|0,4,_,_=>q0_4|0,5,_,_=>q0_5|1,0,_,_=>q1_0|1,1,_,_=>q1_1|1,2,_,_=>q1_2|1,3,_,_=>q1_3|1,4,_,_=>q1_4|1,5,_,_=>q1_5|2,0,_,_=>q2_0|2,1,_,_=>q2_1|2,2,_,_=>q2_2|2,3,_,_=>q2_3|2,4,_,_=>q2_4|2,5,_,_=>q2_5|3,0,_,_=>q3_0|3,1,_,_=>q3_1|3,2,_,_=>q3_2|3,3,_,_=>q3_3|3,4,_,_=>q3_4|3,5,_,_=>q3_5|4,0,_,_=>q4_0|4,1,_,_=>q4_1|4,2,_,_=>q4_2|4,3,_,_=>q4_3|4,4,_,_=>q4_4|4,5,_,_=>q4_5|5,0,_,_=>q5_0|5,1,_,_=>q5_1|5,2,_,_=>q5_2|5,3,_,_=>q5_3|5,4,_,_=>q5_4|5,5,_,_=>q5_5|6,0,_,_=>q6_0|6,1,_,_=>q6_1|6,2,_,_=>q6_2|6,3,_,_=>q6_3|6,4,_,_=>q6_4|6,5,_,_=>q6_5|k+7,_,h,_=>absurd h (by omega)|_,n+6,_,h=>absurd h (by omega),fun k hk=>match k,hk with|0,_=>q0_6|1,_=>q1_6|2,_=>q2_6|3,_=>q3_6|4,_=>q4_6|5,_=>q5_6|n+6,h=>absurd h (by omega)⟩
  have LKd:=D__law_kinds.cl (P:=l.prog) (w:=w) (base:=base) (Tj D__law_kinds ks)
  exact Qj D_law ⟨LC,LS,LW,LKd,MC,⟨MD0,MD1,MD2,MD3,MD4,MD5⟩,ks,fun k hk=>match k,hk with|0,_=>⟨mkW0,oiW0,kcW0⟩|1,_=>⟨mkW1,oiW1,kcW1⟩|2,_=>⟨mkW2,oiW2,kcW2⟩|3,_=>⟨mkW3,oiW3,kcW3⟩|4,_=>⟨mkW4,oiW4,kcW4⟩|5,_=>⟨mkW5,oiW5,kcW5⟩|6,_=>⟨mkW6,oiW6,kcW6⟩|n+7,h=>absurd h (by omega)⟩ T
 .exact⟨a,ns,rfl,hS,hT _ List.mem_cons_self,hT _ (List.mem_cons_of_mem _ List.mem_cons_self),fun _=>rfl⟩
end FQ
open PySem PySem.W PyProof.Rows
local macro_rules | `(tactic| o_head $H) => `(tactic| refine holds_open (q := HQ.qv) (loose := []) (Xt := HQ.xt) (XP := XL HQ.qv []) (Yf := Hook.obs $H) (Ya := Hook.val $H) (YP := Hook.says $H) (N := 9998) (HQ.Kq HQ.ev) (Hook.of $H) (Hook.keeps $H) (fun s e => xl_of s (Bool.and_eq_true_iff.mp e).1) XL.keeps (by rfl) (by rfl) (by rfl) (fun s e => recFacts_of (Bool.and_eq_true_iff.mp e).2) (by rfl) (by first | assumption | decide +kernel) (by decide +kernel) ⟨rfl, rfl, rfl, rfl, rfl, by decide +kernel⟩ ?_ ?_)
set_option maxRecDepth 100000 in
set_option maxHeartbeats 0 in
theorem PySem.Challenge.cw_fairknife_k16_ways_holds : PySem.Challenge.rw_fairknife_k16_ways.Holds := by
 w_on; o_law; o_head (kmHook HQ.pre.heap_1 HQ.hA (fun _ => by kernel_rfl) HQ.hT); (· w_witness2)
 k_fill
 refine L2.JB (l := PySem.Challenge.rw_fairknife_k16_ways) (n := 63) (k := 16) (x := "_law_script") rfl (by decide) rfl ⟨rfl, by decide, by decide⟩ (fun w h Y => PySem.W.km_in_of Y) ?F
 case F =>
  intro w mg fa h KX G hmg
  refine' FQ.Pb KX G hmg ?a19 ?l19 ?c19 ?k19 ?t19 ?u19 ?r19 ?a25 ?l25 ?c25 ?k25 ?t25 ?u25 ?r25 ?a49 ?l49 ?c49 ?k49 ?hd ?d19_25 ?nt ?aC ?pgC ?hdC ?poC ?saC ?mkC ?kcC ?nCtold ?nCline ?aW0 ?pgW0 ?hdW0 ?poW0 ?saW0 ?mkW0 ?kcW0 ?aW1 ?pgW1 ?hdW1 ?poW1 ?saW1 ?mkW1 ?kcW1 ?aW2 ?pgW2 ?hdW2 ?poW2 ?saW2 ?mkW2 ?kcW2 ?aW3 ?pgW3 ?hdW3 ?poW3 ?saW3 ?mkW3 ?kcW3 ?aW4 ?pgW4 ?hdW4 ?poW4 ?saW4 ?mkW4 ?kcW4 ?aW5 ?pgW5 ?hdW5 ?poW5 ?saW5 ?mkW5 ?kcW5 ?aW6 ?pgW6 ?hdW6 ?poW6 ?saW6 ?mkW6 ?kcW6 ?hms ?z1 ?z2 ?z3 ?z4 ?z5 ?z6 ?z7 ?z8 ?z9 ?z10 ?z11 ?z12 ?eL ?eLo ?eR ?eRo ?e8 ?e1 ?e2 ?haC ?hnC ?htC ?hmC ?eH ?eHo ?oiW0 ?haW0 ?hmW0 ?q0_0 ?q0_1 ?q0_2 ?q0_3 ?q0_4 ?q0_5 ?q0_6 ?oiW1 ?haW1 ?hmW1 ?q1_0 ?q1_1 ?q1_2 ?q1_3 ?q1_4 ?q1_5 ?q1_6 ?oiW2 ?haW2 ?hmW2 ?q2_0 ?q2_1 ?q2_2 ?q2_3 ?q2_4 ?q2_5 ?q2_6 ?oiW3 ?haW3 ?hmW3 ?q3_0 ?q3_1 ?q3_2 ?q3_3 ?q3_4 ?q3_5 ?q3_6 ?oiW4 ?haW4 ?hmW4 ?q4_0 ?q4_1 ?q4_2 ?q4_3 ?q4_4 ?q4_5 ?q4_6 ?oiW5 ?haW5 ?hmW5 ?q5_0 ?q5_1 ?q5_2 ?q5_3 ?q5_4 ?q5_5 ?q5_6 ?oiW6 ?haW6 ?hmW6 ?q6_0 ?q6_1 ?q6_2 ?q6_3 ?q6_4 ?q6_5 ?eS ?eSo ?eS0 ?eS1
  (case a19 => k_is)
  (case l19 => k_is)
  (case c19 => k_is)
  (case k19 => k_is)
  (case t19 => k_is)
  (case u19 => rfl)
  (case r19 => rfl)
  (case a25 => k_is)
  (case l25 => k_is)
  (case c25 => k_is)
  (case k25 => k_is)
  (case t25 => k_is)
  (case u25 => rfl)
  (case r25 => rfl)
  (case a49 => k_is)
  (case l49 => k_is)
  (case c49 => k_is)
  (case k49 => k_is)
  case hd =>
   repeat
    refine And.intro (FQ.Xz (by k_is) (by k_is) (by k_is) (by k_is)) ?_
   exact trivial
  (case d19_25 => decide)
  (case nt => kernel_rfl)
  (case aC => k_is)
  (case pgC => k_is)
  (case hdC => k_is)
  (case poC => k_is)
  (case saC => k_is)
  (case mkC => k_is)
  (case kcC => k_is)
  (case nCtold => k_is)
  (case nCline => k_is)
  (case aW0 => k_is)
  (case pgW0 => k_is)
  (case hdW0 => k_is)
  (case poW0 => k_is)
  (case saW0 => k_is)
  (case mkW0 => k_is)
  (case kcW0 => k_is)
  (case aW1 => k_is)
  (case pgW1 => k_is)
  (case hdW1 => k_is)
  (case poW1 => k_is)
  (case saW1 => k_is)
  (case mkW1 => k_is)
  (case kcW1 => k_is)
  (case aW2 => k_is)
  (case pgW2 => k_is)
  (case hdW2 => k_is)
  (case poW2 => k_is)
  (case saW2 => k_is)
  (case mkW2 => k_is)
  (case kcW2 => k_is)
  (case aW3 => k_is)
  (case pgW3 => k_is)
  (case hdW3 => k_is)
  (case poW3 => k_is)
  (case saW3 => k_is)
  (case mkW3 => k_is)
  (case kcW3 => k_is)
  (case aW4 => k_is)
  (case pgW4 => k_is)
  (case hdW4 => k_is)
  (case poW4 => k_is)
  (case saW4 => k_is)
  (case mkW4 => k_is)
  (case kcW4 => k_is)
  (case aW5 => k_is)
  (case pgW5 => k_is)
  (case hdW5 => k_is)
  (case poW5 => k_is)
  (case saW5 => k_is)
  (case mkW5 => k_is)
  (case kcW5 => k_is)
  (case aW6 => k_is)
  (case pgW6 => k_is)
  (case hdW6 => k_is)
  (case poW6 => k_is)
  (case saW6 => k_is)
  (case mkW6 => k_is)
  (case kcW6 => k_is)
  case hms =>
   repeat
    refine And.intro (FQ.XS (by k_is) (by k_is) (by k_is) (by k_is) (by k_is)) ?_
   exact trivial
  (case z1 => k_is)
  (case z2 => k_is)
  (case z3 => k_is)
  (case z4 => k_is)
  (case z5 => k_is)
  (case z6 => k_is)
  (case z7 => k_is)
  (case z8 => k_is)
  (case z9 => k_is)
  (case z10 => k_is)
  (case z11 => k_is)
  (case z12 => k_is)
  (case eL => k_is)
  (case eLo => k_is)
  (case eR => k_is)
  (case eRo => k_is)
  (case e8 => k_is)
  (case e1 => k_is)
  (case e2 => k_is)
  (case haC => k_is)
  (case hnC => k_is)
  (case htC => k_is)
  (case hmC => k_is)
  (case eH => k_is)
  (case eHo => k_is)
  (case oiW0 => k_is)
  (case haW0 => k_is)
  (case hmW0 => k_is)
  (case q0_0 => kernel_rfl)
  (case q0_1 => kernel_rfl)
  (case q0_2 => kernel_rfl)
  (case q0_3 => kernel_rfl)
  (case q0_4 => kernel_rfl)
  (case q0_5 => kernel_rfl)
  (case q0_6 => kernel_rfl)
  (case oiW1 => k_is)
  (case haW1 => k_is)
  (case hmW1 => k_is)
  (case q1_0 => kernel_rfl)
  (case q1_1 => kernel_rfl)
  (case q1_2 => kernel_rfl)
  (case q1_3 => kernel_rfl)
  (case q1_4 => kernel_rfl)
  (case q1_5 => kernel_rfl)
  (case q1_6 => kernel_rfl)
  (case oiW2 => k_is)
  (case haW2 => k_is)
  (case hmW2 => k_is)
  (case q2_0 => kernel_rfl)
  (case q2_1 => kernel_rfl)
  (case q2_2 => kernel_rfl)
  (case q2_3 => kernel_rfl)
  (case q2_4 => kernel_rfl)
  (case q2_5 => kernel_rfl)
  (case q2_6 => kernel_rfl)
  (case oiW3 => k_is)
  (case haW3 => k_is)
  (case hmW3 => k_is)
  (case q3_0 => kernel_rfl)
  (case q3_1 => kernel_rfl)
  (case q3_2 => kernel_rfl)
  (case q3_3 => kernel_rfl)
  (case q3_4 => kernel_rfl)
  (case q3_5 => kernel_rfl)
  (case q3_6 => kernel_rfl)
  (case oiW4 => k_is)
  (case haW4 => k_is)
  (case hmW4 => k_is)
  (case q4_0 => kernel_rfl)
  (case q4_1 => kernel_rfl)
  (case q4_2 => kernel_rfl)
  (case q4_3 => kernel_rfl)
  (case q4_4 => kernel_rfl)
  (case q4_5 => kernel_rfl)
  (case q4_6 => kernel_rfl)
  (case oiW5 => k_is)
  (case haW5 => k_is)
  (case hmW5 => k_is)
  (case q5_0 => kernel_rfl)
  (case q5_1 => kernel_rfl)
  (case q5_2 => kernel_rfl)
  (case q5_3 => kernel_rfl)
  (case q5_4 => kernel_rfl)
  (case q5_5 => kernel_rfl)
  (case q5_6 => kernel_rfl)
  (case oiW6 => k_is)
  (case haW6 => k_is)
  (case hmW6 => k_is)
  (case q6_0 => kernel_rfl)
  (case q6_1 => kernel_rfl)
  (case q6_2 => kernel_rfl)
  (case q6_3 => kernel_rfl)
  (case q6_4 => kernel_rfl)
  (case q6_5 => kernel_rfl)
  (case eS => k_is)
  (case eSo => k_is)
  (case eS0 => k_is)
  (case eS1 => k_is)
#print axioms PySem.Challenge.cw_fairknife_k16_ways_holds
