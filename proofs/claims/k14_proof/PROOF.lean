import PyProof.Rows.All
import Wide.All
import Wide.FinOn
import KE.IntText
import KE.IntTextLaws
import KE.KFromBytes
import KE.KIntText
import KE.KIsAll
import KE.KItem
import KE.KRevIter
import KE.KxBytes
import OpenK.KCall
import OpenK.KCls
import OpenK.KDescr
import OpenK.KFacts
import OpenK.KGet
import OpenK.KLine
import OpenK.KMake
import OpenK.KMore
import OpenK.KOwn
import OpenK.KWalk
import OpenK.Peek
import PyProof.EqAt
import PyProof.EqKinds
import PyProof.TupleCall
import PyProof.StrBlock2
import KE.KSortKey
import PySem.Challenge.RW_fairknife_k14_written
set_option Elab.async false
set_option linter.all false
set_option maxRecDepth 100000
set_option maxHeartbeats 4000000
namespace HQ
open PySem PySem.W PySem.Calls PyProof.Rows
theorem left_one {p q : Program} {loose : List Str} {Xt : Shared → Bool} {α : Type} {Yf : Shared → α} {Ya : World → α} {N : Nat} {H : Params → Heap} {gs : Array GenState} {dr : Drawn} {tk m : Nat} {an : Option Value}
  (e0 : ∀ w : World, (fencedOpening treeTable p w N).map (fun s => (s.heap, s.gens, s.drawn, s.toks)) = some (H w.params, gs, dr, tk))
  (e1 : ∀ w : World, ((H w.params).isNs mainGlobals && gs.size == 0, (H w.params).objs.size, (H w.params).nsMap mainGlobals "__annotations__") = (true, m, an))
  (e2 : ∀ (w : World) (os : OsState), ∃ s M, Nat.ble M N = true ∧ topRun treeTable p w m an M ⟨H w.params, gs, dr, tk, os⟩ (topStub p) = some s ∧
   (staticsOk (importedModules p.main.body) (H w.params) s.heap && namesBound p s.heap && gensDone s && laidKept (H w.params) s.heap) = true ∧
   openSeen q loose (importedModules p.main.body) Xt true s = openGood q loose ∧ Yf s = Ya w) : LeftO p q loose Xt Yf Ya N := fun w => by
 obtain ⟨⟨h, g, d, k, os⟩, a, b⟩ := Option.map_eq_some_iff.mp (e0 w)
 have b' : h = H w.params ∧ g = gs ∧ d = dr ∧ k = tk := by simpa using b
 obtain ⟨rfl, rfl, rfl, rfl⟩ := b'
 have z := e1 w
 simp only [Prod.mk.injEq] at z
 obtain ⟨z1, z2, z3⟩ := z
 obtain ⟨s, M, le, r, l1, l2, l3⟩ := e2 w os
 have r' := topRun_mono (N - M) _ _ _ _ r
 have hN : M + (N - M) = N := by have := Nat.le_of_ble_eq_true le; omega
 rw [hN] at r'
 have t : topFrom treeTable p w N ⟨H w.params, g, d, k, os⟩ = some s := by
  unfold topFrom
  dsimp only
  rw [z1, z2, z3, r']
  dsimp only [Option.bind]
  rw [l1]
 unfold openEnds
 rw [a]
 dsimp only [Option.bind]
 rw [t]
 exact congrArg some (Prod.ext l2 l3)
theorem run_one {p : Program} {w : World} {m : Nat} {an : Option Value} {env : Env} {fp posA posB posC : Pos} {n0 nb n1 n2 : Nat} {s0 sA r : Shared} {sT s' : SharedT} {b : List Stmt}
  (h0 : topGo treeTable p w m an n0 s0 (topStub p) = some (sA, ⟨denote treeTable (.body b env), .body b env, posA, [topFrame fp]⟩))
  (hb : segRun treeTable p w m an 1 nb sA (blockOf b env (.body b env) posA [topFrame fp]) = some (.next, sT.abs, .body b env, posB))
  (h1 : segRunT treeTable p w m an 1 n1 sT (piecesOf b env (.body b env) posB [topFrame fp]) = some (.next, s', .body b env, posC))
  (h2 : topRun treeTable p w m an n2 s'.abs ⟨doneF .next, .body b env, posC, [topFrame fp]⟩ = some r) :
  topRun treeTable p w m an (n0 + (nb + (n1 + n2))) s0 (topStub p) = some r := by
 have k := piece_app (rest := []) (segRun_of h1) (piece_nil (env := env) h2)
 rw [List.append_nil] at k
 exact go_top h0 (piece_block hb k)
end HQ
namespace HQ
open PySem PySem.W PySem.Calls PyProof.Rows
noncomputable section
abbrev pw : Program := PySem.Challenge.pw_fairknife_k14_written
def qv : Program := view pw [0, 2, 3, 4, 5, 6, 7, 8, 10, 11, 12, 13, 14, 15, 16, 17, 18, 20, 21, 22, 23, 25, 26, 27, 28, 29, 30, 31, 33, 34, 35, 36, 37, 38, 39, 40, 41, 42, 43, 44, 45, 46, 47, 49, 50, 51, 52, 53, 54, 55, 56, 57, 58, 59, 60, 61, 62, 63, 64, 65, 66, 67, 68]
def xt (s : Shared) : Bool := xlAt qv [] s && recOk (RowW.records (OpenRow.toRowW (OpenLaw.row PySem.Challenge.rw_fairknife_k14_written))) s
def envT : Env := { scope := pw.main.scope, locals := mainNs, globals := mainNs, cells := [], code := Value.ref 13, frame := some 14 }
abbrev bT : List Stmt := behindTheImports pw
abbrev cT : Code := .body bT envT
def fpT : Pos := { line := 0, col := 0, endLine := 0, endCol := 0 }
def paT : Pos := { line := 0, col := 0, endLine := 0, endCol := 0 }
def pbT : Pos := { line := 0, col := 0, endLine := 0, endCol := 0 }
def pcT : Pos := { line := 345, col := 0, endLine := 361, endCol := 120 }
def anT : Option Value := Option.some (Value.ref 6)
def hx0 : Params → Obj := fun P => { cls := Value.type "tuple", data := Data.seq #[] }
def hx1 : Params → Obj := fun P => { cls := Value.none, data := Data.fields #[] }
def hx2 : Params → Obj := fun P => { cls := Value.type "code", data := Data.fields #[Value.str (Str.ofString "<module>") 182, Value.str (Str.ofString "<module>") 183, Value.str (Str.ofString "/claim/cut.py") 184, Value.int 1 0, Value.int 0 0, Value.int 0 0, Value.int 0 0, Value.int 0 0, Value.ref 11, Value.bool Bool.false, Value.int 181 0, Value.ref 12, Value.none, Value.none, Value.none, Value.none, Value.int 185 0, Value.int 1 0, Value.str (Str.ofString "/claim/cut.py") 186] }
def hx3 : Params → Obj := fun P => { cls := Value.type "frame", slots := #[Option.some (Value.ref 13), Option.some (Value.ref 3), Option.some (Value.ref 3), Option.none, Option.some (Value.str (Str.ofString "__main__") 164), Option.none, Option.some (Value.ref 0)] }
def haT (P : Params) : Heap := ⟨⟨[boot_o_0 P, boot_o_1 P, boot_o_2 P, boot_o_3 P, boot_o_4 P, boot_o_5 P, boot_o_6 P, boot_o_7 P, boot_o_8 P, boot_o_9 P, boot_o_10 P, hx0 P, hx1 P, hx2 P, hx3 P]⟩, { }⟩
def tbT (P : Params) : BT := (.node (boot_o_0 P) (.node (boot_o_1 P) (.node (boot_o_3 P) (.node (boot_o_7 P) .nil .nil) (.node (hx0 P) .nil .nil)) (.node (boot_o_5 P) (.node (boot_o_9 P) .nil .nil) (.node (hx2 P) .nil .nil))) (.node (boot_o_2 P) (.node (boot_o_4 P) (.node (boot_o_8 P) .nil .nil) (.node (hx1 P) .nil .nil)) (.node (boot_o_6 P) (.node (boot_o_10 P) .nil .nil) (.node (hx3 P) .nil .nil))))
def saT (w : World) (os : OsState) : Shared := ⟨haT w.params, .mk [], { }, 187, os⟩
def sbT (w : World) (os : OsState) : SharedT := ⟨tbT w.params, 15, { }, .mk [], { }, 187, os⟩
def s0T (w : World) (os : OsState) : Shared := ⟨boot_heap w.params, .mk [], boot_drawn, boot_toks, os⟩
def aT (w : World) (os : OsState) := topGo treeTable pw w 11 anT 12 (s0T w os) (topStub pw)
def aR (w : World) (os : OsState) : Option (Shared × Thread) := some (saT w os, ⟨denote treeTable cT, cT, paT, [topFrame fpT]⟩)
def bL (w : World) (os : OsState) := segRun treeTable pw w 11 anT 1 1 (saT w os) (blockOf bT envT cT paT [topFrame fpT])
def bR (w : World) (os : OsState) : Option (Flow × Shared × Code × Pos) := some (.next, (sbT w os).abs, cT, pbT)
def zL (w : World) := ((boot_heap w.params).isNs mainGlobals && (Array.mk ([] : List GenState)).size == 0, (boot_heap w.params).objs.size, (boot_heap w.params).nsMap mainGlobals "__annotations__")
def zR : Bool × Nat × Option Value := (true, 11, anT)
def runT (w : World) (os : OsState) : Option ((Flow × Code × Pos) × Shared) :=
 (segRunT treeTable pw w 11 anT 1 3498 (sbT w os) (piecesOf bT envT cT pbT [topFrame fpT])).bind fun x =>
  (topRun treeTable pw w 11 anT 2 x.2.1.abs ⟨doneF .next, cT, pcT, [topFrame fpT]⟩).map fun s => ((x.1, x.2.2.1, x.2.2.2), s)
def osT (s : Shared) := openSeen qv [] (importedModules pw.main.body) xt true s
def eA (w : World) (os : OsState) := (runT w os).map fun y => (y.1, (staticsOk (importedModules pw.main.body) (boot_heap w.params) y.2.heap && namesBound pw y.2.heap && gensDone y.2 && laidKept (boot_heap w.params) y.2.heap))
def eB (w : World) (os : OsState) := (runT w os).map fun y => (osT y.2).1
def eF (w : World) (os : OsState) := (runT w os).map fun y => (osT y.2).2.1
def eC (w : World) (os : OsState) := (runT w os).map fun y => (osT y.2).2.2.1
def eD (w : World) (os : OsState) := (runT w os).map fun y => (osT y.2).2.2.2.1
def eD2 (w : World) (os : OsState) := (runT w os).map fun y => (osT y.2).2.2.2.2.1
def eD3 (w : World) (os : OsState) := (runT w os).map fun y => (osT y.2).2.2.2.2.2.1
def eG (w : World) (os : OsState) := (runT w os).map fun y => (osT y.2).2.2.2.2.2.2
def eE (as : List Addr) (w : World) (os : OsState) := (runT w os).map fun y => as.map y.2.heap.get?
def rA := (((.next, cT, pcT) : Flow × Code × Pos), true)
def rB := (openGood qv []).1
def rF := (openGood qv []).2.1
def rC := (openGood qv []).2.2.1
def rD := (openGood qv []).2.2.2.1
def rD2 := (openGood qv []).2.2.2.2.1
def rD3 := (openGood qv []).2.2.2.2.2.1
def rG := (openGood qv []).2.2.2.2.2.2
theorem aT_s : aT = aT := rfl
theorem aR_s : aR = aR := rfl
theorem bL_s : bL = bL := rfl
theorem bR_s : bR = bR := rfl
theorem zL_s : zL = zL := rfl
theorem eA_s : eA = eA := rfl
theorem eB_s : eB = eB := rfl
theorem eF_s : eF = eF := rfl
theorem eC_s : eC = eC := rfl
theorem eD_s : eD = eD := rfl
theorem eD2_s : eD2 = eD2 := rfl
theorem eD3_s : eD3 = eD3 := rfl
theorem eG_s : eG = eG := rfl
theorem eE_s : eE = eE := rfl
theorem rA_s : rA = rA := rfl
theorem rB_s : rB = rB := rfl
theorem rF_s : rF = rF := rfl
theorem rC_s : rC = rC := rfl
theorem rD_s : rD = rD := rfl
theorem rD2_s : rD2 = rD2 := rfl
theorem rD3_s : rD3 = rD3 := rfl
theorem rG_s : rG = rG := rfl
end
end HQ
name_quick qaT for HQ.aT by HQ.aT_s
name_quick qaR for HQ.aR by HQ.aR_s
name_quick qbL for HQ.bL by HQ.bL_s
name_quick qbR for HQ.bR by HQ.bR_s
name_quick qzL for HQ.zL by HQ.zL_s
name_quick qeA for HQ.eA by HQ.eA_s
name_quick qeB for HQ.eB by HQ.eB_s
name_quick qeF for HQ.eF by HQ.eF_s
name_quick qeC for HQ.eC by HQ.eC_s
name_quick qeD for HQ.eD by HQ.eD_s
name_quick qeD2 for HQ.eD2 by HQ.eD2_s
name_quick qeD3 for HQ.eD3 by HQ.eD3_s
name_quick qeG for HQ.eG by HQ.eG_s
name_quick qeE for HQ.eE by HQ.eE_s
name_quick qrA for HQ.rA by HQ.rA_s
name_quick qrB for HQ.rB by HQ.rB_s
name_quick qrF for HQ.rF by HQ.rF_s
name_quick qrC for HQ.rC by HQ.rC_s
name_quick qrD for HQ.rD by HQ.rD_s
name_quick qrD2 for HQ.rD2 by HQ.rD2_s
name_quick qrD3 for HQ.rD3 by HQ.rD3_s
name_quick qrG for HQ.rG by HQ.rG_s
namespace HQ
open PySem PySem.W PySem.Calls PyProof.Rows
theorem a_eq : aT = aR := PySem.W.Fast.qaT_eq.trans ((by kernel_rfl : PySem.W.Fast.qaT = PySem.W.Fast.qaR).trans PySem.W.Fast.qaR_eq.symm)
theorem b_eq : bL = bR := PySem.W.Fast.qbL_eq.trans ((by kernel_rfl : PySem.W.Fast.qbL = PySem.W.Fast.qbR).trans PySem.W.Fast.qbR_eq.symm)
theorem z_eq : zL = fun _ => zR := PySem.W.Fast.qzL_eq.trans (by kernel_rfl : PySem.W.Fast.qzL = fun _ => zR)
theorem op_eq (w : World) : (fencedOpening treeTable pw w 7120).map (fun s => (s.heap, s.gens, s.drawn, s.toks)) = some (boot_heap w.params, Array.mk [], boot_drawn, boot_toks) :=
 boot_open (by kernel_rfl) (by decide) (fun s => by kernel_rfl) w
theorem evA : PySem.W.Fast.qeA = fun _ _ => some PySem.W.Fast.qrA := by kernel_rfl
theorem evB : PySem.W.Fast.qeB = fun _ _ => some PySem.W.Fast.qrB := by kernel_rfl
theorem evC : PySem.W.Fast.qeC = fun _ _ => some PySem.W.Fast.qrC := by kernel_rfl
theorem evD : PySem.W.Fast.qeD = fun _ _ => some PySem.W.Fast.qrD := by kernel_rfl
theorem evD2 : PySem.W.Fast.qeD2 = fun _ _ => some PySem.W.Fast.qrD2 := by kernel_rfl
theorem evD3 : PySem.W.Fast.qeD3 = fun _ _ => some PySem.W.Fast.qrD3 := by kernel_rfl
theorem evF : PySem.W.Fast.qeF = fun _ _ => some PySem.W.Fast.qrF := by kernel_rfl
theorem evG : PySem.W.Fast.qeG = fun _ _ => some PySem.W.Fast.qrG := by kernel_rfl
theorem left_of {as : List Addr} {Ya : World → List (Option Obj)} (ev : ∀ w, PySem.W.Fast.qeE as w = fun _ => some (Ya w)) : LeftO pw qv [] xt (fun s => as.map s.heap.get?) Ya 7120 := by
 refine left_one (H := boot_heap) (gs := .mk []) (m := 11) (an := anT) op_eq (congrFun z_eq) fun w os => ?_
 have hA : eA w os = some rA := by rw [PySem.W.Fast.qeA_eq, PySem.W.Fast.qrA_eq, evA]
 have hB : eB w os = some rB := by rw [PySem.W.Fast.qeB_eq, PySem.W.Fast.qrB_eq, evB]
 have hC : eC w os = some rC := by rw [PySem.W.Fast.qeC_eq, PySem.W.Fast.qrC_eq, evC]
 have hD : eD w os = some rD := by rw [PySem.W.Fast.qeD_eq, PySem.W.Fast.qrD_eq, evD]
 have hD2 : eD2 w os = some rD2 := by rw [PySem.W.Fast.qeD2_eq, PySem.W.Fast.qrD2_eq, evD2]
 have hD3 : eD3 w os = some rD3 := by rw [PySem.W.Fast.qeD3_eq, PySem.W.Fast.qrD3_eq, evD3]
 have hF : eF w os = some rF := by rw [PySem.W.Fast.qeF_eq, PySem.W.Fast.qrF_eq, evF]
 have hG : eG w os = some rG := by rw [PySem.W.Fast.qeG_eq, PySem.W.Fast.qrG_eq, evG]
 have hE : eE as w os = some (Ya w) := by rw [PySem.W.Fast.qeE_eq]; exact congrFun (ev w) os
 unfold eA at hA
 unfold eB at hB
 unfold eC at hC
 unfold eD at hD
 unfold eD2 at hD2
 unfold eD3 at hD3
 unfold eE at hE
 unfold eF at hF
 unfold eG at hG
 obtain ⟨y, hy, e⟩ := Option.map_eq_some_iff.mp hA
 rw [hy] at hB hC hD hD2 hD3 hE hF hG
 unfold runT at hy
 obtain ⟨x, hx, e'⟩ := Option.bind_eq_some_iff.mp hy
 obtain ⟨s, hs, e''⟩ := Option.map_eq_some_iff.mp e'
 obtain ⟨f, s', c', p'⟩ := x
 subst e''
 unfold rA at e
 simp only [Prod.mk.injEq] at e
 obtain ⟨⟨rfl, rfl, rfl⟩, e1⟩ := e
 have b1 : (osT s).1 = (openGood qv []).1 := Option.some.inj hB
 have b2 : (osT s).2.1 = (openGood qv []).2.1 := Option.some.inj hF
 have b3 : (osT s).2.2.1 = (openGood qv []).2.2.1 := Option.some.inj hC
 have b4 : (osT s).2.2.2.1 = (openGood qv []).2.2.2.1 := Option.some.inj hD
 have b42 : (osT s).2.2.2.2.1 = (openGood qv []).2.2.2.2.1 := Option.some.inj hD2
 have b43 : (osT s).2.2.2.2.2.1 = (openGood qv []).2.2.2.2.2.1 := Option.some.inj hD3
 have b5 : (osT s).2.2.2.2.2.2 = (openGood qv []).2.2.2.2.2.2 := Option.some.inj hG
 have e2 : osT s = openGood qv [] := Prod.ext b1 (Prod.ext b2 (Prod.ext b3 (Prod.ext b4 (Prod.ext b42 (Prod.ext b43 b5)))))
 exact ⟨s, 12 + (1 + (3498 + 2)), by decide, run_one (congrFun (congrFun a_eq w) os) (congrFun (congrFun b_eq w) os) hx hs, e1, e2, Option.some.inj hE⟩
end HQ
section
open PySem PySem.W PyProof.Rows
section
local macro_rules | `(tactic| o_head $H) => `(tactic| exact (fun (_ : PySem.W.Hook) => by assumption) $H)
set_option maxRecDepth 100000 in
theorem HQ.pre (h : PySem.W.OpenRow.Holds (PySem.W.OpenLaw.row PySem.Challenge.rw_fairknife_k14_written)) : PySem.W.OpenRow.Holds (PySem.W.OpenLaw.row PySem.Challenge.rw_fairknife_k14_written) := by
 k_head
end
def HQ.hA : List Addr := [2, 3, 15, 17, 18, 20, 21, 22, 29, 30, 31, 32, 35, 42, 43, 44, 47, 54, 55, 56, 59, 66, 67, 68, 71, 78, 79, 80, 83, 90, 91, 92, 95, 102, 103, 104, 107, 109, 110, 112, 113, 114, 116, 117, 119, 120, 121, 123, 124, 126, 127, 128, 130, 131, 133, 134, 135, 137, 138, 140, 141, 142, 144, 145, 147, 148, 149, 151, 152, 154, 155, 156, 158, 159, 161, 162, 163, 165, 166, 168, 169, 170, 171, 172, 174, 175, 177, 178, 179, 181, 182, 184, 185, 186, 188, 189, 191, 192, 193, 195, 196, 198, 199, 200, 203, 204, 212, 214, 215, 217, 218, 219, 221, 222, 224, 225, 226, 228, 229, 231, 232, 233, 235, 236, 238, 239, 240, 242, 243, 245, 246, 247, 249, 250, 252, 253, 254, 256, 257, 259, 260, 261, 263, 264, 266, 267, 268, 270, 271, 273, 274, 275, 276, 277, 278, 279, 282, 284, 285, 287, 288, 289, 291, 292, 294, 295, 296, 299, 300, 301, 304, 305, 306, 309, 310, 311, 313, 314, 316, 317, 318, 320, 321, 323, 324, 325, 327, 328, 330, 331, 332, 334, 335, 337, 338, 339, 341, 342, 344, 345, 346, 349, 350, 351, 354, 355, 356, 358, 359, 361, 362, 363, 365, 366, 368, 369, 370, 372, 373, 375, 376, 377, 379, 380, 382, 383, 398, 400, 401, 403, 404, 419, 421, 422, 424, 425, 426, 428, 429, 431, 432, 433, 436, 437, 438, 440, 441, 443, 444, 445, 447, 448, 450, 451, 452, 454, 455, 457, 458, 459, 461, 462, 464, 465, 466, 468, 469, 471, 472, 473, 475, 476, 478, 479, 480, 483, 484, 485, 488, 489]
set_option maxRecDepth 100000 in
theorem HQ.ev : ∀ w : World, PySem.W.Fast.qeE HQ.hA w = fun _ => some ((HQ.pre.heap_1 w.params).map fun p => some p.2) := fun w => by kernel_rfl
end
namespace L2
open PySem PySem.Spec PyProof.Rows
abbrev Key := Sum Int Str
def keyIs : Key → Value → Bool
 | .inl k, v => Value.isInt k v
 | .inr x, v => Value.isStrOf x v
def keyH (w : World) : Key → Int
 | .inl k => hashInt k
 | .inr x => hashStr w x
theorem keyIs_shape : ∀ {k : Key} {v : Value}, keyIs k v = true → (∃ i t, k = Sum.inl i ∧ v = Value.int i t) ∨ (∃ x t, k = Sum.inr x ∧ v = Value.str x t)
 | .inl i, v, h => by
  obtain ⟨t, e⟩ := Value.isInt_shape (k := i) (v := v) h
  exact .inl ⟨i, t, rfl, e⟩
 | .inr x, v, h => by
  obtain ⟨t, e⟩ := Value.isStrOf_shape (x := x) (v := v) h
  exact .inr ⟨x, t, rfl, e⟩
theorem key_ll (a b : Int) : decide ((Sum.inl a : Key) = Sum.inl b) = (a == b) := by
 by_cases e : a = b
 ·subst e; simp
 ·have h : ¬ (Sum.inl a : Key) = Sum.inl b := fun q => e (Sum.inl.inj q)
  rw [decide_eq_false h]
  exact (beq_eq_false_iff_ne.mpr e).symm
theorem key_rr (a b : Str) : decide ((Sum.inr a : Key) = Sum.inr b) = decide (a = b) := by
 by_cases e : a = b
 ·subst e; simp
 ·have h : ¬ (Sum.inr a : Key) = Sum.inr b := fun q => e (Sum.inr.inj q)
  rw [decide_eq_false h, decide_eq_false e]
theorem key_lr (a : Int) (b : Str) : decide ((Sum.inl a : Key) = Sum.inr b) = false := decide_eq_false (fun q => nomatch q)
theorem key_rl (a : Str) (b : Int) : decide ((Sum.inr a : Key) = Sum.inl b) = false := decide_eq_false (fun q => nomatch q)
def mixKind (prog : Program) (w : World) : PySem.KeyKind prog w Key where
 is := keyIs
 hash := keyH w
 inj := fun v a b ha hb => by
  rcases keyIs_shape ha with ⟨i, t, rfl, rfl⟩ | ⟨x, t, rfl, rfl⟩
  ·rcases keyIs_shape hb with ⟨j, u, rfl, e⟩ | ⟨y, u, rfl, e⟩
   ·injection e with e1 _; rw [e1]
   ·exact nomatch e
  ·rcases keyIs_shape hb with ⟨j, u, rfl, e⟩ | ⟨y, u, rfl, e⟩
   ·exact nomatch e
   ·injection e with e1 _; rw [e1]
 byValue := fun k v h => by
  rcases keyIs_shape h with ⟨i, t, rfl, rfl⟩ | ⟨x, t, rfl, rfl⟩ <;> rfl
 pyHash := fun hv h => by
  rcases keyIs_shape hv with ⟨i, t, rfl, rfl⟩ | ⟨x, t, rfl, rfl⟩
  ·exact wpAny_pyHash_int h
  ·exact wpAny_pyHash_str h
 eqBool := fun hu hv h => by
  rcases keyIs_shape hu with ⟨i, t, rfl, rfl⟩ | ⟨x, t, rfl, rfl⟩
  ·rcases keyIs_shape hv with ⟨j, u, rfl, rfl⟩ | ⟨y, u, rfl, rfl⟩
   ·rw [key_ll] at h; exact wpAny_eqBool_int h
   ·rw [key_lr] at h; exact SeqAt.EqAt.int_str i t y u _ _ _ _ h
  ·rcases keyIs_shape hv with ⟨j, u, rfl, rfl⟩ | ⟨y, u, rfl, rfl⟩
   ·rw [key_rl] at h; exact SeqAt.EqAt.str_int x t j u _ _ _ _ h
   ·rw [key_rr] at h; exact wpAny_eqBool_str h
 «strs» := fun k x t v h => by
  rcases keyIs_shape h with ⟨i, u, rfl, e⟩ | ⟨y, u, rfl, e⟩
  ·exact nomatch e
  ·injection e with e1 _
   subst e1
   cases v <;> rfl
end L2
namespace L2
open PySem PySem.Spec PyProof.Rows
inductive V where
 | non | bl (b : Bool) | int (i : Int) | str (x : Str) | byt (b : Array UInt8) | flt (b : UInt64) | ref (a : Addr) | ty (n : String)
 deriving DecidableEq
def RelV : V → Value → Prop
 | .non, u => u = Value.none
 | .bl b, u => u = Value.bool b
 | .int i, u => ∃ t, u = Value.int i t
 | .str x, u => ∃ t, u = Value.str x t
 | .byt b, u => ∃ t, u = Value.bytes b t
 | .flt b, u => ∃ t, u = Value.float b t
 | .ref a, u => u = Value.ref a
 | .ty n, u => u = Value.type n
abbrev Vals : List V → List Value → Prop := Paired RelV
theorem Vals.length {xs : List V} {us : List Value} (r : Vals xs us) : xs.length = us.length := Paired.length r
theorem Vals.get : ∀ {xs : List V} {us : List Value} {i : Nat} {x : V}, Vals xs us → xs[i]? = some x → ∃ u, us[i]? = some u ∧ RelV x u
 | _, _, _, _, .nil, e => by simp at e
 | _, _, 0, _, .cons r _, e => by simp at e; subst e; exact ⟨_, rfl, r⟩
 | _, _, i + 1, x, .cons _ t, e => by
  obtain ⟨u, h1, h2⟩ := Vals.get (i := i) (x := x) t (by simpa using e)
  exact ⟨u, by simpa using h1, h2⟩
theorem Vals.append : ∀ {xs ys : List V} {us ws : List Value}, Vals xs us → Vals ys ws → Vals (xs ++ ys) (us ++ ws)
 | _, _, _, _, .nil, s => s
 | _, _, _, _, .cons r t, s => .cons r (Vals.append t s)
theorem Vals.take : ∀ {xs : List V} {us : List Value} (n : Nat), Vals xs us → Vals (xs.take n) (us.take n)
 | _, _, 0, _ => .nil
 | _, _, _ + 1, .nil => .nil
 | _, _, n + 1, .cons r t => .cons r (Vals.take n t)
theorem Vals.drop : ∀ {xs : List V} {us : List Value} (n : Nat), Vals xs us → Vals (xs.drop n) (us.drop n)
 | _, _, 0, r => r
 | _, _, _ + 1, .nil => .nil
 | _, _, n + 1, .cons _ t => Vals.drop n t
def RelO : Option V → Option Value → Prop
 | some v, some u => RelV v u
 | none, none => True
 | _, _ => False
def KV {κ : Type} : List (κ × V) → List (κ × Value) → Prop := Paired fun (p : κ × V) (q : κ × Value) => p.1 = q.1 ∧ RelV p.2 q.2
def kV : Key → V
 | .inl i => .int i
 | .inr x => .str x
inductive HO where
  | lst (xs : List V)
  | tup (xs : List V)
  | dK (kvs : List (Key × V)) | dT (kvs : List (List Key × V))
  | set (S : Int → Bool) (n : Nat)
  | ins (C dx : Addr) (fs : List (Str × V))
  | own (x : Addr)
  | xd (fs : List (Str × V))
  | met (f x : Addr)
  | rng (lo hi : Int)
  | frz (o : Obj) (u : HO)
  | tbl (ps : Array Value)
  | ext (φ : Heap → Prop)
abbrev Hp := Addr → Option HO
def upd (H : Hp) (a : Addr) (o : HO) : Hp := fun b => if b = a then some o else H b
theorem upd_same {H : Hp} {a : Addr} {o : HO} : upd H a o a = some o := by unfold upd; rw [if_pos rfl]
theorem upd_ne {H : Hp} {a b : Addr} {o : HO} (h : b ≠ a) : upd H a o b = H b := by unfold upd; rw [if_neg h]
theorem ne_of {H : Hp} {a b : Addr} {o u : HO} (h : H a = some o) (h' : H b = some u) (d : o ≠ u) : a ≠ b := by
 intro e; subst e; rw [h] at h'; exact d (Option.some.inj h')
theorem ne_of_none {H : Hp} {a b : Addr} {o : HO} (h : H a = some o) (h' : H b = none) : a ≠ b := by
 intro e; subst e; rw [h] at h'; cases h'
section
variable (P : Program) (w : World)
def ObjOk (H : Hp) (h : Heap) (a : Addr) : HO → Prop
 | .lst xs => xs.length ≤ sizeLine ∧ ∃ (its : List Value) (n : Nat), Vals xs its ∧ h.get? a = some { cls := .type "list", data := .seq its.toArray n }
 | .tup xs => xs.length ≤ sizeLine ∧ ∃ its : List Value, Vals xs its ∧ IsTup h a its.toArray
 | .dK kvs => kvs.length ≤ sizeLine ∧ (a == sysModules) = false ∧ ∃ vs, KV kvs vs ∧ h.DictOf (mixKind P w) a vs
 | .dT kvs => kvs.length ≤ sizeLine ∧ (a == sysModules) = false ∧ ∃ xs : List (List Key × Addr × Value),
   Paired (fun (p : List Key × V) (q : List Key × Addr × Value) => p.1 = q.1 ∧ H q.2.1 = some (.tup (p.1.map kV)) ∧ RelV p.2 q.2.2) kvs xs ∧
   ∃ o es ep, h.get? a = some o ∧ o.ExactDict ∧ o.data = .dict es ep ∧ es.toList = xs.map (entryOfKey (tupleKind (mixKind P w))) ∧ (xs.map (·.1)).Nodup
 | .set S n => h.SetOf (intKind P w) a S n
 | .ins C dx fs => H dx = some (.own a) ∧ fs.length ≤ 1000 ∧ dx ≠ a ∧ h.get? a = some (PySem.W.instObj C dx) ∧
   ∃ mA, h.Ns1 dx mA ∧ (∀ f, RelO (fs.lookup f) (mA f)) ∧ PySem.Within mA (fs.map (·.1))
 | .own _ => ∃ o, h.get? a = some o
 | .xd fs => ∃ mA, h.Ns1 a mA ∧ ∀ f, RelO (fs.lookup f) (mA f)
 | .rng lo hi => ∃ t u v, h.get? a = some { cls := .type "range", data := .fields #[.int lo t, .int hi u, .int 1 v] }
 | .frz o u => h.get? a = some o ∧ ObjOk H h a u
 | .tbl ps => h.get? a = some { cls := .none, data := .fields ps }
 | .met f x => h.get? a = some (PySem.W.methodObj (.ref f) (.ref x))
 | .ext φ => φ h ∧ (∃ o, h.get? a = some o) ∧ ∀ h1 h2 : Heap, φ h1 → (∀ o, h1.get? a = some o → h2.get? a = some o) → φ h2
def HOk (H : Hp) (h : Heap) : Prop := ∀ a o, H a = some o → ObjOk P w H h a o
end
section
variable {P : Program} {w : World} {H H' : Hp} {h h' : Heap} {a : Addr} {o : HO}
theorem ObjOk.lt (x : ObjOk P w H h a o) : a < h.objs.size := by
 cases o with
 | lst xs => obtain ⟨_, _, _, _, e⟩ := x; exact Heap.lt_size e
 | tup xs => obtain ⟨_, _, _, p⟩ := x; exact p.lt
 | dK kvs => obtain ⟨_, _, _, _, o, _, _, e, _⟩ := x; exact Heap.lt_size e
 | dT kvs => obtain ⟨_, _, _, _, o, _, _, e, _⟩ := x; exact Heap.lt_size e
 | set S n => obtain ⟨o, _, _, _, e, _⟩ := x; exact Heap.lt_size e
 | ins C dx fs => obtain ⟨_, _, _, e, _⟩ := x; exact Heap.lt_size e
 | own y => obtain ⟨_, e⟩ := x; exact Heap.lt_size e
 | xd fs => obtain ⟨_, ⟨_, _, _, e, _⟩, _⟩ := x; exact Heap.lt_size e
 | rng lo hi => obtain ⟨_, _, _, e⟩ := x; exact Heap.lt_size e
 | frz ob u => obtain ⟨e, _⟩ := x; exact Heap.lt_size e
 | tbl ps => exact Heap.lt_size (show h.get? a = some _ from x)
 | met f y => exact Heap.lt_size (show h.get? a = some _ from x)
 | ext φ => obtain ⟨_, ⟨_, e⟩, _⟩ := x; exact Heap.lt_size e
theorem Paired.mapP {α β : Type} {F G : α → β → Prop} : ∀ {l₁ : List α} {l₂ : List β}, Paired F l₁ l₂ → (∀ a b, F a b → G a b) → Paired G l₁ l₂
 | _, _, .nil, _ => .nil
 | _, _, .cons r t, f => .cons (f _ _ r) (Paired.mapP t f)
theorem ObjOk.stay (x : ObjOk P w H h a o) (k : ∀ b u, (b = a ∨ H b = some (.own a)) → h.get? b = some u → h'.get? b = some u)
  (ho : ∀ b, H b = some (.own a) → H' b = some (.own a)) (ht : ∀ b xs, H b = some (.tup xs) → H' b = some (.tup xs)) : ObjOk P w H' h' a o := by
 induction o with
 | lst xs => obtain ⟨z, its, n, r, e⟩ := x; exact ⟨z, its, n, r, k _ _ (.inl rfl) e⟩
 | tup xs => obtain ⟨z, its, r, ob, e, c⟩ := x; exact ⟨z, its, r, ob, k _ _ (.inl rfl) e, c⟩
 | dK kvs => obtain ⟨z, y, vs, r, ob, es, ep, e, c⟩ := x; exact ⟨z, y, vs, r, ob, es, ep, k _ _ (.inl rfl) e, c⟩
 | dT kvs =>
  obtain ⟨z, y, xs, r, ob, es, ep, e, c⟩ := x
  exact ⟨z, y, xs, Paired.mapP r fun p q z => ⟨z.1, ht _ _ z.2.1, z.2.2⟩, ob, es, ep, k _ _ (.inl rfl) e, c⟩
 | set S n => obtain ⟨ob, es, ep, t, e, c⟩ := x; exact ⟨ob, es, ep, t, k _ _ (.inl rfl) e, c⟩
 | ins C dx fs =>
  obtain ⟨d, z, ne, e, mA, ⟨od, es, ep, e2, c⟩, r⟩ := x
  exact ⟨ho _ d, z, ne, k _ _ (.inl rfl) e, mA, ⟨od, es, ep, k _ _ (.inr d) e2, c⟩, r⟩
 | own y => obtain ⟨ob, e⟩ := x; exact ⟨ob, k _ _ (.inl rfl) e⟩
 | xd fs => obtain ⟨mA, ⟨od, es, ep, e, c⟩, r⟩ := x; exact ⟨mA, ⟨od, es, ep, k _ _ (.inl rfl) e, c⟩, r⟩
 | rng lo hi => obtain ⟨t, u, v, e⟩ := x; exact ⟨t, u, v, k _ _ (.inl rfl) e⟩
 | frz ob u ih => obtain ⟨e, q⟩ := x; exact ⟨k _ _ (.inl rfl) e, ih q⟩
 | tbl ps =>
  have e : h.get? a = some { cls := .none, data := .fields ps } := x
  show h'.get? a = some { cls := .none, data := .fields ps }
  exact k a _ (.inl rfl) e
 | met f y =>
  have e : h.get? a = some (PySem.W.methodObj (.ref f) (.ref y)) := x
  show h'.get? a = some (PySem.W.methodObj (.ref f) (.ref y))
  exact k a _ (.inl rfl) e
 | ext φ => obtain ⟨p, ⟨o, e⟩, st⟩ := x; exact ⟨st _ _ p fun o q => k _ _ (.inl rfl) q, ⟨o, k _ _ (.inl rfl) e⟩, st⟩
theorem HOk.lt (x : HOk P w H h) (e : H a = some o) : a < h.objs.size := (x a o e).lt
theorem HOk.fresh (x : HOk P w H h) (e : h.objs.size ≤ a) : H a = none := by
 cases q : H a with
 | none => rfl
 | some u => exact absurd (Nat.lt_of_lt_of_le (x.lt q) e) (Nat.lt_irrefl _)
theorem HOk.kept (x : HOk P w H h) (k : ∀ b u, h.get? b = some u → h'.get? b = some u) : HOk P w H h' := fun a o e =>
 (x a o e).stay (fun b u _ q => k b u q) (fun _ q => q) fun _ _ q => q
theorem HOk.laid (x : HOk P w H h) (k : ∀ b u, h.get? b = some u → h'.get? b = some u) (hp : h.objs.size ≤ a) (new : ObjOk P w (upd H a o) h' a o) : HOk P w (upd H a o) h' := fun b u e => by
 have hn := x.fresh hp
 by_cases hb : b = a
 ·subst hb; rw [upd_same] at e; cases e; exact new
 ·rw [upd_ne hb] at e
  exact (x b u e).stay (fun c v _ q => k c v q) (fun c q => by rw [upd_ne (ne_of_none q hn)]; exact q) fun c xs q => by rw [upd_ne (ne_of_none q hn)]; exact q
end
def Rd (H : Hp) (a : Addr) (u : HO) : Prop := H a = some u ∨ ∃ o, H a = some (.frz o u)
theorem Rd.ok {P : Program} {w : World} {H : Hp} {h : Heap} {a : Addr} {u : HO} (r : Rd H a u) (x : HOk P w H h) : ObjOk P w H h a u := by
 rcases r with r | ⟨o, r⟩
 ·exact x a u r
 ·obtain ⟨_, q⟩ := x a _ r
  exact q
def Mut : Option HO → Prop
 | some (.lst _) => True
 | some (.dK _) => True
 | some (.dT _) => True
 | some (.set _ _) => True
 | some (.ins _ _ _) => True
 | some (.ext _) => True
 | _ => False
section
variable {P : Program} {w : World} {H : Hp} {h h' : Heap} {x e : Addr} {o' : HO}
theorem HOk.write (ok : HOk P w H h) (mu : Mut (H x)) (he : e = x ∨ H e = some (.own x)) (k : ∀ b u, b ≠ e → h.get? b = some u → h'.get? b = some u) (heo : ∃ u, h'.get? e = some u)
  (new : ObjOk P w (upd H x o') h' x o') : HOk P w (upd H x o') h' := fun b u q => by
 have nown : ∀ c y, H c = some (.own y) → c ≠ x := fun c y r z => by subst z; rw [r] at mu; exact mu
 have ntup : ∀ c xs, H c = some (.tup xs) → c ≠ x := fun c xs r z => by subst z; rw [r] at mu; exact mu
 by_cases hb : b = x
 ·subst hb; rw [upd_same] at q; cases q; exact new
 ·rw [upd_ne hb] at q
  by_cases hbe : b = e
  ·have q' : H b = some (.own x) := by
    rcases he with z | z
    ·exact absurd (hbe.trans z) hb
    ·rw [hbe]; exact z
   rw [q] at q'; cases q'
   obtain ⟨v, hv⟩ := heo
   exact ⟨v, by rw [hbe]; exact hv⟩
  ·refine (ok b u q).stay (fun c v hc r => k c v ?_ r) (fun c r => by rw [upd_ne (nown c b r)]; exact r) fun c xs r => by rw [upd_ne (ntup c xs r)]; exact r
   rcases hc with rfl | hc
   ·exact hbe
   ·rintro rfl
    rcases he with z | z
    ·exact nown c b hc z
    ·rw [hc] at z; cases z; exact hb rfl
end
structure Un (fs ex : List Addr) (H H' : Hp) (h h' : Heap) : Prop where
 keep : ∀ b o, h.get? b = some o → H b = none → b ∉ fs → b ∉ ex → h'.get? b = some o
 slot : ∀ b o, h.get? b = some o → H b = none → b ∈ fs → b ∉ ex → ∃ sl, h'.get? b = some { o with slots := sl }
 free : ∀ b o, h.get? b = some o → H b = none → b ∉ ex → H' b = none
 there : ∀ b o, h.get? b = some o → b ∉ ex → ∃ o', h'.get? b = some o'
 tups : ∀ b xs, H b = some (.tup xs) → H' b = some (.tup xs)
 frzs : ∀ b o u, H b = some (.frz o u) → H' b = some (.frz o u)
 tbls : ∀ b ps, H b = some (.tbl ps) → ∃ more, H' b = some (.tbl (ps ++ more))
section
variable {fs fs' ex ex' : List Addr} {H H1 H2 : Hp} {h h1 h2 h' : Heap} {a x e : Addr} {o : HO}
theorem Un.any (u : Un fs ex H H1 h h1) {b : Addr} {ob : Obj} (q : h.get? b = some ob) (n : H b = none) (hx : b ∉ ex) : ∃ sl, h1.get? b = some { ob with slots := sl } := by
 by_cases hb : b ∈ fs
 ·exact u.slot b ob q n hb hx
 ·exact ⟨ob.slots, u.keep b ob q n hb hx⟩
theorem Un.kept (k : ∀ b u, h.get? b = some u → h'.get? b = some u) : Un fs ex H H h h' :=
 ⟨fun b ob q _ _ _ => k b ob q, fun b ob q _ _ _ => ⟨ob.slots, k b ob q⟩, fun _ _ _ n _ => n, fun b ob q _ => ⟨ob, k b ob q⟩, fun _ _ q => q, fun _ _ _ q => q, fun _ ps q => ⟨#[], by rw [q]; simp⟩⟩
theorem Un.refl : Un fs ex H H h h := Un.kept fun _ _ q => q
theorem Un.laid (k : ∀ b u, h.get? b = some u → h'.get? b = some u) (hp : h.objs.size ≤ a) (hn : H a = none) : Un fs ex H (upd H a o) h h' where
 keep := fun b u q _ _ _ => k b u q
 slot := fun b u q _ _ _ => ⟨u.slots, k b u q⟩
 free := fun b u q n _ => by rw [upd_ne (Nat.ne_of_lt (Nat.lt_of_lt_of_le (Heap.lt_size q) hp))]; exact n
 there := fun b u q _ => ⟨u, k b u q⟩
 tups := fun b xs q => by rw [upd_ne (ne_of_none q hn)]; exact q
 frzs := fun b u xs q => by rw [upd_ne (ne_of_none q hn)]; exact q
 tbls := fun b ps q => ⟨#[], by rw [upd_ne (ne_of_none q hn), q]; simp⟩
theorem Un.write (mu : Mut (H x)) (he : e = x ∨ H e = some (.own x)) (k : ∀ b u, b ≠ e → h.get? b = some u → h'.get? b = some u) (heo : ∃ u, h'.get? e = some u) : Un fs ex H (upd H x o) h h' := by
 have hx : ∀ b, H b = none → b ≠ x := fun b n z => by subst z; rw [n] at mu; exact mu
 have hb : ∀ b, H b = none → b ≠ e := fun b n z => by
  subst z
  rcases he with r | r
  ·exact hx b n r
  ·rw [n] at r; cases r
 have hm : ∀ b u, H b = some u → ¬ Mut (some u) → b ≠ x := fun b u q nm z => by subst z; rw [q] at mu; exact nm mu
 refine ⟨fun b u q n _ _ => k b u (hb b n) q, fun b u q n _ _ => ⟨u.slots, k b u (hb b n) q⟩, fun b u q n _ => by rw [upd_ne (hx b n)]; exact n, fun b u q _ => ?_,
  fun b xs q => by rw [upd_ne (hm b _ q fun z => z)]; exact q, fun b u xs q => by rw [upd_ne (hm b _ q fun z => z)]; exact q, fun b ps q => ⟨#[], by rw [upd_ne (hm b _ q fun z => z), q]; simp⟩⟩
 by_cases hbe : b = e
 ·subst hbe; exact heo
 ·exact ⟨u, k b u hbe q⟩
end
def trk (h : Heap) (H : Hp) : List Addr := (List.range h.objs.size).filter fun a => (H a).isSome
def hidT (h : Heap) (H : Hp) : Heap := PySem.W.hideAll h (trk h H)
theorem hidT_size (h : Heap) (H : Hp) : (hidT h H).objs.size = h.objs.size := PySem.W.hideAll_size _ _
theorem hidT_get {h : Heap} {H : Hp} {b : Addr} {o : Obj} (e : h.get? b = some o) (n : H b = none) : (hidT h H).get? b = some o :=
 PySem.W.hideAll_get _ e fun hm => by
  have q : (H b).isSome = true := (List.mem_filter.mp hm).2
  rw [n] at q; simp at q
theorem of_hidT {h : Heap} {H : Hp} {b : Addr} {o : Obj} (e : (hidT h H).get? b = some o) : h.get? b = some o ∧ H b = none := by
 have e' : h.get? b = some o := PySem.W.of_hideAll (trk h H) e
 refine ⟨e', ?_⟩
 cases q : H b with
 | none => rfl
 | some x =>
  have hm : b ∈ trk h H := List.mem_filter.mpr ⟨List.mem_range.mpr (Heap.lt_size e'), by simp [q]⟩
  have z : (hidT h H).get? b = none := PySem.W.hideAll_none (trk h H) hm
  rw [z] at e; cases e
end L2
namespace L2
open PySem PySem.Spec PyProof.Rows
structure Mod (K : PySem.W.Frag) (mg : Str → Option Value) (base : Heap) : Prop where
 kin : K.In base
 glob : base.Ns mainGlobals mg
 blt : ∃ mb, base.Ns builtinsNs mb ∧ ∀ x : Str, x ≠ "__name__" → mb x = bootBuiltins x
 nolimit : base.NoLimit
structure Cx where
 prog : Program
 w : World
 K : PySem.W.Frag
 mg : Str → Option Value
 base : Heap
 A : Around
 N : List Str
 s₀ : Shared
 H₀ : Hp
 env : Env
 outer : List Env
 stack : List Env
 ex : List Addr
 fn : Str → Bool
 calm : Bool
 pn : List (Addr × Obj)
 xe : Value → Shared → Prop
def frs (l : List Env) : List Addr := l.filterMap (·.frame)
abbrev Cx.fs (X : Cx) : List Addr := frs X.outer
def Vis (sc : Scope) (x : Str) : Prop := sc.names.lookup x = some .local ∨ sc.names.lookup x = some .cell ∨ sc.names.lookup x = some .free
def Loc (sc : Scope) (x : Str) : Prop := sc.names.lookup x = some .local ∨ sc.names.lookup x = some .cell
def Look (env : Env) (h : Heap) (m : Str → Option Value) (x : Str) (u : Value) : Prop :=
 (env.kindOf x = some .local ∧ m x = some u) ∨ ((env.kindOf x = some .cell ∨ env.kindOf x = some .free) ∧ ∃ c, env.cells.lookup x = some c ∧ h.IsCell c (some u))
structure Cx.Ok (X : Cx) : Prop where
 mod : Mod X.K X.mg X.base
 kind : X.env.scope.kind = .function
 glob : X.env.globals = mainGlobals
 blt : X.env.builtins = builtinsNs
 above : X.s₀.heap.objs.size ≤ X.env.locals
 inj : ∀ x y c, X.env.cells.lookup x = some c → X.env.cells.lookup y = some c → x = y
 has : ∀ x, (X.env.kindOf x = some .cell ∨ X.env.kindOf x = some .free) → ∃ c, X.env.cells.lookup x = some c
 cab : ∀ x c, X.fn x = true → X.env.cells.lookup x = some c → X.s₀.heap.objs.size ≤ c
 hd : X.calm = true → X.A.handled = none
 frames : X.A.frames = some X.stack
 stk : X.stack = X.outer ∨ (X.stack = X.env :: X.outer ∧ X.env.frame = some X.env.locals)
 exf : ∀ b ∈ X.ex, b ≠ X.env.locals ∧ ∀ x c, X.env.cells.lookup x = some c → c ≠ b
 bs : ∀ b o, X.base.get? b = some o → X.s₀.heap.get? b = some o ∧ X.H₀ b = none
 bsz : X.base.objs.size ≤ X.s₀.heap.objs.size
 noex : ∀ b o, X.base.get? b = some o → b ∉ X.ex
 exfs : ∀ b ∈ X.ex, b ∉ X.fs
 funs : X.s₀.heap.FunFrames X.base X.outer
 frf : ∀ b ∈ X.fs, X.H₀ b = none
structure Inv (X : Cx) (pins : List (Addr × Obj)) (σ : List (Option V)) (H : Hp) (s : Shared) : Prop where
 ok : X.Ok
 os : s.os = X.s₀.os
 bare : AllBare s.gens
 base : Un X.fs X.ex X.H₀ H X.s₀.heap s.heap
 loc : ∃ m, s.heap.Ns X.env.locals m ∧ ∀ (i : Nat) (x : Str) (v : V), X.N[i]? = some x → σ[i]? = some (some v) → Vis X.env.scope x → ∃ u, RelV v u ∧ Look X.env s.heap m x u
 cell : ∀ x c, X.env.cells.lookup x = some c → ∃ v, s.heap.IsCell c v
 free : H X.env.locals = none
 freeC : ∀ x c, X.env.cells.lookup x = some c → H c = none
 pin : ∀ p ∈ X.pn ++ pins, s.heap.get? p.1 = some p.2 ∧ H p.1 = none ∧ p.1 ≠ X.env.locals ∧ p.1 ∉ X.fs ∧ ∀ v, p.2.data ≠ .cell v
 hok : HOk X.prog X.w H s.heap
 len : σ.length = X.N.length
section
variable {X : Cx} {pins : List (Addr × Obj)} {σ : List (Option V)} {H H' : Hp} {s : Shared} {h' : Heap}
theorem Cx.Ok.nofr (ok : X.Ok) {b : Addr} {o : Obj} (e : X.base.get? b = some o) : b ∉ X.fs := fun hb => by
 have := (ok.funs.mem hb).1
 rw [e] at this; cases this
theorem Inv.bs (I : Inv X pins σ H s) : ∀ b o, X.base.get? b = some o → s.heap.get? b = some o ∧ H b = none := fun b o e =>
 ⟨I.base.keep b o (I.ok.bs b o e).1 (I.ok.bs b o e).2 (I.ok.nofr e) (I.ok.noex b o e), I.base.free b o (I.ok.bs b o e).1 (I.ok.bs b o e).2 (I.ok.noex b o e)⟩
theorem Inv.bk (I : Inv X pins σ H s) : ∀ b o, X.base.get? b = some o → s.heap.get? b = some o := fun b o e => (I.bs b o e).1
theorem Inv.mod (I : Inv X pins σ H s) : Mod X.K X.mg X.base := I.ok.mod
theorem Inv.kIn (I : Inv X pins σ H s) : X.K.In s.heap := I.ok.mod.kin.keeps I.bk
theorem Inv.lt (I : Inv X pins σ H s) : X.env.locals < s.heap.objs.size := let ⟨_, hn, _⟩ := I.loc; hn.lt
theorem Inv.sz (I : Inv X pins σ H s) : X.s₀.heap.objs.size ≤ s.heap.objs.size := Nat.le_trans I.ok.above (Nat.le_of_lt I.lt)
theorem Inv.nofs (I : Inv X pins σ H s) {a : Addr} (h : s.heap.objs.size ≤ a) : a ∉ X.fs := fun hb => by
 obtain ⟨_, o, ho, _⟩ := I.ok.funs.mem hb
 exact absurd (Nat.lt_of_lt_of_le (Heap.lt_size ho) (Nat.le_trans I.sz h)) (Nat.lt_irrefl _)
theorem Inv.cne (I : Inv X pins σ H s) : ∀ x c, X.env.cells.lookup x = some c → c ≠ X.env.locals := fun x c e z => by
 obtain ⟨v, o, ho, hd⟩ := I.cell x c e
 obtain ⟨m, ⟨o', es, ep, ho', hd', _⟩, _⟩ := I.loc
 rw [z, ho'] at ho; cases ho; rw [hd'] at hd; cases hd
theorem Inv.funs (I : Inv X pins σ H s) : s.heap.FunFrames X.base X.outer := by
 have all : ∀ (l : List Env), (∀ b ∈ frs l, b ∈ X.fs) → X.s₀.heap.FunFrames X.base l → s.heap.FunFrames X.base l := by
  intro l
  induction l with
  | nil => intro _ _; trivial
  | cons env r ih =>
   intro hs hl
   obtain ⟨hk, ⟨L, o, hf, hn, ho, hd⟩, hr⟩ := hl
   have hL : L ∈ X.fs := hs L (by unfold frs; rw [List.filterMap_cons, hf]; exact List.mem_cons_self)
   obtain ⟨sl, e⟩ := I.base.slot L o ho (I.ok.frf L hL) hL fun z => I.ok.exfs L z hL
   exact ⟨hk, ⟨L, _, hf, hn, e, hd⟩, ih (fun b hb => hs b (by unfold frs; rw [List.filterMap_cons, hf]; exact List.mem_cons_of_mem _ hb)) hr⟩
 exact all X.outer (fun _ hb => hb) I.ok.funs
theorem Inv.stack (I : Inv X pins σ H s) : s.heap.FunFrames X.base X.stack := by
 rcases I.ok.stk with e | ⟨e, hf⟩
 ·rw [e]; exact I.funs
 ·rw [e]
  obtain ⟨m, hn, _⟩ := I.loc
  refine .cons (by rw [I.ok.kind]; decide) hf hn ?_ I.funs
  exact Heap.get?_none_of_le (Nat.le_trans I.ok.bsz I.ok.above)
theorem Inv.stkSub (I : Inv X pins σ H s) : ∀ b ∈ frs X.stack, b ∈ X.env.locals :: X.fs := fun b hb => by
 rcases I.ok.stk with e | ⟨e, hf⟩
 ·rw [e] at hb; exact List.mem_cons_of_mem _ hb
 ·rw [e] at hb
  unfold frs at hb
  rw [List.filterMap_cons, hf] at hb
  exact hb
theorem Inv.stkFree (I : Inv X pins σ H s) : ∀ b ∈ frs X.stack, H b = none := fun b hb => by
 rcases List.mem_cons.mp (I.stkSub b hb) with e | hb
 ·rw [e]; exact I.free
 ·obtain ⟨_, o, ho, _⟩ := I.ok.funs.mem hb
  exact I.base.free b o ho (I.ok.frf b hb) fun z => I.ok.exfs b z hb
theorem Inv.step {g' : Array GenState} {t' : Nat} {d' : Drawn} {ch : List Addr} (I : Inv X pins σ H s)
  (hch : ∀ b ∈ ch, (b ∈ X.ex ∨ X.s₀.heap.objs.size ≤ b) ∧ b ≠ X.env.locals ∧ (∀ x c, X.env.cells.lookup x = some c → c ≠ b) ∧ ∀ p ∈ X.pn ++ pins, p.1 ≠ b)
  (keep : ∀ b o, b ≠ X.env.locals → b ∉ X.fs → b ∉ ch → s.heap.get? b = some o → H b = none → h'.get? b = some o)
  (slot : ∀ b o, b ≠ X.env.locals → b ∈ X.fs → b ∉ ch → s.heap.get? b = some o → H b = none → ∃ sl, h'.get? b = some { o with slots := sl }) (free : ∀ b o, b ∉ ch → s.heap.get? b = some o → H b = none → H' b = none)
  (there : ∀ b o, b ∉ ch → s.heap.get? b = some o → ∃ o', h'.get? b = some o')
  (tups : ∀ b xs, H b = some (.tup xs) → H' b = some (.tup xs)) (frzs : ∀ b o u, H b = some (.frz o u) → H' b = some (.frz o u)) (tbls : ∀ b ps, H b = some (.tbl ps) → ∃ more, H' b = some (.tbl (ps ++ more)))
  (ns : ∀ m, s.heap.Ns X.env.locals m → h'.Ns X.env.locals m) (hok : HOk X.prog X.w H' h') (hg : AllBare g') :
  Inv X pins σ H' { s with heap := h', gens := g', drawn := d', toks := t' } := by
 have neL : ∀ b o, X.s₀.heap.get? b = some o → b ≠ X.env.locals := fun b o e => Nat.ne_of_lt (Nat.lt_of_lt_of_le (Heap.lt_size e) I.ok.above)
 have neC : ∀ b o, X.s₀.heap.get? b = some o → b ∉ X.ex → b ∉ ch := fun b o e hx hb => by
  rcases (hch b hb).1 with z | z
  ·exact hx z
  ·exact absurd (Nat.lt_of_lt_of_le (Heap.lt_size e) z) (Nat.lt_irrefl _)
 have cellK : ∀ x c, X.env.cells.lookup x = some c → ∀ v, s.heap.IsCell c v → h'.IsCell c v := fun x c e v ⟨o, ho, hd⟩ => by
  have nch : c ∉ ch := fun z => (hch c z).2.2.1 x c e rfl
  by_cases hc : c ∈ X.fs
  ·obtain ⟨sl, q⟩ := slot c o (I.cne x c e) hc nch ho (I.freeC x c e)
   exact ⟨_, q, hd⟩
  ·exact ⟨o, keep c o (I.cne x c e) hc nch ho (I.freeC x c e), hd⟩
 refine ⟨I.ok, I.os, hg, ⟨fun b o e n hb hx => ?_, fun b o e n hb hx => ?_, fun b o e n hx => ?_, fun b o e hx => ?_, fun b xs e => tups b xs (I.base.tups b xs e), fun b o xs e => frzs b o xs (I.base.frzs b o xs e), fun b ps e => ?_⟩, ?_, fun x c e => ?_, ?_, fun x c e => ?_, fun p hp => ?_, hok, I.len⟩
 ·exact keep b o (neL b o e) hb (neC b o e hx) (I.base.keep b o e n hb hx) (I.base.free b o e n hx)
 ·obtain ⟨sl, e1⟩ := I.base.slot b o e n hb hx
  obtain ⟨sl', e2⟩ := slot b _ (neL b o e) hb (neC b o e hx) e1 (I.base.free b o e n hx)
  exact ⟨sl', e2⟩
 ·obtain ⟨o', e1⟩ := I.base.there b o e hx
  exact free b o' (neC b o e hx) e1 (I.base.free b o e n hx)
 ·obtain ⟨o', e1⟩ := I.base.there b o e hx
  exact there b o' (neC b o e hx) e1
 ·obtain ⟨m1, e1⟩ := I.base.tbls b ps e
  obtain ⟨m2, e2⟩ := tbls b _ e1
  exact ⟨m1 ++ m2, by rw [e2, Array.append_assoc]⟩
 ·obtain ⟨m, hn, hl⟩ := I.loc
  refine ⟨m, ns m hn, fun i x v e1 e2 e3 => ?_⟩
  obtain ⟨u, r, l⟩ := hl i x v e1 e2 e3
  refine ⟨u, r, ?_⟩
  rcases l with l | ⟨k, c, e, z⟩
  ·exact .inl l
  ·exact .inr ⟨k, c, e, cellK x c e _ z⟩
 ·obtain ⟨v, z⟩ := I.cell x c e
  exact ⟨v, cellK x c e v z⟩
 ·obtain ⟨m, ⟨o, _, _, ho, _⟩, _⟩ := I.loc
  exact free _ o (fun z => (hch _ z).2.1 rfl) ho I.free
 ·obtain ⟨v, o, ho, hd⟩ := I.cell x c e
  exact free c o (fun z => (hch c z).2.2.1 x c e rfl) ho (I.freeC x c e)
 ·obtain ⟨e, n, ne, nf, d⟩ := I.pin p hp
  have nch : p.1 ∉ ch := fun z => (hch p.1 z).2.2.2 p hp rfl
  exact ⟨keep p.1 p.2 ne nf nch e n, free p.1 p.2 nch e n, ne, nf, d⟩
theorem Inv.un {t' : Nat} (I : Inv X pins σ H s) (u : Un X.fs [] H H' s.heap h') (hok : HOk X.prog X.w H' h') : Inv X pins σ H' { s with heap := h', toks := t' } := by
 obtain ⟨m, ⟨o, es, ep, ho, r⟩, _⟩ := id I.loc
 obtain ⟨sl, hL⟩ := u.any ho I.free (by simp)
 exact I.step (g' := s.gens) (d' := s.drawn) (ch := []) (fun _ z => nomatch z) (fun b o _ hb _ e n => u.keep b o e n hb (by simp)) (fun b o _ hb _ e n => u.slot b o e n hb (by simp)) (fun b o _ e n => u.free b o e n (by simp)) (fun b o _ e => u.there b o e (by simp)) u.tups u.frzs u.tbls (fun m' hm => by
  obtain ⟨o', es', ep', ho', r'⟩ := hm
  rw [ho] at ho'; cases ho'
  exact ⟨_, es', ep', hL, r'⟩) hok I.bare
theorem Inv.call {g' : Array GenState} {t' : Nat} {d' : Drawn} {ch : List Addr} (I : Inv X pins σ H s) (u : Un (frs X.stack) ch H H' s.heap h') (hok : HOk X.prog X.w H' h') (hg : AllBare g')
  (hch : ∀ b ∈ ch, (b ∈ X.ex ∨ X.s₀.heap.objs.size ≤ b) ∧ b ≠ X.env.locals ∧ (∀ x c, X.env.cells.lookup x = some c → c ≠ b) ∧ ∀ p ∈ X.pn ++ pins, p.1 ≠ b) :
  Inv X pins σ H' { s with heap := h', gens := g', drawn := d', toks := t' } := by
 obtain ⟨m, ⟨o, es, ep, ho, r⟩, _⟩ := id I.loc
 obtain ⟨sl, hL⟩ := u.any ho I.free fun z => (hch _ z).2.1 rfl
 exact I.step (ch := ch) hch (fun b o hL hb hc e n => u.keep b o e n (fun z => (List.mem_cons.mp (I.stkSub b z)).elim hL hb) hc) (fun b o _ _ hc e n => u.any e n hc) (fun b o hc e n => u.free b o e n hc) (fun b o hc e => u.there b o e hc) u.tups u.frzs u.tbls (fun m' hm => by
  obtain ⟨o', es', ep', ho', r'⟩ := hm
  rw [ho] at ho'; cases ho'
  exact ⟨_, es', ep', hL, r'⟩) hok hg
theorem Inv.turned {t' : Nat} {it : Addr} (I : Inv X pins σ H s) (k : ∀ b o, b ≠ it → s.heap.get? b = some o → h'.get? b = some o) (hn : H it = none) (hL : it ≠ X.env.locals)
  (h1 : it ∈ X.ex ∨ X.s₀.heap.objs.size ≤ it) (h2 : ∀ x c, X.env.cells.lookup x = some c → c ≠ it) (h3 : ∀ p ∈ X.pn ++ pins, p.1 ≠ it) : Inv X pins σ H { s with heap := h', toks := t' } := by
 have nit : ∀ b u, H b = some u → b ≠ it := fun b u e z => by rw [z, hn] at e; cases e
 refine I.step (g' := s.gens) (d' := s.drawn) (ch := [it]) (fun b hb => ?_) (fun b o _ _ hc e _ => k b o (fun z => hc (by simp [z])) e) (fun b o _ _ hc e _ => ⟨o.slots, k b o (fun z => hc (by simp [z])) e⟩) (fun _ _ _ _ n => n)
  (fun b o hc e => ⟨o, k b o (fun z => hc (by simp [z])) e⟩) (fun _ _ e => e) (fun _ _ _ e => e) (fun b ps e => ⟨#[], by rw [e]; simp⟩) (fun m hm => ?_) (fun b u e => ?_) I.bare
 ·have e : b = it := by simpa using hb
  subst e
  exact ⟨h1, hL, h2, h3⟩
 ·obtain ⟨o, es, ep, ho, r⟩ := hm
  exact ⟨o, es, ep, k _ o (Ne.symm hL) ho, r⟩
 ·refine (I.hok b u e).stay (fun c v hc q => k c v ?_ q) (fun _ q => q) fun _ _ q => q
  rcases hc with z | z
  ·rw [z]; exact nit b u e
  ·exact nit c _ z
theorem Inv.tok (I : Inv X pins σ H s) (t : Nat) : Inv X pins σ H { s with toks := t } := I.un (h' := s.heap) (t' := t) Un.refl I.hok
theorem Inv.kept {t' : Nat} (I : Inv X pins σ H s) (k : ∀ b u, s.heap.get? b = some u → h'.get? b = some u) : Inv X pins σ H { s with heap := h', toks := t' } := I.un (Un.kept k) (I.hok.kept k)
theorem Inv.laid {a : Addr} {o : HO} {t' : Nat} (I : Inv X pins σ H s) (k : ∀ b u, s.heap.get? b = some u → h'.get? b = some u) (hp : s.heap.objs.size ≤ a) (new : ObjOk X.prog X.w (upd H a o) h' a o) :
  Inv X pins σ (upd H a o) { s with heap := h', toks := t' } := I.un (Un.laid k hp (I.hok.fresh hp)) (I.hok.laid k hp new)
theorem Inv.write {x e : Addr} {o : HO} {t' : Nat} (I : Inv X pins σ H s) (mu : Mut (H x)) (he : e = x ∨ H e = some (.own x)) (k : ∀ b u, b ≠ e → s.heap.get? b = some u → h'.get? b = some u) (heo : ∃ u, h'.get? e = some u)
  (new : ObjOk X.prog X.w (upd H x o) h' x o) : Inv X pins σ (upd H x o) { s with heap := h', toks := t' } := I.un (Un.write mu he k heo) (I.hok.write mu he k heo new)
theorem Inv.pins_of {pins' : List (Addr × Obj)} (I : Inv X pins σ H s) (h : ∀ p ∈ pins', s.heap.get? p.1 = some p.2 ∧ H p.1 = none ∧ p.1 ≠ X.env.locals ∧ p.1 ∉ X.fs ∧ ∀ v, p.2.data ≠ .cell v) : Inv X pins' σ H s :=
 ⟨I.ok, I.os, I.bare, I.base, I.loc, I.cell, I.free, I.freeC, fun p hp => (List.mem_append.mp hp).elim (fun z => I.pin p (List.mem_append_left _ z)) (h p), I.hok, I.len⟩
theorem nodup_ix {N : List Str} (hN : N.Nodup) {i j : Nat} {x : Str} (a : N[i]? = some x) (b : N[j]? = some x) : i = j := by
 obtain ⟨h1, e1⟩ := List.getElem?_eq_some_iff.mp a
 obtain ⟨h2, e2⟩ := List.getElem?_eq_some_iff.mp b
 exact (List.getElem_inj hN).mp (e1.trans e2.symm)
theorem store_ok2 {M : Model} {A : Around} {E : Value → Shared → Prop} {i : Nat} {x : Str} {v : V} {u : Value} {Q : Unit → Shared → Prop} (I : Inv X pins σ H s) (hN : X.N.Nodup) (hi : X.N[i]? = some x) (hx : Loc X.env.scope x) (r : RelV v u)
  (h : ∀ s', Inv X pins (σ.set i (some v)) H s' → (∃ a, Heap.SameBut a s.heap s'.heap ∧ (a = X.env.locals ∨ X.env.cells.lookup x = some a)) → Q () s') (hf : X.fn x = true ∨ X.env.scope.names.lookup x = some .local := by first | exact .inl rfl | exact .inr rfl | assumption) : wpAny M A (storeName X.env x u) Q E s := by
 obtain ⟨m, hn, hl⟩ := id I.loc
 have hcls : (X.env.scope.kind == .class || (X.env.scope.kind == .module && X.env.locals != X.env.globals)) = false := by rw [I.ok.kind]; rfl
 have hiσ : i < σ.length := by rw [I.len]; exact (List.getElem?_eq_some_iff.mp hi).1
 have cne := I.cne
 have tracked : ∀ {a : Addr} {h' : Heap}, (∃ o, s.heap.get? a = some o ∧ H a = none) → Heap.SameBut a s.heap h' → HOk X.prog X.w H h' := fun {a h'} ha hs b ob e => by
  obtain ⟨_, _, hfree⟩ := ha
  refine (I.hok b ob e).stay (fun c w' hc q => (hs.2 c ?_).trans q) (fun _ q => q) fun _ _ q => q
  rintro rfl
  rcases hc with rfl | hc
  ·rw [hfree] at e; cases e
  ·rw [hfree] at hc; cases hc
 rcases hx with hk | hk
 ·refine wpAny_storeName_local hk hn (fun h' hn' hs => ?_) hcls
  obtain ⟨oL, _, _, hoL, _⟩ := id hn
  refine h _ ⟨I.ok, I.os, I.bare, ⟨fun b o e n hb hx => ?_, fun b o e n hb hx => ?_, I.base.free, fun b o e hx => ?_, I.base.tups, I.base.frzs, I.base.tbls⟩, ⟨_, hn', fun j y v' e1 e2 e3 => ?_⟩, fun y c e => ?_, I.free, I.freeC, fun p hp => ?_, tracked ⟨oL, hoL, I.free⟩ hs, by simpa using I.len⟩ ⟨_, hs, .inl rfl⟩
  ·exact (hs.2 b (Nat.ne_of_lt (Nat.lt_of_lt_of_le (Heap.lt_size e) I.ok.above))).trans (I.base.keep b o e n hb hx)
  ·obtain ⟨sl, e1⟩ := I.base.slot b o e n hb hx
   exact ⟨sl, (hs.2 b (Nat.ne_of_lt (Nat.lt_of_lt_of_le (Heap.lt_size e) I.ok.above))).trans e1⟩
  ·obtain ⟨o', e1⟩ := I.base.there b o e hx
   exact ⟨o', (hs.2 b (Nat.ne_of_lt (Nat.lt_of_lt_of_le (Heap.lt_size e) I.ok.above))).trans e1⟩
  ·by_cases hj : j = i
   ·subst hj
    rw [hi] at e1; cases e1
    rw [List.getElem?_set_self hiσ] at e2
    cases e2
    exact ⟨u, r, .inl ⟨hk, by simp⟩⟩
   ·rw [List.getElem?_set_ne (Ne.symm hj)] at e2
    obtain ⟨u', r', q⟩ := hl j y v' e1 e2 e3
    refine ⟨u', r', ?_⟩
    rcases q with ⟨k, e⟩ | ⟨k, c, e, z⟩
    ·refine .inl ⟨k, ?_⟩
     have : y ≠ x := fun e => hj (nodup_ix hN e1 (e ▸ hi))
     simp [this, e]
    ·exact .inr ⟨k, c, e, z.sameBut hs (cne y c e)⟩
  ·obtain ⟨w', z⟩ := I.cell y c e
   exact ⟨w', z.sameBut hs (cne y c e)⟩
  ·obtain ⟨e, n, ne, nf, d⟩ := I.pin p hp
   exact ⟨(hs.2 p.1 ne).trans e, n, ne, nf, d⟩
 ·have hfn : X.fn x = true := by
   rcases hf with z | z
   ·exact z
   ·rw [z] at hk; cases hk
  obtain ⟨c, hc⟩ := I.ok.has x (.inl hk)
  obtain ⟨w', z⟩ := I.cell x c hc
  refine wpAny_storeName_cell I.ok.kind hk hc z (fun h' hc' hs => ?_)
  obtain ⟨oc, hoc, hocd⟩ := id z
  refine h { s with heap := h' } ⟨I.ok, I.os, I.bare, ⟨fun b o e n hb hx => ?_, fun b o e n hb hx => ?_, I.base.free, fun b o e hx => ?_, I.base.tups, I.base.frzs, I.base.tbls⟩, ⟨m, hn.sameBut hs (Ne.symm (cne x c hc)), fun j y v' e1 e2 e3 => ?_⟩, fun y c' e => ?_, I.free, I.freeC, fun p hp => ?_, tracked ⟨oc, hoc, I.freeC x c hc⟩ hs, by simpa using I.len⟩ ⟨c, hs, .inr hc⟩
  ·exact (hs.2 b (Nat.ne_of_lt (Nat.lt_of_lt_of_le (Heap.lt_size e) (I.ok.cab x c hfn hc)))).trans (I.base.keep b o e n hb hx)
  ·obtain ⟨sl, e1⟩ := I.base.slot b o e n hb hx
   exact ⟨sl, (hs.2 b (Nat.ne_of_lt (Nat.lt_of_lt_of_le (Heap.lt_size e) (I.ok.cab x c hfn hc)))).trans e1⟩
  ·obtain ⟨o', e1⟩ := I.base.there b o e hx
   exact ⟨o', (hs.2 b (Nat.ne_of_lt (Nat.lt_of_lt_of_le (Heap.lt_size e) (I.ok.cab x c hfn hc)))).trans e1⟩
  ·by_cases hj : j = i
   ·subst hj
    rw [hi] at e1; cases e1
    rw [List.getElem?_set_self hiσ] at e2
    cases e2
    exact ⟨u, r, .inr ⟨.inl hk, c, hc, hc'⟩⟩
   ·rw [List.getElem?_set_ne (Ne.symm hj)] at e2
    obtain ⟨u', r', q⟩ := hl j y v' e1 e2 e3
    refine ⟨u', r', ?_⟩
    rcases q with q | ⟨k, c', e, z'⟩
    ·exact .inl q
    ·refine .inr ⟨k, c', e, z'.sameBut hs ?_⟩
     rintro rfl
     exact hj (nodup_ix hN e1 (I.ok.inj _ _ _ e hc ▸ hi))
  ·by_cases hcc : c' = c
   ·subst hcc; exact ⟨_, hc'⟩
   ·obtain ⟨w2, z2⟩ := I.cell y c' e
    exact ⟨w2, z2.sameBut hs hcc⟩
  ·obtain ⟨e, n, ne, nf, d⟩ := I.pin p hp
   refine ⟨(hs.2 p.1 ?_).trans e, n, ne, nf, d⟩
   intro q
   rw [q, hoc] at e
   have q' : oc = p.2 := Option.some.inj e
   exact d w' (by rw [← q']; exact hocd)
theorem store_ok {M : Model} {A : Around} {E : Value → Shared → Prop} {i : Nat} {x : Str} {v : V} {u : Value} {Q : Unit → Shared → Prop} (I : Inv X pins σ H s) (hN : X.N.Nodup) (hi : X.N[i]? = some x) (hx : Loc X.env.scope x) (r : RelV v u)
  (h : ∀ s', Inv X pins (σ.set i (some v)) H s' → Q () s') (hf : X.fn x = true ∨ X.env.scope.names.lookup x = some .local := by first | exact .inl rfl | exact .inr rfl | assumption) : wpAny M A (storeName X.env x u) Q E s :=
 store_ok2 I hN hi hx r (fun s' I' _ => h s' I') hf
theorem Inv.call' {s' : Shared} {ch : List Addr} (I : Inv X pins σ H s) (ho : s'.os = s.os) (u : Un (frs X.stack) ch H H' s.heap s'.heap) (hok : HOk X.prog X.w H' s'.heap) (hg : AllBare s'.gens)
  (hch : ∀ b ∈ ch, (b ∈ X.ex ∨ X.s₀.heap.objs.size ≤ b) ∧ b ≠ X.env.locals ∧ (∀ x c, X.env.cells.lookup x = some c → c ≠ b) ∧ ∀ p ∈ X.pn ++ pins, p.1 ≠ b) : Inv X pins σ H' s' := by
 obtain ⟨h', g', d', t', o'⟩ := s'
 have e : o' = s.os := ho
 subst e
 exact I.call (g' := g') (t' := t') (d' := d') u hok hg hch
end
abbrev XK := Value → Option Addr → Hp → Prop
abbrev St := List (Option V)
abbrev VK := V → Hp → Prop
abbrev TE := St → Hp → VK → Prop
abbrev TT := St → Hp → (Bool → Hp → Prop) → Prop
abbrev TA := St → Hp → (List V → Hp → Prop) → Prop
structure Ends where
 nx : St → Hp → Prop
 rt : VK
 bk : St → Hp → Prop := fun _ _ => False
 ct : St → Hp → Prop := fun _ _ => False
abbrev TS := Ends → St → Hp → Prop
def EP (X : Cx) (pins : List (Addr × Obj)) (σ : St) (Q : VK) (u : Value) (s' : Shared) : Prop := ∃ v H', Inv X pins σ H' s' ∧ RelV v u ∧ Q v H'
def TP (X : Cx) (pins : List (Addr × Obj)) (σ : St) (Q : Bool → Hp → Prop) (b : Bool) (s' : Shared) : Prop := ∃ H', Inv X pins σ H' s' ∧ Q b H'
def AP (X : Cx) (pins : List (Addr × Obj)) (σ : St) (Q : List V → Hp → Prop) (us : List Value) (s' : Shared) : Prop := ∃ vs H', Inv X pins σ H' s' ∧ Vals vs us ∧ Q vs H'
def SP (X : Cx) (pins : List (Addr × Obj)) (D : Ends) (f : Flow) (s' : Shared) : Prop :=
 match f with
 | .next => ∃ σ' H', Inv X pins σ' H' s' ∧ D.nx σ' H'
 | .brk => ∃ σ' H', Inv X pins σ' H' s' ∧ D.bk σ' H'
 | .cont => ∃ σ' H', Inv X pins σ' H' s' ∧ D.ct σ' H'
 | .ret u => ∃ v σ' H', Inv X pins σ' H' s' ∧ RelV v u ∧ D.rt v H'
def PE (X : Cx) (e : Expr) (t : TE) : Prop :=
 ∀ (pins : List (Addr × Obj)) (s : Shared) (σ : St) (H : Hp) (Q : VK), Inv X pins σ H s → t σ H Q → wpAny (model X.prog X.w) X.A (eval e X.env) (EP X pins σ Q) X.xe s
def PT (X : Cx) (e : Expr) (t : TT) : Prop :=
 ∀ (pins : List (Addr × Obj)) (s : Shared) (σ : St) (H : Hp) (Q : Bool → Hp → Prop), Inv X pins σ H s → t σ H Q → wpAny (model X.prog X.w) X.A (isTrue e X.env (eval e X.env)) (TP X pins σ Q) X.xe s
def PW (X : Cx) (e : Expr) (t : TT) : Prop :=
 ∀ (whole : Sem Value) (pins : List (Addr × Obj)) (s : Shared) (σ : St) (H : Hp) (Q : Bool → Hp → Prop), Inv X pins σ H s → t σ H Q → wpAny (model X.prog X.w) X.A (isTrue e X.env whole) (TP X pins σ Q) X.xe s
theorem PW.pt {X : Cx} {e : Expr} {t : TT} (h : PW X e t) : PT X e t := h _
def PA (X : Cx) (es : List Expr) (t : TA) : Prop :=
 ∀ (pos : Pos) (pins : List (Addr × Obj)) (s : Shared) (σ : St) (H : Hp) (Q : List V → Hp → Prop), Inv X pins σ H s → t σ H Q → wpAny (model X.prog X.w) X.A (spliced (backTo pos (starEach es X.env))) (AP X pins σ Q) X.xe s
def PS (X : Cx) (st : Stmt) (t : TS) : Prop :=
 ∀ (pins : List (Addr × Obj)) (s : Shared) (σ : St) (H : Hp) (D : Ends), Inv X pins σ H s → t D σ H → wpAny (model X.prog X.w) X.A (exec st X.env) (SP X pins D) X.xe s
def PSs (X : Cx) (st : List Stmt) (t : TS) : Prop :=
 ∀ (pins : List (Addr × Obj)) (s : Shared) (σ : St) (H : Hp) (D : Ends), Inv X pins σ H s → t D σ H → wpAny (model X.prog X.w) X.A (execs st X.env) (SP X pins D) X.xe s
theorem thn {α : Type} {t : Sem α} {Q Q' : α → Shared → Prop} {M : Model} {A : Around} {E : Value → Shared → Prop} {s : Shared} (h : wpAny M A t Q E s) (hQ : ∀ a s, Q a s → Q' a s) : wpAny M A t Q' E s := wpAny_mono h hQ fun _ _ x => x
end L2
namespace L2
open PySem PySem.Spec PyProof.Rows
section
variable {X : Cx}
def tVar (i : Nat) : TE := fun σ H Q => ∃ v, σ[i]? = some (some v) ∧ Q v H
def tC (v : V) : TE := fun _ H Q => Q v H
theorem pe_var {i : Nat} {x : Str} {pos : Pos} (hN : X.N[i]? = some x) (hv : Vis X.env.scope x) (hd : (x == ("__debug__" : Str)) = false := by decide) (hcd : (x == ("__classdict__" : Str)) = false := by decide) : PE X (.Name x pos) (tVar i) := by
 intro pins s σ H Q I h
 obtain ⟨v, e, h⟩ := h
 obtain ⟨m, hn, hl⟩ := I.loc
 obtain ⟨u, r, l⟩ := hl i x v hN e hv
 have fin : EP X pins σ Q u s := ⟨v, H, I, r, h⟩
 rcases l with ⟨hk, hm⟩ | ⟨hk, c, hc, hcell⟩
 ·exact wpAny_Name (wpAny_loadName_local I.ok.kind hk hn hm fin) hd
 ·rcases hk with hk | hk
  ·exact wpAny_Name (wpAny_loadName_cell I.ok.kind hk hc hcell fin) hd
  ·exact wpAny_Name (wpAny_loadName_free I.ok.kind hk hc hcell fin hcd) hd
theorem pe_int {i j pos} : PE X (.Constant (.int i) j pos) (tC (.int i)) := fun _ _ _ H _ I h => wpAny_Constant_int ⟨.int i, H, I.tok _, ⟨_, rfl⟩, h⟩
theorem pe_bl {b j pos} : PE X (.Constant (.bool b) j pos) (tC (.bl b)) := fun _ _ _ H _ I h => Constant_bool ⟨.bl b, H, I, rfl, h⟩
theorem pe_non {j pos} : PE X (.Constant .none j pos) (tC .non) := fun _ _ _ H _ I h => Constant_none ⟨.non, H, I, rfl, h⟩
theorem pe_str {x j pos} : PE X (.Constant (.str x) j pos) (tC (.str x)) := fun _ _ _ H _ I h => Calls.Constant_str ⟨.str x, H, I.tok _, ⟨_, rfl⟩, h⟩
def Gl (X : Cx) (x : Str) : Prop := X.env.kindOf x = some .globalImplicit
theorem ld_glob {E : Value → Shared → Prop} {pins : List (Addr × Obj)} {s : Shared} {σ : St} {H : Hp} {x : Str} {u : Value} {pos : Pos} {Q : Value → Shared → Prop} (I : Inv X pins σ H s) (hg : Gl X x) (hm : X.mg x = some u) (h : Q u s)
  (hd : (x == ("__debug__" : Str)) = false := by decide) : wpAny (model X.prog X.w) X.A (eval (.Name x pos) X.env) Q E s :=
 Calls.Name_function_global I.ok.kind hg (Calls.loadGlobal_global (by rw [I.ok.glob]; exact I.mod.glob.keeps I.bk) hm h) hd
theorem ld_blt {E : Value → Shared → Prop} {pins : List (Addr × Obj)} {s : Shared} {σ : St} {H : Hp} {x : Str} {u : Value} {pos : Pos} {Q : Value → Shared → Prop} (I : Inv X pins σ H s) (hg : Gl X x) (hm : X.mg x = none) (hv : bootBuiltins x = some u) (h : Q u s)
  (hn : x ≠ "__name__" := by decide) (hd : (x == ("__debug__" : Str)) = false := by decide) : wpAny (model X.prog X.w) X.A (eval (.Name x pos) X.env) Q E s := by
 obtain ⟨mb, h1, h2⟩ := I.mod.blt
 exact Calls.Name_function_global I.ok.kind hg (Calls.loadGlobal_builtin (by rw [I.ok.glob]; exact I.mod.glob.keeps I.bk) hm (by rw [I.ok.blt]; exact h1.keeps I.bk) ((h2 x hn).trans hv) h) hd
theorem pe_glob {x : Str} {v : V} {u : Value} {pos : Pos} (hg : Gl X x) (hm : X.mg x = some u) (r : RelV v u) (hd : (x == ("__debug__" : Str)) = false := by decide) : PE X (.Name x pos) (tC v) :=
 fun _ _ _ H _ I h => ld_glob I hg hm ⟨v, H, I, r, h⟩ hd
theorem pe_bltn {x : Str} {v : V} {u : Value} {pos : Pos} (hg : Gl X x) (hm : X.mg x = none) (hv : bootBuiltins x = some u) (r : RelV v u) (hn : x ≠ "__name__" := by decide) (hd : (x == ("__debug__" : Str)) = false := by decide) : PE X (.Name x pos) (tC v) :=
 fun _ _ _ H _ I h => ld_blt I hg hm hv ⟨v, H, I, r, h⟩ hn hd
variable {a b : Expr} {ta tb : TE} {pos : Pos}
def tB (t : TE) : TT := fun σ H Q => t σ H fun x H1 => ∃ c, x = .bl c ∧ Q c H1
theorem pt_val {e : Expr} {t : TE} (h : PE X e t) (he : ∀ whole, isTrue e X.env whole = (do let v ← whole; standAt e.pos; holding [v] (truthy v)) := by intro _; rfl) : PT X e (tB t) := by
 intro pins s σ H Q I hw
 refine isTrue_plain (thn (h pins s σ H _ I hw) fun v s1 ⟨x, H1, I1, r1, q1⟩ => ?_) (he _)
 obtain ⟨d, rfl, q⟩ := q1
 cases r1
 exact wpAny_truthy_bool ⟨H1, I1, q⟩
variable {tA tB' : TT} {rest : List Expr}
def tAnd (t u : TT) : TT := fun σ H Q => t σ H fun c H1 => if c = true then u σ H1 Q else Q false H1
def tOr (t u : TT) : TT := fun σ H Q => t σ H fun c H1 => if c = true then Q true H1 else u σ H1 Q
def tNot (t : TT) : TT := fun σ H Q => t σ H fun c H1 => Q (!c) H1
theorem pw_and1 (ha : PT X a tA) : PW X (.BoolOp .And [a] pos) tA := by
 intro wh pins s σ H Q I h
 refine isTrue_and (thn (ha pins s σ H Q I h) fun c s1 e => ?_)
 cases c with
 | true => exact isTrue_and_nil e
 | false => exact e
theorem pw_or1 (ha : PT X a tA) : PW X (.BoolOp .Or [a] pos) tA := by
 intro wh pins s σ H Q I h
 refine isTrue_or (thn (ha pins s σ H Q I h) fun c s1 e => ?_)
 cases c with
 | false => exact isTrue_or_nil e
 | true => exact e
theorem pw_and (ha : PT X a tA) (hb : PW X (.BoolOp .And (b :: rest) pos) tB') : PW X (.BoolOp .And (a :: b :: rest) pos) (tAnd tA tB') := by
 intro wh pins s σ H Q I h
 refine isTrue_and (thn (ha pins s σ H _ I h) fun c s1 ⟨H1, I1, q1⟩ => ?_)
 cases c with
 | true => exact hb wh pins s1 σ H1 Q I1 q1
 | false => exact ⟨H1, I1, q1⟩
theorem pw_or (ha : PT X a tA) (hb : PW X (.BoolOp .Or (b :: rest) pos) tB') : PW X (.BoolOp .Or (a :: b :: rest) pos) (tOr tA tB') := by
 intro wh pins s σ H Q I h
 refine isTrue_or (thn (ha pins s σ H _ I h) fun c s1 ⟨H1, I1, q1⟩ => ?_)
 cases c with
 | true => exact ⟨H1, I1, q1⟩
 | false => exact hb wh pins s1 σ H1 Q I1 q1
theorem pt_not (ha : PT X a tA) : PT X (.UnaryOp .Not a pos) (tNot tA) := by
 intro pins s σ H Q I h
 exact isTrue_not (ha pins s σ H (fun c H1 => Q (!c) H1) I h)
def tAndV (ta tb : TE) : TE := fun σ H Q => ta σ H fun x H1 => ∃ c, x = .bl c ∧ if c = true then tb σ H1 Q else Q (.bl false) H1
def tNotV (ta : TE) : TE := fun σ H Q => ta σ H fun x H1 => ∃ c, x = .bl c ∧ Q (.bl (!c)) H1
theorem pe_one {op} {t : TE} (h : PE X a t) : PE X (.BoolOp op [a] pos) t := fun pins s σ H Q I hw => BoolOp_one (h pins s σ H Q I hw)
theorem pe_and (ha : PE X a ta) (hb : PE X (.BoolOp .And (b :: rest) pos) tb) : PE X (.BoolOp .And (a :: b :: rest) pos) (tAndV ta tb) := by
 intro pins s σ H Q I h
 refine BoolOp_and (thn (ha pins s σ H _ I h) fun v s1 ⟨x, H1, I1, r1, q1⟩ => ?_)
 obtain ⟨c, rfl, q1⟩ := q1
 cases r1
 refine wpAny_truthy_bool ?_
 cases c with
 | true => exact hb pins s1 σ H1 Q I1 q1
 | false => exact ⟨.bl false, H1, I1, rfl, q1⟩
theorem pe_not (ha : PE X a ta) : PE X (.UnaryOp .Not a pos) (tNotV ta) := by
 intro pins s σ H Q I h
 refine UnaryOp_ (thn (ha pins s σ H _ I h) fun v s1 ⟨x, H1, I1, r1, q1⟩ => ?_)
 obtain ⟨c, rfl, q1⟩ := q1
 cases r1
 exact not_of (wpAny_truthy_bool ⟨.bl (!c), H1, I1, rfl, q1⟩)
def tIf (t : TT) (ta tb : TE) : TE := fun σ H Q => t σ H fun c H1 => if c = true then ta σ H1 Q else tb σ H1 Q
theorem pe_ifExp {c : Expr} (hc : PT X c tA) (ha : PE X a ta) (hb : PE X b tb) : PE X (.IfExp c a b pos) (tIf tA ta tb) := by
 intro pins s σ H Q I h
 refine wpAny_IfExp (thn (hc pins s σ H _ I h) fun d s1 ⟨H1, I1, q1⟩ => ?_)
 cases d with
 | true => exact ha pins s1 σ H1 Q I1 q1
 | false => exact hb pins s1 σ H1 Q I1 q1
end
end L2
namespace L2
open PySem PySem.Spec PyProof.Rows
def SqL (K : PySem.W.Frag) (H : Hp) (a : Addr) (xs : List V) : Prop :=
 Rd H a (.lst xs) ∨
  ∃ (o : Obj) (its : Array Value) (n : Nat), K.lookup a = some o ∧ o.cls = .type "list" ∧ o.dict = none ∧ o.data = .seq its n ∧ its.size ≤ sizeLine ∧ Vals xs its.toList
def SqT (K : PySem.W.Frag) (H : Hp) (a : Addr) (xs : List V) : Prop :=
 Rd H a (.tup xs) ∨
  ∃ (o : Obj) (its : Array Value) (n : Nat), K.lookup a = some o ∧ o.cls = .type "tuple" ∧ o.data = .seq its n ∧ its.size ≤ sizeLine ∧ Vals xs its.toList
def absV : Value → Option V
 | .none => some .non
 | .bool b => some (.bl b)
 | .int i _ => some (.int i)
 | .str x _ => some (.str x)
 | .bytes b _ => some (.byt b)
 | .float b _ => some (.flt b)
 | .ref a => some (.ref a)
 | .type n => some (.ty n)
 | _ => none
theorem RelV.abs {x : V} {u : Value} (r : RelV x u) : absV u = some x := by
 cases x with
 | non => cases r; rfl
 | bl _ => cases r; rfl
 | int _ => obtain ⟨t, rfl⟩ := r; rfl
 | str _ => obtain ⟨t, rfl⟩ := r; rfl
 | byt _ => obtain ⟨t, rfl⟩ := r; rfl
 | flt _ => obtain ⟨t, rfl⟩ := r; rfl
 | ref _ => cases r; rfl
 | ty _ => cases r; rfl
theorem RelV.inj {x y : V} {u : Value} (r : RelV x u) (q : RelV y u) : x = y := Option.some.inj (r.abs.symm.trans q.abs)
theorem Vals.inj : ∀ {xs ys : List V} {us : List Value}, Vals xs us → Vals ys us → xs = ys
 | _, _, _, .nil, .nil => rfl
 | _, _, _, .cons r t, .cons r' t' => by rw [r.inj r', Vals.inj t t']
section
variable {X : Cx} {pins : List (Addr × Obj)} {σ : St} {H : Hp} {s : Shared} {a : Addr} {xs ys : List V}
theorem SqL.of {K : PySem.W.Frag} (h : H a = some (.lst xs)) : SqL K H a xs := .inl (.inl h)
theorem SqT.of {K : PySem.W.Frag} (h : H a = some (.tup xs)) : SqT K H a xs := .inl (.inl h)
theorem Inv.list (I : Inv X pins σ H s) (h : SqL X.K H a xs) : ∃ its : List Value, Vals xs its ∧ PlainL s.heap a its.toArray ∧ xs.length ≤ sizeLine := by
 rcases h with h | ⟨o, its, n, hk, hc, hd, hs, hz, r⟩
 ·obtain ⟨z, its, n, r, e⟩ := h.ok I.hok
  exact ⟨its, r, ⟨_, n, e, rfl, rfl, rfl⟩, z⟩
 ·refine ⟨its.toList, r, ⟨o, n, I.kIn a o hk, hc, hd, by simpa using hs⟩, ?_⟩
  have e := r.length
  simp only [Array.length_toList] at e
  omega
theorem Inv.tuple (I : Inv X pins σ H s) (h : SqT X.K H a xs) : ∃ its : List Value, Vals xs its ∧ IsTup s.heap a its.toArray ∧ xs.length ≤ sizeLine := by
 rcases h with h | ⟨o, its, n, hk, hc, hs, hz, r⟩
 ·obtain ⟨z, its, r, p⟩ := h.ok I.hok
  exact ⟨its, r, p, z⟩
 ·refine ⟨its.toList, r, ⟨o, I.kIn a o hk, hc, n, by simpa using hs⟩, ?_⟩
  have e := r.length
  simp only [Array.length_toList] at e
  omega
theorem Inv.list_inj (I : Inv X pins σ H s) (h : SqL X.K H a xs) (h' : SqL X.K H a ys) : xs = ys := by
 obtain ⟨its, r, ⟨o, n, e, _, _, d⟩, _⟩ := I.list h
 obtain ⟨its', r', ⟨o', n', e', _, _, d'⟩, _⟩ := I.list h'
 rw [e] at e'; cases e'
 rw [d] at d'
 injection d' with d1 _
 have : its = its' := by simpa using congrArg Array.toList d1
 subst this
 exact r.inj r'
theorem Inv.tuple_inj (I : Inv X pins σ H s) (h : SqT X.K H a xs) (h' : SqT X.K H a ys) : xs = ys := by
 obtain ⟨its, r, ⟨o, e, _, n, d⟩, _⟩ := I.tuple h
 obtain ⟨its', r', ⟨o', e', _, n', d'⟩, _⟩ := I.tuple h'
 rw [e] at e'; cases e'
 rw [d] at d'
 injection d' with d1 _
 have : its = its' := by simpa using congrArg Array.toList d1
 subst this
 exact r.inj r'
end
abbrev Cx.wish (X : Cx) (E : Value → Shared → Prop) : Cx := { X with xe := E }
abbrev Cx.nox (X : Cx) : Cx := X.wish fun _ _ => False
theorem Cx.Ok.wish {X : Cx} (ok : X.Ok) (E : Value → Shared → Prop) : (X.wish E).Ok :=
 ⟨ok.mod, ok.kind, ok.glob, ok.blt, ok.above, ok.inj, ok.has, ok.cab, ok.hd, ok.frames, ok.stk, ok.exf, ok.bs, ok.bsz, ok.noex, ok.exfs, ok.funs, ok.frf⟩
theorem Cx.Ok.unwish {X : Cx} {E : Value → Shared → Prop} (ok : (X.wish E).Ok) : X.Ok :=
 ⟨ok.mod, ok.kind, ok.glob, ok.blt, ok.above, ok.inj, ok.has, ok.cab, ok.hd, ok.frames, ok.stk, ok.exf, ok.bs, ok.bsz, ok.noex, ok.exfs, ok.funs, ok.frf⟩
section
variable {X : Cx} {pins : List (Addr × Obj)} {σ : St} {H : Hp} {s : Shared} {E : Value → Shared → Prop}
theorem Inv.wish (I : Inv X pins σ H s) (E : Value → Shared → Prop) : Inv (X.wish E) pins σ H s := ⟨I.ok.wish E, I.os, I.bare, I.base, I.loc, I.cell, I.free, I.freeC, I.pin, I.hok, I.len⟩
theorem Inv.unwish (I : Inv (X.wish E) pins σ H s) : Inv X pins σ H s := ⟨I.ok.unwish, I.os, I.bare, I.base, I.loc, I.cell, I.free, I.freeC, I.pin, I.hok, I.len⟩
theorem SP.unwish {D : Ends} {f : Flow} {s' : Shared} (h : SP (X.wish E) pins D f s') : SP X pins D f s' := by
 cases f with
 | next => obtain ⟨σ', H', I, q⟩ := h; exact ⟨σ', H', I.unwish, q⟩
 | brk => obtain ⟨σ', H', I, q⟩ := h; exact ⟨σ', H', I.unwish, q⟩
 | cont => obtain ⟨σ', H', I, q⟩ := h; exact ⟨σ', H', I.unwish, q⟩
 | ret u => obtain ⟨v, σ', H', I, r, q⟩ := h; exact ⟨v, σ', H', I.unwish, r, q⟩
theorem PSs.nox {st : List Stmt} {t : TS} (h : PSs X.nox st t) : PSs X st t := fun pins s σ H D I hw =>
 wpAny_mono (h pins s σ H D (I.wish _) hw) (fun _ _ q => q.unwish) fun _ _ z => False.elim z
end
section
variable {X : Cx} {st : Stmt} {rest : List Stmt} {t u : TS} {e : Expr} {te : TE} {pos : Pos}
def tNext : TS := fun D σ H => D.nx σ H
def tSeq (t u : TS) : TS := fun D σ H => t { D with nx := u D } σ H
theorem pss_nil : PSs X [] tNext := fun _ _ σ H _ I h => wpAny_execs_nil ⟨σ, H, I, h⟩
theorem pss_cons (h1 : PS X st t) (h2 : PSs X rest u) : PSs X (st :: rest) (tSeq t u) := by
 intro pins s σ H D I h
 refine wpAny_execs_cons (thn (h1 pins s σ H { D with nx := u D } I h) fun f s1 q => ?_)
 cases f with
 | next =>
  obtain ⟨σ', H', I', q⟩ := q
  exact h2 pins s1 σ' H' D I' q
 | ret v => exact q
 | brk => exact q
 | cont => exact q
theorem pss_one (h1 : PS X st t) : PSs X [st] t := by
 intro pins s σ H D I h
 refine wpAny_execs_cons (thn (h1 pins s σ H D I h) fun f s1 q => ?_)
 cases f with
 | next => exact wpAny_execs_nil q
 | ret v => exact q
 | brk => exact q
 | cont => exact q
theorem Inv.quiet {pins : List (Addr × Obj)} {σ : St} {H : Hp} {s : Shared} (I : Inv X pins σ H s) : interactive X.env = false := by simp [interactive, I.ok.kind]
def tDrop (te : TE) : TS := fun D σ H => te σ H fun _ H1 => D.nx σ H1
theorem ps_expr (he : PE X e te) (hs : swapsWith e none pos.line X.env = pure false := by rfl) : PS X (.Expr e pos) (tDrop te) := by
 intro pins s σ H D I h
 exact wpAny_Expr_any (thn (he pins s σ H _ I h) fun v s1 ⟨x, H1, I1, r1, q1⟩ => ⟨σ, H1, I1, q1⟩) I.quiet hs
def tRet (te : TE) : TS := fun D σ H => te σ H D.rt
theorem ps_ret (he : PE X e te) : PS X (.Return (some e) pos) (tRet te) := by
 intro pins s σ H D I h
 exact wpAny_Return_some (thn (he pins s σ H _ I h) fun v s1 ⟨x, H1, I1, r1, q1⟩ => ⟨x, σ, H1, I1, r1, q1⟩)
def tIfS (c : TT) (t u : TS) : TS := fun D σ H => c σ H fun b H1 => if b = true then t D σ H1 else u D σ H1
theorem ps_if {c : Expr} {a b : List Stmt} {tc : TT} (hc : PT X c tc) (ha : PSs X a t) (hb : PSs X b u) : PS X (.If c a b pos) (tIfS tc t u) := by
 intro pins s σ H D I h
 refine wpAny_If (thn (hc pins s σ H _ I h) fun d s1 ⟨H1, I1, q1⟩ => ?_)
 cases d with
 | true => exact ha pins s1 σ H1 D I1 q1
 | false => exact hb pins s1 σ H1 D I1 q1
def tNever : TS := fun _ _ _ => False
theorem pss_never {sts : List Stmt} : PSs X sts tNever := fun _ _ _ _ _ _ h => h.elim
end
abbrev TG := V → St → Hp → (St → Hp → Prop) → Prop
abbrev TGs := List V → St → Hp → (St → Hp → Prop) → Prop
def PG (X : Cx) (target : Expr) (t : TG) : Prop :=
 ∀ (pins : List (Addr × Obj)) (s : Shared) (σ : St) (H : Hp) (v : V) (u : Value) (Q : St → Hp → Prop), Inv X pins σ H s → RelV v u → t v σ H Q →
  wpAny (model X.prog X.w) X.A (assign target X.env u) (fun _ s' => ∃ σ' H', Inv X pins σ' H' s' ∧ Q σ' H') X.xe s
def PGs (X : Cx) (ts : List Expr) (t : TGs) : Prop :=
 ∀ (pins : List (Addr × Obj)) (s : Shared) (σ : St) (H : Hp) (vs : List V) (us : List Value) (Q : St → Hp → Prop), Inv X pins σ H s → Vals vs us → t vs σ H Q →
  wpAny (model X.prog X.w) X.A (assignInOrder ((assignEach ts X.env).map (·.2)) us) (fun _ s' => ∃ σ' H', Inv X pins σ' H' s' ∧ Q σ' H') X.xe s
section
variable {X : Cx} {pos : Pos}
def gName (i : Nat) : TG := fun v σ H Q => Q (σ.set i (some v)) H
theorem pg_name {i : Nat} {x : Str} (hN : X.N.Nodup) (hi : X.N[i]? = some x) (hx : Loc X.env.scope x) (hf : X.fn x = true ∨ X.env.scope.names.lookup x = some .local := by first | exact .inl rfl | exact .inr rfl | assumption) : PG X (.Name x pos) (gName i) := by
 intro pins s σ H v u Q I r h
 exact wpAny_assign_Name (store_ok I hN hi hx r (fun s' I' => ⟨_, H, I', h⟩) hf)
def gNil : TGs := fun vs σ H Q => vs = [] ∧ Q σ H
def gCons (t : TG) (u : TGs) : TGs := fun vs σ H Q => ∃ v r, vs = v :: r ∧ t v σ H fun σ' H' => u r σ' H' Q
theorem pgs_nil : PGs X [] gNil := by
 intro pins s σ H vs us Q I r h
 obtain ⟨e, h⟩ := h
 subst e
 cases r
 exact assignInOrder_nil ⟨σ, H, I, h⟩
theorem pgs_cons {e : Expr} {es : List Expr} {t : TG} {u : TGs} (h1 : PG X e t) (h2 : PGs X es u)
  (hs : (assignEach (e :: es) X.env).map (·.2) = assign e X.env :: (assignEach es X.env).map (·.2) := by rfl) : PGs X (e :: es) (gCons t u) := by
 intro pins s σ H vs us Q I r h
 obtain ⟨v, vr, e1, h⟩ := h
 subst e1
 cases r with
 | cons r rr =>
  rw [hs]
  refine assignInOrder_cons (thn (h1 pins s σ H _ _ _ I r h) fun _ s1 ⟨σ1, H1, I1, q1⟩ => ?_)
  exact h2 pins s1 σ1 H1 _ _ Q I1 rr q1
def gTup (K : PySem.W.Frag) (n : Nat) (t : TGs) : TG := fun v σ H Q => ∃ a xs, v = .ref a ∧ SqT K H a xs ∧ xs.length = n ∧ t xs σ H Q
theorem pg_tup {es : List Expr} {k : Nat} {t : TGs} {n : Nat} (hc : X.calm = true) (h : PGs X es t)
  (hn : (assignEach es X.env).length = n := by rfl) (hst : (assignEach es X.env).findIdx? (·.1) = none := by rfl) : PG X (.Tuple es k pos) (gTup X.K n t) := by
 intro pins s σ H v u Q I r hw
 obtain ⟨a, xs, e1, hq, hl, hw⟩ := hw
 subst e1
 cases r
 obtain ⟨its, rv, ht, hz⟩ := I.tuple hq
 refine assign_Tuple_tuple (I.ok.hd hc) ht (by simp [hn, ← hl, rv.length]) hst fun h' hx => ?_
 have I1 : Inv X pins σ H { s with heap := h' } := I.kept (t' := s.toks) fun b o e => hx b o (Nat.ne_of_lt (Heap.lt_size e)) e
 exact h pins _ σ H xs _ Q I1 (by simpa using rv) hw
def tAsg (te : TE) (g : TG) : TS := fun D σ H => te σ H fun x H1 => g x σ H1 D.nx
theorem ps_asg {tg e : Expr} {te : TE} {g : TG} (he : PE X e te) (hg : PG X tg g) (hs : swapsWithSole [tg] e pos.line X.env = pure false := by rfl) (hw : swappedStores [tg] e X.env = pure none := by rfl)
  (h1 : (assignEach [tg] X.env).map (·.2) = [assign tg X.env] := by rfl) : PS X (.Assign [tg] e pos) (tAsg te g) := by
 intro pins s σ H D I h
 refine wpAny_Assign_stores (thn (he pins s σ H _ I h) fun v s1 ⟨x, H1, I1, r1, q1⟩ => ?_) hs hw
 rw [h1]
 exact thn (hg pins s1 σ H1 x v _ I1 r1 q1) fun _ s2 q => q
theorem ps_set {i : Nat} {x : Str} {e : Expr} {te : TE} {pos' : Pos} (hN : X.N.Nodup) (hi : X.N[i]? = some x) (hx : Loc X.env.scope x) (he : PE X e te) (hs : swapsWith e (some (.Name x pos')) pos.line X.env = pure false := by rfl) (hf : X.fn x = true ∨ X.env.scope.names.lookup x = some .local := by first | exact .inl rfl | exact .inr rfl | assumption) :
  PS X (.Assign [.Name x pos'] e pos) (tAsg te (gName i)) := by
 intro pins s σ H D I h
 refine wpAny_Assign_Name (thn (he pins s σ H _ I h) fun v s1 ⟨y, H1, I1, r1, q1⟩ => ?_) hs
 exact store_ok I1 hN hi hx r1 (fun s2 I2 => ⟨_, H1, I2, q1⟩) hf
def tPar (i j : Nat) (ta : TA) : TS := fun D σ H => ta σ H fun vs H1 => ∃ v w, vs = [v, w] ∧ D.nx ((σ.set i (some v)).set j (some w)) H1
theorem ps_par {i j : Nat} {x y : Str} {a b : Expr} {ta : TA} {px py pt : Pos} {kt k2 pt2} (hc : X.calm = true) (hN : X.N.Nodup) (hi : X.N[i]? = some x) (hj : X.N[j]? = some y) (hij : i ≠ j)
  (hx : X.env.scope.names.lookup x = some .local) (hy : X.env.scope.names.lookup y = some .local) (ha : PA X [a, b] ta)
  (hw : swappedStores [.Tuple [.Name x px, .Name y py] kt pt] (.Tuple [a, b] k2 pt2) X.env = pure (some [x, y]))
  (hs : swapsWithSole [.Tuple [.Name x px, .Name y py] kt pt] (.Tuple [a, b] k2 pt2) pos.line X.env = pure false := by rfl) :
  PS X (.Assign [.Tuple [.Name x px, .Name y py] kt pt] (.Tuple [a, b] k2 pt2) pos) (tPar i j ta) := by
 intro pins s σ H D I h
 rw [exec_Assign_arm]
 refine wpAny_bind (wpAny_standAt ?_)
 rw [hs]
 refine wpAny_bind (wpAny_pure ?_)
 rw [if_neg (by decide)]
 refine wpAny_bind (Tuple_ (thn (ha _ pins s σ H _ I h) fun us s1 ⟨vs, H1, I1, r1, q1⟩ => ?_))
 obtain ⟨v, w, e1, q1⟩ := q1
 subst e1
 obtain ⟨u1, u2, rfl, rv, rw'⟩ : ∃ u1 u2, us = [u1, u2] ∧ RelV v u1 ∧ RelV w u2 := by
  cases r1 with
  | cons p q =>
   cases q with
   | cons p' q' =>
    cases q'
    exact ⟨_, _, rfl, p, p'⟩
 refine wpAny_newObj_type ?_ (by show 2 ≤ sizeLine; decide)
 have I2 : Inv X pins σ H1 { s1 with heap := s1.heap.push { cls := .type "tuple", data := .seq [u1, u2].toArray } } := I1.kept (t' := s1.toks) fun b o e => Heap.get?_push_of_some _ e
 rw [hw]
 refine wpAny_bind (wpAny_pure ?_)
 show wpAny (model X.prog X.w) X.A (do rule "assign.swapped-stores"; let items ← unpackItems (.ref s1.heap.objs.size) 2 none; assignInOrder [fun v => bindName X.env y v, fun v => bindName X.env x v] items.reverse; pure Flow.next) _ _ _
 refine wpAny_bind (wpAny_rule (wpAny_bind (unpackItems_tuple (items := #[u1, u2]) (I.ok.hd hc) (IsTup.new s1.heap _) fun h' hx' => ?_)))
 have I3 := I2.kept (h' := h') (t' := s1.toks) fun b o e => hx' b o (Nat.ne_of_lt (Heap.lt_size e)) e
 show wpAny _ _ (assignInOrder [fun v => bindName X.env y v, fun v => bindName X.env x v] [u2, u1] >>= fun _ => pure Flow.next) _ _ _
 refine wpAny_bind (assignInOrder_cons (wpAny_bindName (store_ok I3 hN hj (.inl hy) rw' (fun s2 I4 => ?_) (.inr hy))))
 refine assignInOrder_cons (wpAny_bindName (store_ok I4 hN hi (.inl hx) rv (fun s3 I5 => assignInOrder_nil (wpAny_pure ?_)) (.inr hx)))
 rw [List.set_comm _ _ (Ne.symm hij)] at I5
 exact ⟨_, H1, I5, q1⟩
end
section
variable {X : Cx} {pos : Pos}
def tWhile (c : TT) (tb : TS) : TS := fun D σ H => ∃ W : Nat → St → Hp → Prop, (∃ m, W m σ H) ∧ ∀ m σ H, W m σ H →
 c σ H fun b H1 => if b = true then ∃ N : St → Hp → Prop, (∀ σ' H', N σ' H' → ∃ m', m' < m ∧ W m' σ' H') ∧ tb { D with nx := N, ct := N, bk := D.nx } σ H1 else D.nx σ H1
theorem ps_while {c : Expr} {body : List Stmt} {tc : TT} {tb : TS} (hp : PassesOwn (model X.prog X.w) X.A X.env X.xe) (hc : PT X c tc) (hb : PSs X body tb) : PS X (.While c body [] pos) (tWhile tc tb) := by
 intro pins s σ H D I h
 obtain ⟨W, ⟨m0, w0⟩, turn⟩ := h
 refine wpAny_While (codeAny_whileLoop (fun n s' => ∃ σ' H', Inv X pins σ' H' s' ∧ W n σ' H') ?_ m0 ⟨σ, H, I, w0⟩)
 rintro n s1 ⟨σ1, H1, I1, w1⟩
 refine wpAny_passesOwn hp (thn (hc pins s1 σ1 H1 _ I1 (turn n σ1 H1 w1)) fun b s2 ⟨H2, I2, q2⟩ => ?_)
 cases b with
 | true =>
  obtain ⟨N, hN, q2⟩ := q2
  rw [if_pos rfl]
  refine wpAny_passesOwn hp (thn (hb pins s2 σ1 H2 _ I2 q2) fun f s3 q3 => ?_)
  cases f with
  | next =>
   obtain ⟨σ3, H3, I3, n3⟩ := q3
   obtain ⟨m', hm, w3⟩ := hN σ3 H3 n3
   exact ⟨m', hm, σ3, H3, I3, w3⟩
  | cont =>
   obtain ⟨σ3, H3, I3, n3⟩ := q3
   obtain ⟨m', hm, w3⟩ := hN σ3 H3 n3
   exact ⟨m', hm, σ3, H3, I3, w3⟩
  | brk => exact q3
  | ret v => exact q3
 | false =>
  rw [if_neg Bool.false_ne_true]
  exact wpAny_execs_nil ⟨σ1, H2, I2, q2⟩
end
structure It where
 go : Nat → Hp → Prop
 yld : Nat → Hp → V → Hp → Prop
 stop : Nat → Hp → Prop
def FpOk (X : Cx) (pins : List (Addr × Obj)) (H : Hp) (b : Addr) : Prop :=
 H b = none ∧ b ≠ X.env.locals ∧ b ∉ X.fs ∧ (b ∈ X.ex ∨ X.s₀.heap.objs.size ≤ b) ∧ (∀ x c, X.env.cells.lookup x = some c → c ≠ b) ∧ ∀ p ∈ X.pn ++ pins, p.1 ≠ b
theorem Inv.fpOk {X : Cx} {pins : List (Addr × Obj)} {σ : St} {H H' : Hp} {s : Shared} {b : Addr} (I : Inv X pins σ H s) (hb : s.heap.objs.size ≤ b) (hn : H' b = none) : FpOk X pins H' b := by
 refine ⟨hn, Nat.ne_of_gt (Nat.lt_of_lt_of_le I.lt hb), I.nofs hb, .inr (Nat.le_trans I.sz hb), fun x c e z => ?_, fun p hp z => ?_⟩
 ·obtain ⟨v, q⟩ := I.cell x c e
  exact absurd (Nat.lt_of_lt_of_le q.lt (by rw [z]; exact hb)) (Nat.lt_irrefl _)
 ·exact absurd (Nat.lt_of_lt_of_le (Heap.lt_size (I.pin p hp).1) (by rw [z]; exact hb)) (Nat.lt_irrefl _)
structure Turn (P : Program) (w : World) (K : PySem.W.Frag) (tg : Expr) (J : It) (fp : List Addr) (it : Addr) (tn : Nat → Heap → Prop) : Prop where
 mem : it ∈ fp
 obj : ∀ i h, tn i h → ∀ b ∈ fp, ∃ o, h.get? b = some o ∧ ∀ v, o.data ≠ .cell v
 keep : ∀ i h h', tn i h → (∀ b ∈ fp, ∀ o, h.get? b = some o → h'.get? b = some o) → tn i h'
 item : ∀ (X : Cx), X.prog = P → X.w = w → X.K = K → X.calm = true → ∀ (i : Nat) (pins : List (Addr × Obj)) (s : Shared) (σ : St) (H : Hp) (E : Value → Shared → Prop), Inv X pins σ H s → (∀ b ∈ fp, FpOk X pins H b) → tn i s.heap → J.go i H →
  wpAny (model P w) X.A (pyNext (.ref it)) (fun r s1 => ∃ u, r = some u ∧
   wpAny (model P w) X.A (letOwnedTupleGo tg (.ref it) u) (fun _ s2 => ∃ x H', Inv X pins σ H' s2 ∧ RelV x u ∧ J.yld i H x H' ∧ tn (i + 1) s2.heap ∧ ∀ b ∈ fp, H' b = none) E s1) E s
 done : ∀ (X : Cx), X.prog = P → X.w = w → X.K = K → X.calm = true → ∀ (i : Nat) (pins : List (Addr × Obj)) (s : Shared) (σ : St) (H : Hp) (E : Value → Shared → Prop), Inv X pins σ H s → (∀ b ∈ fp, FpOk X pins H b) → tn i s.heap → J.stop i H →
  wpAny (model P w) X.A (pyNext (.ref it)) (fun r s1 => r = none ∧ Inv X pins σ H s1) E s
 self : ∀ (A : Around) (i : Nat) (s : Shared) (Q : Value → Shared → Prop) (E : Value → Shared → Prop), tn i s.heap → Q (.ref it) s → wpAny (model P w) A (pyIter (.ref it)) Q E s
abbrev TI := St → Hp → (It → Hp → Prop) → Prop
def PIE (X : Cx) (pins : List (Addr × Obj)) (σ : St) (tg : Expr) (R : It → Hp → Prop) (itv : Value) (s2 : Shared) : Prop :=
 ∃ (it : Addr) (fp : List Addr) (tn : Nat → Heap → Prop) (J : It) (H' : Hp), itv = .ref it ∧ Inv X pins σ H' s2 ∧ Turn X.prog X.w X.K tg J fp it tn ∧ tn 0 s2.heap ∧ (∀ b ∈ fp, FpOk X pins H' b) ∧ R J H'
def PI (X : Cx) (tg iter : Expr) (wi : TI) : Prop :=
 ∀ (pins : List (Addr × Obj)) (s : Shared) (σ : St) (H : Hp) (R : It → Hp → Prop), Inv X pins σ H s → wi σ H R →
  wpAny (model X.prog X.w) X.A (eval iter X.env) (fun v s1 => wpAny (model X.prog X.w) X.A (pyIter v) (PIE X pins σ tg R) X.xe s1) X.xe s
theorem go_of {M : Model} {A : Around} {E : Value → Shared → Prop} {s : Shared} {tg : Expr} {it : Addr} {u : Value} {o : Obj} {n : String} {vs : Array Value} {Q : Unit → Shared → Prop} (ho : s.heap.get? it = some o) (hc : o.cls = .type n) (hd : o.data = .fields vs)
    (hn : ["enumerate", "zip", "dict_itemiterator", "dict_reverseitemiterator", "odict_iterator", "itertools.zip_longest", "itertools.pairwise"].contains n = false) (hQ : Q () s) : wpAny M A (letOwnedTupleGo tg (.ref it) u) Q E s := by
  unfold letOwnedTupleGo
  cases tg <;> first
    | exact wpAny_pure hQ
    | (cases u <;> first
        | exact wpAny_pure hQ
        | (refine wpAny_bind (wpAny_load ho ?_)
           rw [hc, hd]
           show wpAny M A (if (["enumerate", "zip", "dict_itemiterator", "dict_reverseitemiterator", "odict_iterator", "itertools.zip_longest", "itertools.pairwise"].contains n && vs[0]? == some (rawInt _)) = true then _ else _) Q E s
           rw [if_neg (by intro h; rw [hn, Bool.false_and] at h; cases h)]
           exact wpAny_pure hQ))
def Itl (K : PySem.W.Frag) (a : Addr) : It :=
 ⟨fun i H => ∃ xs x, SqL K H a xs ∧ xs[i]? = some x, fun i H x H' => H' = H ∧ ∀ xs, SqL K H a xs → xs[i]? = some x, fun i H => ∃ xs, SqL K H a xs ∧ xs.length ≤ i⟩
def Itr (lo : Int) (n : Nat) : It := ⟨fun i _ => i < n, fun i H x H' => H' = H ∧ x = .int (lo + i), fun i _ => n ≤ i⟩
theorem turn_list {P : Program} {w : World} {K : PySem.W.Frag} {tg : Expr} (a it : Addr) : Turn P w K tg (Itl K a) [it] it (fun i h => h.IsListIter it a i) where
 mem := by simp
 obj := fun i h st b hb => by
  have e : b = it := by simpa using hb
  subst e
  obtain ⟨o, e, c, d⟩ := st
  exact ⟨o, e, fun v z => by rw [d] at z; cases z⟩
 keep := fun i h h' st k => st.at fun o e => k it (by simp) o e
 item := by
  intro X hP hw hK hc i pins s σ H E I hf st hg
  subst hP hw hK
  obtain ⟨xs, x, hq, hx⟩ := hg
  obtain ⟨its, rv, p, hz⟩ := I.list hq
  obtain ⟨u, hu, ru⟩ := rv.get hx
  obtain ⟨f0, f1, f2, f3, f4, f5⟩ := hf it (by simp)
  refine wpAny_pyNext_list_item st p.isList (x := u) (by simpa using hu) fun h' st' sb => ?_
  have I1 : Inv X pins σ H { s with heap := h' } := I.turned (t' := s.toks) (fun b o hb e => (sb.2 b hb).trans e) f0 f1 f3 f4 f5
  obtain ⟨o, e, c, d⟩ := id st'
  exact ⟨u, rfl, go_of (s := { s with heap := h' }) e c d (by decide) ⟨x, H, I1, ru, ⟨rfl, fun ys hy => by rw [I.list_inj hy hq]; exact hx⟩, st', fun b hb => (hf b hb).1⟩⟩
 done := by
  intro X hP hw hK hc i pins s σ H E I hf st hg
  subst hP hw hK
  obtain ⟨xs, hq, hx⟩ := hg
  obtain ⟨its, rv, p, hz⟩ := I.list hq
  obtain ⟨f0, f1, f2, f3, f4, f5⟩ := hf it (by simp)
  have hl := rv.length
  exact wpAny_pyNext_list_end (I.ok.hd hc) st p.isList (by simp; omega) fun h' eb => ⟨rfl, I.turned (t' := s.toks) (fun b o hb e => eb b o hb e) f0 f1 f3 f4 f5⟩
 self := fun _ _ _ _ _ st h => wpAny_pyIter_listiter st h
theorem turn_range {P : Program} {w : World} {K : PySem.W.Frag} {tg : Expr} (it : Addr) (lo : Int) (n : Nat) : Turn P w K tg (Itr lo n) [it] it (fun i h => IsRangeIter h it (lo + (i : Nat) * 1) ((n : Int) - (i : Nat)) 1) where
 mem := by simp
 obj := fun i h st b hb => by
  have e : b = it := by simpa using hb
  subst e
  exact ⟨_, st, fun v z => by
   have z' : Data.fields _ = Data.cell v := z
   cases z'⟩
 keep := fun i h h' st k => k it (by simp) _ st
 item := by
  intro X hP hw hK hc i pins s σ H E I hf st hg
  subst hP hw hK
  obtain ⟨f0, f1, f2, f3, f4, f5⟩ := hf it (by simp)
  have W := Walks.range (prog := X.prog) (w := X.w) (I.ok.hd hc) it lo 1 n
  refine W.item i s _ _ hg st fun v h' tk hv st' kk => ?_
  obtain ⟨t, rfl⟩ := hv
  have I1 : Inv X pins σ H { s with heap := h', toks := tk } := I.turned (fun b o hb e => kk b o (by simpa using hb) e) f0 f1 f3 f4 f5
  refine ⟨_, rfl, go_of (s := { s with heap := h', toks := tk }) (n := "range_iterator") st' rfl rfl (by decide) ⟨.int (lo + i), H, I1, ⟨t, ?_⟩, ⟨rfl, rfl⟩, st', fun b hb => (hf b hb).1⟩⟩
  rw [Int.mul_one]
 done := by
  intro X hP hw hK hc i pins s σ H E I hf st hg
  subst hP hw hK
  obtain ⟨f0, f1, f2, f3, f4, f5⟩ := hf it (by simp)
  exact wpAny_pyNext_range_end (I.ok.hd hc) st (by have : n ≤ i := hg; omega) fun h' eb => ⟨rfl, I.turned (t' := s.toks) (fun b o hb e => eb b o hb e) f0 f1 f3 f4 f5⟩
 self := fun _ _ _ _ _ st h => wpAny_pyIter_rangeiter st h
end L2
namespace L2
open PySem PySem.Spec PyProof.Rows
section
variable {X : Cx} {tg : Expr}
def iList (K : PySem.W.Frag) (tl : TE) : TI := fun σ H R => tl σ H fun x H1 => ∃ a, x = .ref a ∧ (∃ xs, SqL K H1 a xs) ∧ R (Itl K a) H1
theorem pi_list {l : Expr} {tl : TE} (hl : PE X l tl) : PI X tg l (iList X.K tl) := by
 intro pins s σ H R I h
 refine thn (hl pins s σ H _ I h) fun v s1 ⟨x, H1, I1, r1, q1⟩ => ?_
 obtain ⟨a, e, ⟨xs, hq⟩, q⟩ := q1
 subst e
 cases r1
 obtain ⟨its, rv, p, hz⟩ := I1.list hq
 refine wpAny_pyIter_list p.isList ?_
 refine ⟨s1.heap.objs.size, [s1.heap.objs.size], _, _, H1, rfl, I1.kept (t' := s1.toks) fun b o e => Heap.get?_push_of_some _ e, turn_list a _, ⟨_, Heap.get?_push_size _ rfl, rfl, rfl⟩, fun b hb => ?_, q⟩
 have e : b = s1.heap.objs.size := by simpa using hb
 subst e
 exact I1.fpOk (Nat.le_refl _) (I1.hok.fresh (Nat.le_refl _))
theorem range_it {pins : List (Addr × Obj)} {σ : St} {H : Hp} {s : Shared} {R : It → Hp → Prop} {E : Value → Shared → Prop} {lo hi : Int} {t u v : Tok} {tk : Nat} (I : Inv X pins σ H s) (h1 : -(2 ^ 62) ≤ lo) (h2 : lo < 2 ^ 62) (h3 : -(2 ^ 62) ≤ hi) (h4 : hi < 2 ^ 62)
  (q : R (Itr lo (hi - lo).toNat) H) : wpAny (model X.prog X.w) X.A (pyIter (.ref s.heap.objs.size)) (PIE X pins σ tg R) E { s with heap := s.heap.push { cls := .type "range", data := .fields #[.int lo t, .int hi u, .int 1 v] }, toks := tk } := by
 refine wpAny_pyIter_range (IsRange.new ..) (small_one h1 h2 h3 h4) ?_
 have I1 : Inv X pins σ H { s with heap := s.heap.push { cls := .type "range", data := .fields #[.int lo t, .int hi u, .int 1 v] }, toks := tk } := I.kept fun b o e => Heap.get?_push_of_some _ e
 refine ⟨(s.heap.push { cls := .type "range", data := .fields #[.int lo t, .int hi u, .int 1 v] }).objs.size, [(s.heap.push { cls := .type "range", data := .fields #[.int lo t, .int hi u, .int 1 v] }).objs.size], _, _, H, rfl,
  I1.kept (t' := tk) fun b o e => Heap.get?_push_of_some _ e, turn_range _ lo (hi - lo).toNat, ?_, fun b hb => ?_, q⟩
 ·have e1 : lo + ((0 : Nat) : Int) * 1 = lo := by simp
  have e2 : (((hi - lo).toNat : Nat) : Int) - ((0 : Nat) : Int) = Builtin.Range.rangeSize lo hi 1 := by rw [rangeSize_one]; split <;> omega
  show IsRangeIter _ _ (lo + ((0 : Nat) : Int) * 1) ((((hi - lo).toNat : Nat) : Int) - ((0 : Nat) : Int)) 1
  rw [e1, e2]
  exact Heap.get?_push_size _ rfl
 ·have e : b = (s.heap.push { cls := .type "range", data := .fields #[.int lo t, .int hi u, .int 1 v] }).objs.size := by simpa using hb
  subst e
  exact I1.fpOk (Nat.le_refl _) (I1.hok.fresh (Nat.le_refl _))
def iRng1 (ta : TA) : TI := fun σ H R => ta σ H fun vs H1 => ∃ j : Int, vs = [.int j] ∧ -(2 ^ 62) ≤ j ∧ j < 2 ^ 62 ∧ R (Itr 0 j.toNat) H1
def iRng2 (ta : TA) : TI := fun σ H R => ta σ H fun vs H1 => ∃ i j : Int, vs = [.int i, .int j] ∧ (-(2 ^ 62) ≤ i ∧ i < 2 ^ 62 ∧ -(2 ^ 62) ≤ j ∧ j < 2 ^ 62) ∧ R (Itr i (j - i).toNat) H1
theorem pi_range1 {a : Expr} {ta : TA} {p pos : Pos} (hg : Gl X "range") (hm : X.mg "range" = none) (ha : PA X [a] ta) (hs : starEach [a] X.env = [(false, eval a X.env)] := by rfl) : PI X tg (.Call (.Name "range" p) [a] [] pos) (iRng1 ta) := by
 intro pins s σ H R I h
 refine Call_ (ld_blt I hg hm boot_range (PyProof.Rows.callWith_type1 (thn (ha pos pins s σ H _ I h) fun us s1 ⟨vs, H1, I1, r1, q1⟩ => ?_) hs rfl))
 obtain ⟨j, e, q1, q2, q⟩ := q1
 subst e
 cases r1 with
 | cons r rr =>
  cases rr
  obtain ⟨t, rfl⟩ := r
  exact call_range_1 (range_it I1 (by omega) (by omega) q1 q2 (by simpa using q))
theorem pi_range2 {a b : Expr} {ta : TA} {p pos : Pos} (hg : Gl X "range") (hm : X.mg "range" = none) (ha : PA X [a, b] ta) (hs : starEach [a, b] X.env = [(false, eval a X.env), (false, eval b X.env)] := by rfl) (hs2 : starEach [b] X.env = [(false, eval b X.env)] := by rfl) :
  PI X tg (.Call (.Name "range" p) [a, b] [] pos) (iRng2 ta) := by
 intro pins s σ H R I h
 refine Call_ (ld_blt I hg hm boot_range (PyProof.Rows.callWith_type1 (thn (ha pos pins s σ H _ I h) fun us s1 ⟨vs, H1, I1, r1, q1⟩ => ?_) (by rw [hs, hs2]) (by rw [hs2]; rfl)))
 obtain ⟨i, j, e, ⟨q1, q2, q3, q4⟩, q⟩ := q1
 subst e
 cases r1 with
 | cons r rr =>
  cases rr with
  | cons r' rr =>
   cases rr
   obtain ⟨t, rfl⟩ := r
   obtain ⟨t', rfl⟩ := r'
   exact call_range_2 (range_it I1 q1 q2 q3 q4 q)
def tFor (wi : TI) (g : TG) (tb : TS) : TS := fun D σ H => wi σ H fun J H1 => ∃ W : Nat → Nat → St → Hp → Prop, (∃ m, W 0 m σ H1) ∧ ∀ i m σ H, W i m σ H →
 (J.stop i H ∧ D.nx σ H) ∨ (J.go i H ∧ ∃ N : St → Hp → Prop, (∀ σ' H', N σ' H' → ∃ m', m' < m ∧ W (i + 1) m' σ' H') ∧ ∀ x H', J.yld i H x H' → g x σ H' fun σ2 H2 => tb { D with nx := N, ct := N, bk := D.nx } σ2 H2)
def pinsAt (fp : List Addr) (h : Heap) : List (Addr × Obj) := fp.filterMap fun b => (h.get? b).map fun o => (b, o)
theorem mem_pinsAt {fp : List Addr} {h : Heap} {b : Addr} {o : Obj} (hb : b ∈ fp) (e : h.get? b = some o) : (b, o) ∈ pinsAt fp h := List.mem_filterMap.mpr ⟨b, hb, by rw [e]; rfl⟩
theorem of_pinsAt {fp : List Addr} {h : Heap} {p : Addr × Obj} (hp : p ∈ pinsAt fp h) : p.1 ∈ fp ∧ h.get? p.1 = some p.2 := by
 obtain ⟨b, hb, e⟩ := List.mem_filterMap.mp hp
 cases q : h.get? b with
 | none => rw [q] at e; cases e
 | some o =>
  rw [q] at e
  have e' : (b, o) = p := Option.some.inj e
  subst e'
  exact ⟨hb, q⟩
theorem Inv.pinned {pins : List (Addr × Obj)} {σ : St} {H : Hp} {s : Shared} {fp : List Addr} (I : Inv X pins σ H s) (hf : ∀ b ∈ fp, FpOk X pins H b) (ho : ∀ b ∈ fp, ∃ o, s.heap.get? b = some o ∧ ∀ v, o.data ≠ .cell v) : Inv X (pins ++ pinsAt fp s.heap) σ H s :=
 I.pins_of fun p hp => (List.mem_append.mp hp).elim (fun z => I.pin p (List.mem_append_right _ z)) fun z => by
  obtain ⟨hb, e⟩ := of_pinsAt z
  obtain ⟨f0, f1, f2, _⟩ := hf p.1 hb
  obtain ⟨o, e', d⟩ := ho p.1 hb
  rw [e] at e'; cases e'
  exact ⟨e, f0, f1, f2, d⟩
theorem Inv.unpinned {pins pl : List (Addr × Obj)} {σ : St} {H : Hp} {s : Shared} (I : Inv X (pins ++ pl) σ H s) : Inv X pins σ H s := I.pins_of fun p hp => I.pin p (List.mem_append_right _ (List.mem_append_left _ hp))
theorem ps_for {iter : Expr} {body : List Stmt} {wi : TI} {g : TG} {tb : TS} {pos : Pos} (hp : PassesOwn (model X.prog X.w) X.A X.env X.xe) (hc : X.calm = true) (hi : PI X tg iter wi) (hg : PG X tg g) (hb : PSs X body tb)
  (hs : ∀ x, foldedSetIterable iter X.env x = pure x := by intro _; rfl) : PS X (.For tg iter body [] pos) (tFor wi g tb) := by
 intro pins s σ H D I h
 refine wpAny_For (thn (hi pins s σ H _ I h) fun v s1 h1 => thn h1 fun itv s2 h2 => ?_) hs
 obtain ⟨it, fp, tn, J, H2, e, I2, T, st2, f2, W, ⟨m0, w0⟩, turn⟩ := h2
 subst e
 have stat : ∀ {H' : Hp}, (∀ b ∈ fp, H' b = none) → ∀ b ∈ fp, FpOk X pins H' b := fun hn b hb => ⟨hn b hb, (f2 b hb).2⟩
 refine codeAny_forLoop_any (fun n s' => ∃ i σ' H', Inv X pins σ' H' s' ∧ tn i s'.heap ∧ (∀ b ∈ fp, H' b = none) ∧ W i n σ' H') ?_ m0 ⟨0, σ, H2, I2, st2, fun b hb => (f2 b hb).1, w0⟩
 rintro n s3 ⟨i, σ3, H3, I3, st3, fr3, w3⟩
 rcases turn i n σ3 H3 w3 with ⟨stop, qn⟩ | ⟨go, N, hN, step⟩
 ·refine wpAny_passesOwn hp (thn (T.done X rfl rfl rfl hc i pins s3 σ3 H3 X.xe I3 (stat fr3) st3 stop) fun r s4 ⟨hr, I4⟩ => ?_)
  subst hr
  exact wpAny_execs_nil ⟨σ3, H3, I4, qn⟩
 ·refine wpAny_passesOwn hp (thn (T.item X rfl rfl rfl hc i pins s3 σ3 H3 X.xe I3 (stat fr3) st3 go) fun r s4 ⟨u, hr, h4⟩ => ?_)
  subst hr
  refine wpAny_passesOwn hp (thn h4 fun _ s5 ⟨x, H5, I5, r5, y5, st5, fr5⟩ => ?_)
  have I5' := I5.pinned (stat fr5) (T.obj _ _ st5)
  refine wpAny_passesOwn hp (thn (hg _ s5 σ3 H5 x u _ I5' r5 (step x H5 y5)) fun _ s6 ⟨σ6, H6, I6, q6⟩ => ?_)
  refine wpAny_passesOwn hp (thn (hb _ s6 σ6 H6 _ I6 q6) fun f s7 q7 => ?_)
  have again : ∀ {σ7 : St} {H7 : Hp}, Inv X (pins ++ pinsAt fp s5.heap) σ7 H7 s7 → N σ7 H7 → ∃ m, m < n ∧ ∃ i σ' H', Inv X pins σ' H' s7 ∧ tn i s7.heap ∧ (∀ b ∈ fp, H' b = none) ∧ W i m σ' H' := fun {σ7 H7} I7 n7 => by
   obtain ⟨m', hm, w7⟩ := hN σ7 H7 n7
   refine ⟨m', hm, i + 1, σ7, H7, I7.unpinned, T.keep _ _ _ st5 fun b hb o e => (I7.pin (b, o) (List.mem_append_right _ (List.mem_append_right _ (mem_pinsAt hb e)))).1, fun b hb => ?_, w7⟩
   obtain ⟨o, e, d⟩ := T.obj _ _ st5 b hb
   exact (I7.pin (b, o) (List.mem_append_right _ (List.mem_append_right _ (mem_pinsAt hb e)))).2.1
  cases f with
  | next => obtain ⟨σ7, H7, I7, n7⟩ := q7; exact again I7 n7
  | cont => obtain ⟨σ7, H7, I7, n7⟩ := q7; exact again I7 n7
  | brk => obtain ⟨σ7, H7, I7, q7⟩ := q7; exact ⟨σ7, H7, I7.unpinned, q7⟩
  | ret v => obtain ⟨x7, σ7, H7, I7, r7, q7⟩ := q7; exact ⟨x7, σ7, H7, I7.unpinned, r7, q7⟩
end
theorem for_list {K : PySem.W.Frag} {a : Addr} {xs : List V} {g : TG} {tb : TS} {D : Ends} {σ : St} {H : Hp} (Pv : Nat → St → Hp → Prop) (h0 : Pv 0 σ H) (hl : ∀ i σ H, i ≤ xs.length → Pv i σ H → SqL K H a xs)
  (hs : ∀ i x σ H, xs[i]? = some x → Pv i σ H → g x σ H fun σ2 H2 => tb { D with nx := Pv (i + 1), ct := Pv (i + 1), bk := D.nx } σ2 H2) (hd : ∀ σ H, Pv xs.length σ H → D.nx σ H) :
  ∃ W : Nat → Nat → St → Hp → Prop, (∃ m, W 0 m σ H) ∧ ∀ i m σ H, W i m σ H →
   ((Itl K a).stop i H ∧ D.nx σ H) ∨ ((Itl K a).go i H ∧ ∃ N : St → Hp → Prop, (∀ σ' H', N σ' H' → ∃ m', m' < m ∧ W (i + 1) m' σ' H') ∧ ∀ x H', (Itl K a).yld i H x H' → g x σ H' fun σ2 H2 => tb { D with nx := N, ct := N, bk := D.nx } σ2 H2) := by
 refine ⟨fun i m σ H => m = xs.length - i ∧ i ≤ xs.length ∧ Pv i σ H, ⟨xs.length, by simp, Nat.zero_le _, h0⟩, ?_⟩
 rintro i m σ H ⟨rfl, hi, p⟩
 have q := hl i σ H hi p
 by_cases hlt : i < xs.length
 ·refine .inr ⟨⟨xs, xs[i], q, by simp [hlt]⟩, Pv (i + 1), fun σ' H' p' => ⟨xs.length - (i + 1), by omega, rfl, hlt, p'⟩, fun x H' y => ?_⟩
  obtain ⟨e, y⟩ := y
  subst e
  exact hs i x σ _ (y xs q) p
 ·have e : i = xs.length := by omega
  subst e
  exact .inl ⟨⟨xs, q, Nat.le_refl _⟩, hd σ H p⟩
theorem for_range {lo : Int} {n : Nat} {g : TG} {tb : TS} {D : Ends} {σ : St} {H : Hp} (Pv : Nat → St → Hp → Prop) (h0 : Pv 0 σ H)
  (hs : ∀ i σ H, i < n → Pv i σ H → g (.int (lo + i)) σ H fun σ2 H2 => tb { D with nx := Pv (i + 1), ct := Pv (i + 1), bk := D.nx } σ2 H2) (hd : ∀ σ H, Pv n σ H → D.nx σ H) :
  ∃ W : Nat → Nat → St → Hp → Prop, (∃ m, W 0 m σ H) ∧ ∀ i m σ H, W i m σ H →
   ((Itr lo n).stop i H ∧ D.nx σ H) ∨ ((Itr lo n).go i H ∧ ∃ N : St → Hp → Prop, (∀ σ' H', N σ' H' → ∃ m', m' < m ∧ W (i + 1) m' σ' H') ∧ ∀ x H', (Itr lo n).yld i H x H' → g x σ H' fun σ2 H2 => tb { D with nx := N, ct := N, bk := D.nx } σ2 H2) := by
 refine ⟨fun i m σ H => m = n - i ∧ i ≤ n ∧ Pv i σ H, ⟨n, by simp, Nat.zero_le _, h0⟩, ?_⟩
 rintro i m σ H ⟨rfl, hi, p⟩
 by_cases hlt : i < n
 ·refine .inr ⟨hlt, Pv (i + 1), fun σ' H' p' => ⟨n - (i + 1), by omega, rfl, hlt, p'⟩, fun x H' y => ?_⟩
  obtain ⟨e, y⟩ := y
  subst e y
  exact hs i σ _ hlt p
 ·have e : i = n := by omega
  subst e
  exact .inl ⟨Nat.le_refl _, hd σ H p⟩
theorem while_by {c : TT} {tb : TS} {D : Ends} {σ : St} {H : Hp} (Pv : St → Hp → Prop) (μ : St → Hp → Nat) (h0 : Pv σ H)
  (hs : ∀ σ H, Pv σ H → c σ H fun b H1 => if b = true then tb { D with nx := fun σ' H' => Pv σ' H' ∧ μ σ' H' < μ σ H, ct := fun σ' H' => Pv σ' H' ∧ μ σ' H' < μ σ H, bk := D.nx } σ H1 else D.nx σ H1)
  (mono : ∀ σ H Q Q', (∀ b H1, Q b H1 → Q' b H1) → c σ H Q → c σ H Q') : tWhile c tb D σ H := by
 refine ⟨fun m σ H => m = μ σ H ∧ Pv σ H, ⟨_, rfl, h0⟩, ?_⟩
 rintro m σ H ⟨rfl, p⟩
 refine mono σ H _ _ (fun b H1 q => ?_) (hs σ H p)
 cases b with
 | true => exact ⟨_, fun σ' H' ⟨p', l⟩ => ⟨_, l, rfl, p'⟩, q⟩
 | false => exact q
end L2
namespace L2
open PySem PySem.Spec PyProof.Rows
abbrev R2 := V → V → Hp → VK → Prop
def OpR (X : Cx) (f : Value → Value → Sem Value) (r : R2) : Prop :=
 ∀ (pins : List (Addr × Obj)) (s : Shared) (σ : St) (H : Hp) (x y : V) (v u : Value) (Q : VK), Inv X pins σ H s → RelV x v → RelV y u → r x y H Q →
  wpAny (model X.prog X.w) X.A (f v u) (EP X pins σ Q) X.xe s
def UnR (X : Cx) (f : Value → Sem Value) (r : V → Hp → VK → Prop) : Prop :=
 ∀ (pins : List (Addr × Obj)) (s : Shared) (σ : St) (H : Hp) (x : V) (v : Value) (Q : VK), Inv X pins σ H s → RelV x v → r x H Q →
  wpAny (model X.prog X.w) X.A (f v) (EP X pins σ Q) X.xe s
def CallR (X : Cx) (f : Value) (r : List V → Hp → VK → Prop) : Prop :=
 ∀ (pins : List (Addr × Obj)) (s : Shared) (σ : St) (H : Hp) (xs : List V) (us : List Value) (Q : VK), Inv X pins σ H s → Vals xs us → r xs H Q →
  wpAny (model X.prog X.w) X.A (call f us) (EP X pins σ Q) X.xe s
def tOp (r : R2) (ta tb : TE) : TE := fun σ H Q => ta σ H fun x H1 => tb σ H1 fun y H2 => r x y H2 Q
def tUn (r : V → Hp → VK → Prop) (ta : TE) : TE := fun σ H Q => ta σ H fun x H1 => r x H1 Q
def rI (C : Int → Int → Prop) (g : Int → Int → V) : R2 := fun x y H Q => ∃ i j, x = .int i ∧ y = .int j ∧ C i j ∧ Q (g i j) H
def rI0 (g : Int → Int → V) : R2 := fun x y H Q => ∃ i j, x = .int i ∧ y = .int j ∧ Q (g i j) H
def rU (g : Int → V) : V → Hp → VK → Prop := fun x H Q => ∃ i, x = .int i ∧ Q (g i) H
section
variable {X : Cx} {a b c : Expr} {ta tb tc : TE} {pos : Pos}
theorem binT (ha : PE X a ta) (hb : PE X b tb) {pins : List (Addr × Obj)} {s : Shared} {σ : St} {H : Hp} {R : V → V → Hp → Prop} (I : Inv X pins σ H s)
  (h : ta σ H fun x H1 => tb σ H1 fun y H2 => R x y H2) {Q : Value → Shared → Prop} {f : Value → Value → Sem Value}
  (hf : ∀ v u s2 x y H2, Inv X pins σ H2 s2 → RelV x v → RelV y u → R x y H2 → wpAny (model X.prog X.w) X.A (f v u) Q X.xe s2) :
  wpAny (model X.prog X.w) X.A (eval a X.env) (fun v s₁ => wpAny (model X.prog X.w) X.A (eval b X.env) (fun u s₂ => wpAny (model X.prog X.w) X.A (f v u) Q X.xe s₂) X.xe s₁) X.xe s := by
 refine thn (ha pins s σ H _ I h) fun v s1 ⟨x, H1, I1, r1, q1⟩ => ?_
 refine thn (hb pins s1 σ H1 _ I1 q1) fun u s2 ⟨y, H2, I2, r2, q2⟩ => ?_
 exact hf v u s2 x y H2 I2 r1 r2 q2
theorem pe_op {op : Operator} {r : R2} (ho : OpR X (binaryOp op) r) (ha : PE X a ta) (hb : PE X b tb) : PE X (.BinOp a op b pos) (tOp r ta tb) := by
 intro pins s σ H Q I h
 exact wpAny_BinOp (binT ha hb I h fun v u s2 x y H2 I2 rx ry q => ho pins s2 σ H2 x y v u Q I2 rx ry q)
theorem pe_un {op : UnaryOp} {r : V → Hp → VK → Prop} (ho : UnR X (unaryOp op) r) (ha : PE X a ta) : PE X (.UnaryOp op a pos) (tUn r ta) := by
 intro pins s σ H Q I h
 exact UnaryOp_ (thn (ha pins s σ H _ I h) fun v s1 ⟨x, H1, I1, r1, q1⟩ => ho pins s1 σ H1 x v Q I1 r1 q1)
theorem opI {f : Value → Value → Sem Value} {C : Int → Int → Prop} {g : Int → Int → Int}
  (rule : ∀ (i j : Int) (t u : Tok) (s : Shared) (Q : Value → Shared → Prop) (E : Value → Shared → Prop), C i j → Q (.int (g i j) s.toks) { s with toks := s.toks + 1 } → wpAny (model X.prog X.w) X.A (f (.int i t) (.int j u)) Q E s) :
  OpR X f (rI C fun i j => .int (g i j)) := by
 intro pins s σ H x y v u Q I rx ry h
 obtain ⟨i, j, rfl, rfl, hc, q⟩ := h
 obtain ⟨t, rfl⟩ := rx
 obtain ⟨t', rfl⟩ := ry
 exact rule i j t t' s _ _ hc ⟨.int (g i j), H, I.tok _, ⟨_, rfl⟩, q⟩
theorem opI0 {f : Value → Value → Sem Value} {g : Int → Int → Int}
  (rule : ∀ (i j : Int) (t u : Tok) (s : Shared) (Q : Value → Shared → Prop) (E : Value → Shared → Prop), Q (.int (g i j) s.toks) { s with toks := s.toks + 1 } → wpAny (model X.prog X.w) X.A (f (.int i t) (.int j u)) Q E s) :
  OpR X f (rI0 fun i j => .int (g i j)) := by
 intro pins s σ H x y v u Q I rx ry h
 obtain ⟨i, j, rfl, rfl, q⟩ := h
 obtain ⟨t, rfl⟩ := rx
 obtain ⟨t', rfl⟩ := ry
 exact rule i j t t' s _ _ ⟨.int (g i j), H, I.tok _, ⟨_, rfl⟩, q⟩
theorem opB0 {f : Value → Value → Sem Value} {g : Int → Int → Bool}
  (rule : ∀ (i j : Int) (t u : Tok) (s : Shared) (Q : Value → Shared → Prop) (E : Value → Shared → Prop), Q (.bool (g i j)) s → wpAny (model X.prog X.w) X.A (f (.int i t) (.int j u)) Q E s) :
  OpR X f (rI0 fun i j => .bl (g i j)) := by
 intro pins s σ H x y v u Q I rx ry h
 obtain ⟨i, j, rfl, rfl, q⟩ := h
 obtain ⟨t, rfl⟩ := rx
 obtain ⟨t', rfl⟩ := ry
 exact rule i j t t' s _ _ ⟨.bl (g i j), H, I, rfl, q⟩
def CDiv (i j : Int) : Prop := 0 < j ∧ j < 1073741824
def CPow (i j : Int) : Prop := 0 ≤ j ∧ j ≤ 1000000 ∧ i.natAbs < 2 ^ 64
def CMul (i j : Int) : Prop := (-(2 ^ 64) < i ∧ i < 2 ^ 64) ∨ (-(2 ^ 64) < j ∧ j < 2 ^ 64)
theorem CMul.ok {i j : Int} (h : CMul i j) : IntMulOk i j := by
 rcases h with ⟨h1, h2⟩ | ⟨h1, h2⟩
 ·exact .of_left (intBits_le_64 h1 h2)
 ·exact .of_right (intBits_le_64 h1 h2)
theorem op_add : OpR X (binaryOp .Add) (rI0 fun i j => .int (i + j)) := opI0 fun _ _ _ _ _ _ _ q => add_int q
theorem op_sub : OpR X (binaryOp .Sub) (rI0 fun i j => .int (i - j)) := opI0 fun _ _ _ _ _ _ _ q => sub_int q
theorem op_mul : OpR X (binaryOp .Mult) (rI CMul fun i j => .int (i * j)) := opI fun _ _ _ _ _ _ _ hc q => mul_int q hc.ok
theorem op_fdiv : OpR X (binaryOp .FloorDiv) (rI CDiv fun i j => .int (i / j)) := opI fun i j _ _ _ _ _ hc q => by
 have h1 : (0 : Int) < j := hc.1
 have h2 : j < 1073741824 := hc.2
 exact floordiv_int (by omega) (by rw [Int.fdiv_eq_ediv_of_nonneg i (by omega)]; exact q) (.inl (PyProof.noPylong_small (by omega)))
theorem op_mod : OpR X (binaryOp .Mod) (rI (fun _ j => 0 < j) fun i j => .int (i % j)) := opI fun i j _ _ _ _ _ hc q => by
 have h1 : (0 : Int) < j := hc
 exact mod_int' (by omega) (by rw [Int.fmod_eq_emod_of_nonneg i (by omega)]; exact q)
theorem op_pow : OpR X (binaryOp .Pow) (rI CPow fun i j => .int (i ^ j.toNat)) := opI fun _ _ _ _ _ _ _ hc q => pow_int_small hc.1 hc.2.1 hc.2.2 q
theorem unI {f : Value → Sem Value} {g : Int → Int}
  (rule : ∀ (i : Int) (t : Tok) (s : Shared) (Q : Value → Shared → Prop) (E : Value → Shared → Prop), Q (.int (g i) s.toks) { s with toks := s.toks + 1 } → wpAny (model X.prog X.w) X.A (f (.int i t)) Q E s) :
  UnR X f (rU fun i => .int (g i)) := by
 intro pins s σ H x v Q I rx h
 obtain ⟨i, rfl, q⟩ := h
 obtain ⟨t, rfl⟩ := rx
 exact rule i t s _ _ ⟨.int (g i), H, I.tok _, ⟨_, rfl⟩, q⟩
theorem un_neg : UnR X (unaryOp .USub) (rU fun i => .int (-i)) := unI fun _ _ _ _ _ q => neg_int q
end
def scal : V → V → Bool
 | .non, .non => true | .non, .int _ => true | .int _, .non => true | .non, .bl _ => true | .bl _, .non => true | .non, .str _ => true | .str _, .non => true
 | .int _, .int _ => true | .bl _, .bl _ => true | .str _, .str _ => true | .byt _, .byt _ => true
 | .int _, .str _ => true | .str _, .int _ => true | .bl _, .str _ => true | .str _, .bl _ => true
 | _, _ => false
def rEq : R2 := fun x y H Q => scal x y = true ∧ Q (.bl (decide (x = y))) H
def rNe : R2 := fun x y H Q => scal x y = true ∧ Q (.bl (!decide (x = y))) H
theorem dec_int {i j : Int} : decide (V.int i = V.int j) = (i == j) := by
 rw [Bool.eq_iff_iff]
 simp
theorem dec_bl {i j : Bool} : decide (V.bl i = V.bl j) = (i == j) := by
 rw [Bool.eq_iff_iff]
 simp
theorem dec_str {i j : Str} : decide (V.str i = V.str j) = (i == j) := by
 rw [Bool.eq_iff_iff]
 simp
theorem dec_byt {i j : Array UInt8} : decide (V.byt i = V.byt j) = (i.toList == j.toList) := by
 rw [Bool.eq_iff_iff]
 cases i
 cases j
 simp
section
variable {X : Cx} {a b c : Expr} {ta tb tc : TE} {pos : Pos}
theorem fin_bl {pins : List (Addr × Obj)} {σ : St} {H : Hp} {s : Shared} {Q : VK} {k k' : Bool} (I : Inv X pins σ H s) (q : Q (.bl k) H) (e : k = k') : EP X pins σ Q (.bool k') s := by
 subst e
 exact ⟨.bl k, H, I, rfl, q⟩
theorem op_eq : OpR X (compareOp .Eq) rEq := by
 intro pins s σ H x y v u Q I rx ry h
 obtain ⟨hs, q⟩ := h
 cases x with
 | non =>
  cases rx
  cases y with
  | non => cases ry; exact PySem.EqNone.eq_none_none (fin_bl I q (by simp))
  | bl j => cases ry; exact PySem.EqNone.eq_none_bool (fin_bl I q (by simp))
  | int j => obtain ⟨t', rfl⟩ := ry; exact PySem.EqNone.eq_none_int (fin_bl I q (by simp))
  | str j => obtain ⟨t', rfl⟩ := ry; exact PySem.EqNone.eq_none_str (fin_bl I q (by simp))
  | _ => exact absurd (show false = true from hs) Bool.false_ne_true
 | bl i =>
  cases rx
  cases y with
  | non => cases ry; exact PySem.EqNone.eq_bool_none (fin_bl I q (by simp))
  | bl j => cases ry; exact eq_bool (fin_bl I q dec_bl)
  | str j => obtain ⟨t', rfl⟩ := ry; exact PySem.EqMixed.eq_bool_str (fin_bl I q (by simp))
  | _ => exact absurd (show false = true from hs) Bool.false_ne_true
 | int i =>
  obtain ⟨t, rfl⟩ := rx
  cases y with
  | non => cases ry; exact PySem.EqNone.eq_int_none (fin_bl I q (by simp))
  | int j => obtain ⟨t', rfl⟩ := ry; exact eq_int (fin_bl I q dec_int)
  | str j => obtain ⟨t', rfl⟩ := ry; exact PySem.EqMixed.eq_int_str (fin_bl I q (by simp))
  | _ => exact absurd (show false = true from hs) Bool.false_ne_true
 | str i =>
  obtain ⟨t, rfl⟩ := rx
  cases y with
  | non => cases ry; exact PySem.EqNone.eq_str_none (fin_bl I q (by simp))
  | bl j => cases ry; exact PySem.EqMixed.eq_str_bool (fin_bl I q (by simp))
  | int j => obtain ⟨t', rfl⟩ := ry; exact PySem.EqMixed.eq_str_int (fin_bl I q (by simp))
  | str j => obtain ⟨t', rfl⟩ := ry; exact eq_str (fin_bl I q dec_str)
  | _ => exact absurd (show false = true from hs) Bool.false_ne_true
 | byt i =>
  obtain ⟨t, rfl⟩ := rx
  cases y with
  | byt j => obtain ⟨t', rfl⟩ := ry; exact PySem.W.eq_bytes (fin_bl I q dec_byt)
  | _ => exact absurd (show false = true from hs) Bool.false_ne_true
 | _ => cases y <;> exact absurd (show false = true from hs) Bool.false_ne_true
theorem op_ne : OpR X (compareOp .NotEq) rNe := by
 intro pins s σ H x y v u Q I rx ry h
 obtain ⟨hs, q⟩ := h
 cases x with
 | non =>
  cases rx
  cases y with
  | non => cases ry; exact PySem.EqNone.ne_none_none (fin_bl I q (by simp))
  | bl j => cases ry; exact PySem.EqNone.ne_none_bool (fin_bl I q (by simp))
  | int j => obtain ⟨t', rfl⟩ := ry; exact PySem.EqNone.ne_none_int (fin_bl I q (by simp))
  | str j => obtain ⟨t', rfl⟩ := ry; exact PySem.EqNone.ne_none_str (fin_bl I q (by simp))
  | _ => exact absurd (show false = true from hs) Bool.false_ne_true
 | bl i =>
  cases rx
  cases y with
  | non => cases ry; exact PySem.EqNone.ne_bool_none (fin_bl I q (by simp))
  | bl j => cases ry; exact ne_bool (fin_bl I q (congrArg not dec_bl))
  | str j => obtain ⟨t', rfl⟩ := ry; exact PySem.EqMixed.ne_bool_str (fin_bl I q (by simp))
  | _ => exact absurd (show false = true from hs) Bool.false_ne_true
 | int i =>
  obtain ⟨t, rfl⟩ := rx
  cases y with
  | non => cases ry; exact PySem.EqNone.ne_int_none (fin_bl I q (by simp))
  | int j => obtain ⟨t', rfl⟩ := ry; exact ne_int (fin_bl I q (congrArg not dec_int))
  | str j => obtain ⟨t', rfl⟩ := ry; exact PySem.EqMixed.ne_int_str (fin_bl I q (by simp))
  | _ => exact absurd (show false = true from hs) Bool.false_ne_true
 | str i =>
  obtain ⟨t, rfl⟩ := rx
  cases y with
  | non => cases ry; exact PySem.EqNone.ne_str_none (fin_bl I q (by simp))
  | bl j => cases ry; exact PySem.EqMixed.ne_str_bool (fin_bl I q (by simp))
  | int j => obtain ⟨t', rfl⟩ := ry; exact PySem.EqMixed.ne_str_int (fin_bl I q (by simp))
  | str j => obtain ⟨t', rfl⟩ := ry; exact ne_str (fin_bl I q (congrArg not dec_str))
  | _ => exact absurd (show false = true from hs) Bool.false_ne_true
 | byt i =>
  obtain ⟨t, rfl⟩ := rx
  cases y with
  | byt j => obtain ⟨t', rfl⟩ := ry; exact PySem.W.ne_bytes (fin_bl I q (congrArg not dec_byt))
  | _ => exact absurd (show false = true from hs) Bool.false_ne_true
 | _ => cases y <;> exact absurd (show false = true from hs) Bool.false_ne_true
theorem op_lt : OpR X (compareOp .Lt) (rI0 fun i j => .bl (decide (i < j))) := opB0 fun _ _ _ _ _ _ _ q => lt_int q
theorem op_le : OpR X (compareOp .LtE) (rI0 fun i j => .bl (decide (i ≤ j))) := opB0 fun _ _ _ _ _ _ _ q => le_int q
theorem op_gt : OpR X (compareOp .Gt) (rI0 fun i j => .bl (decide (j < i))) := opB0 fun _ _ _ _ _ _ _ q => gt_int q
theorem op_ge : OpR X (compareOp .GtE) (rI0 fun i j => .bl (decide (j ≤ i))) := opB0 fun _ _ _ _ _ _ _ q => ge_int q
theorem op_isN : OpR X (compareOp .Is) (fun x y H Q => y = .non ∧ Q (.bl (decide (x = .non))) H) := by
 intro pins s σ H x y v u Q I rx ry h
 obtain ⟨rfl, q⟩ := h
 cases ry
 refine is_none_gen (fin_bl I q ?_)
 cases x <;> first
  | (cases rx; rfl)
  | (obtain ⟨t, rfl⟩ := rx; rfl)
theorem op_notN : OpR X (compareOp .IsNot) (fun x y H Q => y = .non ∧ Q (.bl (!decide (x = .non))) H) := by
 intro pins s σ H x y v u Q I rx ry h
 obtain ⟨rfl, q⟩ := h
 cases ry
 refine isnot_none_gen (fin_bl I q ?_)
 cases x <;> first
  | (cases rx; rfl)
  | (obtain ⟨t, rfl⟩ := rx; rfl)
theorem nomark (b : Expr) {op : CmpOp} (h : op ≠ .In := by decide) (h2 : op ≠ .NotIn := by decide) : behindInMarks op b = false := by
 have e1 : (op == CmpOp.In) = false := by cases op <;> first | rfl | exact absurd rfl h
 have e2 : (op == CmpOp.NotIn) = false := by cases op <;> first | rfl | exact absurd rfl h2
 cases b <;> simp [behindInMarks, e1, e2]
theorem pe_cmpR {op : CmpOp} {r : R2} (ho : OpR X (compareOp op) r) (ha : PE X a ta) (hb : PE X b tb) (hm : behindInMarks op b = false) : PE X (.Compare a [op] [b] pos) (tOp r ta tb) := by
 intro pins s σ H Q I h
 exact wpAny_Compare1 (binT ha hb I h fun v u s2 x y H2 I2 rx ry q => ho pins s2 σ H2 x y v u Q I2 rx ry q) hm
def tTest (t : TE) : TT := fun σ H Q => t σ H fun x H' => ∃ k, x = .bl k ∧ Q k H'
theorem pt_cmpR {op : CmpOp} {r : R2} (ho : OpR X (compareOp op) r) (ha : PE X a ta) (hb : PE X b tb) (hm : behindInMarks op b = false) : PT X (.Compare a [op] [b] pos) (tTest (tOp r ta tb)) := by
 intro pins s σ H Q I h
 refine wpAny_isTrue_Compare1 (thn (ha pins s σ H _ I h) fun v s1 ⟨x, H1, I1, r1, q1⟩ => thn (hb pins s1 σ H1 _ I1 q1) fun u s2 ⟨y, H2, I2, r2, q2⟩ =>
  thn (ho pins s2 σ H2 x y v u _ I2 r1 r2 q2) fun c s3 ⟨z, H3, I3, r3, k, e, q3⟩ => ?_) hm
 subst e
 cases r3
 exact wpAny_truthy_bool ⟨H3, I3, q3⟩
def tChain (r r' : R2) (ta tb tc : TE) : TE := fun σ H Q => ta σ H fun x H1 => tb σ H1 fun y H2 => r x y H2 fun z H3 => ∃ k, z = .bl k ∧
 (if k = true then tc σ H3 fun w' H4 => r' y w' H4 Q else Q (.bl false) H3)
theorem pt_chain {op op' : CmpOp} {r r' : R2} (ho : OpR X (compareOp op) r) (ho' : OpR X (compareOp op') r') (ha : PE X a ta) (hb : PE X b tb) (hc : PE X c tc)
  (hm : lastMarks [op, op'] [b, c] = false := by with_unfolding_all rfl) : PT X (.Compare a [op, op'] [b, c] pos) (tTest (tChain r r' ta tb tc)) := by
 intro pins s σ H Q I h
 refine isTrue_chain (thn (ha pins s σ H _ I h) fun v s1 ⟨x, H1, I1, r1, q1⟩ => test_link (thn (hb pins s1 σ H1 _ I1 q1) fun u s2 ⟨y, H2, I2, r2, q2⟩ =>
  thn (ho pins s2 σ H2 x y v u _ I2 r1 r2 q2) fun d s3 ⟨z, H3, I3, r3, k, e, q3⟩ => ?_)) hm
 subst e
 cases r3
 refine wpAny_truthy_bool ?_
 cases k with
 | false =>
  obtain ⟨k', e', q'⟩ := q3
  cases e'
  exact ite_ff ⟨H3, I3, q'⟩
 | true =>
  refine ite_tt (test_last (thn (hc pins s3 σ H3 _ I3 q3) fun w' s4 ⟨z', H4, I4, r4, q4⟩ => thn (ho' pins s4 σ H4 y z' u w' _ I4 r2 r4 q4) fun d' s5 ⟨z2, H5, I5, r5, k2, e2, q5⟩ => ?_))
  subst e2
  cases r5
  exact wpAny_truthy_bool ⟨H5, I5, q5⟩
theorem line63 : (sizeLine : Nat) < 2 ^ 63 := by rw [sizeLine_eq]; decide
theorem op_add_str : OpR X (binaryOp .Add) (fun x y H Q => ∃ i j, x = .str i ∧ y = .str j ∧ i.length + j.length ≤ sizeLine ∧ Q (.str (i ++ j)) H) := by
 intro pins s σ H x y v u Q I rx ry h
 obtain ⟨i, j, rfl, rfl, hz, q⟩ := h
 obtain ⟨t, rfl⟩ := rx
 obtain ⟨t', rfl⟩ := ry
 exact add_str (fun t' tk => ⟨.str (i ++ j), H, I.tok _, ⟨_, rfl⟩, q⟩) hz
def PlainIxT (b : Expr) : Prop := ∀ o i, subscripted b false o i = operate [o, i] (getItem o i)
theorem pe_item_str (ha : PE X a ta) (hb : PE X b tb) (hs : PlainIxT b) :
  PE X (.Subscript a b pos) (tOp (fun x y H Q => ∃ z i c, x = .str z ∧ y = .int i ∧ 0 ≤ i ∧ i < 2 ^ 63 ∧ i < z.length ∧ z.cps[i.toNat]? = some c ∧ Q (.str ⟨#[c]⟩) H) ta tb) := by
 intro pins s σ H Q I h
 refine Subscript_ (binT ha hb I h fun v u s2 x y H2 I2 rx ry q => ?_)
 obtain ⟨z, i, c, rfl, rfl, h0, h63, h1, hc, q⟩ := q
 obtain ⟨t, rfl⟩ := rx
 obtain ⟨t', rfl⟩ := ry
 have e : seqIndex? i z.length = some i.toNat := PySem.StrLaws.seqIndex_nonneg h0 h1
 exact tail_any (typeIs_str s2 z t) slot_str_getitem.lookup (getItem_str (c := c) (by
  have e1 : decide (i < -(2 ^ 63 : Int)) = false := decide_eq_false (by omega)
  have e2 : decide (i ≥ 2 ^ 63) = false := decide_eq_false (by omega)
  rw [e1, e2] <;> rfl) (by rw [e]; exact hc) ⟨.str ⟨#[c]⟩, H2, I2.tok _, ⟨_, rfl⟩, q⟩) (hs _ _)
theorem vals1 {x : V} {us : List Value} (r : Vals [x] us) : ∃ u, us = [u] ∧ RelV x u := by
 cases r with
 | cons r1 r2 => cases r2; exact ⟨_, rfl, r1⟩
theorem call_str_int : CallR X (.type "str") (fun xs H Q => ∃ i, xs = [.int i] ∧ i.natAbs.log2 < 1920 ∧ Q (.str (toString i)) H) := by
 intro pins s σ H xs us Q I r h
 obtain ⟨i, rfl, hz, q⟩ := h
 obtain ⟨u, rfl, t, rfl⟩ := vals1 r
 exact PySem.P.str_of_int hz ⟨.str _, H, I.tok _, ⟨_, rfl⟩, q⟩
end
end L2
namespace L2
open PySem PySem.Spec PyProof.Rows
structure ObjM (h : Heap) (x dx C : Addr) (mA : Str → Option Value) : Prop where
 obj : h.get? x = some (PySem.W.instObj C dx)
 ns : h.Ns1 dx mA
 ne : dx ≠ x
theorem lookIn_ns {h : Heap} {dx : Addr} {mA : Str → Option Value} (n : h.Ns1 dx mA) : ∃ od, h.get? dx = some od ∧ ∀ name, PySem.W.lookIn name od = some (mA name) := by
 obtain ⟨o, es, ep, ho, hd, hk, _, hm⟩ := n
 refine ⟨o, ho, fun name => ?_⟩
 have e := hm name
 unfold nsFind findBy at e
 rw [← Array.find?_toList] at e
 unfold PySem.W.lookIn
 rw [hd]
 dsimp only
 split
 ·rename_i y q
  rw [q] at e
  exact congrArg some e
 ·rename_i q
  rw [q] at e
  have a : es.toList.any (·.refKey) = false := by
   rw [List.any_eq_false]
   intro y hy
   obtain ⟨z, t, hkey⟩ := hk y (Array.mem_toList_iff.mp hy)
   simp [DictEntry.refKey, hkey]
  have a' : ¬ es.toList.any (·.refKey) = true := by rw [a]; exact Bool.false_ne_true
  rw [if_neg a']
  exact congrArg some e
theorem ObjM.look {h : Heap} {x dx C : Addr} {mA : Str → Option Value} (I : ObjM h x dx C mA) : ∃ od, PySem.W.InstAt h x (PySem.W.instObj C dx) C (some od) ∧ ∀ name, PySem.W.lookIn name od = some (mA name) :=
 let ⟨od, ho, hl⟩ := lookIn_ns I.ns
 ⟨od, ⟨I.obj, rfl, rfl, ho⟩, hl⟩
section
variable {prog : Program} {w : World} {A : Around} {E : Value → Shared → Prop} {s : Shared} {K : PySem.W.Frag} {x dx C f : Addr} {mA : Str → Option Value} {name : Str} {v : Value}
theorem get_map {expr : Bool} {Q : Value → Shared → Prop} (X : K.In s.heap) (I : ObjM s.heap x dx C mA) (hg : PySem.W.plainGet K C name = true) (hh : PySem.W.hasDictIn K C = true)
  (ha : PySem.W.findIn K (.ref C) name = some none) (hv : mA name = some v) (hv' : PySem.W.handedIn v = true) (h : Q v { s with toks := s.toks + 1 }) :
  wpAny (model prog w) A (getAttr (.ref x) name expr) Q E s := by
 obtain ⟨od, J, hl⟩ := I.look
 exact PySem.W.get_value X J (PySem.W.plainGet_of hg).1 (PySem.W.findObj_own hh ha rfl (by rw [hl, hv])) hv' h
theorem get_meth {pl : Sem Bool} {Q : Value × List Value → Shared → Prop} (X : K.In s.heap) (I : ObjM s.heap x dx C mA) (hg : PySem.W.plainGet K C name = true)
  (hf : PySem.W.findIn K (.ref C) name = some (some (.ref f))) (ht : PySem.W.isFn K (.ref f) = true) (hv : mA name = none) (h : Q (.ref f, [.ref x]) s) :
  wpAny (model prog w) A (getMethod (.ref x) name pl) Q E s := by
 obtain ⟨od, J, hl⟩ := I.look
 exact PySem.W.method_fn X J (PySem.W.plainGet_of hg).1 (PySem.W.plainGet_of hg).2 hf (beq_iff_eq.mp ht) (by show (PySem.W.lookIn name od).map (·.isSome) = some false; rw [hl, hv]; rfl) h
theorem set_map {ns : List Str} {Q : Unit → Shared → Prop} (X : K.In s.heap) (I : ObjM s.heap x dx C mA)
  (hs : PySem.W.findIn K (.ref C) "__setattr__" = some (some (.builtin "object.__setattr__"))) (hp : PySem.W.plainOver K C = true) (ht : PySem.W.takerIn K C name = some none) (hh : PySem.W.hasDictIn K C = true)
  (hw : PySem.Within mA ns) (hsz : ns.length ≤ sizeLine)
  (h : ∀ h', ObjM h' x dx C (fun y => if y = name then some v else mA y) → Heap.SameBut dx s.heap h' → Q () { s with heap := h', toks := s.toks + 2 }) :
  wpAny (model prog w) A (setAttr (.ref x) name v) Q E s := by
 obtain ⟨od, J, hl⟩ := I.look
 refine PySem.W.set_plain X J hs (PySem.W.osa_open (s := { s with toks := s.toks + 1 }) (r := none) X J hp ht fun b => ?_)
 obtain ⟨cd, hc, hd'⟩ := PySem.W.any_some hh
 have hx : s.heap.get? x = some ⟨.ref C, some dx, .plain, #[]⟩ := I.obj
 refine wpAny_bind (wpAny_pure (wpAny_bind (wpAny_bind (wpAny_loadPart hx (wpAny_bind (PySem.W.Looks.here (s := { s with toks := s.toks + 1 }) (PySem.W.looks_clsIn X hc) ?_))))))
 rw [hd']
 refine wpAny_pure (a := some dx) (wpAny_bind (wpAny_pure (wpAny_bind ?_)))
 refine wpAny_nsSet1 (s := { s with toks := s.toks + 1 }) I.ns fun h' hn2 hs2 => ?_
 obtain ⟨oD, esD, epD, hoD, hdD, hcD⟩ := hn2.count (PySem.Within.cons name v hw)
 refine wpAny_bind (wpAny_lookBehind hoD (by rw [hdD]; exact pastItsLine_dict (Nat.le_trans hcD (by rw [List.length_cons]; omega))) ?_)
 exact wpAny_pure (h _ ⟨(hs2.2 _ (Ne.symm I.ne)).trans I.obj, hn2, I.ne⟩ hs2)
theorem make_map {R : Result → Shared → Prop} {vs : List Value} {kw : List (Str × Value)} (X : K.In s.heap) (hm : PySem.W.makesIn K C = true)
  (hi : PySem.W.findIn K (.ref C) "__init__" = some (some (.ref f))) (hf : PySem.W.typeIn K (.ref f) = some (.type "function"))
  (h : codeAny (model prog w) (A.under (.builtin "type.__call__" ⟨.ref C :: vs, kw⟩)) (.call (.ref f) ⟨.ref (s.heap.objs.size + 1) :: vs, kw⟩) (PySem.W.InitBack (s.heap.objs.size + 1) R)
   { s with heap := (s.heap.push PySem.W.emptyDict).push (PySem.W.instObj C s.heap.objs.size) }) :
  codeAny (model prog w) A (.call (.ref C) ⟨vs, kw⟩) R s := by
 obtain ⟨hh, g, d, t, os⟩ := s
 exact PySem.W.make_core (PySem.W.makes_of X hm) (PySem.W.looks_findIn X hi) (fun self => PySem.W.bind_fn X self hf) (.inl rfl) h
end
def putF (f : Str) (v : V) : List (Str × V) → List (Str × V)
 | [] => [(f, v)]
 | (g, x) :: r => if g = f then (g, v) :: r else (g, x) :: putF f v r
theorem lookup_putF (f g : Str) (v : V) : ∀ fs : List (Str × V), (putF f v fs).lookup g = if g = f then some v else fs.lookup g
 | [] => by
  show List.lookup g [(f, v)] = _
  by_cases h : g = f
  ·have hb : (g == f) = true := beq_iff_eq.mpr h
   simp only [List.lookup, hb, if_pos h]
  ·have hb : (g == f) = false := beq_eq_false_iff_ne.mpr h
   simp only [List.lookup, hb, if_neg h]
 | (k, x) :: r => by
  have ih := lookup_putF f g v r
  rw [show putF f v ((k, x) :: r) = (if k = f then (k, v) :: r else (k, x) :: putF f v r) from rfl]
  by_cases hk : k = f
  ·rw [if_pos hk]
   by_cases h : g = k
   ·have hb : (g == k) = true := beq_iff_eq.mpr h
    simp only [List.lookup, hb, if_pos (h.trans hk)]
   ·have hb : (g == k) = false := beq_eq_false_iff_ne.mpr h
    simp only [List.lookup, hb, if_neg (fun e : g = f => h (e.trans hk.symm))]
  ·rw [if_neg hk]
   by_cases h : g = k
   ·have hb : (g == k) = true := beq_iff_eq.mpr h
    simp only [List.lookup, hb, if_neg (fun e : g = f => hk (h.symm.trans e))]
   ·have hb : (g == k) = false := beq_eq_false_iff_ne.mpr h
    simp only [List.lookup, hb]
    exact ih
theorem keys_putF (f : Str) (v : V) : ∀ fs : List (Str × V), f ∈ (putF f v fs).map (·.1) ∧ ∀ g, g ∈ fs.map (·.1) → g ∈ (putF f v fs).map (·.1)
 | [] => ⟨by simp [putF], fun g h => by simp at h⟩
 | (k, x) :: r => by
  obtain ⟨i1, i2⟩ := keys_putF f v r
  rw [show putF f v ((k, x) :: r) = (if k = f then (k, v) :: r else (k, x) :: putF f v r) from rfl]
  by_cases hk : k = f
  ·rw [if_pos hk]
   subst hk
   exact ⟨by simp, fun g h => by simpa using h⟩
  ·rw [if_neg hk]
   refine ⟨?_, fun g h => ?_⟩
   ·rw [List.map_cons]
    exact List.mem_cons_of_mem _ i1
   ·rw [List.map_cons] at h ⊢
    rcases List.mem_cons.mp h with e | e
    ·exact List.mem_cons.mpr (.inl e)
    ·exact List.mem_cons_of_mem _ (i2 g e)
theorem length_putF (f : Str) (v : V) : ∀ fs : List (Str × V), (putF f v fs).length ≤ fs.length + 1
 | [] => by simp [putF]
 | (k, x) :: r => by
  have ih := length_putF f v r
  rw [show putF f v ((k, x) :: r) = (if k = f then (k, v) :: r else (k, x) :: putF f v r) from rfl]
  by_cases hk : k = f
  ·rw [if_pos hk, List.length_cons, List.length_cons]; omega
  ·rw [if_neg hk, List.length_cons, List.length_cons]; omega
theorem RelO.some_of {v : V} {o : Option Value} (r : RelO (some v) o) : ∃ u, o = some u ∧ RelV v u := by
 cases o with
 | none => exact (show False from r).elim
 | some u => exact ⟨u, rfl, r⟩
theorem RelO.none_of {o : Option Value} (r : RelO none o) : o = none := by
 cases o with
 | none => rfl
 | some u => exact (show False from r).elim
theorem handed_of {v : V} {u : Value} (r : RelV v u) : PySem.W.handedIn u = true := by
 cases v with
 | non => cases (show u = Value.none from r); rfl
 | bl b => cases (show u = Value.bool b from r); rfl
 | int i => obtain ⟨t, e⟩ := (show ∃ t, u = Value.int i t from r); cases e; rfl
 | str x => obtain ⟨t, e⟩ := (show ∃ t, u = Value.str x t from r); cases e; rfl
 | byt b => obtain ⟨t, e⟩ := (show ∃ t, u = Value.bytes b t from r); cases e; rfl
 | flt b => obtain ⟨t, e⟩ := (show ∃ t, u = Value.float b t from r); cases e; rfl
 | ref a => cases (show u = Value.ref a from r); rfl
 | ty n => cases (show u = Value.type n from r); rfl
section
variable {P : Program} {w : World} {H H' : Hp} {h h' : Heap} {a C dx : Addr} {fs fs' : List (Str × V)}
theorem ins_get (hok : HOk P w H h) (e : H a = some (.ins C dx fs)) : ∃ mA, ObjM h a dx C mA ∧ (∀ f, RelO (fs.lookup f) (mA f)) ∧ PySem.Within mA (fs.map (·.1)) ∧ fs.length ≤ 1000 ∧ H dx = some (.own a) := by
 obtain ⟨d, z, ne, ob, mA, n, r, q⟩ := (show ObjOk P w H h a (.ins C dx fs) from hok a _ e)
 exact ⟨mA, ⟨ob, n, ne⟩, r, q, z, d⟩
end
structure Cls (K : PySem.W.Frag) (C : Addr) : Prop where
 pg : PySem.W.plainGet K C Str.empty = true
 hd : PySem.W.hasDictIn K C = true
 po : PySem.W.plainOver K C = true
 sa : PySem.W.findIn K (.ref C) "__setattr__" = some (some (.builtin "object.__setattr__"))
theorem Cls.get {K : PySem.W.Frag} {C : Addr} (c : Cls K C) (f : Str) : PySem.W.plainGet K C f = true := c.pg
def NoAttr (K : PySem.W.Frag) (C : Addr) (f : Str) : Prop := PySem.W.findIn K (.ref C) f = some none
theorem NoAttr.taker {K : PySem.W.Frag} {C : Addr} {f : Str} (n : NoAttr K C f) : PySem.W.takerIn K C f = some none := by
 unfold PySem.W.takerIn
 rw [show PySem.W.findIn K (.ref C) f = some none from n]
 rfl
structure Meth (K : PySem.W.Frag) (C : Addr) (m : Str) (f : Addr) : Prop where
 at_ : PySem.W.findIn K (.ref C) m = some (some (.ref f))
 fn : PySem.W.isFn K (.ref f) = true
 kp : PySem.W.keepIn K (.ref f) = true
section
variable {X : Cx} {pins : List (Addr × Obj)} {σ : St} {H : Hp} {s : Shared} {a C dx : Addr} {fs : List (Str × V)} {f : Str} {v : V} {A : Around} {E : Value → Shared → Prop}
theorem getattr_ok {b : Bool} {Q : Value → Shared → Prop} (I : Inv X pins σ H s) (e : H a = some (.ins C dx fs)) (c : Cls X.K C) (n : NoAttr X.K C f) (l : fs.lookup f = some v)
  (h : ∀ u s', Inv X pins σ H s' → RelV v u → Q u s') : wpAny (model X.prog X.w) A (getAttr (.ref a) f b) Q E s := by
 obtain ⟨mA, O, r, _, _, _⟩ := ins_get I.hok e
 obtain ⟨u, hu, ru⟩ := RelO.some_of (v := v) (o := mA f) (by rw [← l]; exact r f)
 exact get_map I.kIn O (c.get f) c.hd n hu (handed_of ru) (h u _ (I.tok _) ru)
theorem getmeth_ok {m : Str} {g : Addr} {pl : Sem Bool} {Q : Value × List Value → Shared → Prop} (I : Inv X pins σ H s) (e : H a = some (.ins C dx fs)) (c : Cls X.K C) (k : Meth X.K C m g) (l : fs.lookup m = none)
  (h : Q (.ref g, [.ref a]) s) : wpAny (model X.prog X.w) A (getMethod (.ref a) m pl) Q E s := by
 obtain ⟨mA, O, r, _, _, _⟩ := ins_get I.hok e
 have hn : mA m = none := RelO.none_of (by rw [← l]; exact r m)
 exact get_meth I.kIn O (c.get m) k.at_ k.fn hn h
theorem setattr_ok {y : V} {u : Value} {Q : Unit → Shared → Prop} (I : Inv X pins σ H s) (e : H a = some (.ins C dx fs)) (c : Cls X.K C) (n : NoAttr X.K C f) (hl : fs.length < 1000) (ry : RelV y u)
  (h : ∀ s', Inv X pins σ (upd H a (.ins C dx (putF f y fs))) s' → Q () s') : wpAny (model X.prog X.w) A (setAttr (.ref a) f u) Q E s := by
 obtain ⟨mA, O, r, wi, _, ho⟩ := ins_get I.hok e
 have hz : (fs.map (·.1)).length ≤ sizeLine := by rw [List.length_map, sizeLine_eq]; omega
 refine set_map I.kIn O c.sa c.po n.taker c.hd wi hz fun h' O' sb => h _ ?_
 have hd : ∃ o, h'.get? dx = some o := let ⟨o, _, _, e', _⟩ := O'.ns; ⟨o, e'⟩
 refine I.write (x := a) (e := dx) (by rw [e]; exact True.intro) (.inr ho) (fun b q hb z => (sb.2 b hb).trans z) hd ?_
 refine ⟨by rw [upd_ne O.ne]; exact ho, ?_, O.ne, O'.obj, _, O'.ns, fun g => ?_, fun g hg => ?_⟩
 ·have := length_putF f y fs; omega
 ·show RelO ((putF f y fs).lookup g) (if g = f then some u else mA g)
  rw [lookup_putF]
  by_cases q : g = f
  ·rw [if_pos q, if_pos q]; exact ry
  ·rw [if_neg q, if_neg q]; exact r g
 ·by_cases q : g = f
  ·rw [q]; exact (keys_putF f y fs).1
  ·refine (keys_putF f y fs).2 g (wi g fun z => hg ?_)
   show (if g = f then some u else mA g) = none
   rw [if_neg q]; exact z
theorem Inv.made (I : Inv X pins σ H s) : Inv X pins σ (upd (upd H s.heap.objs.size (.own (s.heap.objs.size + 1))) (s.heap.objs.size + 1) (.ins C s.heap.objs.size []))
  { s with heap := (s.heap.push PySem.W.emptyDict).push (PySem.W.instObj C s.heap.objs.size) } := by
 have e1 : (s.heap.push PySem.W.emptyDict).get? s.heap.objs.size = some PySem.W.emptyDict := Heap.get?_push_size s.heap rfl
 have e2 : ((s.heap.push PySem.W.emptyDict).push (PySem.W.instObj C s.heap.objs.size)).get? (s.heap.objs.size + 1) = some (PySem.W.instObj C s.heap.objs.size) := by
  have := Heap.get?_push_size (s.heap.push PySem.W.emptyDict) (o := PySem.W.instObj C s.heap.objs.size) rfl
  rwa [Heap.size_push] at this
 have e3 : (s.heap.push PySem.W.emptyDict).Ns s.heap.objs.size (fun _ => none) := ⟨PySem.W.emptyDict, #[], _, e1, rfl, (fun e he => absurd he (by simp)), fun _ => rfl⟩
 have I1 := I.laid (a := s.heap.objs.size) (o := .own (s.heap.objs.size + 1)) (h' := s.heap.push PySem.W.emptyDict) (t' := s.toks) (fun b u q => Heap.get?_push_of_some _ q) (Nat.le_refl _) ⟨_, e1⟩
 refine I1.laid (a := s.heap.objs.size + 1) (o := .ins C s.heap.objs.size []) (t' := s.toks) (fun b u q => Heap.get?_push_of_some _ q) (Nat.le_of_eq (Heap.size_push _ _)) ?_
 have ne : s.heap.objs.size ≠ s.heap.objs.size + 1 := Nat.ne_of_lt (Nat.lt_succ_self _)
 refine ⟨by rw [upd_ne ne, upd_same], Nat.zero_le _, ne, e2, fun _ => none, (Heap.Ns1.of_empty e3).at fun o q => Heap.get?_push_of_some _ q, fun _ => True.intro, fun y hy => absurd rfl hy⟩
theorem attr_of {prog : Program} {w : World} {env : Env} {e : Expr} {f : Str} {pos : Pos} {s : Shared} {Q : Value → Shared → Prop} (hb : attributeBase e f env (eval e env) = eval e env)
  (h : wpAny (model prog w) A (eval e env) (fun o s₁ => wpAny (model prog w) A (getAttr o f true) Q E s₁) E s) : wpAny (model prog w) A (eval (.Attribute e f pos) env) Q E s :=
 Attribute_any_ h (by rw [arm_eval_Attribute, hb])
end
def tFld (K : PySem.W.Frag) (ta : TE) (f : Str) : TE := fun σ H Q => ta σ H fun x H1 => ∃ a C dx fs v, x = .ref a ∧ H1 a = some (.ins C dx fs) ∧ Cls K C ∧ NoAttr K C f ∧ fs.lookup f = some v ∧ Q v H1
def sFld (K : PySem.W.Frag) (ta tv : TE) (f : Str) : TS := fun D σ H => tv σ H fun y H1 => ta σ H1 fun x H2 => ∃ a C dx fs, x = .ref a ∧ H2 a = some (.ins C dx fs) ∧ Cls K C ∧ NoAttr K C f ∧ fs.length < 1000 ∧
 D.nx σ (upd H2 a (.ins C dx (putF f y fs)))
section
variable {X : Cx} {o e value : Expr} {f : Str} {pos pos' tpos : Pos} {ta tv : TE}
theorem pe_fld (he : PE X e ta) (hb : attributeBase e f X.env (eval e X.env) = eval e X.env) : PE X (.Attribute e f pos) (tFld X.K ta f) := by
 intro pins s σ H Q I h
 refine attr_of hb (thn (he pins s σ H _ I h) fun u s1 ⟨x, H1, I1, rx, a, C, dx, fs, v, ex, ea, c, n, l, q⟩ => ?_)
 subst ex
 obtain rfl : u = Value.ref a := rx
 exact getattr_ok I1 ea c n l fun u' s2 I2 ru => ⟨v, H1, I2, ru, q⟩
theorem ps_fld (ha : PE X o ta) (hv : PE X value tv) (hs : swapsWith value (some (.Attribute o f pos')) pos.line X.env = pure false) : PS X (.Assign [.Attribute o f pos'] value pos) (sFld X.K ta tv f) := by
 intro pins s σ H D I h
 refine plainObj_wpAny_Assign_Attribute (thn (hv pins s σ H _ I h) fun u s1 ⟨y, H1, I1, ry, q⟩ => thn (ha pins s1 σ H1 _ I1 q) fun ov s2 ⟨x, H2, I2, rx, a, C, dx, fs, ex, ea, c, n, l, q2⟩ => ?_) hs
 subst ex
 obtain rfl : ov = Value.ref a := rx
 exact setattr_ok I2 ea c n l ry fun s3 I3 => ⟨σ, _, I3, q2⟩
end
section
variable {X : Cx} {pins : List (Addr × Obj)} {σ : St} {H : Hp} {s : Shared} {A : Around} {E : Value → Shared → Prop} {Q : Value → Shared → Prop} {c : Value} {b : Bool}
inductive TyOf (K : PySem.W.Frag) (H : Hp) : V → Value → Prop where
 | non : TyOf K H .non (.type "NoneType")
 | bl (x : Bool) : TyOf K H (.bl x) (.type "bool")
 | int (i : Int) : TyOf K H (.int i) (.type "int")
 | str (x : Str) : TyOf K H (.str x) (.type "str")
 | flt (x : UInt64) : TyOf K H (.flt x) (.type "float")
 | lst {a : Addr} {xs : List V} (e : H a = some (.lst xs)) : TyOf K H (.ref a) (.type "list")
 | frz {a : Addr} {o : Obj} {xs : List V} (e : H a = some (.frz o (.lst xs))) : TyOf K H (.ref a) (.type "list")
 | tup {a : Addr} {xs : List V} (e : H a = some (.tup xs)) : TyOf K H (.ref a) (.type "tuple")
 | dK {a : Addr} {kvs : List (Key × V)} (e : H a = some (.dK kvs)) : TyOf K H (.ref a) (.type "dict")
 | dT {a : Addr} {kvs : List (List Key × V)} (e : H a = some (.dT kvs)) : TyOf K H (.ref a) (.type "dict")
 | ins {a C dx : Addr} {fs : List (Str × V)} (e : H a = some (.ins C dx fs)) (cl : Cls K C) (ha : PySem.W.findIn K (.ref C) "__class__" = some (some (.builtin "object.__class__")))
   (hn : PySem.W.specialIn K (.builtin "object.__class__") "__get__" = some (some (.builtin "getset_descriptor.__get__"))) (htk : PySem.W.takesIn K (.builtin "object.__class__") = some true)
   (hm : PySem.W.mroIn K C (.type "object") = some true) : TyOf K H (.ref a) (.ref C)
theorem isinst_ok {x : V} {u t : Value} (I : Inv X pins σ H s) (rx : RelV x u) (ty : TyOf X.K H x t) (e : PySem.W.kitOne X.K t c = some b) (h : ∀ tk, Q (.bool b) { s with toks := tk }) :
  wpAny (model X.prog X.w) A (call (.builtin "isinstance") [u, c]) Q E s := by
 cases ty with
 | non => cases (show u = Value.none from rx); exact PySem.W.kia_one PySem.W.kitx_none I.kIn True.intro e (fun z => nomatch z) h
 | bl y => cases (show u = Value.bool y from rx); exact PySem.W.kia_one PySem.W.kitx_bool I.kIn True.intro e (fun z => nomatch z) h
 | int i => obtain ⟨t, q⟩ := (show ∃ t, u = Value.int i t from rx); cases q; exact PySem.W.kia_one PySem.W.kitx_int I.kIn True.intro e (fun z => nomatch z) h
 | str y => obtain ⟨t, q⟩ := (show ∃ t, u = Value.str y t from rx); cases q; exact PySem.W.kia_one PySem.W.kitx_str I.kIn True.intro e (fun z => nomatch z) h
 | flt y => obtain ⟨t, q⟩ := (show ∃ t, u = Value.float y t from rx); cases q; exact PySem.W.kia_one PySem.W.kitx_float I.kIn True.intro e (fun z => nomatch z) h
 | @lst a xs ea =>
  cases (show u = Value.ref a from rx)
  obtain ⟨_, _, n, _, h1⟩ := (show ObjOk X.prog X.w H s.heap a (.lst xs) from I.hok a _ ea)
  exact PySem.W.kia_one PySem.W.kitx_list I.kIn ⟨_, h1, rfl⟩ e (fun z => nomatch z) h
 | @frz a ob xs ea =>
  cases (show u = Value.ref a from rx)
  obtain ⟨_, _, _, n, _, h1⟩ := (show ObjOk X.prog X.w H s.heap a (.frz ob (.lst xs)) from I.hok a _ ea)
  exact PySem.W.kia_one PySem.W.kitx_list I.kIn ⟨_, h1, rfl⟩ e (fun z => nomatch z) h
 | @tup a xs ea =>
  cases (show u = Value.ref a from rx)
  obtain ⟨_, _, _, p⟩ := (show ObjOk X.prog X.w H s.heap a (.tup xs) from I.hok a _ ea)
  obtain ⟨o, h1, h2, _⟩ := p
  exact PySem.W.kia_one PySem.W.kitx_tuple I.kIn ⟨o, h1, h2⟩ e (fun z => nomatch z) h
 | @dK a kvs ea =>
  cases (show u = Value.ref a from rx)
  obtain ⟨_, _, vs, _, p⟩ := (show ObjOk X.prog X.w H s.heap a (.dK kvs) from I.hok a _ ea)
  obtain ⟨o, es, ep, h1, h2, _⟩ := p
  exact PySem.W.kia_one PySem.W.kitx_dict I.kIn ⟨o, h1, h2.1⟩ e (fun z => nomatch z) h
 | @dT a kvs ea =>
  cases (show u = Value.ref a from rx)
  obtain ⟨_, _, xs, _, o, es, ep, h1, h2, _⟩ := (show ObjOk X.prog X.w H s.heap a (.dT kvs) from I.hok a _ ea)
  exact PySem.W.kia_one PySem.W.kitx_dict I.kIn ⟨o, h1, h2.1⟩ e (fun z => nomatch z) h
 | @ins a C dx fs ea cl ha hn htk hm =>
  cases (show u = Value.ref a from rx)
  obtain ⟨mA, O, _⟩ := ins_get I.hok ea
  obtain ⟨od, J, _⟩ := O.look
  exact PySem.W.kia_one (PySem.W.kitx_own (cl.get _) cl.hd ha hn htk hm) I.kIn J e (fun z => nomatch z) h
end
end L2
namespace L2
open PySem PySem.Spec PyProof.Rows
structure Room (k : Nat) (A : Around) : Prop where
 hd : A.handled = none
 dp : A.depth + 3 * k + 5 < recursionLimit
 un : A.units + 16 * k + 200 < cLine
theorem Room.mono {j k : Nat} {A : Around} (r : Room k A) (h : j ≤ k) : Room j A := ⟨r.hd, by have := r.dp; omega, by have := r.un; omega⟩
theorem Room.deeper {k : Nat} {A : Around} (r : Room (k + 1) A) (env : Env) : Room k (A.deeper env) :=
 ⟨r.hd, by have := r.dp; show A.depth + 1 + 3 * k + 5 < _; omega, by have := r.un; show A.units + 3 + 16 * k + 200 < _; omega⟩
theorem make_depth {A : Around} {C : Addr} {us : List Value} {kw : List (Str × Value)} : (A.under (.builtin "type.__call__" ⟨.ref C :: us, kw⟩)).depth = A.depth + 1 := by
 first | rfl | simp [Around.under, Code.weight, Code.isCreation, Code.isGuard, Code.isCaller, Code.frames, Code.isFrame, guardIds]
theorem make_units {A : Around} {C : Addr} {us : List Value} {kw : List (Str × Value)} : (A.under (.builtin "type.__call__" ⟨.ref C :: us, kw⟩)).units = A.units + 1 := by
 first | rfl | simp [Around.under, Code.cUnits, Code.frames, Code.isFrame]
theorem Room.make {k : Nat} {A : Around} (r : Room (k + 1) A) (C : Addr) (us : List Value) (kw : List (Str × Value)) : Room k (A.under (.builtin "type.__call__" ⟨.ref C :: us, kw⟩)) :=
 ⟨r.hd, by have := r.dp; rw [make_depth]; omega, by have := r.un; rw [make_units]; omega⟩
theorem Room.depth {k : Nat} {A : Around} (r : Room k A) : A.depth < recursionLimit := by have := r.dp; omega
theorem Room.units {k : Nat} {A : Around} (r : Room k A) : A.units + 64 < cLine := by have := r.un; omega
def tNil : TA := fun _ H Q => Q [] H
def tCons (ta : TE) (tr : TA) : TA := fun σ H Q => ta σ H fun x H1 => tr σ H1 fun xs H2 => Q (x :: xs) H2
section
variable {X : Cx} {e : Expr} {es : List Expr} {te : TE} {t : TA} {pos : Pos}
theorem pa_nil : PA X [] tNil := fun _ _ _ _ H Q I h => Calls.spliced_nil ⟨[], H, I, .nil, h⟩
theorem pa_cons (ha : PE X e te) (hr : PA X es t) (hs : starEach (e :: es) X.env = (false, eval e X.env) :: starEach es X.env := by rfl) : PA X (e :: es) (tCons te t) := by
 intro pos pins s σ H Q I h
 rw [hs]
 show wpAny _ _ (spliced ((false, eval e X.env) :: backTo pos (starEach es X.env))) _ _ s
 refine Calls.spliced_cons (thn (ha pins s σ H _ I h) fun u s1 ⟨x, H1, I1, r1, q1⟩ => ?_)
 exact thn (hr pos pins s1 σ H1 _ I1 q1) fun us s2 ⟨xs, H2, I2, r2, q2⟩ => ⟨x :: xs, H2, I2, .cons r1 r2, q2⟩
def tTup (t : TA) : TE := fun σ H Q => t σ H fun xs H1 => xs.length ≤ sizeLine ∧ ∀ p, H1 p = none → Q (.ref p) (upd H1 p (.tup xs))
def tLst (t : TA) : TE := fun σ H Q => t σ H fun xs H1 => xs.length ≤ sizeLine ∧ ∀ p, H1 p = none → Q (.ref p) (upd H1 p (.lst xs))
theorem pe_tup {x1} (h : PA X es t) : PE X (.Tuple es x1 pos) (tTup t) := by
 intro pins s σ H Q I hq
 refine wpAny_Tuple_spliced (thn (h pos pins s σ H _ I hq) fun us s1 ⟨xs, H1, I1, r, z, q⟩ => ⟨by rw [← r.length]; exact z, ?_⟩)
 have hf : H1 s1.heap.objs.size = none := I1.hok.fresh (Nat.le_refl _)
 refine ⟨.ref s1.heap.objs.size, upd H1 s1.heap.objs.size (.tup xs), I1.laid (t' := s1.toks) (fun b u e => Heap.get?_push_of_some _ e) (Nat.le_refl _) ?_, rfl, q _ hf⟩
 exact ⟨z, us, r, ⟨_, Heap.get?_push_size _ rfl, rfl, _, rfl⟩⟩
theorem pe_lst (h : PA X es t) : PE X (.List es pos) (tLst t) := by
 intro pins s σ H Q I hq
 refine wpAny_List_spliced (thn (h pos pins s σ H _ I hq) fun us s1 ⟨xs, H1, I1, r, z, q⟩ => ⟨by rw [← r.length]; exact z, ?_⟩)
 have hf : H1 s1.heap.objs.size = none := I1.hok.fresh (Nat.le_refl _)
 refine ⟨.ref s1.heap.objs.size, upd H1 s1.heap.objs.size (.lst xs), I1.laid (t' := s1.toks) (fun b u e => Heap.get?_push_of_some _ e) (Nat.le_refl _) ?_, rfl, q _ hf⟩
 exact ⟨z, us, 0, r, Heap.get?_push_size _ rfl⟩
end
abbrev Sp := List V → Hp → VK → XK → Prop
abbrev CXT := List Env → Hp → Shared → XK → Value → Shared → Prop
structure Env0 (P : Program) (w : World) (K : PySem.W.Frag) (mg : Str → Option Value) (base : Heap) (A : Around) (outer : List Env) (s : Shared) (H : Hp) : Prop where
 frames : A.frames = some outer
 mod : Mod K mg base
 bs : ∀ b o, base.get? b = some o → s.heap.get? b = some o ∧ H b = none
 bsz : base.objs.size ≤ s.heap.objs.size
 funs : s.heap.FunFrames base outer
 frf : ∀ b ∈ frs outer, H b = none
 hok : HOk P w H s.heap
 bare : AllBare s.gens
def CE (outer : List Env) (P : Program) (w : World) (H : Hp) (s : Shared) (Q : VK) (u : Value) (s' : Shared) : Prop :=
 ∃ v H', s'.os = s.os ∧ AllBare s'.gens ∧ Un (frs outer) [] H H' s.heap s'.heap ∧ HOk P w H' s'.heap ∧ RelV v u ∧ Q v H'
def CR (CX : CXT) (outer : List Env) (P : Program) (w : World) (H : Hp) (s : Shared) (Q : VK) (E : XK) (r : Result) (s' : Shared) : Prop :=
 match r with
 | .ok (.ret u) => CE outer P w H s Q u s'
 | .ok _ => False
 | .error e => CX outer H s E e s'
structure FnOk (P : Program) (w : World) (K : PySem.W.Frag) (mg : Str → Option Value) (base : Heap) (CX : CXT) (k : Nat) (f : Addr) (fd : FuncData) (ps : List Str) (sp : Sp) : Prop where
 len : ∀ vs H Q E, sp vs H Q E → vs.length = ps.length
 run : ∀ (A : Around) (outer : List Env) (s : Shared) (H : Hp) (args : Args) (us : List Value) (vs : List V) (Q : VK) (E : XK), Room k A → Env0 P w K mg base A outer s H → BindsTo s fd args (ps.zip us) → Vals vs us → sp vs H Q E →
  codeAny (model P w) A (.call (.ref f) args) (CR CX outer P w H s Q E) s
theorem FnOk.imp {P : Program} {w : World} {K : PySem.W.Frag} {mg : Str → Option Value} {base : Heap} {CX : CXT} {k : Nat} {f : Addr} {fd : FuncData} {ps : List Str} {sp sp' : Sp} (F : FnOk P w K mg base CX k f fd ps sp)
  (h : ∀ vs H Q E, sp' vs H Q E → sp vs H Q E) : FnOk P w K mg base CX k f fd ps sp' :=
 ⟨fun vs H Q E q => F.len vs H Q E (h _ _ _ _ q), fun A outer s H args us vs Q E hr he hb hv hs => F.run A outer s H args us vs Q E hr he hb hv (h _ _ _ _ hs)⟩
theorem Env0.make {P : Program} {w : World} {K : PySem.W.Frag} {mg : Str → Option Value} {base : Heap} {A : Around} {outer : List Env} {s : Shared} {H : Hp} (e : Env0 P w K mg base A outer s H) (C : Addr) (us : List Value) (kw : List (Str × Value)) :
  Env0 P w K mg base (A.under (.builtin "type.__call__" ⟨.ref C :: us, kw⟩)) outer s H := ⟨by first | exact e.frames | (simpa [Around.under, Code.envs, Code.isFrame, pushEnvs] using e.frames), e.mod, e.bs, e.bsz, e.funs, e.frf, e.hok, e.bare⟩
section
variable {X : Cx} {pins : List (Addr × Obj)} {σ : St} {H : Hp} {s s' : Shared}
theorem Inv.env0 (I : Inv X pins σ H s) : Env0 X.prog X.w X.K X.mg X.base X.A X.stack s H :=
 ⟨I.ok.frames, I.ok.mod, I.bs, Nat.le_trans I.ok.bsz I.sz, I.stack, I.stkFree, I.hok, I.bare⟩
theorem Inv.after {Q : VK} {u : Value} (I : Inv X pins σ H s) (h : CE X.stack X.prog X.w H s Q u s') : EP X pins σ Q u s' := by
 obtain ⟨v, H', os, bare, un, hok, r, q⟩ := h
 obtain ⟨hh, g, d, t, os'⟩ := s'
 obtain rfl : os' = s.os := os
 exact ⟨v, H', I.call (h' := hh) (g' := g) (d' := d) (t' := t) (ch := []) un hok bare (fun b z => absurd z (by simp)), r, q⟩
end
def tCall (sp : Sp) (dvs : List V) (E : XK) (t : TA) : TE := fun σ H Q => t σ H fun vs H1 => sp (vs ++ dvs) H1 Q E
def tMeth (C : Addr) (m : Str) (sp : Sp) (dvs : List V) (E : XK) (ta : TE) (t : TA) : TE := fun σ H Q => ta σ H fun x H1 => ∃ a dx fs, x = .ref a ∧ H1 a = some (.ins C dx fs) ∧ fs.lookup m = none ∧
 t σ H1 fun vs H2 => sp (x :: (vs ++ dvs)) H2 Q E
def tMake (C : Addr) (sp : Sp) (dvs : List V) (E : XK) (t : TA) : TE := fun σ H Q => t σ H fun vs H1 => ∀ x dx, H1 x = none → H1 dx = none → dx ≠ x →
 sp (.ref x :: (vs ++ dvs)) (upd (upd H1 dx (.own x)) x (.ins C dx [])) (fun v H2 => v = .non ∧ Q (.ref x) H2) E
def Binds (K : PySem.W.Frag) (fd : FuncData) (ps : List Str) (ds : List Value) : Prop :=
 ∀ (s : Shared) (us : List Value), K.In s.heap → (us ++ ds).length = ps.length → BindsTo s fd ⟨us, []⟩ (ps.zip (us ++ ds))
theorem Binds.all {K : PySem.W.Frag} {fd : FuncData} {ps : List Str} (h : ∀ us : List Value, us.length = ps.length → bindArgs fd ⟨us, []⟩ = pure (ps.zip us)) : Binds K fd ps [] := fun s us _ hl => by
 rw [List.append_nil] at hl ⊢
 exact .of_eq (h us hl)
def Passes (CX : CXT) (X : Cx) (E : XK) : Prop := ∀ (pins : List (Addr × Obj)) (σ : St) (H : Hp) (s : Shared) (e : Value) (s' : Shared), Inv X pins σ H s → CX X.stack H s E e s' → X.xe e s'
section
variable {X : Cx} {CX : CXT} {k : Nat} {f C : Addr} {fd : FuncData} {ps : List Str} {sp : Sp} {dvs : List V} {ds : List Value} {E : XK} {x m : Str} {p pos apos : Pos} {e o : Expr} {es : List Expr} {ta : TE} {t : TA}
theorem run_fn {pins : List (Addr × Obj)} {σ : St} {H : Hp} {s : Shared} {Q : VK} {us : List Value} {vs : List V} (F : FnOk X.prog X.w X.K X.mg X.base CX k f fd ps sp) (hr : Room k X.A) (hb : Binds X.K fd ps ds) (hd : Vals dvs ds) (hx : Passes CX X E)
  (I : Inv X pins σ H s) (r : Vals vs us) (h : sp (vs ++ dvs) H Q E) : wpAny (model X.prog X.w) X.A (call (.ref f) us) (EP X pins σ Q) X.xe s := by
 have r2 : Vals (vs ++ dvs) (us ++ ds) := r.append hd
 have hl : (us ++ ds).length = ps.length := by rw [← r2.length]; exact F.len _ _ _ _ h
 refine wpAny_call (codeAny_mono (F.run X.A X.stack s H ⟨us, []⟩ (us ++ ds) (vs ++ dvs) Q E hr I.env0 (hb s us I.kIn hl) r2 h) fun r s' hq => ?_)
 cases r with
 | error e => exact hx pins σ H s e s' I hq
 | ok fl =>
  cases fl with
  | ret u => exact I.after hq
  | next => exact False.elim hq
  | brk => exact False.elim hq
  | cont => exact False.elim hq
theorem pe_call (F : FnOk X.prog X.w X.K X.mg X.base CX k f fd ps sp) (hr : Room k X.A) (hg : Gl X x) (hm : X.mg x = some (.ref f)) (hk : PySem.W.keepIn X.K (.ref f) = true) (hb : Binds X.K fd ps ds) (hd : Vals dvs ds) (hx : Passes CX X E)
  (ha : PA X (e :: es) t) (hdb : (x == ("__debug__" : Str)) = false := by decide) (he : starEach (e :: es) X.env = (false, eval e X.env) :: starEach es X.env := by rfl) (hpl : (backTo pos (starEach es X.env)).any (·.1) = false := by rfl) :
  PE X (.Call (.Name x p) (e :: es) [] pos) (tCall sp dvs E t) := by
 intro pins s σ H Q I h
 refine wpAny_Call_Name_kw (ld_glob I hg hm ?_ hdb)
 refine PySem.W.callWith_K (h₀ := X.base) I.ok.mod.kin hk (thn (ha pos pins s σ H _ I h) fun us s1 ⟨vs, H1, I1, r, q⟩ => ⟨I1.kIn, ?_⟩) he hpl
 exact run_fn F hr hb hd hx I1 r q
theorem pe_call0 (F : FnOk X.prog X.w X.K X.mg X.base CX k f fd ps sp) (hr : Room k X.A) (hg : Gl X x) (hm : X.mg x = some (.ref f)) (hk : PySem.W.keepIn X.K (.ref f) = true) (hb : Binds X.K fd ps ds) (hd : Vals dvs ds) (hx : Passes CX X E)
  (hdb : (x == ("__debug__" : Str)) = false := by decide) : PE X (.Call (.Name x p) [] [] pos) (tCall sp dvs E tNil) := by
 intro pins s σ H Q I h
 refine wpAny_Call_Name_kw (ld_glob I hg hm ?_ hdb)
 exact PySem.W.callWith_K0 I.kIn hk (run_fn (us := []) F hr hb hd hx I .nil h)
theorem pe_meth0 {pl : Sem Bool} (he : PE X o ta) (c : Cls X.K C) (hm : Meth X.K C m f) (F : FnOk X.prog X.w X.K X.mg X.base CX k f fd ps sp) (hr : Room k X.A) (hb : Binds X.K fd ps ds) (hd : Vals dvs ds) (hx : Passes CX X E)
  (ht : eval (.Call (.Attribute o m apos) [] [] pos) X.env = (do
   let ov ← eval o X.env
   standAt apos.atName
   let (f, first) ← holding [ov] (getMethod ov m pl)
   callWith pos f first (backTo pos (starEach [] X.env)) (backToKw pos (keywordEach [] X.env))) := by rfl) :
  PE X (.Call (.Attribute o m apos) [] [] pos) (tMeth C m sp dvs E ta tNil) := by
 intro pins s σ H Q I h
 refine PySem.W.methodCall_KW (pl := pl) (thn (he pins s σ H _ I h) fun u s1 ⟨x, H1, I1, rx, a, dx, fs, ex, ea, l, q⟩ => ?_) ht
 subst ex
 obtain rfl : u = Value.ref a := rx
 refine getmeth_ok I1 ea c hm l ?_
 exact PySem.W.callWith_K0 (first := [.ref a]) I1.kIn hm.kp (run_fn (us := [.ref a]) (vs := [.ref a]) F hr hb hd hx I1 (.cons rfl .nil) q)
structure Mk (K : PySem.W.Frag) (C f : Addr) : Prop where
 makes : PySem.W.makesIn K C = true
 init : PySem.W.findIn K (.ref C) "__init__" = some (some (.ref f))
 fn : PySem.W.isFn K (.ref f) = true
 kp : PySem.W.keepIn K (.ref C) = true
theorem run_make {pins : List (Addr × Obj)} {σ : St} {H : Hp} {s : Shared} {Q : VK} {us : List Value} {vs : List V} (M : Mk X.K C f) (F : FnOk X.prog X.w X.K X.mg X.base CX k f fd ps sp) (hr : Room (k + 1) X.A) (hb : Binds X.K fd ps ds) (hd : Vals dvs ds)
  (hx : Passes CX X E) (I : Inv X pins σ H s) (r : Vals vs us)
  (h : ∀ x dx, H x = none → H dx = none → dx ≠ x → sp (.ref x :: (vs ++ dvs)) (upd (upd H dx (.own x)) x (.ins C dx [])) (fun v H2 => v = .non ∧ Q (.ref x) H2) E) :
  wpAny (model X.prog X.w) X.A (call (.ref C) us) (EP X pins σ Q) X.xe s := by
 have hq := h (s.heap.objs.size + 1) s.heap.objs.size (I.hok.fresh (Nat.le_succ _)) (I.hok.fresh (Nat.le_refl _)) (Nat.ne_of_lt (Nat.lt_succ_self _))
 have I2 := Inv.made (C := C) I
 have r2 : Vals (V.ref (s.heap.objs.size + 1) :: (vs ++ dvs)) (Value.ref (s.heap.objs.size + 1) :: (us ++ ds)) := .cons rfl (r.append hd)
 have hl : (Value.ref (s.heap.objs.size + 1) :: us ++ ds).length = ps.length := by
  have e := r2.length
  rw [F.len _ _ _ _ hq] at e
  exact e.symm
 refine wpAny_call (make_map (f := f) I.kIn M.makes M.init (beq_iff_eq.mp M.fn) (codeAny_mono (F.run _ X.stack _ _ ⟨Value.ref (s.heap.objs.size + 1) :: us, []⟩ (Value.ref (s.heap.objs.size + 1) :: (us ++ ds)) _ _ E (hr.make C us [])
  (I2.env0.make C us []) (hb _ (Value.ref (s.heap.objs.size + 1) :: us) I2.kIn hl) r2 hq) fun r s' hq' => ?_))
 cases r with
 | error e => exact hx pins σ _ _ e s' I2 hq'
 | ok fl =>
  cases fl with
  | ret u =>
   obtain ⟨v, H', I3, rv, ev, q3⟩ := I2.after hq'
   subst ev
   exact ⟨rv, ⟨V.ref (s.heap.objs.size + 1), H', I3, rfl, q3⟩⟩
  | next => exact False.elim hq'
  | brk => exact False.elim hq'
  | cont => exact False.elim hq'
theorem pe_make (M : Mk X.K C f) (F : FnOk X.prog X.w X.K X.mg X.base CX k f fd ps sp) (hr : Room (k + 1) X.A) (hg : Gl X x) (hm : X.mg x = some (.ref C)) (hb : Binds X.K fd ps ds) (hd : Vals dvs ds) (hx : Passes CX X E)
  (ha : PA X (e :: es) t) (hdb : (x == ("__debug__" : Str)) = false := by decide) (he : starEach (e :: es) X.env = (false, eval e X.env) :: starEach es X.env := by rfl) (hpl : (backTo pos (starEach es X.env)).any (·.1) = false := by rfl) :
  PE X (.Call (.Name x p) (e :: es) [] pos) (tMake C sp dvs E t) := by
 intro pins s σ H Q I h
 refine wpAny_Call_Name_kw (ld_glob I hg hm ?_ hdb)
 refine PySem.W.callWith_K (h₀ := X.base) I.ok.mod.kin M.kp (thn (ha pos pins s σ H _ I h) fun us s1 ⟨vs, H1, I1, r, q⟩ => ⟨I1.kIn, ?_⟩) he hpl
 exact run_make M F hr hb hd hx I1 r q
end
section
variable {X : Cx} {CX : CXT} {k : Nat} {f C : Addr} {fd : FuncData} {ps ks : List Str} {sp : Sp} {E : XK} {x m : Str} {p pos apos kpos : Pos} {e o : Expr} {es : List Expr} {kws : List Keyword} {te ta : TE} {t tk : TA} {nm : Option Str}
variable {g : List Value → List Value → List Value} {gV : List V → List V → List V}
end
structure FnScope (N P : List Str) (sc : Scope) : Prop where
 kind : sc.kind = .function
 co : sc.isCoroutine = false
 gen : sc.isGenerator = false
 nd : N.Nodup
 pre : N.take P.length = P
 par : ∀ x ∈ P, sc.names.lookup x = some .local ∨ sc.names.lookup x = some .cell
 nofree : ∀ y ∈ sc.names, y.2 ≠ .free
theorem bindL_out {kindOf : Str → Option NameKind} {x : Str} : ∀ {binds : List (Str × Value)} {m : Str → Option Value}, (∀ v, (x, v) ∉ binds) → bindL kindOf binds m x = m x
 | [], _, _ => rfl
 | (n, v) :: r, m, h => by
  unfold bindL
  rw [bindL_out fun w hw => h w (List.mem_cons_of_mem _ hw)]
  split
  ·have : x ≠ n := by rintro rfl; exact h v List.mem_cons_self
   simp [this]
  ·rfl
theorem bindC_out {kindOf : Str → Option NameKind} {x : Str} : ∀ {binds : List (Str × Value)} {m : Str → Option Value}, (∀ v, (x, v) ∉ binds) → bindC kindOf binds m x = m x
 | [], _, _ => rfl
 | (n, v) :: r, m, h => by
  unfold bindC
  rw [bindC_out fun w hw => h w (List.mem_cons_of_mem _ hw)]
  split
  ·rfl
  ·have : x ≠ n := by rintro rfl; exact h v List.mem_cons_self
   simp [this]
theorem bindL_get {kindOf : Str → Option NameKind} {x : Str} {v : Value} : ∀ {P : List Str} {vs : List Value} {i : Nat} {m : Str → Option Value}, P.Nodup → P[i]? = some x → vs[i]? = some v → kindOf x = some .local →
  bindL kindOf (P.zip vs) m x = some v
 | [], _, _, _, _, h, _, _ => by simp at h
 | _ :: _, [], _, _, _, _, h, _ => by simp at h
 | p :: P, w :: vs, 0, m, nd, h1, h2, hk => by
  simp at h1 h2; subst h1; subst h2
  show bindL kindOf ((p, w) :: P.zip vs) m p = _
  unfold bindL
  rw [bindL_out fun v hv => (List.nodup_cons.mp nd).1 (List.of_mem_zip hv).1, if_pos hk]
  simp
 | p :: P, w :: vs, i + 1, m, nd, h1, h2, hk => by
  show bindL kindOf ((p, w) :: P.zip vs) m x = _
  unfold bindL
  exact bindL_get (i := i) (List.nodup_cons.mp nd).2 (by simpa using h1) (by simpa using h2) hk
theorem bindC_get {kindOf : Str → Option NameKind} {x : Str} {v : Value} : ∀ {P : List Str} {vs : List Value} {i : Nat} {m : Str → Option Value}, P.Nodup → P[i]? = some x → vs[i]? = some v → kindOf x ≠ some .local →
  bindC kindOf (P.zip vs) m x = some v
 | [], _, _, _, _, h, _, _ => by simp at h
 | _ :: _, [], _, _, _, _, h, _ => by simp at h
 | p :: P, w :: vs, 0, m, nd, h1, h2, hk => by
  simp at h1 h2; subst h1; subst h2
  show bindC kindOf ((p, w) :: P.zip vs) m p = _
  unfold bindC
  rw [bindC_out fun v hv => (List.nodup_cons.mp nd).1 (List.of_mem_zip hv).1, if_neg hk]
  simp
 | p :: P, w :: vs, i + 1, m, nd, h1, h2, hk => by
  show bindC kindOf ((p, w) :: P.zip vs) m x = _
  unfold bindC
  exact bindC_get (i := i) (List.nodup_cons.mp nd).2 (by simpa using h1) (by simpa using h2) hk
def start (N : List Str) (vs : List V) : St := vs.map some ++ List.replicate (N.length - vs.length) none
def cxOf (CX : CXT) (P : Program) (w : World) (K : PySem.W.Frag) (mg : Str → Option Value) (base : Heap) (N : List Str) (qual : Str) (scope : Scope) (f : Addr) (cd : Value) (A : Around) (outer : List Env) (s : Shared) (H : Hp) (E : XK) : Cx where
 prog := P
 w := w
 K := K
 mg := mg
 base := base
 A := A.deeper (envOfC qual scope s.heap.objs.size f cd)
 N := N
 s₀ := s
 H₀ := H
 env := envOfC qual scope s.heap.objs.size f cd
 outer := outer
 stack := envOfC qual scope s.heap.objs.size f cd :: outer
 ex := []
 calm := true
 fn := fun _ => true
 pn := []
 xe := fun e s' => wpAny (model P w) (A.deeper (envOfC qual scope s.heap.objs.size f cd)) (leaving (envOfC qual scope s.heap.objs.size f cd) e) (fun _ s'' => CX outer H s E e s'') (fun e' s'' => CX outer H s E e' s'') s'
theorem cell_has {sc : Scope} {n : Nat} {x : Str} (h : sc.names.lookup x = some .cell) : ∃ c, (cellsFrom n sc.names []).lookup x = some c := by
 have q := PySem.W.cellsFrom_some sc.names n [] (.inl h)
 exact Option.isSome_iff_exists.mp q
theorem inv_start {CX : CXT} {P : Program} {w : World} {K : PySem.W.Frag} {mg : Str → Option Value} {base : Heap} {N ps : List Str} {qual : Str} {scope : Scope} {f : Addr} {cd : Value} {A : Around} {outer : List Env} {s s1 : Shared} {H : Hp} {E : XK} {us : List Value} {vs : List V}
  (S : FnScope N ps scope) (hd : A.handled = none) (e0 : Env0 P w K mg base A outer s H) (hl : vs.length = ps.length) (r : Vals vs us)
  (x : InCallC s s.heap.objs.size (bindL (envOfC qual scope s.heap.objs.size f cd).kindOf (ps.zip us) fun _ => none) (cellsFrom (s.heap.objs.size + 1) scope.names []) (bindC (envOfC qual scope s.heap.objs.size f cd).kindOf (ps.zip us) fun _ => none) s1) :
  Inv (cxOf CX P w K mg base N qual scope f cd A outer s H E) [] (start N vs) H s1 := by
 have hpl : ps.length ≤ N.length := by have := congrArg List.length S.pre; rw [List.length_take] at this; omega
 obtain ⟨h1, tk, rfl, hk⟩ := x.done
 have noA : ∀ b : Addr, b ∉ (cxOf CX P w K mg base N qual scope f cd A outer s H E).ex := fun b z => absurd (show b ∈ ([] : List Addr) from z) (by simp)
 refine ⟨⟨e0.mod, S.kind, rfl, rfl, Nat.le_refl _, fun y z c h1 h2 => ?_, fun y hy => ?_, fun y c _ h => ?_, fun _ => hd, Around.frames_deeper e0.frames, .inr ⟨rfl, rfl⟩, fun b z => absurd z (noA b), e0.bs, e0.bsz, fun b _ _ => noA b, fun b z => absurd z (noA b), e0.funs, e0.frf⟩,
  rfl, e0.bare, Un.kept hk, ⟨_, x.toInCall.ns, fun i y v h1 h2 h3 => ?_⟩, fun y c h => ⟨_, x.cell y c h⟩, e0.hok.fresh (Nat.le_refl _), fun y c h => ?_, fun p hp => absurd (show p ∈ ([] : List (Addr × Obj)) from hp) (by simp), e0.hok.kept hk, ?_⟩
 ·exact name_of_addr x.apart (PySem.mem_of_lookup h1) (PySem.mem_of_lookup h2)
 ·have hy : scope.names.lookup y = some .cell ∨ scope.names.lookup y = some .free := hy
  rcases hy with hy | hy
  ·exact cell_has hy
  ·exact absurd rfl (S.nofree _ (PySem.mem_of_lookup hy))
 ·exact Nat.le_of_lt (x.above y c (PySem.mem_of_lookup h))
 ·have hi : i < vs.length := by
   unfold start at h2
   by_cases hi : i < vs.length
   ·exact hi
   ·rw [List.getElem?_append_right (by simpa using hi)] at h2
    rw [List.getElem?_replicate] at h2
    split at h2 <;> cases h2
  have ha : vs[i]? = some v := by
   unfold start at h2
   rw [List.getElem?_append_left (by simpa using hi), List.getElem?_map] at h2
   cases e : vs[i]? with
   | none => rw [e] at h2; cases h2
   | some a => rw [e] at h2; cases h2; rfl
  obtain ⟨u, hu, rv⟩ := r.get ha
  have hp : ps[i]? = some y := by
   rw [← S.pre, List.getElem?_take_of_lt (by omega)]; exact h1
  have ndP : ps.Nodup := by rw [← S.pre]; exact S.nd.sublist (List.take_sublist _ _)
  refine ⟨u, rv, ?_⟩
  rcases S.par y (List.mem_of_getElem? hp) with k | k
  ·exact .inl ⟨k, bindL_get ndP hp hu k⟩
  ·obtain ⟨c, e⟩ := cell_has (n := s.heap.objs.size + 1) k
   refine .inr ⟨.inl k, c, e, ?_⟩
   have q := x.cell y c e
   rw [bindC_get ndP hp hu (by show scope.names.lookup y ≠ _; rw [k]; decide)] at q
   exact q
 ·exact e0.hok.fresh (Nat.le_of_lt (x.above y c (PySem.mem_of_lookup h)))
 ·unfold start
  show _ = N.length
  rw [List.length_append, List.length_map, List.length_replicate]
  omega
theorem fn_of {CX : CXT} {P : Program} {w : World} {K : PySem.W.Frag} {mg : Str → Option Value} {base : Heap} {k : Nat} {f : Addr} {name qual : Str} {params : Arguments} {body : List Stmt} {scope : Scope} {dV kV doc pm cdv ct oc : Value} {an od : Option Addr}
  {osl : Array (Option Value)} {N ps : List Str} {sp : Sp} (lk : K.lookup f = some ⟨oc, od, .func (PySem.W.fnOf name qual params body scope dV kV doc pm an cdv ct), osl⟩) (hcd : PySem.W.codeIn K cdv qual = true) (S : FnScope N ps scope)
  (len : ∀ vs H Q E, sp vs H Q E → vs.length = ps.length)
  (hbody : ∀ (A : Around) (outer : List Env) (s : Shared) (H : Hp) (vs : List V) (Q : VK) (E : XK), Room k (A.deeper (envOfC qual scope s.heap.objs.size f cdv)) → sp vs H Q E →
   ∃ t, PSs (cxOf CX P w K mg base N qual scope f cdv A outer s H E) body t ∧ t { nx := fun _ H' => Q .non H', rt := Q } (start N vs) H) :
  FnOk P w K mg base CX (k + 1) f (PySem.W.fnOf name qual params body scope dV kV doc pm an cdv ct) ps sp := by
 refine ⟨len, fun A outer s H args us vs Q E hr e0 hb r hsp => ?_⟩
 have hl := len _ _ _ _ hsp
 have KX : K.In s.heap := e0.mod.kin.keeps fun b o e => (e0.bs b o e).1
 have lim : s.heap.NoLimit := e0.mod.nolimit.keeps fun b o e => (e0.bs b o e).1
 have hkind : ∀ y ∈ ps.zip us, scope.names.lookup y.1 = some .local ∨ (scope.names.lookup y.1 = some .cell ∧ ((cellsFrom (s.heap.objs.size + 1) scope.names []).lookup y.1).isSome = true) := fun ⟨n, v⟩ hy => by
  rcases S.par n (List.of_mem_zip hy).1 with q | q
  ·exact .inl q
  ·exact .inr ⟨q, PySem.W.cellsFrom_some _ _ _ (.inl q)⟩
 refine codeAny_call_function hr.depth (KX _ _ lk) rfl S.co S.gen rfl (PySem.W.codeRec_of KX hcd) (hb _ _ _ _ ?_)
 refine wpAny_newFunctionEnv_cells S.kind hkind fun env he s1 x => ?_
 subst he
 refine ⟨lim.keeps x.toInCall.keep, codeAny_func ?_⟩
 obtain ⟨t, ht, hq⟩ := hbody A outer s H vs Q E (hr.deeper _) hsp
 have I : Inv (cxOf CX P w K mg base N qual scope f cdv A outer s H E) [] (start N vs) H s1 := inv_start S hr.hd e0 hl r x
 refine wpAny_mono (ht [] s1 (start N vs) H _ I hq) (fun fl s' hs => ?_) fun e s' hs => hs
 have fin : ∀ {σ' : St} {H' : Hp} {v : V} {u : Value}, Inv (cxOf CX P w K mg base N qual scope f cdv A outer s H E) [] σ' H' s' → RelV v u → Q v H' → CE outer P w H s Q u s' :=
  fun {σ' H' v u} J rv q => ⟨v, H', J.os, J.bare, J.base, J.hok, rv, q⟩
 cases fl with
 | ret u =>
  obtain ⟨v, σ', H', J, rv, q⟩ := hs
  exact fin J rv q
 | next =>
  obtain ⟨σ', H', J, q⟩ := hs
  exact fin (v := V.non) (u := Value.none) J rfl q
 | brk =>
  obtain ⟨_, _, _, q⟩ := hs
  exact False.elim q
 | cont =>
  obtain ⟨_, _, _, q⟩ := hs
  exact False.elim q
end L2
namespace L2
open PySem PySem.Spec PyProof.Rows
section
variable {X : Cx} {x : Str} {p pos : Pos} {e : Expr} {es : List Expr} {t : TA} {id T : String} {r : List V → Hp → VK → Prop}
def tCB (r : List V → Hp → VK → Prop) (t : TA) : TE := fun σ H Q => t σ H fun vs H1 => r vs H1 Q
theorem pe_callB (hc : CallR X (.builtin id) r) (hg : Gl X x) (hm : X.mg x = none) (hv : bootBuiltins x = some (.builtin id)) (ha : PA X (e :: es) t) (hn : x ≠ "__name__" := by decide) (hdb : (x == ("__debug__" : Str)) = false := by decide)
  (he : starEach (e :: es) X.env = (false, eval e X.env) :: starEach es X.env := by rfl) (hpl : (backTo pos (starEach es X.env)).any (·.1) = false := by rfl) : PE X (.Call (.Name x p) (e :: es) [] pos) (tCB r t) := by
 intro pins s σ H Q I h
 refine wpAny_Call_Name_kw (ld_blt I hg hm hv ?_ hn hdb)
 exact PyProof.Rows.callWith_builtin1 (thn (ha pos pins s σ H _ I h) fun us s1 ⟨vs, H1, I1, r1, q1⟩ => hc pins s1 σ H1 vs us Q I1 r1 q1) he hpl
theorem pe_callTy (hc : CallR X (.type T) r) (hg : Gl X x) (hm : X.mg x = none) (hv : bootBuiltins x = some (.type T)) (ha : PA X (e :: es) t) (hn : x ≠ "__name__" := by decide) (hdb : (x == ("__debug__" : Str)) = false := by decide)
  (he : starEach (e :: es) X.env = (false, eval e X.env) :: starEach es X.env := by rfl) (hpl : (backTo pos (starEach es X.env)).any (·.1) = false := by rfl) : PE X (.Call (.Name x p) (e :: es) [] pos) (tCB r t) := by
 intro pins s σ H Q I h
 refine wpAny_Call_Name_kw (ld_blt I hg hm hv ?_ hn hdb)
 exact PyProof.Rows.callWith_type1 (thn (ha pos pins s σ H _ I h) fun us s1 ⟨vs, H1, I1, r1, q1⟩ => hc pins s1 σ H1 vs us Q I1 r1 q1) he hpl
end
end L2
namespace HT
open PySem PyProof.Rows
section
open PySem.SeqAt
open PySem.AutoSeq1 (wpAny_loadPart')
open PySem.MeetsSeq PySem.MeetsSeq2 PySem.MeetsSeq3
end
section
variable {prog : Program} {w : World} {A : Around} {E : Value → Shared → Prop} {s : Shared}
def sIx (n d : Nat) : Option Int → Nat
 | none => d
 | some v => if v < 0 then (v + (n : Int)).toNat else min v.toNat n
theorem sIx_none (n d : Nat) : sIx n d none = d := rfl
theorem sIx_nat (n d k : Nat) : sIx n d (some (k : Int)) = min k n := by
 show (if (k : Int) < 0 then ((k : Int) + (n : Int)).toNat else min (k : Int).toNat n) = min k n
 rw [if_neg (by omega), Int.toNat_natCast]
end
end HT
namespace L2
open PySem PySem.Spec PyProof.Rows
abbrev TO := St → Hp → (Option Int → Hp → Prop) → Prop
def PO (X : Cx) (e : Option Expr) (t : TO) : Prop :=
 ∀ (pins : List (Addr × Obj)) (s : Shared) (σ : St) (H : Hp) (Q : Option Int → Hp → Prop), Inv X pins σ H s → t σ H Q →
  wpAny (model X.prog X.w) X.A (evalPart e X.env) (fun u s' => ∃ o H', Inv X pins σ H' s' ∧ IsPart u o ∧ Q o H') X.xe s
def tNoPart : TO := fun _ H Q => Q none H
def tPart (t : TE) : TO := fun σ H Q => t σ H fun x H1 => ∃ i, x = .int i ∧ Q (some i) H1
theorem intsAre_of {ns : List Int} : ∀ {us : List Value}, Vals (ns.map V.int) us → IntsAre us ns := by
 induction ns with
 | nil => intro us r; rw [List.map_nil] at r; cases r; exact .nil
 | cons n ns ih =>
  intro us r
  rw [List.map_cons] at r
  cases r with
  | cons r1 r2 =>
   obtain ⟨t, e⟩ := r1
   subst e
   exact .cons n t (ih r2)
section
variable {X : Cx} {e : Expr} {te : TE} {lo hi : Option Expr} {tl th : TO} {pos p2 : Pos}
theorem po_none : PO X none tNoPart := by
 intro pins s σ H Q I h
 rw [evalPart_none]
 exact wpAny_pure ⟨none, H, I, .none, h⟩
theorem po_some (h : PE X e te) : PO X (some e) (tPart te) := by
 intro pins s σ H Q I hw
 rw [evalPart_some]
 refine thn (h pins s σ H _ I hw) fun u s1 ⟨x, H1, I1, r1, q1⟩ => ?_
 obtain ⟨i, rfl, q⟩ := q1
 obtain ⟨t, rfl⟩ := r1
 exact ⟨some i, H1, I1, .int i t, q⟩
def SlR (X : Cx) (r : V → Option Int → Option Int → Hp → VK → Prop) : Prop :=
 ∀ (pins : List (Addr × Obj)) (s : Shared) (σ : St) (H : Hp) (x : V) (v vl vu : Value) (lo hi : Option Int) (sl : Addr) (Q : VK), Inv X pins σ H s → RelV x v → s.heap.IsSliceOf sl vl vu .none → IsPart vl lo → IsPart vu hi → r x lo hi H Q →
  ∃ T id, typeLookup (.type T) "__getitem__" = pure (some (.builtin id)) ∧ s.TypeIs v T ∧ wpAny (model X.prog X.w) X.A (getItem v (.ref sl)) (EP X pins σ Q) X.xe s
def tSl (r : V → Option Int → Option Int → Hp → VK → Prop) (te : TE) (tl th : TO) : TE := fun σ H Q => te σ H fun x H1 => tl σ H1 fun l H2 => th σ H2 fun u H3 => r x l u H3 Q
theorem pe_slice {r : V → Option Int → Option Int → Hp → VK → Prop} (hr : SlR X r) (he : PE X e te) (hl : PO X lo tl) (hu : PO X hi th) : PE X (.Subscript e (.Slice lo hi none p2) pos) (tSl r te tl th) := by
 intro pins s σ H Q I h
 refine Subscript_ (thn (he pins s σ H _ I h) fun v s1 ⟨x, H1, I1, r1, q1⟩ => ?_)
 refine wpAny_Slice (thn (hl pins s1 σ H1 _ I1 q1) fun vl s2 ⟨l, H2, I2, pl, q2⟩ => thn (hu pins s2 σ H2 _ I2 q2) fun vu s3 ⟨u, H3, I3, pu, q3⟩ => ?_)
 rw [evalPart_none]
 refine wpAny_pure ?_
 have I4 : Inv X pins σ H3 { s3 with heap := s3.heap.push { cls := .type "slice", data := .fields #[vl, vu, .none] } } := I3.kept (t' := s3.toks) fun b ob q => Heap.get?_push_of_some _ q
 obtain ⟨T, id, hT, ht, hg⟩ := hr pins { s3 with heap := s3.heap.push { cls := .type "slice", data := .fields #[vl, vu, .none] } } σ H3 x v vl vu l u s3.heap.objs.size Q I4 r1 (Heap.IsSliceOf.new ..) pl pu q3
 show wpAny (model X.prog X.w) X.A (subscriptTail e (.Slice lo hi none p2) v (.ref s3.heap.objs.size)) (EP X pins σ Q) X.xe { s3 with heap := s3.heap.push { cls := .type "slice", data := .fields #[vl, vu, .none] } }
 exact tail_any (ops := [.ref s3.heap.objs.size, v]) ht hT hg (by with_unfolding_all rfl)
def cutV (xs : List V) (lo hi : Option Int) : List V := (xs.drop (HT.sIx xs.length 0 lo)).take (HT.sIx xs.length xs.length hi - HT.sIx xs.length 0 lo)
theorem cutV_length (xs : List V) (lo hi : Option Int) : (cutV xs lo hi).length ≤ xs.length := by
 unfold cutV
 rw [List.length_take, List.length_drop]
 omega
end
end L2
namespace L2
open PySem PySem.Spec PyProof.Rows
def ixN (n : Nat) (i : Int) : Option Nat := if 0 ≤ i then (if i < n then some i.toNat else none) else if -(n : Int) ≤ i then some (i + n).toNat else none
def atI {α : Type} (xs : List α) (i : Int) : Option α := (ixN xs.length i).bind fun j => xs[j]?
theorem ixN_seq {n : Nat} {i : Int} {j : Nat} (h : ixN n i = some j) : seqIndex? i n = some j ∧ j < n ∧ -(n : Int) ≤ i ∧ i < n := by
 unfold ixN at h
 by_cases h0 : 0 ≤ i
 ·rw [if_pos h0] at h
  by_cases h1 : i < n
  ·rw [if_pos h1] at h
   have e : i.toNat = j := Option.some.inj h
   exact ⟨by rw [seqIndex_of h0 h1, e], by omega, by omega, h1⟩
  ·rw [if_neg h1] at h; cases h
 ·rw [if_neg h0] at h
  by_cases h1 : -(n : Int) ≤ i
  ·rw [if_pos h1] at h
   have e : (i + n).toNat = j := Option.some.inj h
   exact ⟨by rw [seqIndex_neg (by omega) h1, e], by omega, h1, by omega⟩
  ·rw [if_neg h1] at h; cases h
theorem atI_get {α : Type} {xs : List α} {i : Int} {v : α} (h : atI xs i = some v) : ∃ j, seqIndex? i xs.length = some j ∧ xs[j]? = some v ∧ j < xs.length ∧ -(xs.length : Int) ≤ i ∧ i < xs.length := by
 unfold atI at h
 cases e : ixN xs.length i with
 | none => rw [e] at h; cases h
 | some j =>
  rw [e] at h
  obtain ⟨h1, h2, h3, h4⟩ := ixN_seq e
  exact ⟨j, h1, h, h2, h3, h4⟩
theorem atI_nat {α : Type} {xs : List α} {j : Nat} {v : α} (h : xs[j]? = some v) : atI xs (j : Int) = some v := by
 have hj : j < xs.length := (List.getElem?_eq_some_iff.mp h).1
 have e : ixN xs.length (j : Int) = some j := by
  unfold ixN
  rw [if_pos (by omega), if_pos (by omega)]; simp
 unfold atI; rw [e]; exact h
theorem atI_last {α : Type} (xs : List α) (v : α) : atI (xs ++ [v]) (-1) = some v := by
 have hl : (xs ++ [v]).length = xs.length + 1 := by simp
 have e : ixN (xs ++ [v]).length (-1) = some xs.length := by
  unfold ixN
  rw [hl, if_neg (by decide), if_pos (by omega)]
  congr 1
  omega
 unfold atI
 rw [e]
 show (xs ++ [v])[xs.length]? = some v
 simp
def PlainIx (b : Expr) : Prop := ∀ o i, subscripted b false o i = operate [o, i] (getItem o i)
def IxR (X : Cx) (r : R2) : Prop :=
 ∀ (value slice : Expr) (pins : List (Addr × Obj)) (s : Shared) (σ : St) (H : Hp) (x y : V) (v u : Value) (Q : VK), Inv X pins σ H s → RelV x v → RelV y u → r x y H Q →
  subscripted slice false v u = operate [v, u] (getItem v u) → wpAny (model X.prog X.w) X.A (subscriptTail value slice v u) (EP X pins σ Q) X.xe s
def MtR (X : Cx) (id : String) (r : V → List V → Hp → VK → Prop) : Prop :=
 ∀ (pins : List (Addr × Obj)) (s : Shared) (σ : St) (H : Hp) (x : V) (xs : List V) (v : Value) (us : List Value) (Q : VK), Inv X pins σ H s → RelV x v → Vals xs us → r x xs H Q →
  wpAny (model X.prog X.w) X.A (call (.builtin id) (v :: us)) (EP X pins σ Q) X.xe s
section
variable {X : Cx} {a b : Expr} {ta tb : TE} {pos : Pos}
theorem pe_ix {r : R2} (hr : IxR X r) (ha : PE X a ta) (hb : PE X b tb) (hs : PlainIx b) : PE X (.Subscript a b pos) (tOp r ta tb) := by
 intro pins s σ H Q I h
 exact Subscript_ (binT ha hb I h fun v u s2 x y H2 I2 rx ry q => hr a b pins s2 σ H2 x y v u Q I2 rx ry q (hs _ _))
def rIxL (K : PySem.W.Frag) : R2 := fun x y H Q => ∃ p xs i v, x = .ref p ∧ y = .int i ∧ SqL K H p xs ∧ atI xs i = some v ∧ Q v H
def rIxT (K : PySem.W.Frag) : R2 := fun x y H Q => ∃ p xs i v, x = .ref p ∧ y = .int i ∧ SqT K H p xs ∧ atI xs i = some v ∧ Q v H
def rIxS : R2 := fun x y H Q => ∃ z i c, x = .str z ∧ y = .int i ∧ z.length ≤ sizeLine ∧ atI z.cps.toList i = some c ∧ Q (.str ⟨#[c]⟩) H
theorem ix_list : IxR X (rIxL X.K) := by
 intro value slice pins s σ H x y v u Q I rx ry h hs
 obtain ⟨p, xs, i, z, rfl, rfl, hq, he, q⟩ := h
 cases rx
 obtain ⟨t, rfl⟩ := ry
 obtain ⟨its, r, pl, hz⟩ := I.list hq
 obtain ⟨j, h1, h2, h3, h4, h5⟩ := atI_get he
 obtain ⟨w, ew, rw'⟩ := r.get h2
 have hl := r.length
 have hn := line63
 have fin : EP X pins σ Q w s := ⟨z, H, I, rw', q⟩
 by_cases h0 : 0 ≤ i
 ·have hj : i.toNat = j := by
   rw [seqIndex_of h0 h5] at h1
   exact Option.some.inj h1
  exact item_listR pl.isList h0 (by omega) (by rw [hj]; simpa using ew) fin hs
 ·have hj : (i + (its.toArray.size : Int)).toNat = j := by
   rw [seqIndex_neg (by omega) h4] at h1
   rw [List.size_toArray, ← hl]
   exact Option.some.inj h1
  exact subscriptTail_builtinR (x := w) pl.isList.typeIs slot_list_getitem.lookup
   (wpAny_getItem_list_neg (Q := fun r s' => r = w ∧ EP X pins σ Q r s') pl.isList (by omega) (by rw [List.size_toArray] <;> omega) (by omega) (by rw [hj]; simpa using ew) ⟨rfl, fin⟩) hs
theorem ix_tup : IxR X (rIxT X.K) := by
 intro value slice pins s σ H x y v u Q I rx ry h hs
 obtain ⟨p, xs, i, z, rfl, rfl, hq, he, q⟩ := h
 cases rx
 obtain ⟨t, rfl⟩ := ry
 obtain ⟨its, r, pl, hz⟩ := I.tuple hq
 obtain ⟨j, h1, h2, h3, h4, h5⟩ := atI_get he
 obtain ⟨w, ew, rw'⟩ := r.get h2
 have hl := r.length
 have hn := line63
 have fin : EP X pins σ Q w s := ⟨z, H, I, rw', q⟩
 exact subscriptTail_builtinR (x := w) pl.typeIs slot_tuple_getitem.lookup
  (getItem_tuple (j := j) (Q := fun r s' => r = w ∧ EP X pins σ Q r s') pl (by omega) (by omega) (by rw [List.size_toArray, ← hl]; exact h1) (by simpa using ew) ⟨rfl, fin⟩) hs
theorem ix_str : IxR X rIxS := by
 intro value slice pins s σ H x y v u Q I rx ry h hs
 obtain ⟨z, i, c, rfl, rfl, hz, he, q⟩ := h
 obtain ⟨t, rfl⟩ := rx
 obtain ⟨t', rfl⟩ := ry
 obtain ⟨j, h1, h2, h3, h4, h5⟩ := atI_get he
 have hl : z.cps.toList.length = z.length := by simp [Str.length]
 rw [hl] at h1 h4 h5
 have hn := line63
 exact tail_any (typeIs_str s z t) slot_str_getitem.lookup (getItem_str (c := c) (by
  have e1 : decide (i < -(2 ^ 63 : Int)) = false := decide_eq_false (by omega)
  have e2 : decide (i ≥ 2 ^ 63) = false := decide_eq_false (by omega)
  rw [e1, e2, Bool.or_false]) (by rw [h1]; simpa using h2) ⟨.str ⟨#[c]⟩, H, I.tok _, ⟨_, rfl⟩, q⟩) hs
theorem slice_bounds (lo hi : Option Int) (n : Nat) : (sliceBounds lo hi none n).1 = ((HT.sIx n 0 lo : Nat) : Int) ∧ (sliceBounds lo hi none n).2.1 = ((HT.sIx n n hi : Nat) : Int) ∧ (sliceBounds lo hi none n).2.2 = 1 := by
 refine ⟨?_, ?_, rfl⟩
 ·cases lo with
  | none => simp [sliceBounds, HT.sIx]
  | some i =>
   simp only [sliceBounds, HT.sIx, Option.getD_none, show (1 : Int) > 0 by decide, if_true]
   by_cases h : i < 0
   ·simp only [h, if_true] <;> omega
   ·simp only [h, if_false] <;> omega
 ·cases hi with
  | none => simp [sliceBounds, HT.sIx]
  | some i =>
   simp only [sliceBounds, HT.sIx, Option.getD_none, show (1 : Int) > 0 by decide, if_true]
   by_cases h : i < 0
   ·simp only [h, if_true] <;> omega
   ·simp only [h, if_false] <;> omega
theorem slicePick_cut (its : List Value) (lo hi : Option Int) : slicePick its.toArray lo hi none = ((its.drop (HT.sIx its.length 0 lo)).take (HT.sIx its.length its.length hi - HT.sIx its.length 0 lo)).toArray := by
 obtain ⟨h1, h2, h3⟩ := slice_bounds lo hi its.toArray.size
 unfold slicePick
 rw [h1, h2, h3]
 simp only [sliceRange_one, pick_run, List.size_toArray] <;> rfl
def rSlL (K : PySem.W.Frag) : V → Option Int → Option Int → Hp → VK → Prop := fun x lo hi H Q => ∃ a xs, x = .ref a ∧ SqL K H a xs ∧ ∀ p, H p = none → Q (.ref p) (upd H p (.lst (cutV xs lo hi)))
theorem sl_list : SlR X (rSlL X.K) := by
 intro pins s σ H x v vl vu lo hi sl Q I rx hs pl pu h
 obtain ⟨a, xs, rfl, hx, q⟩ := h
 cases rx
 obtain ⟨its, r, ht, hz⟩ := I.list hx
 have hlen := r.length
 refine ⟨"list", _, slot_list_getitem.lookup, ht.isList.typeIs, ?_⟩
 refine wpAny_getItem_list_slice ht.isList hs pl pu .none (by simp) ?_ (by rw [List.size_toArray] <;> omega)
 rw [slicePick_cut, ← hlen]
 refine ⟨.ref s.heap.objs.size, _, I.laid (t' := s.toks) (o := .lst (cutV xs lo hi)) (fun b ob q => Heap.get?_push_of_some _ q) (Nat.le_refl _) ?_, rfl, q _ (I.hok.fresh (Nat.le_refl _))⟩
 exact ⟨Nat.le_trans (cutV_length xs lo hi) hz, _, 0, (r.drop (HT.sIx xs.length 0 lo)).take (HT.sIx xs.length xs.length hi - HT.sIx xs.length 0 lo), Heap.get?_push_size _ rfl⟩
def flatV : V → Bool
 | .non => true
 | .bl _ => true
 | .int _ => true
 | .str _ => true
 | _ => false
def eqV : V → V → Bool
 | .non, .non => true
 | .bl a, .bl b => a == b
 | .bl a, .int b => (if a then 1 else 0) == b
 | .int a, .bl b => a == (if b then 1 else 0)
 | .int a, .int b => a == b
 | .str a, .str b => a == b
 | _, _ => false
theorem eqAt_V {A : Around} {s : Shared} {y x : V} {u v : Value} (ry : RelV y u) (rx : RelV x v) (fy : flatV y = true) (fx : flatV x = true) : SeqAt.EqAt A s u v (eqV y x) := by
 cases y with
 | non =>
  cases ry
  cases x with
  | non => cases rx; exact SeqAt.EqAt.same _
  | bl b => cases rx; exact SeqAt.EqAt.none_bool b
  | int b => obtain ⟨t, rfl⟩ := rx; exact SeqAt.EqAt.none_int b t
  | str b => obtain ⟨t, rfl⟩ := rx; exact SeqAt.EqAt.none_str b t
  | _ => exact absurd (show false = true from fx) Bool.false_ne_true
 | bl a =>
  cases ry
  cases x with
  | non => cases rx; exact SeqAt.EqAt.bool_none a
  | bl b => cases rx; exact SeqAt.EqAt.bool_bool a b
  | int b => obtain ⟨t, rfl⟩ := rx; exact SeqAt.EqAt.bool_int a b t
  | str b => obtain ⟨t, rfl⟩ := rx; exact SeqAt.EqAt.bool_str a b t
  | _ => exact absurd (show false = true from fx) Bool.false_ne_true
 | int a =>
  obtain ⟨t', rfl⟩ := ry
  cases x with
  | non => cases rx; exact SeqAt.EqAt.int_none a t'
  | bl b => cases rx; exact SeqAt.EqAt.int_bool a t' b
  | int b => obtain ⟨t, rfl⟩ := rx; exact SeqAt.EqAt.int_int a t' b t
  | str b => obtain ⟨t, rfl⟩ := rx; exact SeqAt.EqAt.int_str a t' b t
  | _ => exact absurd (show false = true from fx) Bool.false_ne_true
 | str a =>
  obtain ⟨t', rfl⟩ := ry
  cases x with
  | non => cases rx; exact SeqAt.EqAt.str_none a t'
  | bl b => cases rx; exact SeqAt.EqAt.str_bool a t' b
  | int b => obtain ⟨t, rfl⟩ := rx; exact SeqAt.EqAt.str_int a t' b t
  | str b => obtain ⟨t, rfl⟩ := rx; exact SeqAt.EqAt.str_str a t' b t
  | _ => exact absurd (show false = true from fx) Bool.false_ne_true
 | _ => exact absurd (show false = true from fy) Bool.false_ne_true
def eqU (x : V) (u : Value) : Bool := match u with
 | .none => eqV .non x
 | .bool b => eqV (.bl b) x
 | .int i _ => eqV (.int i) x
 | .str z _ => eqV (.str z) x
 | _ => false
theorem eqU_of {x y : V} {u : Value} (r : RelV y u) (f : flatV y = true) : eqU x u = eqV y x := by
 cases y with
 | non => cases r; rfl
 | bl b => cases r; rfl
 | int i => obtain ⟨t, rfl⟩ := r; rfl
 | str z => obtain ⟨t, rfl⟩ := r; rfl
 | _ => exact absurd (show false = true from f) Bool.false_ne_true
theorem any_eqU {x : V} : ∀ {xs : List V} {us : List Value}, Vals xs us → xs.all flatV = true → us.any (eqU x) = xs.any fun y => eqV y x
 | _, _, .nil, _ => rfl
 | y :: xs, u :: us, .cons r t, f => by
  rw [List.all_cons, Bool.and_eq_true] at f
  rw [List.any_cons, List.any_cons, eqU_of r f.1, any_eqU t f.2]
theorem mem_eqAt {A : Around} {s : Shared} {x : V} {v : Value} (rx : RelV x v) (fx : flatV x = true) : ∀ {xs : List V} {us : List Value}, Vals xs us → xs.all flatV = true → ∀ u ∈ us, SeqAt.EqAt A s u v (eqU x u)
 | _, _, .nil, _ => fun u hu => by cases hu
 | y :: xs, u :: us, .cons r t, f => fun u' hu => by
  rw [List.all_cons, Bool.and_eq_true] at f
  rcases List.mem_cons.mp hu with rfl | hu
  ·rw [eqU_of r f.1]; exact eqAt_V r rx f.1 fx
  ·exact mem_eqAt rx fx t f.2 u' hu
def inV (x : V) (xs : List V) : Bool := xs.any fun y => eqV y x
def rIn (K : PySem.W.Frag) (neg : Bool) : R2 := fun x y H Q => ∃ p xs, y = .ref p ∧ (SqL K H p xs ∨ SqT K H p xs) ∧ flatV x = true ∧ xs.all flatV = true ∧ Q (.bl (if neg then !inV x xs else inV x xs)) H
theorem op_notIn_seq : OpR X (compareOp .NotIn) (rIn X.K true) := by
 intro pins s σ H x y v u Q I rx ry h
 obtain ⟨p, xs, rfl, hq, fx, fs, q⟩ := h
 cases ry
 rcases hq with hq | hq
 ·obtain ⟨its, r, pl, hz⟩ := I.list hq
  refine SeqAt.notIn_listAt (eqU x) pl.isList (fun w hw => mem_eqAt rx fx r fs w (by simpa using hw)) ⟨.bl _, H, I, rfl, ?_⟩
  rw [show its.toArray.any (eqU x) = its.any (eqU x) by simp, any_eqU r fs]
  exact q
 ·obtain ⟨its, r, pl, hz⟩ := I.tuple hq
  refine SeqAt.notIn_tupleAt (eqU x) pl (fun w hw => mem_eqAt rx fx r fs w (by simpa using hw)) ⟨.bl _, H, I, rfl, ?_⟩
  rw [show its.toArray.any (eqU x) = its.any (eqU x) by simp, any_eqU r fs]
  exact q
theorem op_notIn_str : OpR X (compareOp .NotIn) (fun x y H Q => ∃ i j, x = .str i ∧ y = .str j ∧ Q (.bl (!(!(Builtin.Str.occurrences j i 0 j.length 1).isEmpty))) H) := by
 intro pins s σ H x y v u Q I rx ry h
 obtain ⟨i, j, rfl, rfl, q⟩ := h
 obtain ⟨t, rfl⟩ := rx
 obtain ⟨t', rfl⟩ := ry
 exact notIn_str ⟨.bl _, H, I, rfl, q⟩
theorem call_len_seq : CallR X (.builtin "len") (fun xs H Q => ∃ p ys, xs = [.ref p] ∧ (SqL X.K H p ys ∨ SqT X.K H p ys) ∧ Q (.int ys.length) H) := by
 intro pins s σ H xs us Q I r h
 obtain ⟨p, ys, rfl, hq, q⟩ := h
 obtain ⟨u, rfl, rx⟩ := vals1 r
 cases rx
 have hn := line63
 rcases hq with hq | hq
 ·obtain ⟨its, r', pl, hz⟩ := I.list hq
  have hlen := r'.length
  exact Calls.call_len_list pl.isList (by simp only [List.size_toArray] <;> omega) ⟨.int ys.length, H, I.tok _, ⟨s.toks + 1, by rw [List.size_toArray, hlen]⟩, q⟩
 ·obtain ⟨its, r', pl, hz⟩ := I.tuple hq
  have hlen := r'.length
  exact len_tuple pl (by simp only [List.size_toArray] <;> omega) ⟨.int ys.length, H, I.tok _, ⟨s.toks + 1, by rw [List.size_toArray, hlen]⟩, q⟩
theorem call_len_str : CallR X (.builtin "len") (fun xs H Q => ∃ z, xs = [.str z] ∧ z.length ≤ sizeLine ∧ Q (.int z.length) H) := by
 intro pins s σ H xs us Q I r h
 obtain ⟨z, rfl, hz, q⟩ := h
 obtain ⟨u, rfl, t, rfl⟩ := vals1 r
 have hn := line63
 exact len_str (by omega) ⟨.int z.length, H, I.tok _, ⟨_, rfl⟩, q⟩
theorem call_list_of : CallR X (.type "list") (fun xs H Q => ∃ p ys, xs = [.ref p] ∧ (SqL X.K H p ys ∨ SqT X.K H p ys) ∧ ∀ l, H l = none → Q (.ref l) (upd H l (.lst ys))) := by
 intro pins s σ H xs us Q I r h
 obtain ⟨p, ys, rfl, hq, q⟩ := h
 obtain ⟨u, rfl, rx⟩ := vals1 r
 cases rx
 have fin : ∀ (its : List Value), Vals ys its → ys.length ≤ sizeLine → ∀ (h' : Heap) (c' : Nat), (∀ b o', s.heap.get? b = some o' → h'.get? b = some o') →
   h'.get? s.heap.objs.size = some { cls := .type "list", dict := none, data := .seq its.toArray c', slots := #[] } → EP X pins σ Q (.ref s.heap.objs.size) { s with heap := h' } := fun its r' hz h' c' kp e =>
  ⟨.ref s.heap.objs.size, _, I.laid (t' := s.toks) kp (Nat.le_refl _) (show ObjOk X.prog X.w _ h' _ (.lst ys) from ⟨hz, its, c', r', e⟩), rfl, q _ (I.hok.fresh (Nat.le_refl _))⟩
 rcases hq with hq | hq
 ·obtain ⟨its, r', pl, hz⟩ := I.list hq
  have hlen := r'.length
  obtain ⟨o, ho, hc, n, hd⟩ := pl.isList
  exact call_list_seq p (.inl rfl) ho hc hd (fun h' c' kp e => fin its r' hz h' c' kp e) (by simp only [List.size_toArray] <;> omega)
 ·obtain ⟨its, r', pl, hz⟩ := I.tuple hq
  have hlen := r'.length
  obtain ⟨o, ho, hc, n, hd⟩ := pl
  exact call_list_seq p (.inr rfl) ho hc hd (fun h' c' kp e => fin its r' hz h' c' kp e) (by simp only [List.size_toArray] <;> omega)
def tyV (K : PySem.W.Frag) (T : String) (x : V) (H : Hp) : Prop := match x with
 | .str _ => T = "str"
 | .int _ => T = "int"
 | .ref p => (T = "list" ∧ ∃ xs, SqL K H p xs) ∨ (T = "tuple" ∧ ∃ o, K.lookup p = some o ∧ o.cls = .type "tuple" ∧ o.dict = none) ∨
   (T = "dict" ∧ ((∃ kvs, H p = some (.dK kvs)) ∨ ∃ kvs, H p = some (.dT kvs))) ∨ (T = "set" ∧ ∃ S n, H p = some (.set S n))
 | _ => False
theorem tyV_is {pins : List (Addr × Obj)} {σ : St} {H : Hp} {s : Shared} {T : String} {x : V} {v : Value} (I : Inv X pins σ H s) (r : RelV x v) (ty : tyV X.K T x H) :
  s.TypeIs v T ∧ ∀ a, v = .ref a → ∃ ob, s.heap.get? a = some ob ∧ ob.dict = none := by
 cases x with
 | str z =>
  obtain ⟨t, rfl⟩ := r
  cases (show T = "str" from ty)
  exact ⟨typeIs_str s z t, fun _ e => nomatch e⟩
 | int i =>
  obtain ⟨t, rfl⟩ := r
  cases (show T = "int" from ty)
  exact ⟨typeIs_int s i t, fun _ e => nomatch e⟩
 | ref p =>
  cases r
  rcases ty with ⟨rfl, xs, hq⟩ | ⟨rfl, o, hk, hc, hd⟩ | ⟨rfl, hk⟩ | ⟨rfl, S, n, hk⟩
  ·obtain ⟨its, _, pl, _⟩ := I.list hq
   refine ⟨pl.isList.typeIs, fun a e => ?_⟩
   cases e
   obtain ⟨o, n, e, c, hd, _⟩ := pl
   exact ⟨o, e, hd⟩
  ·refine ⟨⟨o, I.kIn p o hk, hc⟩, fun a e => ?_⟩
   cases e
   exact ⟨o, I.kIn _ o hk, hd⟩
  ·have z : ∃ o, s.heap.get? p = some o ∧ o.ExactDict := by
    rcases hk with ⟨kvs, hk⟩ | ⟨kvs, hk⟩
    ·obtain ⟨_, _, _, _, o, _, _, e, ex, _⟩ := I.hok p _ hk
     exact ⟨o, e, ex⟩
    ·obtain ⟨_, _, _, _, o, _, _, e, ex, _⟩ := I.hok p _ hk
     exact ⟨o, e, ex⟩
   obtain ⟨o, e, ex⟩ := z
   refine ⟨⟨o, e, ex.1⟩, fun a e2 => ?_⟩
   cases e2
   exact ⟨o, e, ex.2.1⟩
  ·obtain ⟨o, _, _, _, e, ex, _⟩ := I.hok p _ hk
   refine ⟨⟨o, e, ex.1⟩, fun a e2 => ?_⟩
   cases e2
   exact ⟨o, e, ex.2.1⟩
 | _ => exact False.elim ty
def tBM (K : PySem.W.Frag) (T : String) (r : V → List V → Hp → VK → Prop) (to : TE) (t : TA) : TE := fun σ H Q => to σ H fun x H1 => tyV K T x H1 ∧ t σ H1 fun xs H2 => r x xs H2 Q
variable {o e : Expr} {es : List Expr} {to : TE} {t : TA} {name : Str} {apos cpos : Pos} {T id : String} {r : V → List V → Hp → VK → Prop}
theorem pe_bm (pa : PlainAttrs T) (slot : Slot T name id) (hty : typeOf (.builtin id) = pure (.type "method_descriptor")) (hm : MtR X id r) (ho : PE X o to) (ha : PA X (e :: es) t)
  (hbase : attributeBase o name X.env (eval o X.env) = eval o X.env := by rfl)
  (hfew : ((backTo cpos (starEach (e :: es) X.env)).all (fun x => !x.1) && (backToKw cpos (keywordEach [] X.env)).all (fun x => x.1.isSome)
   && decide ((e :: es).length + ([] : List Keyword).length + (if ([] : List Keyword).isEmpty then 0 else 1) < 30)) = true := by rfl)
  (hline : (apos.endLine == cpos.line) = true := by rfl) (hs : starEach (e :: es) X.env = (false, eval e X.env) :: starEach es X.env := by rfl) (hplain : (backTo cpos (starEach es X.env)).any (·.1) = false := by rfl) :
  PE X (.Call (.Attribute o name apos) (e :: es) [] cpos) (tBM X.K T r to t) := by
 intro pins s σ H Q I h
 refine wpAny_Call_method_late hbase hfew hline rfl (thn (ho pins s σ H _ I h) fun v s1 ⟨x, H1, I1, r1, ty, q1⟩ => ?_)
 obtain ⟨h1, h2⟩ := tyV_is I1 r1 ty
 refine ⟨T, id, pa, slot, hty, h1, h2, ?_⟩
 have hA := ha cpos pins s1 σ H1 _ I1 q1
 rw [hs] at hA ⊢
 refine Calls.callWith_builtin (by show (false || (backTo cpos (starEach es X.env)).any (·.1)) = false; rw [hplain] <;> rfl) (Calls.evalArgs_plain ?_)
 exact thn hA fun us s2 ⟨vs, H2, I2, r2, q2⟩ => hm pins s2 σ H2 x vs v us Q I2 r1 r2 q2
/- xs.append(e), list.index on a module's tuple .. are MtR facts of 06m -/
end
end L2
namespace L2
open PySem PySem.Spec PyProof.Rows
def MtM (X : Cx) (id : String) (r : V → List V → Hp → VK → Prop) : Prop :=
 ∀ (pins : List (Addr × Obj)) (s : Shared) (σ : St) (H : Hp) (x : V) (xs : List V) (v : Value) (us : List Value) (Q : VK), Inv X pins σ H s → RelV x v → Vals xs us → r x xs H Q →
  wpAny (model X.prog X.w) X.A (call (.builtin id) (v :: us)) (EP X pins σ Q) X.xe s
theorem Vals.one : ∀ {x : V} {us : List Value}, Vals [x] us → ∃ u, us = [u] ∧ RelV x u
 | _, _, .cons r .nil => ⟨_, rfl, r⟩
theorem Vals.two : ∀ {x y : V} {us : List Value}, Vals [x, y] us → ∃ u v, us = [u, v] ∧ RelV x u ∧ RelV y v
 | _, _, _, .cons r (.cons q .nil) => ⟨_, _, rfl, r, q⟩
section
variable {X : Cx} {pins : List (Addr × Obj)} {σ : St} {H : Hp} {s : Shared} {l b : Addr} {xs ys zs : List V}
theorem Inv.lset {its its' : List Value} {n : Nat} {f : Array Value → Array Value} {t' : Nat} (I : Inv X pins σ H s) (hH : H l = some (.lst xs))
  (e : s.heap.get? l = some { cls := .type "list", data := .seq its.toArray n }) (hf : f its.toArray = its'.toArray) (hv : Vals ys its') (hz : ys.length ≤ sizeLine) :
  Inv X pins σ (upd H l (.lst ys)) { s with heap := s.heap.update l (Obj.mapSeq f), toks := t' } := by
 have q := PySem.IsL.update e f
 rw [hf] at q
 refine I.write (x := l) (e := l) (by rw [hH]; exact trivial) (.inl rfl) (fun b' u hb hu => (Heap.get?_update_other s.heap (Obj.mapSeq f) (Ne.symm hb)).trans hu) ⟨_, q⟩ ?_
 exact ⟨hz, its', _, hv, q⟩
theorem Inv.lnew {its : List Value} {t' : Nat} (I : Inv X pins σ H s) (hv : Vals ys its) (hz : ys.length ≤ sizeLine) :
  Inv X pins σ (upd H s.heap.objs.size (.lst ys)) { s with heap := s.heap.push { cls := .type "list", data := .seq its.toArray }, toks := t' } :=
 I.laid (fun _ _ q => Heap.get?_push_of_some _ q) (Nat.le_refl _) ⟨hz, its, 0, hv, Heap.get?_push_size _ rfl⟩
theorem Inv.fresh (I : Inv X pins σ H s) : H s.heap.objs.size = none := I.hok.fresh (Nat.le_refl _)
theorem Inv.lstM (I : Inv X pins σ H s) (hH : H l = some (.lst xs)) : xs.length ≤ sizeLine ∧ ∃ (its : List Value) (n : Nat), Vals xs its ∧ xs.length = its.length ∧ s.heap.get? l = some { cls := .type "list", data := .seq its.toArray n } := by
 obtain ⟨z, its, n, r, e⟩ := I.hok l _ hH
 exact ⟨z, its, n, r, r.length, e⟩
end
section
variable {X : Cx}
def rAppend : V → List V → Hp → VK → Prop := fun x vs H Q => ∃ l xs y, x = .ref l ∧ vs = [y] ∧ H l = some (.lst xs) ∧ xs.length < sizeLine ∧ Q .non (upd H l (.lst (xs ++ [y])))
theorem mt_append : MtM X "list.append" rAppend := by
 intro pins s σ H x vs v us Q I rx rv h
 obtain ⟨l, xs, y, rfl, rfl, hH, hz, q⟩ := h
 cases rx
 obtain ⟨u, rfl, ru⟩ := rv.one
 obtain ⟨z, its, n, r, hl, e⟩ := I.lstM hH
 refine call_meets F.slot_list_append ⟨_, e, rfl⟩ F.entry_list_append (F.args_list_append_2 _ _) (PySem.list_append l its.toArray n u (by rw [List.size_toArray]; omega)) ⟨e, ?_⟩
 refine ⟨.non, _, I.lset (its' := its ++ [u]) hH e (by simp) (r.append (.cons ru .nil)) ?_, rfl, q⟩
 rw [List.length_append, List.length_singleton]
 omega
def rCat : R2 := fun x y H Q => ∃ l b xs zs, x = .ref l ∧ y = .ref b ∧ H l = some (.lst xs) ∧ H b = some (.lst zs) ∧ xs.length + zs.length ≤ sizeLine ∧ ∀ p, H p = none → Q (.ref p) (upd H p (.lst (xs ++ zs)))
theorem op_cat : OpR X (binaryOp .Add) rCat := by
 intro pins s σ H x y v u Q I rx ry h
 obtain ⟨l, b, xs, zs, rfl, rfl, hH, hB, hz, q⟩ := h
 cases rx
 cases ry
 obtain ⟨z, its, n, r, hl, e⟩ := I.lstM hH
 obtain ⟨z2, its2, n2, r2, hl2, e2⟩ := I.lstM hB
 refine PySem.P.add_list e e2 ?_ (by rw [List.size_toArray, List.size_toArray]; omega)
 have ea : its.toArray ++ its2.toArray = (its ++ its2).toArray := by simp
 rw [ea]
 exact ⟨.ref _, _, I.lnew (t' := s.toks) (r.append r2) (by rw [List.length_append]; omega), rfl, q _ I.fresh⟩
end
section
variable {prog : Program} {w : World} {A : Around} {E : Value → Shared → Prop} {s : Shared}
set_option maxRecDepth 100000 in
end
section
variable {X : Cx}
end
end L2
namespace Att
open PySem PySem.W PySem.Calls PyProof.Rows
theorem ints_of_wellAll {P : Params} {h : Heap} : ∀ (ns : List Int) (vs : List Value), WellAll P h vs (ns.map WData.int) → IntsAre vs ns := by
 intro ns
 induction ns with
 | nil =>
  intro vs w
  rw [List.map_nil] at w
  cases w
  exact .nil
 | cons n ns ih =>
  intro vs w
  rw [List.map_cons] at w
  cases w with
  | cons a b =>
   cases a
   exact .cons _ _ (ih _ b)
theorem script_of {l : OpenLaw} {n : Nat} (hn : l.most = some n) {P : Params} {h : Heap} {args : List WData} {vals : List Value}
  (hpre : l.row.toRowW.claim.pre args = true) (hwl : WellAll P h vals args) :
  ∃ a vs ns, vals = [Value.ref a] ∧ args = [WData.list (ns.map WData.int)] ∧ h.get? a = some { cls := .type "list", data := .seq vs.toArray } ∧ IntsAre vs ns ∧ ns.length ≤ n := by
 have hsh : WShape.hasAll [] args [.list .int] = true := (pre_splitW hpre).1
 have hc : l.pre.holds [] { args := args } = true := (pre_splitW hpre).2
 obtain ⟨d, r, rfl, h1, h2⟩ := hasAllW_cons hsh
 obtain rfl := hasAllW_nil h2
 obtain ⟨xs, rfl, h3⟩ := hasW_list h1
 obtain ⟨ns, rfl⟩ := items_int h3
 have hlen : ns.length ≤ n := by
  unfold OpenLaw.pre at hc
  have h4 : (WTm.not (.lt (.lit (.int (n : Int))) (.len (.arg 0)))).holds [] { args := [.list (ns.map .int)] } = true := by
   have h4 := (holds_andW hc).1
   rw [hn] at h4
   exact h4
  have h5 := condW_of h4 (w_not (w_lt w_lit (w_len_list (w_arg rfl))))
  rw [List.length_map] at h5
  refine Nat.le_of_not_lt fun q => ?_
  have q' : (n : Int) < ((ns.length : Nat) : Int) := by omega
  first
   | (rw [decide_eq_true q'] at h5; exact absurd h5 (by decide))
   | (simp at h5; omega)
 cases hwl with
 | cons w1 w2 =>
  cases w2
  cases w1 with
  | list ho hall => exact ⟨_, _, ns, rfl, rfl, ho, ints_of_wellAll ns _ hall, hlen⟩
theorem post_true (l : OpenLaw) (args : List WData) : l.row.toRowW.claim.post args (.bool true) args = true :=
 postW_of (r := l.row.toRowW) (X := (true == true))
  (show WShape.has [] (.bool true) .bool = true by first | rfl | decide | simp [WShape.has, WShape.arms, WShape.armsAll])
  (show (WTm.eq .res (.lit (.bool true))).value [] { args := args, res := some (.bool true), after := args } = some (.bool (true == true)) from w_eq_bool (w_res rfl) w_lit) rfl
theorem attach_call {l : OpenLaw} {n : Nat} {q : Program} {loose : List Str} {XP : (Str → Option Value) → Heap → Prop} {YP : World → Heap → Prop} {d : DefRec}
  (hn : l.most = some n) (hdf : d.params.defaults = [])
  (call : ∀ (w : World) (s₀ s₁ : Shared) (mg mb : Str → Option Value) (fa : Addr) (o : Obj) (pm cd doc : Value) (a : Addr) (vs : List Value) (ns : List Int),
   Ground q loose [] XP w s₀ mg mb s₁.heap → YP w s₁.heap →
   s₁.heap.get? fa = some o → o.data = .func (docDef d.name d.params d.body d.scope pm cd doc) → s₁.heap.CodeRec cd d.name → mg d.name = some (.ref fa) →
   s₁.heap.get? a = some { cls := .type "list", data := .seq vs.toArray } → IntsAre vs ns → ns.length ≤ n → s₁.gens = #[] →
   codeAny (model l.prog w) callerA (.call (.ref fa) ⟨[.ref a], []⟩) (fun r s' => r = .ok (.ret (.bool true)) ∧ OldK s₁.heap s'.heap ∧ s'.os = s₁.os ∧ AllBare s'.gens) s₁) :
  WalkO q loose XP YP l.row.toRowW d [] (fun f vs => PySem.call f vs) := by
 intro w s₀ s₁ mg mb G Y fa o pm cd doc dV kV ho hd hcd hD hmg hg args vals as hpre hlay hrd hwl hlo
 obtain rfl : dV = .none := Dflts.none hD hdf
 obtain rfl : kV = .none := Dflts.noKw hD
 obtain ⟨a, vs, ns, rfl, rfl, hobj, hints, hlen⟩ := script_of hn hpre hwl
 refine enter_call (codeAny_mono (call w s₀ s₁ mg mb fa o pm cd doc a vs ns G Y ho (fd_plain hd) hcd hmg hobj hints hlen hg) fun r s' hq => ?_)
 obtain ⟨rfl, h2, h3, h4⟩ := hq
 exact ⟨.inl ⟨.bool true, .bool true, [], rfl, fun _ => rfl, .bool true, post_true l _, fun _ => ⟨List.Pairwise.nil, fun _ hm => (nomatch hm)⟩⟩, h2, h3, h4⟩
section
variable {prog : Program} {w : World} {A : Around} {E : Value → Shared → Prop} {s : Shared} {K : Frag}
end
end Att
namespace L2
open PySem PySem.Spec PyProof.Rows
theorem vals_ints : ∀ {vs : List Value} {ns : List Int}, IntsAre vs ns → Vals (ns.map V.int) vs
 | _, _, .nil => .nil
 | _, _, .cons n t h => .cons ⟨t, rfl⟩ (vals_ints h)
def Only (H : Hp) : Prop := ∀ b, H b = none ∨ ∃ o xs, H b = some (.frz o (.lst xs))
theorem law_call {P : Program} {w : World} {K : PySem.W.Frag} {mg mb : Str → Option Value} {CX : CXT} {k : Nat} {fa a : Addr} {fd : FuncData} {x : Str} {sp : Sp} {s₁ : Shared} {vs : List Value} {ns : List Int}
  (KX : K.In s₁.heap) (hns : s₁.heap.Ns mainGlobals mg) (hb : s₁.heap.Ns builtinsNs mb) (hbb : ∀ x : Str, x ≠ "__name__" → mb x = bootBuiltins x) (hlim : s₁.heap.NoLimit) (hg : s₁.gens = #[])
  (ha : s₁.heap.get? a = some { cls := .type "list", data := .seq vs.toArray }) (hi : IntsAre vs ns) (hl : ns.length ≤ sizeLine) (hr : Room k callerA)
  (F : ∀ base : Heap, K.In base → base.Ns mainGlobals mg → FnOk P w K mg base CX k fa fd [x] sp) (hbind : ∀ (s : Shared) (u : Value), BindsTo s fd ⟨[u], []⟩ [(x, u)])
  (hsp : ∀ H : Hp, Only H → SqL K H a (ns.map V.int) → sp [.ref a] H (fun v _ => v = .bl true) fun _ _ _ => False)
  (hCX : ∀ H e s', CX [] H s₁ (fun _ _ _ => False) e s' → False) :
  codeAny (model P w) callerA (.call (.ref fa) ⟨[.ref a], []⟩) (fun r s' => r = .ok (.ret (.bool true)) ∧ OldK s₁.heap s'.heap ∧ s'.os = s₁.os ∧ AllBare s'.gens) s₁ := by
 have rv := vals_ints hi
 have lenV := hi.length
 have core : ∀ H : Hp, Only H → SqL K H a (ns.map V.int) → HOk P w H s₁.heap → (∀ b, H b ≠ none → b = a) → (H a ≠ none → K.lookup a = none) →
   codeAny (model P w) callerA (.call (.ref fa) ⟨[.ref a], []⟩) (fun r s' => r = .ok (.ret (.bool true)) ∧ OldK s₁.heap s'.heap ∧ s'.os = s₁.os ∧ AllBare s'.gens) s₁ := by
  intro H hO hS hok hA hK
  have base_of : ∀ {b : Addr} {o : Obj}, s₁.heap.get? b = some o → H b = none → (hidT s₁.heap H).get? b = some o := fun e n => hidT_get e n
  have noA : ∀ {b : Addr} {o : Obj} {es : Array DictEntry} {ep : Nat}, s₁.heap.get? b = some o → o.data = .dict es ep → H b = none := fun {b o es ep} e d => by
   cases q : H b with
   | none => rfl
   | some u =>
    have e' : b = a := hA b (by rw [q]; simp)
    subst e'
    rw [ha] at e; cases e
    have d' : Data.seq vs.toArray _ = Data.dict es ep := d
    cases d'
  have nsK : ∀ {b : Addr} {m : Str → Option Value}, s₁.heap.Ns b m → (hidT s₁.heap H).Ns b m := fun {b m} ⟨o, es, ep, e, d, r⟩ => ⟨o, es, ep, base_of e (noA e d), d, r⟩
  have hKb : K.In (hidT s₁.heap H) := fun b o e => base_of (KX b o e) (by
   cases q : H b with
   | none => rfl
   | some u =>
    have e' : b = a := hA b (by rw [q]; simp)
    subst e'
    rw [hK (by rw [q]; simp)] at e; cases e)
  have hM : Mod K mg (hidT s₁.heap H) := ⟨hKb, nsK hns, ⟨mb, nsK hb, hbb⟩, let ⟨mc, h1, h2⟩ := hlim; ⟨mc, nsK h1, h2⟩⟩
  have e0 : Env0 P w K mg (hidT s₁.heap H) callerA [] s₁ H := ⟨rfl, hM, fun b o e => of_hidT e, Nat.le_of_eq (hidT_size _ _), trivial, fun b hb => absurd (show b ∈ ([] : List Addr) from hb) (by simp), hok, .of_eq hg⟩
  refine codeAny_mono ((F _ hKb (nsK hns)).run callerA [] s₁ H ⟨[.ref a], []⟩ [.ref a] [.ref a] _ _ hr e0 (hbind s₁ (.ref a)) (.cons rfl .nil) (hsp H hO hS)) fun r s' h => ?_
  cases r with
  | error e => exact (hCX H e s' h).elim
  | ok fl =>
   cases fl with
   | next => exact False.elim h
   | brk => exact False.elim h
   | cont => exact False.elim h
   | ret u =>
    obtain ⟨v, H', os, bare, un, hok', r', q⟩ := h
    have q' : v = .bl true := q
    subst q'
    obtain rfl : u = Value.bool true := r'
    refine ⟨rfl, OldK.of_keep fun b o e => ?_, os, bare⟩
    cases q : H b with
    | none => exact un.keep b o e q (by intro z; exact absurd (show b ∈ ([] : List Addr) from z) (by simp)) (by simp)
    | some u =>
     rcases hO b with z | ⟨ob, xs, z⟩
     ·rw [q] at z; cases z
     ·have z2 := un.frzs b ob _ z
      obtain ⟨e1, _⟩ := hok b _ z
      obtain ⟨e2, _⟩ := hok' b _ z2
      rw [e] at e1; cases e1
      exact e2
 cases hk : K.lookup a with
 | some o =>
  have e := KX a o hk
  rw [ha] at e
  cases e
  refine core (fun _ => none) (fun _ => .inl rfl) (.inr ⟨_, vs.toArray, _, hk, rfl, rfl, rfl, by rw [List.size_toArray, lenV]; exact hl, by simpa using rv⟩) (fun b u z => by have z' : (none : Option HO) = some u := z; cases z') (fun b z => absurd rfl z) fun z => absurd rfl z
 | none =>
  refine core (fun b => if b = a then some (.frz { cls := .type "list", data := .seq vs.toArray } (.lst (ns.map V.int))) else none) (fun b => ?_) (.inl (.inr ⟨{ cls := .type "list", data := .seq vs.toArray }, if_pos rfl⟩)) (fun b u z => ?_) (fun b z => ?_) fun _ => hk
  ·by_cases hb : b = a
   ·exact .inr ⟨_, _, if_pos hb⟩
   ·exact .inl (if_neg hb)
  ·by_cases hb : b = a
   ·have z' := (if_pos hb).symm.trans z
    cases z'
    subst hb
    exact ⟨ha, by rw [List.length_map]; exact hl, vs, _, rv, ha⟩
   ·have z' := (if_neg hb).symm.trans z
    cases z'
  ·by_cases hb : b = a
   ·exact hb
   ·exact absurd (if_neg hb) z
end L2
namespace L2
open PySem PySem.Spec PyProof.Rows
theorem walk_of {l : PySem.W.OpenLaw} {n k : Nat} {q : Program} {loose : List Str} {XP : (Str → Option Value) → Heap → Prop} {YP : World → Heap → Prop} {d : DefRec} {K : Params → PySem.W.Frag} {CX : World → CXT} {sp : World → Sp} {x : Str}
  (hn : l.most = some n) (hn2 : n ≤ sizeLine) (hdf : d.params.defaults = []) (hr : Room k callerA)
  (hY : ∀ (w : World) (h : Heap), YP w h → (K w.params).In h)
  (F : ∀ (w : World) (mg : Str → Option Value) (fa : Addr) (h : Heap), (K w.params).In h → h.Ns mainGlobals mg → mg d.name = some (.ref fa) →
   ∃ fd : FuncData, (∀ (s : Shared) (u : Value), BindsTo s fd ⟨[u], []⟩ [(x, u)]) ∧
    ∀ base : Heap, (K w.params).In base → base.Ns mainGlobals mg → FnOk l.prog w (K w.params) mg base (CX w) k fa fd [x] (sp w))
  (hsp : ∀ (w : World) (H : Hp) (a : Addr) (ns : List Int), ns.length ≤ n → Only H → SqL (K w.params) H a (ns.map V.int) → sp w [.ref a] H (fun v _ => v = .bl true) fun _ _ _ => False)
  (hCX : ∀ (w : World) (H : Hp) (s : Shared) (e : Value) (s' : Shared), CX w [] H s (fun _ _ _ => False) e s' → False) :
  PySem.W.WalkO q loose XP YP l.row.toRowW d [] (fun f vs => PySem.call f vs) := by
 refine Att.attach_call hn hdf fun w s₀ s₁ mg mb fa o pm cd doc a vs ns G Y ho hd hcd hmg hobj hints hlen hg => ?_
 have KX := hY w _ Y
 obtain ⟨fd, hb, hF⟩ := F w mg fa _ KX G.T.g hmg
 exact law_call KX G.T.g G.T.b G.T.builtins G.T.nolimit hg hobj hints (Nat.le_trans hlen hn2) hr hF hb (fun H hO hS => hsp w H a ns hlen hO hS) fun H e s' => hCX w H s₁ e s'
end L2
/- THE LAST THEOREM (shape; LID, My.* are yours):
   My.Adr: a structure of the addresses that your layer names (classes, functions); My.Txt K t: a structure (Prop) of the equations over K;
   My.txt_mk : {K} {implicit addresses ..} (e1 : nsIn K mainGlobals "law" = some (some (.ref f))) (e2 : K.lookup f = some ⟨oc, od, .func (fnOf "law" "law" params body scope dV kV doc pm an cdv ct), sl⟩) (e3 : codeIn K cdv "law" = true) .. : ∃ t, My.Txt K t
set_option maxRecDepth 100000 in
set_option maxHeartbeats 0 in
theorem PySem.Challenge.cw_LID_holds : PySem.Challenge.rw_LID.Holds := by
 w_on; o_law; k_head; (case hw => w_witness2)
 k_fill
 refine L2.walk_of (l := PySem.Challenge.rw_LID) (n := 63) (k := 40) (x := "script") (CX := fun w => ..) (sp := fun _ => My.sp_law) rfl (by decide) rfl ⟨rfl, by decide, by decide⟩ (fun w h Y => PySem.W.kIn_of Y) ?F ?S ?C
 case F =>
  intro w mg fa h KX G hmg
  have T : ∃ t, My.Txt (L2.KOf KX) t := by
   dsimp only [L2.KOf]                          -- K must stand as «<heap const> w.params» for k_is
   refine' My.txt_mk ?e1 ?e2 ?e3 ..
   (case e1 => PySem.W.k_is)                    -- in the order: a name -> its address -> its object -> its parts
   (case e2 => PySem.W.k_is)
   ..
  obtain ⟨t, T⟩ := T
  have e0 := hmg.symm.trans (PySem.W.mg_of KX G T.law)
  cases e0                                       -- fa is the law's own address
  exact ⟨_, fun s u => .of_eq rfl, fun base kb nb => My.law_fn T kb nb⟩     -- if «.of_eq rfl» comes too early: refine' ⟨_, ?b, fun base kb nb => My.law_fn T kb nb⟩; exact fun s u => .of_eq rfl
 case S => exact fun w H a ns hl hO hS => ..
 case C => exact ..
(the tactic k_is has no namespace: write k_is) -/
namespace L2
open PySem PySem.Spec PyProof.Rows
def inClass (s : Stmt) (j : Nat) : Stmt := match s with
 | .ClassDef _ _ _ body _ _ _ _ _ _ _ => body.getD j (.Pass ⟨0, 0, 0, 0⟩)
 | _ => .Pass ⟨0, 0, 0, 0⟩
def defArgs (s : Stmt) : Arguments := match s with
 | .FunctionDef _ a _ _ _ _ _ _ _ _ => a
 | _ => { posonlyargs := [], args := [], vararg := none, kwonlyargs := [], kw_defaults := [], kwarg := none, defaults := [] }
def defBody (s : Stmt) : List Stmt := match s with
 | .FunctionDef _ _ b _ _ _ _ _ _ _ => b
 | _ => []
def defScope (s : Stmt) : Scope := match s with
 | .FunctionDef _ _ _ _ _ _ sc _ _ _ => sc
 | _ => { kind := .function, names := [], isGenerator := false, isCoroutine := false }
abbrev CX0 : CXT := fun _ _ _ _ _ _ => False
abbrev E0 : XK := fun _ _ _ => False
theorem pass0 {X : Cx} : Passes CX0 X E0 := fun _ _ _ _ _ _ _ h => h.elim
structure Fun (K : PySem.W.Frag) (x qual : Str) (st : Stmt) (f : Addr) (fd : FuncData) : Prop where
 ex : ∃ (oc : Value) (od : Option Addr) (kV doc pm : Value) (an : Option Addr) (cdv ct : Value) (osl : Array (Option Value)),
  fd = PySem.W.fnOf x qual (defArgs st) (defBody st) (defScope st) .none kV doc pm an cdv ct ∧ K.lookup f = some ⟨oc, od, .func fd, osl⟩ ∧ PySem.W.codeIn K cdv qual = true
 kp : PySem.W.keepIn K (.ref f) = true
section
variable {P : Program} {w : World} {K : PySem.W.Frag} {mg : Str → Option Value} {base : Heap}
theorem Fun.ok {x qual : Str} {st : Stmt} {f : Addr} {fd : FuncData} {N ps : List Str} {k : Nat} {sp : Sp} (F : Fun K x qual st f fd) (S : FnScope N ps (defScope st)) (len : ∀ vs H Q E, sp vs H Q E → vs.length = ps.length)
  (hbody : ∀ (cdv : Value) (A : Around) (outer : List Env) (s : Shared) (H : Hp) (vs : List V) (Q : VK) (E : XK), Room k (A.deeper (envOfC qual (defScope st) s.heap.objs.size f cdv)) → sp vs H Q E →
   ∃ t, PSs (cxOf CX0 P w K mg base N qual (defScope st) f cdv A outer s H E).nox (defBody st) t ∧ t { nx := fun _ H' => Q .non H', rt := Q } (start N vs) H) : FnOk P w K mg base CX0 (k + 1) f fd ps sp := by
 obtain ⟨oc, od, kV, doc, pm, an, cdv, ct, osl, rfl, lk, hcd⟩ := F.ex
 refine fn_of lk hcd S len fun A outer s H vs Q E hr hsp => ?_
 obtain ⟨t, h, q⟩ := hbody cdv A outer s H vs Q E hr hsp
 exact ⟨t, h.nox, q⟩
theorem Fun.binds {x qual : Str} {st : Stmt} {f : Addr} {fd : FuncData} {ps : List Str} (F : Fun K x qual st f fd)
  (h : ∀ (kV doc pm : Value) (an : Option Addr) (cdv ct : Value) (us : List Value), us.length = ps.length → bindArgs (PySem.W.fnOf x qual (defArgs st) (defBody st) (defScope st) .none kV doc pm an cdv ct) ⟨us, []⟩ = pure (ps.zip us)) : Binds K fd ps [] := by
 obtain ⟨oc, od, kV, doc, pm, an, cdv, ct, osl, rfl, lk, hcd⟩ := F.ex
 exact .all (h kV doc pm an cdv ct)
theorem fun_mk {x qual : Str} {st : Stmt} {f : Addr} {oc : Value} {od an : Option Addr} {osl : Array (Option Value)} {kV doc pm cdv ct : Value} (l : K.lookup f = some ⟨oc, od, .func (PySem.W.fnOf x qual (defArgs st) (defBody st) (defScope st) .none kV doc pm an cdv ct), osl⟩)
  (c : PySem.W.codeIn K cdv qual = true) (k : PySem.W.keepIn K (.ref f) = true) : Fun K x qual st f (PySem.W.fnOf x qual (defArgs st) (defBody st) (defScope st) .none kV doc pm an cdv ct) := ⟨⟨oc, od, kV, doc, pm, an, cdv, ct, osl, rfl, l, c⟩, k⟩
end
theorem hu_of {A : Around} {k : Nat} (hr : Room k A) : A.units + 1 < cLine := Nat.lt_of_le_of_lt (Nat.add_le_add_left (by decide : 1 ≤ 64) _) hr.units
section
variable {X : Cx}
theorem pv (i : Nat) {x : Str} {pos : Pos} (hN : X.N[i]? = some x := by rfl) (hv : Vis X.env.scope x := by first | exact Or.inl rfl | exact Or.inr (Or.inl rfl) | exact Or.inr (Or.inr rfl)) (hd : (x == ("__debug__" : Str)) = false := by decide)
  (hcd : (x == ("__classdict__" : Str)) = false := by decide) : PE X (.Name x pos) (tVar i) := pe_var hN hv hd hcd
end
theorem iteF {A B : Prop} (h : B) : if false = true then A else B := by
 rw [if_neg Bool.false_ne_true]
 exact h
theorem iteT {A B : Prop} (h : A) : if true = true then A else B := by
 rw [if_pos rfl]
 exact h
theorem ite2 {c A B : Prop} [Decidable c] (h1 : c → A) (h2 : ¬ c → B) : if c then A else B := by
 by_cases h : c
 ·rw [if_pos h]
  exact h1 h
 ·rw [if_neg h]
  exact h2 h
theorem iteNS {c A B : Prop} [Decidable c] (hc : c) (h : B) : if (!decide c) = true then A else B := by
 rw [decide_eq_true hc]
 exact iteF h
def Same (H H' : Hp) : Prop := ∀ b o, H b = some o → H' b = some o
theorem Same.refl (H : Hp) : Same H H := fun _ _ h => h
theorem Same.trans {H H1 H2 : Hp} (a : Same H H1) (b : Same H1 H2) : Same H H2 := fun c o h => b c o (a c o h)
theorem Same.free {H H' : Hp} (e : Same H H') {l : Addr} (h : H' l = Option.none) : H l = Option.none := by
 cases q : H l with
 | none => rfl
 | some o =>
  rw [e l o q] at h
  cases h
theorem Same.seq {K : PySem.W.Frag} {H H' : Hp} {a : Addr} {xs : List V} (e : Same H H') (h : SqL K H a xs) : SqL K H' a xs := by
 rcases h with (h | ⟨o, h⟩) | h
 ·exact .inl (.inl (e _ _ h))
 ·exact .inl (.inr ⟨o, e _ _ h⟩)
 ·exact .inr h
end L2
namespace L2
open PySem PySem.Spec PyProof.Rows
def Sm (i : Int) : Prop := i.natAbs.log2 < 4000
theorem Sm.of_lt {i : Int} (h : i.natAbs < 2 ^ 4000) : Sm i := by
 unfold Sm
 by_cases h0 : i.natAbs = 0
 ·rw [h0]
  exact Nat.lt_of_le_of_lt (Nat.le_of_eq (by decide : Nat.log2 0 = 0)) (by decide)
 ·exact (Nat.log2_lt h0).mpr h
theorem Sm.lt {i : Int} (h : Sm i) : i.natAbs < 2 ^ 4000 := by
 unfold Sm at h
 by_cases h0 : i.natAbs = 0
 ·rw [h0]
  exact Nat.two_pow_pos _
 ·exact (Nat.log2_lt h0).mp h
theorem Sm.of_bits {i : Int} {n : Nat} (h : i.natAbs < 2 ^ n) (hn : n ≤ 4000) : Sm i :=
 .of_lt (Nat.lt_of_lt_of_le h (Nat.pow_le_pow_right (by decide) hn))
theorem Sm.bits {i : Int} (h : Sm i) : Builtin.Int.intBits i ≤ 2 ^ 20 := by
 unfold Builtin.Int.intBits
 have : (4000 : Nat) ≤ 2 ^ 20 := by decide
 have h' : i.natAbs.log2 < 4000 := h
 split <;> omega
section
variable {X : Cx}
def CMulS (i j : Int) : Prop := Sm i ∧ Sm j
def CDivS (_ j : Int) : Prop := 0 < j ∧ Sm j
theorem op_mulS : OpR X (binaryOp .Mult) (rI CMulS fun i j => .int (i * j)) := opI fun _ _ _ _ _ _ _ hc q => mul_int q (IntMulOk.of_bits hc.1.bits hc.2.bits)
theorem op_fdivS : OpR X (binaryOp .FloorDiv) (rI CDivS fun i j => .int (i / j)) := opI fun i j _ _ _ _ _ hc q => by
 have e : Int.fdiv i j = i / j := Int.fdiv_eq_ediv_of_nonneg i (Int.le_of_lt hc.1)
 refine floordiv_int (by have := hc.1; omega) ?_ (.inl (PyProof.noPylong_of_log2 (Nat.lt_trans hc.2 (by decide))))
 rw [e]
 exact q
inductive TyO (K : PySem.W.Frag) (H : Hp) : V → Value → Prop where
 | of {x : V} {t : Value} (h : TyOf K H x t) : TyO K H x t
 | sqT {a : Addr} {xs : List V} (h : SqT K H a xs) : TyO K H (.ref a) (.type "tuple")
 | sqL {a : Addr} {xs : List V} (h : SqL K H a xs) : TyO K H (.ref a) (.type "list")
def rIsi (K : PySem.W.Frag) : List V → Hp → VK → Prop := fun xs H Q => match xs with
 | [x, .ty T] => ∃ t b, TyO K H x t ∧ PySem.W.kitOne K t (.type T) = some b ∧ Q (.bl b) H
 | _ => False
theorem call_isi : CallR X (.builtin "isinstance") (rIsi X.K) := by
 intro pins s σ H xs us Q I r h
 unfold rIsi at h
 split at h
 ·rename_i x T
  obtain ⟨t, b, ty, e, q⟩ := h
  obtain ⟨u, v, rfl, ru, rv⟩ := r.two
  cases (show v = Value.type T from rv)
  have fin : ∀ tk, EP X pins σ Q (.bool b) { s with toks := tk } := fun tk => ⟨.bl b, H, I.tok tk, rfl, q⟩
  cases ty with
  | of h => exact isinst_ok I ru h e fin
  | @sqT a ys h =>
   cases (show u = Value.ref a from ru)
   obtain ⟨its, _, p, _⟩ := I.tuple h
   obtain ⟨o, h1, h2, _⟩ := p
   exact PySem.W.kia_one PySem.W.kitx_tuple I.kIn ⟨o, h1, h2⟩ e (fun z => nomatch z) fin
  | @sqL a ys h =>
   cases (show u = Value.ref a from ru)
   obtain ⟨its, _, p, _⟩ := I.list h
   obtain ⟨o, n, h1, h2, _⟩ := p
   exact PySem.W.kia_one PySem.W.kitx_list I.kIn ⟨o, h1, h2⟩ e (fun z => nomatch z) fin
 ·exact h.elim
def tIsi (K : PySem.W.Frag) (T : String) (te : TE) : TE := tCB (rIsi K) (tCons te (tCons (tC (.ty T)) tNil))
theorem pe_isi {e : Expr} {te : TE} {T : String} {tx : Str} {p p2 pos : Pos} (he : PE X e te) (hg : Gl X "isinstance") (hm : X.mg "isinstance" = none) (hg2 : Gl X tx) (hm2 : X.mg tx = none)
  (hv : bootBuiltins tx = some (.type T)) (hn : tx ≠ "__name__" := by decide) (hd : (tx == ("__debug__" : Str)) = false := by decide)
  (h1 : starEach [e, .Name tx p2] X.env = (false, eval e X.env) :: starEach [.Name tx p2] X.env := by rfl) :
  PE X (.Call (.Name "isinstance" p) [e, .Name tx p2] [] pos) (tIsi X.K T te) :=
 pe_callB (call_isi (X := X)) hg hm PyProof.Rows.boot_isinstance (pa_cons he (pa_cons (pe_bltn (v := .ty T) hg2 hm2 hv rfl hn hd) pa_nil) h1) (he := h1)
theorem kit_int (K : PySem.W.Frag) : PySem.W.kitOne K (.type "int") (.type "int") = some true := rfl
theorem kit_int_bool (K : PySem.W.Frag) : PySem.W.kitOne K (.type "int") (.type "bool") = some false := by kernel_rfl
theorem kit_tuple (K : PySem.W.Frag) : PySem.W.kitOne K (.type "tuple") (.type "tuple") = some true := rfl
theorem kit_list (K : PySem.W.Frag) : PySem.W.kitOne K (.type "list") (.type "list") = some true := rfl
end
def rpInt (_ : Hp) (x : V) (i : Int) : Prop := x = .int i
def rpPair {α β : Type} (K : PySem.W.Frag) (R : Hp → V → α → Prop) (S : Hp → V → β → Prop) (H : Hp) (x : V) (d : α × β) : Prop := ∃ p y z, x = .ref p ∧ SqT K H p [y, z] ∧ R H y d.1 ∧ S H z d.2
def rpLst {α : Type} (K : PySem.W.Frag) (R : Hp → V → α → Prop) (H : Hp) (x : V) (ds : List α) : Prop := ∃ p ys, x = .ref p ∧ SqL K H p ys ∧ Paired (R H) ys ds
structure RpE {α : Type} [DecidableEq α] (K : PySem.W.Frag) (R : Hp → V → α → Prop) (d : Nat) : Prop where
 inj : ∀ {X : Cx} {pins : List (Addr × Obj)} {σ : St} {H : Hp} {s : Shared} {x : V} {a b : α}, X.K = K → Inv X pins σ H s → R H x a → R H x b → a = b
 eq : ∀ {X : Cx} {pins : List (Addr × Obj)} {σ : St} {H : Hp} {s : Shared} {A : Around} {x y : V} {u v : Value} {a b : α}, X.K = K → Inv X pins σ H s → A.units + d < cLine → R H x a → R H y b → RelV x u → RelV y v → SeqAt.EqAt A s u v (decide (a = b))
theorem Paired.get {α β : Type} {F : α → β → Prop} : ∀ {xs : List α} {ys : List β}, Paired F xs ys → ∀ (i : Nat) (x : α) (y : β), xs[i]? = some x → ys[i]? = some y → F x y
 | _, _, .nil, i, x, y, h, _ => by simp at h
 | _, _, .cons r _, 0, x, y, h1, h2 => by
  simp at h1 h2
  subst h1 h2
  exact r
 | _, _, .cons _ t, i + 1, x, y, h1, h2 => Paired.get t i x y (by simpa using h1) (by simpa using h2)
theorem rpe_int {K : PySem.W.Frag} : RpE K rpInt 0 where
 inj := fun _ _ h1 h2 => by
  have h : V.int _ = V.int _ := h1.symm.trans h2
  exact V.int.inj h
 eq := fun {X pins σ H s A x y u v a b} _ _ _ h1 h2 r1 r2 => by
  cases (show x = .int a from h1)
  cases (show y = .int b from h2)
  obtain ⟨t, rfl⟩ := (show ∃ t, u = Value.int a t from r1)
  obtain ⟨t', rfl⟩ := (show ∃ t, v = Value.int b t from r2)
  have e : (a == b) = decide (a = b) := Bool.beq_eq_decide_eq a b
  rw [← e]
  exact SeqAt.EqAt.int_int a t b t'
section
variable {α β : Type} [DecidableEq α] [DecidableEq β] {K : PySem.W.Frag} {R : Hp → V → α → Prop} {S : Hp → V → β → Prop} {d : Nat} {X : Cx} {pins : List (Addr × Obj)} {σ : St} {H : Hp} {s : Shared} {A : Around}
theorem in1_units (A : Around) : A.in1.units = A.units + 1 := rfl
theorem pair_items (hR : RpE K R d) (hS : RpE K S d) (hK : X.K = K) (I : Inv X pins σ H s) (hu : A.units + (d + 1) < cLine) {y z y' z' : V} {its its' : List Value} {c c' : α × β} (r : Vals [y, z] its) (r' : Vals [y', z'] its')
  (h1 : R H y c.1) (h2 : S H z c.2) (h1' : R H y' c'.1) (h2' : S H z' c'.2) :
  ∃ e : Nat → Bool, (∀ j (q1 : j < its.toArray.size) (q2 : j < its'.toArray.size), SeqAt.EqAt A.in1 s its.toArray[j] its'.toArray[j] (e j)) ∧ ((List.range (min its.toArray.size its'.toArray.size)).all e && its.toArray.size == its'.toArray.size) = decide (c = c') := by
 obtain ⟨u1, u2, rfl, q1, q2⟩ := r.two
 obtain ⟨u1', u2', rfl, q1', q2'⟩ := r'.two
 have hu' : A.in1.units + d < cLine := by rw [in1_units]; omega
 have e1 := hR.eq (A := A.in1) hK I hu' h1 h1' q1 q1'
 have e2 := hS.eq (A := A.in1) hK I hu' h2 h2' q2 q2'
 refine ⟨fun j => match j with | 0 => decide (c.1 = c'.1) | _ => decide (c.2 = c'.2), fun j z1 z2 => ?_, ?_⟩
 ·match j, z1, z2 with
  | 0, _, _ => exact e1
  | 1, _, _ => exact e2
 ·obtain ⟨a, b⟩ := c
  obtain ⟨a', b'⟩ := c'
  show (((List.range 2).all _) && true) = _
  rw [show List.range 2 = [0, 1] from rfl, Bool.and_true]
  simp only [List.all_cons, List.all_nil, Bool.and_true, Prod.mk.injEq]
  exact (Bool.decide_and _ _).symm
theorem rpe_pair (hR : RpE K R d) (hS : RpE K S d) : RpE K (rpPair K R S) (d + 1) where
 inj := fun {X pins σ H s x c c'} hK I h h' => by
  obtain ⟨p, y, z, rfl, q, h1, h2⟩ := h
  obtain ⟨p', y', z', e, q', h1', h2'⟩ := h'
  cases e
  subst hK
  have e := I.tuple_inj q q'
  injection e with e1 e2
  injection e2 with e2 _
  subst e1 e2
  exact Prod.ext (hR.inj rfl I h1 h1') (hS.inj rfl I h2 h2')
 eq := fun {X pins σ H s A x y u v c c'} hK I hu h h' r r' => by
  obtain ⟨p, y, z, rfl, q, h1, h2⟩ := h
  obtain ⟨p', y', z', rfl, q', h1', h2'⟩ := h'
  cases (show u = Value.ref p from r)
  cases (show v = Value.ref p' from r')
  by_cases hp : p = p'
  ·subst hp
   subst hK
   have e := I.tuple_inj q q'
   injection e with e1 e2
   injection e2 with e2 _
   subst e1 e2
   have e : c = c' := Prod.ext (hR.inj rfl I h1 h1') (hS.inj rfl I h2 h2')
   rw [decide_eq_true e]
   exact SeqAt.EqAt.same _
  ·have q0 : SqT X.K H p [y, z] := hK ▸ q
   have q0' : SqT X.K H p' [y', z'] := hK ▸ q'
   obtain ⟨its, rr, pt, _⟩ := I.tuple q0
   obtain ⟨its', rr', pt', _⟩ := I.tuple q0'
   obtain ⟨e, he, ee⟩ := pair_items hR hS hK I hu rr rr' h1 h2 h1' h2'
   rw [← ee]
   exact SeqAt.EqAt.of_refs hp (SeqAt.RcAt.tuples pt pt' (by omega) he)
theorem lst_items (hR : RpE K R d) (hK : X.K = K) (I : Inv X pins σ H s) (hu : A.units + (d + 1) < cLine) {ys ys' : List V} {its its' : List Value} {ds ds' : List α} (r : Vals ys its) (r' : Vals ys' its')
  (h : Paired (R H) ys ds) (h' : Paired (R H) ys' ds') :
  ∀ j (q1 : j < its.toArray.size) (q2 : j < its'.toArray.size), SeqAt.EqAt A.in1 s its.toArray[j] its'.toArray[j] (decide (ds[j]? = ds'[j]?)) := by
 intro j q1 q2
 rw [List.size_toArray] at q1 q2
 have hu' : A.in1.units + d < cLine := by rw [in1_units]; omega
 have l1 := r.length
 have l2 := h.length
 have l1' := r'.length
 have l2' := h'.length
 have g1 : ys[j]? = some (ys[j]'(by omega)) := List.getElem?_eq_getElem _
 have g2 : ds[j]? = some (ds[j]'(by omega)) := List.getElem?_eq_getElem _
 have g1' : ys'[j]? = some (ys'[j]'(by omega)) := List.getElem?_eq_getElem _
 have g2' : ds'[j]? = some (ds'[j]'(by omega)) := List.getElem?_eq_getElem _
 obtain ⟨u, gu, ru⟩ := r.get g1
 obtain ⟨u', gu', ru'⟩ := r'.get g1'
 have a1 := Paired.get h j _ _ g1 g2
 have a1' := Paired.get h' j _ _ g1' g2'
 have eu : its.toArray[j] = u := by
  rw [List.getElem_toArray]
  exact Option.some.inj ((List.getElem?_eq_getElem q1).symm.trans gu)
 have eu' : its'.toArray[j] = u' := by
  rw [List.getElem_toArray]
  exact Option.some.inj ((List.getElem?_eq_getElem q2).symm.trans gu')
 rw [eu, eu', g2, g2']
 have e := hR.eq (A := A.in1) hK I hu' a1 a1' ru ru'
 have ed : decide (some (ds[j]'(by omega)) = some (ds'[j]'(by omega))) = decide ((ds[j]'(by omega)) = (ds'[j]'(by omega))) := by
  simp only [Option.some.injEq]
 rw [ed]
 exact e
theorem all_same {ds ds' : List α} (hl : ds.length = ds'.length) : (List.range ds.length).all (fun j => decide (ds[j]? = ds'[j]?)) = decide (ds = ds') := by
 by_cases h : ds = ds'
 ·subst h
  simp
 ·rw [decide_eq_false h]
  cases e : (List.range ds.length).all (fun j => decide (ds[j]? = ds'[j]?)) with
  | false => rfl
  | true =>
   exfalso
   refine h (List.ext_getElem? fun j => ?_)
   by_cases hj : j < ds.length
   ·exact of_decide_eq_true (List.all_eq_true.mp e j (List.mem_range.mpr hj))
   ·rw [List.getElem?_eq_none (by omega), List.getElem?_eq_none (by omega)]
theorem rc_lst (hR : RpE K R d) (hK : X.K = K) (I : Inv X pins σ H s) (hu : A.units + (d + 1) < cLine) {p p' : Addr} {ys ys' : List V} {ds ds' : List α} (q : SqL K H p ys) (q' : SqL K H p' ys')
  (h : Paired (R H) ys ds) (h' : Paired (R H) ys' ds') : SeqAt.RcAt A s (.ref p) (.ref p') (decide (ds = ds')) ∧ SeqAt.RcNeAt A s (.ref p) (.ref p') (!decide (ds = ds')) := by
 have q0 : SqL X.K H p ys := hK ▸ q
 have q0' : SqL X.K H p' ys' := hK ▸ q'
 obtain ⟨its, rr, pt, _⟩ := I.list q0
 obtain ⟨its', rr', pt', _⟩ := I.list q0'
 have l1 := rr.length
 have l2 := h.length
 have l1' := rr'.length
 have l2' := h'.length
 by_cases hl : ds.length = ds'.length
 ·have hs : its.toArray.size = its'.toArray.size := by simp only [List.size_toArray]; omega
  have en : its.toArray.size = ds.length := by simp only [List.size_toArray]; omega
  have it := lst_items hR hK I hu rr rr' h h'
  have ea := all_same hl
  refine ⟨?_, ?_⟩
  ·rw [← ea, ← en]
   exact SeqAt.RcAt.lists pt.isList pt'.isList hs (by omega) it
  ·rw [← ea, ← en]
   exact SeqAt.RcNeAt.lists pt.isList pt'.isList hs (by omega) it
 ·have hne : ds ≠ ds' := fun e => hl (by rw [e])
  have hs : (its.toArray.size != its'.toArray.size) = true := by
   simp only [List.size_toArray]
   exact bne_iff_ne.mpr (by omega)
  rw [decide_eq_false hne]
  exact ⟨SeqAt.RcAt.lists_lengths pt.isList pt'.isList hs (by omega), SeqAt.RcNeAt.lists_lengths pt.isList pt'.isList hs (by omega)⟩
end
def rEqP {α β : Type} [DecidableEq α] [DecidableEq β] (K : PySem.W.Frag) (R : Hp → V → α → Prop) (S : Hp → V → β → Prop) : R2 := fun x y H Q => ∃ a b, rpPair K R S H x a ∧ rpPair K R S H y b ∧ Q (.bl (decide (a = b))) H
def rNeP {α β : Type} [DecidableEq α] [DecidableEq β] (K : PySem.W.Frag) (R : Hp → V → α → Prop) (S : Hp → V → β → Prop) : R2 := fun x y H Q => ∃ a b, rpPair K R S H x a ∧ rpPair K R S H y b ∧ Q (.bl (!decide (a = b))) H
def rEqL {α : Type} [DecidableEq α] (K : PySem.W.Frag) (R : Hp → V → α → Prop) : R2 := fun x y H Q => ∃ a b, rpLst K R H x a ∧ rpLst K R H y b ∧ Q (.bl (decide (a = b))) H
def rNeL {α : Type} [DecidableEq α] (K : PySem.W.Frag) (R : Hp → V → α → Prop) : R2 := fun x y H Q => ∃ a b, rpLst K R H x a ∧ rpLst K R H y b ∧ Q (.bl (!decide (a = b))) H
section
variable {α β : Type} [DecidableEq α] [DecidableEq β] {R : Hp → V → α → Prop} {S : Hp → V → β → Prop} {d : Nat} {X : Cx}
theorem op_eqP (hR : RpE X.K R d) (hS : RpE X.K S d) (hu : X.A.units + (d + 1) < cLine) : OpR X (compareOp .Eq) (rEqP X.K R S) := by
 intro pins s σ H x y v u Q I rx ry h
 obtain ⟨c, c', ⟨p, y1, z1, rfl, q, h1, h2⟩, ⟨p', y2, z2, rfl, q', h1', h2'⟩, k⟩ := h
 cases (show v = Value.ref p from rx)
 cases (show u = Value.ref p' from ry)
 obtain ⟨its, rr, pt, _⟩ := I.tuple q
 obtain ⟨its', rr', pt', _⟩ := I.tuple q'
 obtain ⟨e, he, ee⟩ := pair_items hR hS rfl I hu rr rr' h1 h2 h1' h2'
 refine SeqAt.eq_tupleAt pt pt' (by omega) he ⟨.bl _, H, I, rfl, ?_⟩
 rw [ee]
 exact k
theorem op_neP (hR : RpE X.K R d) (hS : RpE X.K S d) (hu : X.A.units + (d + 1) < cLine) : OpR X (compareOp .NotEq) (rNeP X.K R S) := by
 intro pins s σ H x y v u Q I rx ry h
 obtain ⟨c, c', ⟨p, y1, z1, rfl, q, h1, h2⟩, ⟨p', y2, z2, rfl, q', h1', h2'⟩, k⟩ := h
 cases (show v = Value.ref p from rx)
 cases (show u = Value.ref p' from ry)
 obtain ⟨its, rr, pt, _⟩ := I.tuple q
 obtain ⟨its', rr', pt', _⟩ := I.tuple q'
 obtain ⟨e, he, ee⟩ := pair_items hR hS rfl I hu rr rr' h1 h2 h1' h2'
 refine SeqAt.RcNeAt.tuples pt pt' (by omega) he X.prog X.w X.xe _ ⟨.bl _, H, I, rfl, ?_⟩
 rw [ee]
 exact k
theorem op_eqL (hR : RpE X.K R d) (hu : X.A.units + (d + 1) < cLine) : OpR X (compareOp .Eq) (rEqL X.K R) := by
 intro pins s σ H x y v u Q I rx ry h
 obtain ⟨c, c', ⟨p, y1, rfl, q, h1⟩, ⟨p', y2, rfl, q', h1'⟩, k⟩ := h
 cases (show v = Value.ref p from rx)
 cases (show u = Value.ref p' from ry)
 exact (rc_lst hR rfl I hu q q' h1 h1').1 X.prog X.w X.xe _ ⟨.bl _, H, I, rfl, k⟩
theorem op_neL (hR : RpE X.K R d) (hu : X.A.units + (d + 1) < cLine) : OpR X (compareOp .NotEq) (rNeL X.K R) := by
 intro pins s σ H x y v u Q I rx ry h
 obtain ⟨c, c', ⟨p, y1, rfl, q, h1⟩, ⟨p', y2, rfl, q', h1'⟩, k⟩ := h
 cases (show v = Value.ref p from rx)
 cases (show u = Value.ref p' from ry)
 exact (rc_lst hR rfl I hu q q' h1 h1').2 X.prog X.w X.xe _ ⟨.bl _, H, I, rfl, k⟩
theorem any_range (bs : List Bool) : (List.range bs.length).any (fun i => bs.getD i false) = bs.any id := by
 rw [Bool.eq_iff_iff, List.any_eq_true, List.any_eq_true]
 constructor
 ·rintro ⟨i, hi, e⟩
  have hi := List.mem_range.mp hi
  rw [List.getD_eq_getElem?_getD, List.getElem?_eq_getElem hi] at e
  exact ⟨bs[i], List.getElem_mem hi, e⟩
 ·rintro ⟨b, hb, e⟩
  obtain ⟨i, hi, rfl⟩ := List.mem_iff_getElem.mp hb
  refine ⟨i, List.mem_range.mpr hi, ?_⟩
  rw [List.getD_eq_getElem?_getD, List.getElem?_eq_getElem hi]
  exact e
theorem call_any (hc : X.calm = true) : CallR X (.builtin "any") (fun xs H Q => ∃ (p : Addr) (bs : List Bool), xs = [.ref p] ∧ SqL X.K H p (bs.map V.bl) ∧ Q (.bl (bs.any id)) H) := by
 intro pins s σ H xs us Q I r h
 obtain ⟨p, bs, rfl, hq, q⟩ := h
 obtain ⟨u, rfl, rx⟩ := r.one
 cases (show u = Value.ref p from rx)
 obtain ⟨its, rv, pl, hz⟩ := I.list hq
 have hl := rv.length
 rw [List.length_map] at hl
 refine call_any_walk (wpAny_pyIter_list pl.isList ?_)
 have hp : p ≠ s.heap.objs.size := fun e => by
  obtain ⟨o, n, e1, _⟩ := pl
  exact absurd (Heap.lt_size e1) (by rw [e]; exact Nat.lt_irrefl _)
 have old : ∀ b o, s.heap.get? b = some o → (s.heap.push { cls := .type "list_iterator", data := .fields #[.ref p, .int 0 0] }).get? b = some o := fun b o e => Heap.get?_push_of_some _ e
 refine ⟨s.heap.objs.size, [s.heap.objs.size, p], [s.heap.objs.size], its.toArray.size, _, _, fun i => bs.getD i false, rfl,
  Walks.list (A := X.A.in1) (I.ok.hd hc) s.heap.objs.size p hp its.toArray, ⟨⟨_, Heap.get?_push_size _ rfl, rfl, rfl⟩, pl.isList.at fun o e => old p o e⟩, ?_, fun h' tk hk => ?_⟩
 ·intro i v s2 Q2 E2 hv hq2
  have hv' : its[i]? = some v := by simpa using hv
  have hi : i < its.length := (List.getElem?_eq_some_iff.mp hv').1
  have g : (bs.map V.bl)[i]? = some (V.bl (bs.getD i false)) := by
   have hb : i < bs.length := by omega
   rw [List.getElem?_map, List.getD_eq_getElem?_getD, List.getElem?_eq_getElem hb]
   rfl
  obtain ⟨u, gu, ru⟩ := rv.get g
  rw [hv'] at gu
  cases gu
  cases (show v = Value.bool _ from ru)
  exact wpAny_truthy_bool hq2
 ·have en : (List.range its.toArray.size).any (fun i => bs.getD i false) = bs.any id := by
   rw [List.size_toArray, ← hl]
   exact any_range bs
  rw [en]
  refine ⟨.bl _, H, I.kept (h' := h') (t' := tk) (fun b o e => hk b o (fun z => ?_) (old b o e)), rfl, q⟩
  have z' : b = s.heap.objs.size := by simpa using z
  exact absurd (Heap.lt_size e) (by rw [z']; exact Nat.lt_irrefl _)
end
end L2
namespace L2
open PySem PySem.Spec PyProof.Rows
section
variable {prog : Program} {w : World} {A : Around} {R : Result → Shared → Prop} {s : Shared}
theorem compLoop_any {elt target iter : Expr} {ifs : List Expr} {scope : Scope} {pos : Pos} {it acc : Value} {env : Env} (I : Nat → Shared → Prop)
  (turn : ∀ n s, I n s → wpAny (model prog w) A (pyNext it) (fun r s₁ => match r with
   | none => R (.ok .next) s₁
   | some v => wpAny (model prog w) A (letOwnedTupleGo target it v) (fun _ s₁' => wpAny (model prog w) A (assign target env v) (fun _ s₂ =>
     wpAny (model prog w) A (forIn ifs true fun c r => if r = true then do let ok ← isTrue c env (eval c env); pure (ForInStep.yield ok) else pure (ForInStep.yield r)) (fun ok s₃ =>
      if ok = true then wpAny (model prog w) A (eval elt env) (fun x s₄ =>
       wpAny (model prog w) A (call (.builtin "list.append") [acc, x]) (fun _ s₅ => ∃ m, m < n ∧ I m s₅) (fun _ _ => False) s₄) (fun _ _ => False) s₃
      else ∃ m, m < n ∧ I m s₃) (fun _ _ => False) s₂) (fun _ _ => False) s₁') (fun _ _ => False) s₁) (fun _ _ => False) s)
  (n : Nat) (h : I n s) :
  codeAny (model prog w) A (.compLoop (.ListComp elt [⟨target, iter, ifs, 0⟩] scope pos) 0 it acc env) R s := by
 refine codeAny_loop rfl I (fun n s hI => ?_) n h
 show wpAny _ A ((compTurn (.ListComp elt [⟨target, iter, ifs, 0⟩] scope pos) 0 it acc env).onRaise (fun x => do noteFrame x env; theTreesLotGoes x)) _ _ s
 refine wpAny_noted ?_
 rw [compTurn_list]
 refine wpAny_bind (wpAny_standAt (wpAny_bind (wpAny_mono (turn n s hI) (fun r s₁ h₁ => ?_) fun _ _ h' => h'.elim)))
 cases r with
 | none => exact wpAny_pure h₁
 | some v =>
  refine wpAny_bind (wpAny_mono h₁ (fun _ s₁' h₁' => ?_) fun _ _ h' => h'.elim)
  refine wpAny_bind (wpAny_mono h₁' (fun _ s₂ h₂ => wpAny_bind (wpAny_mono h₂ (fun ok s₃ h₃ => ?_) fun _ _ h' => h'.elim)) fun _ _ h' => h'.elim)
  cases ok with
  | false => exact wpAny_pure ⟨rfl, h₃⟩
  | true =>
   exact wpAny_bind (wpAny_bind (wpAny_mono h₃ (fun x s₄ h₄ => wpAny_bind (wpAny_mono h₄ (fun _ s₅ h₅ => wpAny_pure (wpAny_pure ⟨rfl, h₅⟩)) fun _ _ h' => h'.elim)) fun _ _ h' => h'.elim))
end
structure CS where
 s : Shared
 H : Hp
 fp : List Addr
def compCx (X : Cx) (N : List Str) (sc : Scope) (cl : List (Str × Addr)) (s : Shared) (H : Hp) (fp : List Addr) : Cx where
 prog := X.prog
 w := X.w
 K := X.K
 mg := X.mg
 base := X.base
 A := X.A
 N := N
 s₀ := s
 H₀ := H
 env := compEnvC sc cl s.heap.objs.size X.env
 outer := X.stack
 stack := X.stack
 ex := fp
 fn := fun _ => false
 calm := X.calm
 pn := []
 xe := fun _ _ => False
def FreeOk (X : Cx) (sc : Scope) : List Str → List Nat → Prop
 | [], [] => True
 | x :: F, j :: js => (X.N[j]? = some x ∧ sc.names.lookup x = some .free ∧ (X.env.scope.names.lookup x = some .cell ∨ X.env.scope.names.lookup x = some .free)) ∧ FreeOk X sc F js
 | _, _ => False
def ClOk (X : Cx) : List (Str × Addr) → Prop
 | [] => True
 | p :: r => X.env.cells.lookup p.1 = some p.2 ∧ ClOk X r
structure CompOk (X : Cx) (sc : Scope) (cl : List (Str × Addr)) (F : List Str) (js : List Nat) : Prop where
 kind : sc.kind = .function
 cell : ∀ y ∈ sc.names, y.2 ≠ .cell
 names : ∀ y ∈ sc.names, y.2 = .local → sc.names.lookup y.1 = some .local
 clos : closureFor sc X.env = pure cl
 cls : ClOk X cl
 has : ∀ y ∈ sc.names, y.2 = .free → ∃ c, cl.lookup y.1 = some c
 free : FreeOk X sc F js
theorem FreeOk.len {X : Cx} {sc : Scope} : ∀ {F : List Str} {js : List Nat}, FreeOk X sc F js → F.length = js.length
 | [], [], _ => rfl
 | _ :: _, _ :: _, h => congrArg (· + 1) (FreeOk.len h.2)
 | [], _ :: _, h => h.elim
 | _ :: _, [], h => h.elim
theorem FreeOk.get {X : Cx} {sc : Scope} : ∀ {F : List Str} {js : List Nat} {k : Nat} {x : Str}, FreeOk X sc F js → F[k]? = some x →
  ∃ j, js[k]? = some j ∧ X.N[j]? = some x ∧ sc.names.lookup x = some .free ∧ (X.env.scope.names.lookup x = some .cell ∨ X.env.scope.names.lookup x = some .free)
 | [], [], k, x, _, h => by simp at h
 | y :: F, j :: js, 0, x, h, e => by
  simp at e
  subst e
  exact ⟨j, rfl, h.1⟩
 | y :: F, j :: js, k + 1, x, h, e => by
  obtain ⟨j', e1, e2⟩ := FreeOk.get (k := k) h.2 (by simpa using e)
  exact ⟨j', by simpa using e1, e2⟩
 | [], _ :: _, _, _, h, _ => h.elim
 | _ :: _, [], _, _, h, _ => h.elim
theorem ClOk.get {X : Cx} : ∀ {cl : List (Str × Addr)} {x : Str} {c : Addr}, ClOk X cl → cl.lookup x = some c → X.env.cells.lookup x = some c
 | [], _, _, _, e => by simp at e
 | (n, a) :: r, x, c, h, e => by
  rw [List.lookup_cons] at e
  cases hx : x == n with
  | true =>
   rw [hx] at e
   have e1 : x = n := beq_iff_eq.mp hx
   have e2 : a = c := Option.some.inj e
   subst e1 e2
   exact h.1
  | false =>
   rw [hx] at e
   exact ClOk.get h.2 e
theorem lookup_relabel {env : Env} : ∀ {names : List (Str × NameKind)} {x : Str} {k : NameKind},
  (names.map fun (n, k) => if (k == NameKind.free && env.scope.kind == .function && env.kindOf n == some .cell) then (n, NameKind.cell) else (n, k)).lookup x = some k →
  names.lookup x = some k ∨ (names.lookup x = some .free ∧ k = .cell)
 | [], _, _, h => by simp at h
 | (n, k0) :: r, x, k, h => by
  have ih := @lookup_relabel env r x k
  have h' : List.lookup x ((if (k0 == NameKind.free && env.scope.kind == .function && env.kindOf n == some .cell) = true then (n, NameKind.cell) else (n, k0)) :: (r.map fun (n, k) => if (k == NameKind.free && env.scope.kind == .function && env.kindOf n == some .cell) then (n, NameKind.cell) else (n, k))) = some k := h
  by_cases hc : (k0 == NameKind.free && env.scope.kind == .function && env.kindOf n == some .cell) = true
  ·rw [if_pos hc, List.lookup_cons] at h'
   rw [List.lookup_cons]
   cases hx : x == n with
   | true =>
    rw [hx] at h'
    have e : NameKind.cell = k := Option.some.inj h'
    have hf : (k0 == NameKind.free) = true := by
     rw [Bool.and_eq_true, Bool.and_eq_true] at hc
     exact hc.1.1
    have hf' : k0 = NameKind.free := by simpa using hf
    exact .inr ⟨by rw [hf'], e.symm⟩
   | false =>
    rw [hx] at h'
    exact ih h'
  ·rw [if_neg hc, List.lookup_cons] at h'
   rw [List.lookup_cons]
   cases hx : x == n with
   | true =>
    rw [hx] at h'
    exact .inl h'
   | false =>
    rw [hx] at h'
    exact ih h'
theorem lookup_relabel_free {env : Env} : ∀ {names : List (Str × NameKind)} {x : Str}, names.lookup x = some .free →
  (names.map fun (n, k) => if (k == NameKind.free && env.scope.kind == .function && env.kindOf n == some .cell) then (n, NameKind.cell) else (n, k)).lookup x = some .cell ∨
  (names.map fun (n, k) => if (k == NameKind.free && env.scope.kind == .function && env.kindOf n == some .cell) then (n, NameKind.cell) else (n, k)).lookup x = some .free
 | [], _, h => by simp at h
 | (n, k0) :: r, x, h => by
  have ih := @lookup_relabel_free env r x
  show List.lookup x ((if (k0 == NameKind.free && env.scope.kind == .function && env.kindOf n == some .cell) = true then (n, NameKind.cell) else (n, k0)) :: (r.map fun (n, k) => if (k == NameKind.free && env.scope.kind == .function && env.kindOf n == some .cell) then (n, NameKind.cell) else (n, k))) = some .cell ∨
   List.lookup x ((if (k0 == NameKind.free && env.scope.kind == .function && env.kindOf n == some .cell) = true then (n, NameKind.cell) else (n, k0)) :: (r.map fun (n, k) => if (k == NameKind.free && env.scope.kind == .function && env.kindOf n == some .cell) then (n, NameKind.cell) else (n, k))) = some .free
  rw [List.lookup_cons] at h
  by_cases hc : (k0 == NameKind.free && env.scope.kind == .function && env.kindOf n == some .cell) = true
  ·rw [if_pos hc, List.lookup_cons]
   cases hx : x == n with
   | true => exact .inl rfl
   | false =>
    rw [hx] at h
    exact ih h
  ·rw [if_neg hc, List.lookup_cons]
   cases hx : x == n with
   | true =>
    rw [hx] at h
    exact .inr h
   | false =>
    rw [hx] at h
    exact ih h
section
variable {X : Cx} {pins : List (Addr × Obj)} {σ : St} {H : Hp} {s : Shared} {sc : Scope} {cl : List (Str × Addr)} {T F : List Str} {js : List Nat} {fp : List Addr}
theorem CompOk.hasC (C : CompOk X sc cl F js) {x : Str} (h : (relabel sc X.env).names.lookup x = some .cell ∨ (relabel sc X.env).names.lookup x = some .free) : ∃ c, cl.lookup x = some c := by
 have key : ∀ k, (relabel sc X.env).names.lookup x = some k → (k = .cell ∨ k = .free) → ∃ c, cl.lookup x = some c := fun k e hk => by
  rcases lookup_relabel e with e | ⟨e, _⟩
  ·have m := PySem.mem_of_lookup e
   rcases hk with rfl | rfl
   ·exact absurd rfl (C.cell _ m)
   ·exact C.has _ m rfl
  ·exact C.has _ (PySem.mem_of_lookup e) rfl
 rcases h with h | h
 ·exact key _ h (.inl rfl)
 ·exact key _ h (.inr rfl)
theorem comp_ok (C : CompOk X sc cl F js) (I : Inv X pins σ H s) (f : ∀ b ∈ fp, FpOk X pins H b) (fl : ∀ b ∈ fp, b < s.heap.objs.size) (N : List Str) : (compCx X N sc cl s H fp).Ok where
 mod := I.ok.mod
 kind := C.kind
 glob := I.ok.glob
 blt := I.ok.blt
 above := Nat.le_refl _
 inj := fun x y c h1 h2 => I.ok.inj x y c (C.cls.get h1) (C.cls.get h2)
 has := fun x h => C.hasC h
 cab := fun x c h _ => absurd (show false = true from h) Bool.false_ne_true
 hd := I.ok.hd
 frames := I.ok.frames
 stk := .inl rfl
 exf := fun b hb => ⟨Nat.ne_of_lt (fl b hb), fun x c e => (f b hb).2.2.2.2.1 x c (C.cls.get e)⟩
 bs := I.bs
 bsz := Nat.le_trans I.ok.bsz I.sz
 noex := fun b o e hb => by
  rcases (f b hb).2.2.2.1 with z | z
  ·exact I.ok.noex b o e z
  ·exact absurd (Nat.lt_of_lt_of_le (Heap.lt_size (I.ok.bs b o e).1) z) (Nat.lt_irrefl _)
 exfs := fun b hb hz => by
  rcases List.mem_cons.mp (I.stkSub b hz) with e | hz
  ·exact (f b hb).2.1 e
  ·exact (f b hb).2.2.1 hz
 funs := I.stack
 frf := I.stkFree
def compSt (n : Nat) (js : List Nat) (σ : St) : St := List.replicate n none ++ js.map fun j => (σ[j]?).join
theorem inv_comp (C : CompOk X sc cl F js) (I : Inv X pins σ H s) (f : ∀ b ∈ fp, FpOk X pins H b) (fl : ∀ b ∈ fp, b < s.heap.objs.size) {h' : Heap} {tk : Nat} {m : Str → Option Value} (hn : h'.Ns s.heap.objs.size m)
  (old : ∀ b o, s.heap.get? b = some o → h'.get? b = some o) : Inv (compCx X (T ++ F) sc cl s H fp) [] (compSt T.length js σ) H { s with heap := h', toks := tk } := by
 have el := C.free.len
 refine ⟨comp_ok C I f fl _, rfl, I.bare, Un.kept old, ⟨m, hn, fun i x v e1 e2 e3 => ?_⟩, fun x c e => ?_, I.hok.fresh (Nat.le_refl _), fun x c e => I.freeC x c (C.cls.get e), fun p hp => absurd (show p ∈ ([] : List (Addr × Obj)) from hp) (by simp), I.hok.kept old, ?_⟩
 ·have e1' : (T ++ F)[i]? = some x := e1
  have hi : T.length ≤ i := by
   rcases Nat.lt_or_ge i T.length with hi | hi
   ·unfold compSt at e2
    rw [List.getElem?_append_left (by simpa using hi), List.getElem?_replicate, if_pos hi] at e2
    cases e2
   ·exact hi
  rw [List.getElem?_append_right hi] at e1'
  obtain ⟨j, ej, eN, ef, ek⟩ := C.free.get e1'
  unfold compSt at e2
  rw [List.getElem?_append_right (by simpa using hi), List.length_replicate, List.getElem?_map, ej] at e2
  have e2' : (σ[j]?).join = some v := Option.some.inj e2
  have e2'' : σ[j]? = some (some v) := by
   cases q : σ[j]? with
   | none => rw [q] at e2'; cases e2'
   | some o => rw [q] at e2'; exact congrArg some e2'
  obtain ⟨m3, hn3, hl3⟩ := I.loc
  obtain ⟨u, r, l⟩ := hl3 j x v eN e2'' (by rcases ek with k | k; exact .inr (.inl k); exact .inr (.inr k))
  refine ⟨u, r, ?_⟩
  rcases l with ⟨k, _⟩ | ⟨k, c, e, z⟩
  ·have k' : X.env.scope.names.lookup x = some .local := k
   rcases ek with q | q <;> rw [q] at k' <;> cases k'
  ·have hk := lookup_relabel_free (env := X.env) ef
   obtain ⟨c', hc'⟩ := C.hasC (x := x) hk
   have := C.cls.get hc'
   rw [e] at this
   cases this
   obtain ⟨o, ho, hd⟩ := z
   exact .inr ⟨hk, c, hc', o, old _ _ ho, hd⟩
 ·obtain ⟨v, o, ho, hd⟩ := I.cell x c (C.cls.get e)
  exact ⟨v, o, old _ _ ho, hd⟩
 ·unfold compSt
  show _ = (T ++ F).length
  rw [List.length_append, List.length_append, List.length_replicate, List.length_map]
  omega
theorem comp_back (I : Inv X pins σ H s) (f : ∀ b ∈ fp, FpOk X pins H b) {N : List Str} {σ' : St} {H' : Hp} {s1 : Shared} (J : Inv (compCx X N sc cl s H fp) [] σ' H' s1) : Inv X pins σ H' s1 :=
 I.call' (s' := s1) (ch := fp) J.os J.base J.hok J.bare fun b hb => ⟨(f b hb).2.2.2.1, (f b hb).2.1, (f b hb).2.2.2.2.1, (f b hb).2.2.2.2.2⟩
structure Gone (X : Cx) (pins : List (Addr × Obj)) (H : Hp) (C : Addr) : Prop where
 no : H C = none
 loc : C ≠ X.env.locals
 old : X.s₀.heap.objs.size ≤ C
 cell : ∀ x c, X.env.cells.lookup x = some c → c ≠ C
 pin : ∀ p ∈ X.pn ++ pins, p.1 ≠ C
theorem Gone.of (I : Inv X pins σ H s) {H' : Hp} (h : H' s.heap.objs.size = none) : Gone X pins H' s.heap.objs.size where
 no := h
 loc := Nat.ne_of_gt I.lt
 old := I.sz
 cell := fun x c e z => by
  obtain ⟨v, o, ho, _⟩ := I.cell x c e
  exact absurd (Heap.lt_size ho) (by rw [z]; exact Nat.lt_irrefl _)
 pin := fun p hp z => absurd (Heap.lt_size (I.pin p hp).1) (by rw [z]; exact Nat.lt_irrefl _)
theorem Gone.let {C : Addr} (G : Gone X pins H C) (I : Inv X pins σ H s) {h' : Heap} (hs : Heap.SameBut C s.heap h') : Inv X pins σ H { s with heap := h' } :=
 I.turned (t' := s.toks) (fun b o hb e => (hs.2 b hb).trans e) G.no G.loc (.inr G.old) G.cell G.pin
end
def PIfs (X : Cx) (ifs : List Expr) (t : TT) : Prop :=
 ∀ (pins : List (Addr × Obj)) (s : Shared) (σ : St) (H : Hp) (Q : Bool → Hp → Prop), Inv X pins σ H s → t σ H Q →
  wpAny (model X.prog X.w) X.A (forIn ifs true fun c r => if r = true then do let ok ← isTrue c X.env (eval c X.env); pure (ForInStep.yield ok) else pure (ForInStep.yield r)) (TP X pins σ Q) X.xe s
def tNoIf : TT := fun _ H Q => Q true H
theorem pifs_nil {X : Cx} : PIfs X [] tNoIf := fun _ _ _ H _ I h => wpAny_tests_nil ⟨H, I, h⟩
def tComp (n : Nat) (js : List Nat) (wi : TI) (g : CS → TG) (tc : CS → TT) (te : CS → TE) : TE := fun σ H Q => wi σ H fun J H1 => ∀ D, H1 D = none → ∃ W : Nat → Nat → List V → St → Hp → Prop, (∃ m, W 0 m [] (compSt n js σ) (upd H1 D (.lst []))) ∧
 ∀ i m ys σ' H', W i m ys σ' H' → H' D = some (.lst ys) ∧ ((J.stop i H' ∧ Q (.ref D) H') ∨ (J.go i H' ∧ ys.length < sizeLine ∧ ∃ N : List V → St → Hp → Prop, (∀ ys' σ'' H'', N ys' σ'' H'' → ∃ m', m' < m ∧ W (i + 1) m' ys' σ'' H'') ∧
  ∀ x H2, J.yld i H' x H2 → ∀ c : CS, g c x σ' H2 fun σ2 H3 => tc c σ2 H3 fun b H4 => if b = true then te c σ2 H4 fun v H5 => H5 D = some (.lst ys) ∧ N (ys ++ [v]) σ2 (upd H5 D (.lst (ys ++ [v]))) else N ys σ2 H4))
section
variable {X : Cx} {elt tg iter : Expr} {ifs : List Expr} {sc : Scope} {pos : Pos} {cl : List (Str × Addr)} {T F : List Str} {js : List Nat} {wi : TI} {g : CS → TG} {tc : CS → TT} {te : CS → TE} {pins : List (Addr × Obj)} {σ : St}
theorem comp_block (hc : X.calm = true) (C : CompOk X sc cl F js) (hg : ∀ c : CS, PG (compCx X (T ++ F) sc cl c.s c.H c.fp) tg (g c)) (hif : ∀ c : CS, PIfs (compCx X (T ++ F) sc cl c.s c.H c.fp) ifs (tc c)) (he : ∀ c : CS, PE (compCx X (T ++ F) sc cl c.s c.H c.fp) elt (te c))
  {H2 : Hp} {s2 : Shared} {it : Addr} {fp : List Addr} {tn : Nat → Heap → Prop} {J : It} {Q : VK} {RR : Value → Addr → Result → Shared → Prop} (I2 : Inv X pins σ H2 s2) (Tn : Turn X.prog X.w X.K tg J fp it tn) (st2 : tn 0 s2.heap) (f2 : ∀ b ∈ fp, FpOk X pins H2 b)
  (hw : ∀ D, H2 D = none → ∃ W : Nat → Nat → List V → St → Hp → Prop, (∃ m, W 0 m [] (compSt T.length js σ) (upd H2 D (.lst []))) ∧
   ∀ i m ys σ' H', W i m ys σ' H' → H' D = some (.lst ys) ∧ ((J.stop i H' ∧ Q (.ref D) H') ∨ (J.go i H' ∧ ys.length < sizeLine ∧ ∃ N : List V → St → Hp → Prop, (∀ ys' σ'' H'', N ys' σ'' H'' → ∃ m', m' < m ∧ W (i + 1) m' ys' σ'' H'') ∧
    ∀ x H2, J.yld i H' x H2 → ∀ c : CS, g c x σ' H2 fun σ2 H3 => tc c σ2 H3 fun b H4 => if b = true then te c σ2 H4 fun v H5 => H5 D = some (.lst ys) ∧ N (ys ++ [v]) σ2 (upd H5 D (.lst (ys ++ [v]))) else N ys σ2 H4)))
  (hRR : ∀ D C H' s1, Inv X pins σ H' s1 → Gone X pins H' C → (∃ m, s1.heap.Ns C m) → Q (.ref D) H' → RR (.ref D) C (.ok .next) s1) :
  wpAny (model X.prog X.w) X.A (newList []) (fun acc s₃ => wpAny (model X.prog X.w) X.A (newFunctionEnv sc X.env.globals cl [] X.env.qual none .none (some X.env)) (fun cenv s₄ =>
   codeAny (model X.prog X.w) X.A (.compStart (.ListComp elt [⟨tg, iter, ifs, 0⟩] sc pos) 0 (.ref it) acc { cenv with scope := relabel sc X.env }) (RR acc cenv.locals) s₄) X.xe s₃) X.xe s2 := by
 obtain ⟨W, ⟨m0, w0⟩, turn⟩ := hw s2.heap.objs.size (I2.hok.fresh (Nat.le_refl _))
 have I3 : Inv X pins σ (upd H2 s2.heap.objs.size (.lst [])) { s2 with heap := s2.heap.push { cls := .type "list", data := .seq ([] : List Value).toArray } } := I2.lnew (t' := s2.toks) .nil (Nat.zero_le _)
 have lt2 : ∀ b ∈ fp, b < s2.heap.objs.size := fun b hb => by
  obtain ⟨o, e, _⟩ := Tn.obj 0 _ st2 b hb
  exact Heap.lt_size e
 have f3 : ∀ b ∈ fp, FpOk X pins (upd H2 s2.heap.objs.size (.lst [])) b := fun b hb => ⟨by rw [upd_ne (Nat.ne_of_lt (lt2 b hb))]; exact (f2 b hb).1, (f2 b hb).2⟩
 refine wpAny_newObj_type ?_
 have st3 : tn 0 ({ s2 with heap := s2.heap.push { cls := .type "list", data := .seq ([] : List Value).toArray } } : Shared).heap := Tn.keep 0 _ _ st2 fun b hb o e => Heap.get?_push_of_some _ e
 have lt3 : ∀ b ∈ fp, b < ({ s2 with heap := s2.heap.push { cls := .type "list", data := .seq ([] : List Value).toArray } } : Shared).heap.objs.size := fun b hb => by
  show b < (s2.heap.push _).objs.size
  rw [Heap.size_push]
  exact Nat.lt_succ_of_lt (lt2 b hb)
 generalize ({ s2 with heap := s2.heap.push { cls := .type "list", data := .seq ([] : List Value).toArray } } : Shared) = s3 at I3 st3 lt3 ⊢
 refine wpAny_newFunctionEnv C.cell (by intro y hy; simp at hy) (fun h4 hns hsb => ?_) C.kind
 have old : ∀ b o, s3.heap.get? b = some o → h4.get? b = some o := fun b o e => hsb.extBut b o (Nat.ne_of_lt (Heap.lt_size e)) (Heap.get?_push_of_some _ e)
 have st4 : tn 0 h4 := Tn.keep 0 _ _ st3 fun b hb o e => old b o e
 have J4 : ∀ tk, Inv (compCx X (T ++ F) sc cl s3 (upd H2 s2.heap.objs.size (.lst [])) fp) [] (compSt T.length js σ) (upd H2 s2.heap.objs.size (.lst [])) { s3 with heap := h4, toks := tk } := fun tk => inv_comp C I3 f3 lt3 hns old
 have fpX : ∀ {H' : Hp}, (∀ b ∈ fp, H' b = none) → ∀ b ∈ fp, FpOk (compCx X (T ++ F) sc cl s3 (upd H2 s2.heap.objs.size (.lst [])) fp) [] H' b := fun hn b hb =>
  ⟨hn b hb, Nat.ne_of_lt (lt3 b hb), (comp_ok C I3 f3 lt3 (T ++ F)).exfs b hb, .inl hb, fun x c e => ((comp_ok C I3 f3 lt3 (T ++ F)).exf b hb).2 x c e, fun p hp => absurd (show p ∈ ([] : List (Addr × Obj)) from hp) (by simp)⟩
 have loop : ∀ s4 : Shared, (∃ tk, s4 = { s3 with heap := h4, toks := tk }) →
   codeAny (model X.prog X.w) X.A (.compLoop (.ListComp elt [⟨tg, iter, ifs, 0⟩] sc pos) 0 (.ref it) (.ref s2.heap.objs.size) (compEnvC sc cl s3.heap.objs.size X.env)) (RR (.ref s2.heap.objs.size) s3.heap.objs.size) s4 := by
  rintro s4 ⟨tk, rfl⟩
  refine compLoop_any (fun n s' => ∃ i ys σ' H', Inv (compCx X (T ++ F) sc cl s3 (upd H2 s2.heap.objs.size (.lst [])) fp) [] σ' H' s' ∧ tn i s'.heap ∧ (∀ b ∈ fp, H' b = none) ∧ W i n ys σ' H') ?_ m0
   ⟨0, [], _, _, J4 tk, st4, fun b hb => (f3 b hb).1, w0⟩
  rintro n s5 ⟨i, ys, σ5, H5, I5, st5, fr5, w5⟩
  obtain ⟨hD, q⟩ := turn i n ys σ5 H5 w5
  rcases q with ⟨stop, q⟩ | ⟨go, hz, N, hN, step⟩
  ·refine thn (Tn.done (compCx X (T ++ F) sc cl s3 (upd H2 s2.heap.objs.size (.lst [])) fp) rfl rfl rfl hc i [] s5 σ5 H5 (fun _ _ => False) I5 (fpX fr5) st5 stop) fun r s6 ⟨hr, I6⟩ => ?_
   subst hr
   obtain ⟨m, hn, _⟩ := id I6.loc
   exact hRR _ _ H5 s6 (comp_back I3 f3 I6) (Gone.of I3 I6.free) ⟨m, hn⟩ q
  ·refine thn (Tn.item (compCx X (T ++ F) sc cl s3 (upd H2 s2.heap.objs.size (.lst [])) fp) rfl rfl rfl hc i [] s5 σ5 H5 (fun _ _ => False) I5 (fpX fr5) st5 go) fun r s6 ⟨u, hr, h6⟩ => ?_
   subst hr
   refine thn h6 fun _ s7 ⟨x, H7, I7, r7, y7, st7, fr7⟩ => ?_
   have I7' := I7.pinned (fpX fr7) (Tn.obj _ _ st7)
   have again : ∀ {s8 : Shared} {σ8 : St} {H8 : Hp} {ys8 : List V}, Inv (compCx X (T ++ F) sc cl s3 (upd H2 s2.heap.objs.size (.lst [])) fp) ([] ++ pinsAt fp s7.heap) σ8 H8 s8 → N ys8 σ8 H8 →
     ∃ m, m < n ∧ ∃ i ys σ' H', Inv (compCx X (T ++ F) sc cl s3 (upd H2 s2.heap.objs.size (.lst [])) fp) [] σ' H' s8 ∧ tn i s8.heap ∧ (∀ b ∈ fp, H' b = none) ∧ W i m ys σ' H' := fun {s8 σ8 H8 ys8} I8 n8 => by
    obtain ⟨m', hm, w8⟩ := hN ys8 σ8 H8 n8
    refine ⟨m', hm, i + 1, ys8, σ8, H8, I8.unpinned, Tn.keep _ _ _ st7 fun b hb o e => (I8.pin (b, o) (List.mem_append_right _ (List.mem_append_right _ (mem_pinsAt hb e)))).1, fun b hb => ?_, w8⟩
    obtain ⟨o, e, d⟩ := Tn.obj _ _ st7 b hb
    exact (I8.pin (b, o) (List.mem_append_right _ (List.mem_append_right _ (mem_pinsAt hb e)))).2.1
   refine thn (hg ⟨s3, _, fp⟩ _ s7 σ5 H7 x u _ I7' r7 (step x H7 y7 ⟨s3, upd H2 s2.heap.objs.size (.lst []), fp⟩)) fun _ s8 ⟨σ8, H8, I8, q8⟩ => ?_
   refine thn (hif ⟨s3, _, fp⟩ _ s8 σ8 H8 _ I8 q8) fun ok s9 ⟨H9, I9, q9⟩ => ?_
   cases ok with
   | false =>
    rw [if_neg Bool.false_ne_true]
    rw [if_neg Bool.false_ne_true] at q9
    exact again I9 q9
   | true =>
    rw [if_pos rfl]
    rw [if_pos rfl] at q9
    refine thn (he ⟨s3, _, fp⟩ _ s9 σ8 H9 _ I9 q9) fun y s10 ⟨v10, H10, I10, r10, hD10, n10⟩ => ?_
    refine thn (mt_append _ s10 σ8 H10 (.ref s2.heap.objs.size) [v10] (.ref s2.heap.objs.size) [y] (fun _ H11 => N (ys ++ [v10]) σ8 H11) I10 rfl (.cons r10 .nil) ⟨_, ys, v10, rfl, rfl, hD10, hz, n10⟩) fun _ s11 ⟨_, H11, I11, _, n11⟩ => ?_
    exact again I11 n11
 exact codeAny_compStart_list (loop _ ⟨_, rfl⟩) (Tn.self X.A 0 _ _ _ st4 (loop _ ⟨_, rfl⟩))
theorem pe_comp (T : List Str) (hc : X.calm = true) (C : CompOk X sc cl F js) (hi : PI X tg iter wi)
  (hg : ∀ c : CS, PG (compCx X (T ++ F) sc cl c.s c.H c.fp) tg (g c)) (hif : ∀ c : CS, PIfs (compCx X (T ++ F) sc cl c.s c.H c.fp) ifs (tc c)) (he : ∀ c : CS, PE (compCx X (T ++ F) sc cl c.s c.H c.fp) elt (te c))
  (hs : ∀ x, foldedSetIterable iter X.env x = pure x := by intro _; rfl) : PE X (.ListComp elt [⟨tg, iter, ifs, 0⟩] sc pos) (tComp T.length js wi g tc te) := by
 intro pins s σ H Q I h
 rw [eval_ListComp]
 refine wpAny_comprehension_free (use := none) rfl hs C.clos C.kind C.names ?_
 refine thn (hi pins s σ H _ I h) fun v s1 h1 => thn h1 fun itv s2 h2 => ?_
 obtain ⟨it, fp, tn, J, H2, e, I2, Tn, st2, f2, hw⟩ := h2
 subst e
 refine comp_block (RR := fun acc C => compPost (model X.prog X.w) X.A X.xe none (EP X pins σ Q) acc C) hc C hg hif he I2 Tn st2 f2 hw ?_
 intro D C' H' s6 I6 G ⟨m, hn⟩ q
 exact ⟨m, hn, fun h' hs' => ⟨.ref D, H', G.let I6 hs', rfl, q⟩⟩
end
theorem CompOk.plain {X : Cx} {sc : Scope} (kind : sc.kind = .function) (cell : ∀ y ∈ sc.names, y.2 ≠ .cell) (names : ∀ y ∈ sc.names, y.2 = .local → sc.names.lookup y.1 = some .local) (free : ∀ y ∈ sc.names, y.2 ≠ .free) : CompOk X sc [] [] [] :=
 ⟨kind, cell, names, closureFor_none free, trivial, fun y hy e => absurd e (free y hy), trivial⟩
theorem comp_list {K : PySem.W.Frag} {a D : Addr} {xs : List V} {g : CS → TG} {tc : CS → TT} {te : CS → TE} {σ0 : St} {H0 : Hp} {Q : Hp → Prop} (Pv : Nat → List V → St → Hp → Prop) (hz : xs.length ≤ sizeLine) (h0 : Pv 0 [] σ0 H0)
  (hl : ∀ i ys σ H, i ≤ xs.length → Pv i ys σ H → SqL K H a xs ∧ H D = some (.lst ys) ∧ ys.length ≤ i)
  (hs : ∀ i x ys σ H, xs[i]? = some x → Pv i ys σ H → ∀ c : CS, g c x σ H fun σ2 H2 => tc c σ2 H2 fun b H3 => if b = true then te c σ2 H3 fun v H4 => H4 D = some (.lst ys) ∧ Pv (i + 1) (ys ++ [v]) σ2 (upd H4 D (.lst (ys ++ [v]))) else Pv (i + 1) ys σ2 H3)
  (hd : ∀ ys σ H, Pv xs.length ys σ H → Q H) :
  ∃ W : Nat → Nat → List V → St → Hp → Prop, (∃ m, W 0 m [] σ0 H0) ∧ ∀ i m ys σ' H', W i m ys σ' H' → H' D = some (.lst ys) ∧ (((Itl K a).stop i H' ∧ Q H') ∨ ((Itl K a).go i H' ∧ ys.length < sizeLine ∧ ∃ N : List V → St → Hp → Prop, (∀ ys' σ'' H'', N ys' σ'' H'' → ∃ m', m' < m ∧ W (i + 1) m' ys' σ'' H'') ∧
    ∀ x H2, (Itl K a).yld i H' x H2 → ∀ c : CS, g c x σ' H2 fun σ2 H3 => tc c σ2 H3 fun b H4 => if b = true then te c σ2 H4 fun v H5 => H5 D = some (.lst ys) ∧ N (ys ++ [v]) σ2 (upd H5 D (.lst (ys ++ [v]))) else N ys σ2 H4)) := by
 refine ⟨fun i m ys σ H => m = xs.length - i ∧ i ≤ xs.length ∧ Pv i ys σ H, ⟨xs.length, by simp, Nat.zero_le _, h0⟩, ?_⟩
 rintro i m ys σ H ⟨rfl, hi, p⟩
 obtain ⟨q, qD, ql⟩ := hl i ys σ H hi p
 refine ⟨qD, ?_⟩
 by_cases hlt : i < xs.length
 ·refine .inr ⟨⟨xs, xs[i], q, by simp [hlt]⟩, by omega, Pv (i + 1), fun ys' σ' H' p' => ⟨xs.length - (i + 1), by omega, rfl, hlt, p'⟩, fun x H' y c => ?_⟩
  obtain ⟨e, y⟩ := y
  subst e
  exact hs i x ys σ _ (y xs q) p c
 ·have e : i = xs.length := by omega
  subst e
  exact .inl ⟨⟨xs, q, Nat.le_refl _⟩, hd ys σ H p⟩
theorem comp_range {lo : Int} {n : Nat} {D : Addr} {g : CS → TG} {tc : CS → TT} {te : CS → TE} {σ0 : St} {H0 : Hp} {Q : Hp → Prop} (Pv : Nat → List V → St → Hp → Prop) (hz : n ≤ sizeLine) (h0 : Pv 0 [] σ0 H0)
  (hl : ∀ i ys σ H, i ≤ n → Pv i ys σ H → H D = some (.lst ys) ∧ ys.length ≤ i)
  (hs : ∀ i ys σ H, i < n → Pv i ys σ H → ∀ c : CS, g c (.int (lo + i)) σ H fun σ2 H2 => tc c σ2 H2 fun b H3 => if b = true then te c σ2 H3 fun v H4 => H4 D = some (.lst ys) ∧ Pv (i + 1) (ys ++ [v]) σ2 (upd H4 D (.lst (ys ++ [v]))) else Pv (i + 1) ys σ2 H3)
  (hd : ∀ ys σ H, Pv n ys σ H → Q H) :
  ∃ W : Nat → Nat → List V → St → Hp → Prop, (∃ m, W 0 m [] σ0 H0) ∧ ∀ i m ys σ' H', W i m ys σ' H' → H' D = some (.lst ys) ∧ (((Itr lo n).stop i H' ∧ Q H') ∨ ((Itr lo n).go i H' ∧ ys.length < sizeLine ∧ ∃ N : List V → St → Hp → Prop, (∀ ys' σ'' H'', N ys' σ'' H'' → ∃ m', m' < m ∧ W (i + 1) m' ys' σ'' H'') ∧
    ∀ x H2, (Itr lo n).yld i H' x H2 → ∀ c : CS, g c x σ' H2 fun σ2 H3 => tc c σ2 H3 fun b H4 => if b = true then te c σ2 H4 fun v H5 => H5 D = some (.lst ys) ∧ N (ys ++ [v]) σ2 (upd H5 D (.lst (ys ++ [v]))) else N ys σ2 H4)) := by
 refine ⟨fun i m ys σ H => m = n - i ∧ i ≤ n ∧ Pv i ys σ H, ⟨n, by simp, Nat.zero_le _, h0⟩, ?_⟩
 rintro i m ys σ H ⟨rfl, hi, p⟩
 obtain ⟨qD, ql⟩ := hl i ys σ H hi p
 refine ⟨qD, ?_⟩
 by_cases hlt : i < n
 ·refine .inr ⟨hlt, by omega, Pv (i + 1), fun ys' σ' H' p' => ⟨n - (i + 1), by omega, rfl, hlt, p'⟩, fun x H' y c => ?_⟩
  obtain ⟨e, y⟩ := y
  subst e y
  exact hs i ys σ _ hlt p c
 ·have e : i = n := by omega
  subst e
  exact .inl ⟨Nat.le_refl _, hd ys σ H p⟩
end L2
namespace L2
open PySem PySem.Spec PyProof.Rows
theorem iteN {c A B : Prop} [Decidable c] (hc : ¬ c) (h : B) : if decide c = true then A else B := by
 rw [decide_eq_false hc]
 exact iteF h
theorem iteY {c A B : Prop} [Decidable c] (hc : c) (h : A) : if decide c = true then A else B := by
 rw [decide_eq_true hc]
 exact iteT h
theorem Same.upd {H : Hp} {p : Addr} {o : HO} (h : H p = none) : Same H (upd H p o) := fun b u e => by
 rw [upd_ne (ne_of_none e h)]
 exact e
theorem Same.sqT {K : PySem.W.Frag} {H H' : Hp} {a : Addr} {xs : List V} (e : Same H H') (h : SqT K H a xs) : SqT K H' a xs := by
 rcases h with (h | ⟨o, h⟩) | h
 ·exact .inl (.inl (e _ _ h))
 ·exact .inl (.inr ⟨o, e _ _ h⟩)
 ·exact .inr h
theorem sqT_new {K : PySem.W.Frag} {H : Hp} {p : Addr} {xs : List V} : SqT K (upd H p (.tup xs)) p xs := .of upd_same
theorem sqL_new {K : PySem.W.Frag} {H : Hp} {p : Addr} {xs : List V} : SqL K (upd H p (.lst xs)) p xs := .of upd_same
theorem Sm.mono {i j : Int} (h : Sm j) (e : i.natAbs ≤ j.natAbs) : Sm i := .of_lt (Nat.lt_of_le_of_lt e h.lt)
structure DefAt (K : PySem.W.Frag) (mg : Str → Option Value) (x : Str) (st : Stmt) (ps : List Str) (f : Addr) (fd : FuncData) : Prop where
 fn : Fun K x x st f fd
 nm : mg x = some (.ref f)
 bd : Binds K fd ps []
def Cl (P : Program) (w : World) (K : PySem.W.Frag) (mg : Str → Option Value) (base : Heap) (x : Str) (k : Nat) (ps : List Str) (sp : Sp) : Prop :=
 ∃ (f : Addr) (fd : FuncData), mg x = some (.ref f) ∧ PySem.W.keepIn K (.ref f) = true ∧ Binds K fd ps [] ∧ FnOk P w K mg base CX0 k f fd ps sp
theorem DefAt.cl {P : Program} {w : World} {K : PySem.W.Frag} {mg : Str → Option Value} {base : Heap} {x : Str} {st : Stmt} {ps : List Str} {f : Addr} {fd : FuncData} {k : Nat} {sp : Sp} (D : DefAt K mg x st ps f fd) (h : FnOk P w K mg base CX0 k f fd ps sp) : Cl P w K mg base x k ps sp :=
 ⟨f, fd, D.nm, D.fn.kp, D.bd, h⟩
section
variable {X : Cx} {x : Str} {k : Nat} {ps : List Str} {sp : Sp} {e : Expr} {es : List Expr} {p pos : Pos} {t : TA}
theorem pe_cl (C : Cl X.prog X.w X.K X.mg X.base x k ps sp) (hr : Room k X.A) (hg : Gl X x) (ha : PA X (e :: es) t) (hdb : (x == ("__debug__" : Str)) = false := by decide) (he : starEach (e :: es) X.env = (false, eval e X.env) :: starEach es X.env := by rfl)
  (hpl : (backTo pos (starEach es X.env)).any (·.1) = false := by rfl) : PE X (.Call (.Name x p) (e :: es) [] pos) (tCall sp [] E0 t) := by
 obtain ⟨f, fd, h1, h2, h3, h4⟩ := C
 exact pe_call h4 hr hg h1 h2 h3 .nil pass0 ha hdb he hpl
theorem pe_cl0 (C : Cl X.prog X.w X.K X.mg X.base x k ps sp) (hr : Room k X.A) (hg : Gl X x) (hdb : (x == ("__debug__" : Str)) = false := by decide) : PE X (.Call (.Name x p) [] [] pos) (tCall sp [] E0 tNil) := by
 obtain ⟨f, fd, h1, h2, h3, h4⟩ := C
 exact pe_call0 h4 hr hg h1 h2 h3 .nil pass0 hdb
end
end L2
namespace FK
def G (a b : Int) : Int := (Int.gcd a b : Nat)
theorem G_pos {a b : Int} (h : 0 < b) : 0 < G a b := by
 have : Int.gcd a b ≠ 0 := fun e => by
  have := (Int.gcd_eq_zero_iff.mp e).2
  omega
 unfold G
 omega
theorem G_zero {a : Int} (h : 0 ≤ a) : G a 0 = a := by
 unfold G
 rw [Int.gcd_zero_right]
 omega
theorem G_dvd_left (a b : Int) : G a b ∣ a := Int.gcd_dvd_left ..
theorem G_dvd_right (a b : Int) : G a b ∣ b := Int.gcd_dvd_right ..
theorem G_le {a b : Int} (h : 0 < b) : G a b ≤ b := Int.le_of_dvd h (G_dvd_right a b)
theorem G_step {a b : Int} (ha : 0 ≤ a) (hb : 0 < b) : G b (a % b) = G a b := by
 unfold G
 have : Int.gcd b (a % b) = Int.gcd a b := by
  rw [Int.gcd_comm a b]
  obtain ⟨m, rfl⟩ := Int.eq_ofNat_of_zero_le ha
  obtain ⟨n, rfl⟩ := Int.eq_ofNat_of_zero_le (Int.le_of_lt hb)
  have e : ((m : Int) % (n : Int)) = ((m % n : Nat) : Int) := rfl
  rw [e]
  show Nat.gcd n (m % n) = Nat.gcd n m
  rw [Nat.gcd_rec n m, Nat.gcd_comm]
 rw [this]
def lo (a b : Int) : Int := a / G a b
def hi (a b : Int) : Int := b / G a b
theorem lo_eq (a b : Int) : G a b * lo a b = a := Int.mul_ediv_cancel' (G_dvd_left a b)
theorem hi_eq (a b : Int) : G a b * hi a b = b := Int.mul_ediv_cancel' (G_dvd_right a b)
theorem hi_le {a b : Int} (hb : 0 < b) : hi a b ≤ b := Int.ediv_le_self _ (Int.le_of_lt hb)
end FK
namespace L2
open PySem PySem.Spec PyProof.Rows
section
variable {κ : Type} [DecidableEq κ]
end
section
variable {P : Program} {w : World} {H : Hp} {h : Heap} {a : Addr}
end
section
variable {X : Cx} {pins : List (Addr × Obj)} {σ : St} {H : Hp} {s : Shared} {a : Addr} {y v : V} {u r : Value} {o : Option V} {A : Around} {E : Value → Shared → Prop}
end
section
variable {X : Cx} {pins : List (Addr × Obj)} {σ : St} {H : Hp} {s : Shared} {a : Addr} {kvs : List (Key × V)} {k : Key} {u : Value} {A : Around} {E : Value → Shared → Prop}
end
section
variable {X : Cx} {o i e value : Expr} {pos pos' tpos : Pos} {td ty tv : TE}
end
section
variable {X : Cx} {pos : Pos}
end
end L2
namespace L2
open PySem PySem.Spec PyProof.Rows
section
variable {X : Cx} {o i : Expr} {pos : Pos} {td ty : TE}
end
theorem iteNN {c A B : Prop} [Decidable c] (hc : ¬ c) (h : A) : if (!decide c) = true then A else B := by
 rw [decide_eq_false hc]
 exact iteT h
abbrev FrR (K : PySem.W.Frag) := rpPair K rpInt rpInt
theorem FrR.sq {K : PySem.W.Frag} {H : Hp} {x : V} {d : Int × Int} (h : FrR K H x d) : ∃ p, x = .ref p ∧ SqT K H p [.int d.1, .int d.2] := by
 obtain ⟨p, y, z, rfl, q, rfl, rfl⟩ := h
 exact ⟨p, rfl, q⟩
theorem FrR.same {K : PySem.W.Frag} {H H' : Hp} {x : V} {d : Int × Int} (s : Same H H') (h : FrR K H x d) : FrR K H' x d := by
 obtain ⟨p, y, z, rfl, q, h1, h2⟩ := h
 exact ⟨p, y, z, rfl, s.sqT q, h1, h2⟩
theorem Paired.get1 {α β : Type} {F : α → β → Prop} : ∀ {xs : List α} {ys : List β}, Paired F xs ys → ∀ (i : Nat) (x : α), xs[i]? = some x → ∃ y, ys[i]? = some y ∧ F x y
 | _, _, .nil, i, x, h => by simp at h
 | _, _, .cons r _, 0, x, h => by
  simp at h
  subst h
  exact ⟨_, rfl, r⟩
 | _, _, .cons _ t, i + 1, x, h => by
  obtain ⟨y, e, r⟩ := Paired.get1 t i x (by simpa using h)
  exact ⟨y, by simpa using e, r⟩
theorem Paired.app {α β : Type} {F : α → β → Prop} : ∀ {xs xs' : List α} {ys ys' : List β}, Paired F xs ys → Paired F xs' ys' → Paired F (xs ++ xs') (ys ++ ys')
 | _, _, _, _, .nil, s => s
 | _, _, _, _, .cons r t, s => .cons r (Paired.app t s)
end L2
namespace FK
end FK
namespace PySem.AutoSeq1
open PySem PySem.Spec
end PySem.AutoSeq1
namespace L2
open PySem PySem.Spec PyProof.Rows
section
variable {X : Cx}
theorem call_sortedI : CallR X (.builtin "sorted") (fun xs H Q => ∃ (p : Addr) (ns : List Int), xs = [.ref p] ∧ SqL X.K H p (ns.map V.int) ∧ ns.length < 64 ∧ ∀ (l : Addr) (ns' : List Int), H l = none → ns'.Perm ns → ns'.Pairwise (· ≤ ·) → Q (.ref l) (upd H l (.lst (ns'.map V.int)))) := by
 intro pins s σ H xs us Q I r h
 obtain ⟨p, ns, rfl, hq, h64, q⟩ := h
 obtain ⟨u, rfl, rx⟩ := r.one
 cases (show u = Value.ref p from rx)
 obtain ⟨its, rv, pl, hz⟩ := I.list hq
 have hl := rv.length
 rw [List.length_map] at hl
 refine sorted_ints pl.isList (intsAre_of rv) (by omega) fun out ns' a1 a2 a3 => ?_
 obtain ⟨e, he⟩ := sortedAll_at s.heap its out
 refine ⟨.ref (s.heap.objs.size + 1), _, I.laid (a := s.heap.objs.size + 1) (o := .lst (ns'.map V.int)) (t' := s.toks) (fun b u z => sortedAll_old z) (Nat.le_succ _) ⟨?_, out.toList, e, vals_ints a1, ?_⟩, rfl, q _ ns' (I.hok.fresh (Nat.le_succ _)) a2 a3⟩
 ·rw [List.length_map, a2.length_eq]
  exact Nat.le_of_lt (Nat.lt_trans h64 (by decide))
 ·rw [he]
def Itrs (lo st : Int) (n : Nat) : It := ⟨fun i _ => i < n, fun i H x H' => H' = H ∧ x = .int (lo + i * st), fun i _ => n ≤ i⟩
theorem turn_rangeS {P : Program} {w : World} {K : PySem.W.Frag} {tg : Expr} (it : Addr) (lo st : Int) (n : Nat) : Turn P w K tg (Itrs lo st n) [it] it (fun i h => IsRangeIter h it (lo + (i : Nat) * st) ((n : Int) - (i : Nat)) st) where
 mem := by simp
 obj := fun i h st b hb => by
  have e : b = it := by simpa using hb
  subst e
  exact ⟨_, st, fun v z => by
   have z' : Data.fields _ = Data.cell v := z
   cases z'⟩
 keep := fun i h h' st k => k it (by simp) _ st
 item := by
  intro X hP hw hK hc i pins s σ H E I hf hst hg
  subst hP hw hK
  obtain ⟨f0, f1, f2, f3, f4, f5⟩ := hf it (by simp)
  have W := Walks.range (prog := X.prog) (w := X.w) (I.ok.hd hc) it lo st n
  refine W.item i s _ _ hg hst fun v h' tk hv st' kk => ?_
  obtain ⟨t, rfl⟩ := hv
  have I1 : Inv X pins σ H { s with heap := h', toks := tk } := I.turned (fun b o hb e => kk b o (by simpa using hb) e) f0 f1 f3 f4 f5
  exact ⟨_, rfl, go_of (s := { s with heap := h', toks := tk }) (n := "range_iterator") st' rfl rfl (by decide) ⟨.int (lo + i * st), H, I1, ⟨t, rfl⟩, ⟨rfl, rfl⟩, st', fun b hb => (hf b hb).1⟩⟩
 done := by
  intro X hP hw hK hc i pins s σ H E I hf hst hg
  subst hP hw hK
  obtain ⟨f0, f1, f2, f3, f4, f5⟩ := hf it (by simp)
  exact wpAny_pyNext_range_end (I.ok.hd hc) hst (by have : n ≤ i := hg; omega) fun h' eb => ⟨rfl, I.turned (t' := s.toks) (fun b o hb e => eb b o hb e) f0 f1 f3 f4 f5⟩
 self := fun _ _ _ _ _ st h => wpAny_pyIter_rangeiter st h
def iRng3 (ta : TA) : TI := fun σ H R => ta σ H fun vs H1 => ∃ (i j k : Int) (n : Nat), vs = [.int i, .int j, .int k] ∧ (0 < k ∧ k < 1000000 ∧ -1000000 ≤ i ∧ i < 1000000 ∧ -1000000 ≤ j ∧ j < 1000000) ∧ (n : Int) = (if i < j then (j - i - 1) / k + 1 else 0) ∧ R (Itrs i k n) H1
theorem pi_range3 {tg a b c : Expr} {ta : TA} {p pos : Pos} (hg : Gl X "range") (hm : X.mg "range" = none) (ha : PA X [a, b, c] ta) (hs : starEach [a, b, c] X.env = (false, eval a X.env) :: starEach [b, c] X.env := by rfl) (hp : (backTo pos (starEach [b, c] X.env)).any (·.1) = false := by rfl) :
  PI X tg (.Call (.Name "range" p) [a, b, c] [] pos) (iRng3 ta) := by
 intro pins s σ H R I h
 refine Call_ (ld_blt I hg hm boot_range (PyProof.Rows.callWith_type1 (thn (ha pos pins s σ H _ I h) fun us s1 ⟨vs, H1, I1, r1, q1⟩ => ?_) hs hp))
 obtain ⟨i, j, k, n, e, ⟨k0, k1, i0, i1, j0, j1⟩, hn, q⟩ := q1
 subst e
 cases r1 with
 | cons r rr =>
  cases rr with
  | cons r' rr =>
   cases rr with
   | cons r'' rr =>
    cases rr
    obtain ⟨t, rfl⟩ := r
    obtain ⟨t', rfl⟩ := r'
    obtain ⟨t'', rfl⟩ := r''
    have en : Builtin.Range.rangeSize i j k = (n : Int) := by
     unfold Builtin.Range.rangeSize
     rw [if_pos k0, hn]
    have dv : 0 ≤ (j - i - 1) / k ∨ ¬ i < j := by
     rcases Int.lt_or_le i j with z | z
     ·exact .inl (Int.ediv_nonneg (by omega) (by omega))
     ·exact .inr (by omega)
    have dl : (j - i - 1) / k ≤ 2000000 := by
     refine Int.ediv_le_of_le_mul k0 ?_
     have : 2000000 * 1 ≤ 2000000 * k := Int.mul_le_mul_of_nonneg_left (by omega) (by decide)
     omega
    have fits : ∀ z : Int, -(2 ^ 62) ≤ z → z < 2 ^ 62 → Builtin.Range.rangeFitsLong z = true := fun z a b => by
     unfold Builtin.Range.rangeFitsLong
     rw [Bool.and_eq_true, decide_eq_true_eq, decide_eq_true_eq]
     omega
    have hn2 : (n : Int) ≤ 2000001 := by rw [hn]; split <;> omega
    have hsm : Builtin.Range.small i j k = true := by
     unfold Builtin.Range.small
     rw [en, if_pos k0, fits i (by omega) (by omega), fits j (by omega) (by omega), fits k (by omega) (by omega), fits n (by omega) (by omega), fits (j + (k - 1)) (by omega) (by omega), Bool.or_true]
     rfl
    refine PySem.call_range_3 (by omega) ?_ (.inl (PyProof.noPylong_small (by omega)))
    refine wpAny_pyIter_range (IsRange.new ..) hsm ?_
    have I2 : Inv X pins σ H1 { s1 with heap := s1.heap.push { cls := .type "range", data := .fields #[.int i t, .int j t', .int k t''] }, toks := s1.toks } := I1.kept fun b o e => Heap.get?_push_of_some _ e
    refine ⟨(s1.heap.push { cls := .type "range", data := .fields #[.int i t, .int j t', .int k t''] }).objs.size, [(s1.heap.push { cls := .type "range", data := .fields #[.int i t, .int j t', .int k t''] }).objs.size], _, _, H1, rfl,
     I2.kept (t' := s1.toks) fun b o e => Heap.get?_push_of_some _ e, turn_rangeS _ i k n, ?_, fun b hb => ?_, q⟩
    ·have e1 : i + ((0 : Nat) : Int) * k = i := by simp
     have e2 : (n : Int) - ((0 : Nat) : Int) = Builtin.Range.rangeSize i j k := by rw [en]; simp
     show IsRangeIter _ _ (i + ((0 : Nat) : Int) * k) ((n : Int) - ((0 : Nat) : Int)) k
     rw [e1, e2]
     exact Heap.get?_push_size _ rfl
    ·have e : b = (s1.heap.push { cls := .type "range", data := .fields #[.int i t, .int j t', .int k t''] }).objs.size := by simpa using hb
     subst e
     exact I2.fpOk (Nat.le_refl _) (I2.hok.fresh (Nat.le_refl _))
theorem for_rangeS {lo st : Int} {n : Nat} {g : TG} {tb : TS} {D : Ends} {σ : St} {H : Hp} (Pv : Nat → St → Hp → Prop) (h0 : Pv 0 σ H)
  (hs : ∀ i σ H, i < n → Pv i σ H → g (.int (lo + i * st)) σ H fun σ2 H2 => tb { D with nx := Pv (i + 1), ct := Pv (i + 1), bk := D.nx } σ2 H2) (hd : ∀ σ H, Pv n σ H → D.nx σ H) :
  ∃ W : Nat → Nat → St → Hp → Prop, (∃ m, W 0 m σ H) ∧ ∀ i m σ H, W i m σ H →
   ((Itrs lo st n).stop i H ∧ D.nx σ H) ∨ ((Itrs lo st n).go i H ∧ ∃ N : St → Hp → Prop, (∀ σ' H', N σ' H' → ∃ m', m' < m ∧ W (i + 1) m' σ' H') ∧ ∀ x H', (Itrs lo st n).yld i H x H' → g x σ H' fun σ2 H2 => tb { D with nx := N, ct := N, bk := D.nx } σ2 H2) := by
 refine ⟨fun i m σ H => m = n - i ∧ i ≤ n ∧ Pv i σ H, ⟨n, by simp, Nat.zero_le _, h0⟩, ?_⟩
 rintro i m σ H ⟨rfl, hi, p⟩
 by_cases hlt : i < n
 ·refine .inr ⟨hlt, Pv (i + 1), fun σ' H' p' => ⟨n - (i + 1), by omega, rfl, hlt, p'⟩, fun x H' y => ?_⟩
  obtain ⟨e, y⟩ := y
  subst e y
  exact hs i σ _ hlt p
 ·have e : i = n := by omega
  subst e
  exact .inl ⟨Nat.le_refl _, hd σ H p⟩
end
end L2
namespace FK
def fr (q : Rat) : Int × Int := (q.num, (q.den : Int))
theorem fr_inj {q r : Rat} (h : fr q = fr r) : q = r := by
 have h1 : q.num = r.num := congrArg Prod.fst h
 have h2 : (q.den : Int) = r.den := congrArg Prod.snd h
 exact Rat.ext h1 (by omega)
theorem fr_dec (q r : Rat) : decide (fr q = fr r) = decide (q = r) := decide_eq_decide.mpr ⟨fr_inj, fun h => by rw [h]⟩
theorem den_pos (q : Rat) : 0 < (q.den : Int) := by have := q.den_pos; omega
theorem num_nn {q : Rat} (h : 0 ≤ q) : 0 ≤ q.num := Rat.num_nonneg.mpr h
theorem fr_cop (q : Rat) : G q.num q.den = 1 := by
 unfold G
 have := q.reduced
 show ((Nat.gcd q.num.natAbs (q.den : Int).natAbs : Nat) : Int) = 1
 rw [Int.natAbs_natCast, this.gcd_eq_one]
 rfl
theorem q_eq (q : Rat) : (q.num : Rat) / ((q.den : Int) : Rat) = q := by
 have := Rat.num_divInt_den q
 rw [Rat.divInt_eq_div] at this
 exact this
theorem den_ne (q : Rat) : ((q.den : Int) : Rat) ≠ 0 := by
 intro h
 have := Rat.intCast_inj.mp (show ((q.den : Int) : Rat) = ((0 : Int) : Rat) from h)
 have := den_pos q
 omega
theorem low_fr {a b : Int} (hb : 0 < b) : lo a b = ((a : Rat) / (b : Rat)).num ∧ hi a b = (((a : Rat) / (b : Rat)).den : Int) := by
 rw [← Rat.divInt_eq_div]
 constructor
 ·rw [Rat.num_divInt, Int.sign_eq_one_of_pos hb, Int.one_mul, Int.gcd_comm]
  rfl
 ·rw [Rat.den_divInt, if_neg (by omega)]
  unfold hi G
  rw [Int.gcd_comm b a, Int.natCast_ediv]
  congr 1
  omega
theorem plus_fr (q r : Rat) : ((q.num * (r.den : Int) + r.num * (q.den : Int) : Int) : Rat) / (((q.den : Int) * (r.den : Int) : Int) : Rat) = q + r := by
 have h1 := q_eq q
 have h2 := q_eq r
 have h3 := den_ne q
 have h4 := den_ne r
 rw [Rat.intCast_add, Rat.intCast_mul, Rat.intCast_mul, Rat.intCast_mul]
 grind
theorem minus_fr (q r : Rat) : ((q.num * (r.den : Int) - r.num * (q.den : Int) : Int) : Rat) / (((q.den : Int) * (r.den : Int) : Int) : Rat) = q - r := by
 have h1 := q_eq q
 have h2 := q_eq r
 have h3 := den_ne q
 have h4 := den_ne r
 rw [Rat.intCast_sub, Rat.intCast_mul, Rat.intCast_mul, Rat.intCast_mul]
 grind
theorem times_fr (q r : Rat) : ((q.num * r.num : Int) : Rat) / (((q.den : Int) * (r.den : Int) : Int) : Rat) = q * r := by
 have h1 := q_eq q
 have h2 := q_eq r
 have h3 := den_ne q
 have h4 := den_ne r
 rw [Rat.intCast_mul, Rat.intCast_mul]
 grind
theorem over_fr {q r : Rat} (h : 0 < r) : ((q.num * (r.den : Int) : Int) : Rat) / (((q.den : Int) * r.num : Int) : Rat) = q / r := by
 have h1 := q_eq q
 have h2 := q_eq r
 have h3 := den_ne q
 have h4 := den_ne r
 have h5 : (r.num : Rat) ≠ 0 := by
  intro z
  rw [z] at h2
  grind
 rw [Rat.intCast_mul, Rat.intCast_mul]
 grind
theorem num_pos {q : Rat} (h : 0 < q) : 0 < q.num := by
 have := (Rat.lt_iff 0 q).mp h
 have e : (0 : Rat).num = 0 := rfl
 have f : ((0 : Rat).den : Int) = 1 := rfl
 rw [e, f, Int.zero_mul, Int.mul_one] at this
 exact this
def Bd (n : Nat) (q : Rat) : Prop := q.num.natAbs < 2 ^ n ∧ q.den < 2 ^ n
theorem Bd.mono {m n : Nat} {q : Rat} (h : Bd m q) (e : m ≤ n) : Bd n q :=
 ⟨Nat.lt_of_lt_of_le h.1 (Nat.pow_le_pow_right (by decide) e), Nat.lt_of_lt_of_le h.2 (Nat.pow_le_pow_right (by decide) e)⟩
theorem Bd.of {a b : Int} {n : Nat} (hb : 0 < b) (ha : a.natAbs < 2 ^ n) (hb2 : b.natAbs < 2 ^ n) : Bd n ((a : Rat) / (b : Rat)) := by
 obtain ⟨e1, e2⟩ := low_fr (a := a) hb
 have g := G_pos (a := a) hb
 have l1 := lo_eq a b
 have l2 := hi_eq a b
 have h1 : (lo a b).natAbs ≤ a.natAbs := by
  conv => rhs; rw [← l1]
  rw [Int.natAbs_mul]
  exact Nat.le_mul_of_pos_left _ (by omega)
 have h2 : (hi a b).natAbs ≤ b.natAbs := by
  conv => rhs; rw [← l2]
  rw [Int.natAbs_mul]
  exact Nat.le_mul_of_pos_left _ (by omega)
 refine ⟨?_, ?_⟩
 ·rw [← e1]
  omega
 ·omega
theorem mul_lt_pow {a b m n : Nat} (h1 : a < 2 ^ m) (h2 : b < 2 ^ n) : a * b < 2 ^ (m + n) := by
 rw [Nat.pow_add]
 rcases Nat.eq_zero_or_pos b with z | z
 ·subst z
  have := Nat.two_pow_pos m
  have := Nat.two_pow_pos n
  rw [Nat.mul_zero]
  exact Nat.mul_pos ‹_› ‹_›
 ·exact Nat.mul_lt_mul_of_lt_of_le h1 (Nat.le_of_lt h2) (Nat.two_pow_pos n)
theorem Bd.add {m n : Nat} {q r : Rat} (h1 : Bd m q) (h2 : Bd n r) : Bd (m + n + 1) (q + r) := by
 rw [← plus_fr q r]
 have d1 := den_pos q
 have d2 := den_pos r
 have a1 := mul_lt_pow h1.1 h2.2
 have a2 := mul_lt_pow h2.1 h1.2
 have a3 := mul_lt_pow h1.2 h2.2
 refine Bd.of (Int.mul_pos d1 d2) ?_ ?_
 ·have : (q.num * (r.den : Int) + r.num * (q.den : Int)).natAbs ≤ q.num.natAbs * r.den + r.num.natAbs * q.den := by
   refine Nat.le_trans (Int.natAbs_add_le _ _) ?_
   rw [Int.natAbs_mul, Int.natAbs_mul, Int.natAbs_natCast, Int.natAbs_natCast]
   exact Nat.le_refl _
  rw [Nat.add_comm n m] at a2
  rw [Nat.pow_succ]
  omega
 ·rw [Int.natAbs_mul, Int.natAbs_natCast, Int.natAbs_natCast, Nat.pow_succ]
  omega
theorem Bd.neg {n : Nat} {q : Rat} (h : Bd n q) : Bd n (-q) := by
 refine ⟨?_, ?_⟩
 ·rw [Rat.neg_num, Int.natAbs_neg]
  exact h.1
 ·rw [Rat.neg_den]
  exact h.2
theorem Bd.sub {m n : Nat} {q r : Rat} (h1 : Bd m q) (h2 : Bd n r) : Bd (m + n + 1) (q - r) := by
 rw [Rat.sub_eq_add_neg]
 exact h1.add h2.neg
theorem Bd.mul {m n : Nat} {q r : Rat} (h1 : Bd m q) (h2 : Bd n r) : Bd (m + n) (q * r) := by
 rw [← times_fr q r]
 refine Bd.of (Int.mul_pos (den_pos q) (den_pos r)) ?_ ?_
 ·rw [Int.natAbs_mul]
  exact mul_lt_pow h1.1 h2.1
 ·rw [Int.natAbs_mul, Int.natAbs_natCast, Int.natAbs_natCast]
  exact mul_lt_pow h1.2 h2.2
def Gr (D : Nat) (q : Rat) : Prop := ∃ n : Int, q * (D : Rat) = (n : Rat)
theorem Gr.add {D : Nat} {q r : Rat} (h1 : Gr D q) (h2 : Gr D r) : Gr D (q + r) := by
 obtain ⟨a, ha⟩ := h1
 obtain ⟨b, hb⟩ := h2
 exact ⟨a + b, by rw [Rat.intCast_add]; grind⟩
theorem Gr.sub {D : Nat} {q r : Rat} (h1 : Gr D q) (h2 : Gr D r) : Gr D (q - r) := by
 obtain ⟨a, ha⟩ := h1
 obtain ⟨b, hb⟩ := h2
 exact ⟨a - b, by rw [Rat.intCast_sub]; grind⟩
theorem Gr.int (D : Nat) (n : Int) : Gr D (n : Rat) := ⟨n * D, by rw [Rat.intCast_mul]; rfl⟩
theorem Gr.zero (D : Nat) : Gr D 0 := Gr.int D 0
theorem Gr.imul {D : Nat} {q : Rat} (h : Gr D q) (n : Int) : Gr D ((n : Rat) * q) := by
 obtain ⟨a, ha⟩ := h
 exact ⟨n * a, by rw [Rat.intCast_mul]; grind⟩
theorem nat_ne {D : Nat} (h : 0 < D) : (D : Rat) ≠ 0 := by
 intro z
 have := Rat.natCast_inj.mp (show (D : Rat) = ((0 : Nat) : Rat) from z)
 omega
theorem nat_pos {D : Nat} (h : 0 < D) : (0 : Rat) < (D : Rat) := by
 have := Rat.natCast_lt_natCast.mpr h
 exact this
theorem Gr.bd {D n : Nat} {q : Rat} (h : Gr D q) (hD : 0 < D) (h0 : 0 ≤ q) {m : Nat} (hm : q ≤ (m : Rat)) (hs : m * D < 2 ^ n) (hs2 : D < 2 ^ n) : Bd n q := by
 obtain ⟨a, ha⟩ := h
 have e : q = ((a : Rat) / ((D : Int) : Rat)) := by
  rw [Rat.intCast_natCast, ← ha]
  have := nat_ne hD
  grind
 have p := nat_pos hD
 rw [e]
 refine Bd.of (by omega) ?_ (by rw [Int.natAbs_natCast]; exact hs2)
 have a0 : 0 ≤ a := by
  have : (0 : Rat) ≤ (a : Rat) := by
   rw [← ha]
   exact Rat.mul_nonneg h0 (Rat.le_of_lt p)
  exact Rat.intCast_le_intCast.mp this
 have a1 : a ≤ ((m * D : Nat) : Int) := by
  have : (a : Rat) ≤ ((m * D : Nat) : Int) := by
   rw [← ha, Rat.intCast_natCast, Rat.natCast_mul]
   exact Rat.mul_le_mul_of_nonneg_right hm (Rat.le_of_lt p)
  exact Rat.intCast_le_intCast.mp this
 omega
end FK
namespace FK
abbrev Steps := List (Rat × Int)
def A : Rat → Steps → Rat → Rat
 | _, [], _ => 0
 | b, (e, w) :: S, x => (w : Rat) * (max b (min e x) - b) + A e S x
def endOf : Rat → Steps → Rat
 | b, [] => b
 | _, (e, _) :: S => endOf e S
def Rise : Rat → Steps → Prop
 | _, [] => True
 | b, (e, w) :: S => b < e ∧ 0 < w ∧ Rise e S
theorem end_snoc : ∀ (b : Rat) (S : Steps) (e : Rat) (w : Int), endOf b (S ++ [(e, w)]) = e
 | _, [], _, _ => rfl
 | _, (e', _) :: S, e, w => end_snoc e' S e w
theorem w_pos {w : Int} (h : 0 < w) : (0 : Rat) < (w : Rat) := Rat.intCast_pos.mpr h
theorem Rise.le : ∀ {b : Rat} {S : Steps}, Rise b S → b ≤ endOf b S
 | b, [], _ => Rat.le_refl
 | b, (e, w) :: S, h => Rat.le_trans (Rat.le_of_lt h.1) (Rise.le h.2.2)
theorem mul_mono {w x y : Rat} (hw : 0 < w) (h : x ≤ y) : w * x ≤ w * y := Rat.mul_le_mul_of_nonneg_left h (Rat.le_of_lt hw)
theorem mul_smono {w x y : Rat} (hw : 0 < w) (h : x < y) : w * x < w * y := Rat.mul_lt_mul_of_pos_left h hw
theorem A_low : ∀ {b : Rat} {S : Steps} {x : Rat}, Rise b S → x ≤ b → A b S x = 0
 | b, [], x, _, _ => rfl
 | b, (e, w) :: S, x, h, hx => by
  show (w : Rat) * (max b (min e x) - b) + A e S x = 0
  have h1 : b < e := h.1
  rw [A_low h.2.2 (by grind), show max b (min e x) = b by grind]
  grind
theorem A_mono : ∀ {b : Rat} {S : Steps} {x y : Rat}, Rise b S → x ≤ y → A b S x ≤ A b S y
 | b, [], x, y, _, _ => Rat.le_refl
 | b, (e, w) :: S, x, y, h, hx => by
  have h1 := A_mono (x := x) (y := y) h.2.2 hx
  have h2 := mul_mono (w_pos h.2.1) (x := max b (min e x) - b) (y := max b (min e y) - b) (by grind)
  show (w : Rat) * (max b (min e x) - b) + A e S x ≤ (w : Rat) * (max b (min e y) - b) + A e S y
  grind
theorem A_nn {b : Rat} {S : Steps} {x : Rat} (h : Rise b S) : 0 ≤ A b S x := by
 rcases Rat.le_total (a := x) (b := b) with z | z
 ·rw [A_low h z]
  exact Rat.le_refl
 ·have := A_mono (x := b) (y := x) h z
  rw [A_low h Rat.le_refl] at this
  exact this
theorem A_smono : ∀ {b : Rat} {S : Steps} {x y : Rat}, Rise b S → b ≤ x → x < y → y ≤ endOf b S → A b S x < A b S y
 | b, [], x, y, _, h1, h2, h3 => by
  exfalso
  have : y ≤ b := h3
  grind
 | b, (e, w) :: S, x, y, h, h1, h2, h3 => by
  have hw := w_pos h.2.1
  have r1 : b < e := h.1
  show (w : Rat) * (max b (min e x) - b) + A e S x < (w : Rat) * (max b (min e y) - b) + A e S y
  by_cases z : e ≤ x
  ·have := A_smono (x := x) (y := y) h.2.2 z h2 h3
   rw [show max b (min e x) = e by grind, show max b (min e y) = e by grind]
   grind
  ·have m1 := A_mono (x := x) (y := y) h.2.2 (Rat.le_of_lt h2)
   have m2 := mul_smono hw (x := max b (min e x) - b) (y := max b (min e y) - b) (by grind)
   grind
def hl : Rat → Rat → Steps → List (Rat × Rat)
 | b, h, [] => [(b, h)]
 | b, h, (e, w) :: S => (b, h) :: hl e (h + (e - b) * (w : Rat)) S
theorem hl_head : ∀ (b h : Rat) (S : Steps), ∃ T, hl b h S = (b, h) :: T
 | b, h, [] => ⟨[], rfl⟩
 | b, h, (e, w) :: S => ⟨_, rfl⟩
theorem hl_len : ∀ (b h : Rat) (S : Steps), (hl b h S).length = S.length + 1
 | b, h, [] => rfl
 | b, h, (e, w) :: S => by
  show (hl e _ S).length + 1 = S.length + 1 + 1
  rw [hl_len]
theorem hl_snoc : ∀ (b h : Rat) (S : Steps) (e : Rat) (w : Int), Rise b S → hl b h (S ++ [(e, w)]) = hl b h S ++ [(e, h + A b S (endOf b S) + (e - endOf b S) * (w : Rat))]
 | b, h, [], e, w, _ => by
  show [(b, h), (e, h + (e - b) * (w : Rat))] = [(b, h), (e, h + 0 + (e - b) * (w : Rat))]
  rw [show h + 0 = h by grind]
 | b, h, (e', w') :: S, e, w, r => by
  show (b, h) :: hl e' (h + (e' - b) * (w' : Rat)) (S ++ [(e, w)]) = (b, h) :: (hl e' (h + (e' - b) * (w' : Rat)) S ++ [(e, h + ((w' : Rat) * (max b (min e' (endOf e' S)) - b) + A e' S (endOf e' S)) + (e - endOf e' S) * (w : Rat))])
  have h1 := Rise.le r.2.2
  have h2 := r.1
  rw [hl_snoc e' _ S e w r.2.2, show max b (min e' (endOf e' S)) = e' by grind]
  congr 4
  grind
theorem hl_last : ∀ (b h : Rat) (S : Steps), Rise b S → (hl b h S).getLast? = some (endOf b S, h + A b S (endOf b S))
 | b, h, [], _ => by
  show some (b, h) = some (b, h + 0)
  rw [show h + 0 = h by grind]
 | b, h, (e, w) :: S, r => by
  obtain ⟨T, hT⟩ := hl_head e (h + (e - b) * (w : Rat)) S
  have ih := hl_last e (h + (e - b) * (w : Rat)) S r.2.2
  have h1 := Rise.le r.2.2
  have h2 := r.1
  show ((b, h) :: hl e (h + (e - b) * (w : Rat)) S).getLast? = some (endOf e S, h + ((w : Rat) * (max b (min e (endOf e S)) - b) + A e S (endOf e S)))
  rw [hT] at ih ⊢
  rw [List.getLast?_cons_cons, ih, show max b (min e (endOf e S)) = e by grind]
  congr 2
  grind
end FK
namespace FK
theorem rise_get : ∀ {b : Rat} {S : Steps} {i : Nat} {z : Rat × Int}, Rise b S → S[i]? = some z → endOf b (S.take i) < z.1 ∧ 0 < z.2
 | b, [], i, z, _, h => by simp at h
 | b, (e, w) :: S, 0, z, r, h => by
  have h' : (e, w) = z := by simpa using h
  subst h'
  exact ⟨r.1, r.2.1⟩
 | b, (e, w) :: S, i + 1, z, r, h => by
  have h' : S[i]? = some z := by simpa using h
  show endOf e (S.take i) < z.1 ∧ 0 < z.2
  exact rise_get r.2.2 h'
theorem rise_take : ∀ {b : Rat} {S : Steps} (i : Nat), Rise b S → Rise b (S.take i)
 | b, [], i, _ => by rw [List.take_nil]; trivial
 | b, (e, w) :: S, 0, r => trivial
 | b, (e, w) :: S, i + 1, r => ⟨r.1, r.2.1, rise_take i r.2.2⟩
theorem take_snoc {α : Type} {L : List α} {i : Nat} {z : α} (h : L[i]? = some z) : L.take (i + 1) = L.take i ++ [z] := by
 rw [List.take_succ, h]
 rfl
theorem A_take : ∀ {b : Rat} {S : Steps} (i : Nat), Rise b S → A b (S.take i) (endOf b (S.take i)) = A b S (endOf b (S.take i))
 | b, [], i, _ => by rw [List.take_nil]
 | b, (e, w) :: S, 0, r => by
  show 0 = A b ((e, w) :: S) b
  exact (A_low r Rat.le_refl).symm
 | b, (e, w) :: S, i + 1, r => by
  show (w : Rat) * (max b (min e (endOf e (S.take i))) - b) + A e (S.take i) (endOf e (S.take i)) = (w : Rat) * (max b (min e (endOf e (S.take i))) - b) + A e S (endOf e (S.take i))
  rw [A_take i r.2.2]
theorem end_take_le : ∀ {b : Rat} {S : Steps} (i : Nat), Rise b S → endOf b (S.take i) ≤ endOf b S
 | b, [], i, _ => by rw [List.take_nil]; exact Rat.le_refl
 | b, (e, w) :: S, 0, r => Rise.le r
 | b, (e, w) :: S, i + 1, r => end_take_le i r.2.2
theorem A_up : ∀ {b : Rat} {S : Steps} {x M : Rat}, Rise b S → 0 ≤ M → (∀ z ∈ S, (z.2 : Rat) ≤ M) → b ≤ x → A b S x ≤ M * (x - b)
 | b, [], x, M, _, h0, hM, hx => by
  show (0 : Rat) ≤ M * (x - b)
  exact Rat.mul_nonneg h0 (by grind)
 | b, (e, w) :: S, x, M, r, h0, hM, hx => by
  have r1 : b < e := r.1
  have hw : (w : Rat) ≤ M := hM (e, w) List.mem_cons_self
  show (w : Rat) * (max b (min e x) - b) + A e S x ≤ M * (x - b)
  by_cases z : x ≤ e
  ·rw [A_low r.2.2 z, show max b (min e x) = x by grind]
   have := Rat.mul_le_mul_of_nonneg_right hw (show (0 : Rat) ≤ x - b by grind)
   grind
  ·have ih := A_up (x := x) r.2.2 h0 (fun z hz => hM z (List.mem_cons_of_mem _ hz)) (by grind)
   have := Rat.mul_le_mul_of_nonneg_right hw (show (0 : Rat) ≤ e - b by grind)
   rw [show max b (min e x) = e by grind]
   grind
theorem hl_get : ∀ {b h : Rat} {S : Steps} {i : Nat}, Rise b S → i ≤ S.length → (hl b h S)[i]? = some (endOf b (S.take i), h + A b S (endOf b (S.take i)))
 | b, h, [], i, _, hi => by
  have : i = 0 := by simpa using hi
  subst this
  show some (b, h) = some (b, h + 0)
  rw [show h + 0 = h by grind]
 | b, h, (e, w) :: S, 0, r, _ => by
  show some (b, h) = some (b, h + A b ((e, w) :: S) b)
  rw [A_low r Rat.le_refl, show h + 0 = h by grind]
 | b, h, (e, w) :: S, i + 1, r, hi => by
  have r1 : b < e := r.1
  have hi' : i ≤ S.length := by simpa using hi
  have l1 := Rise.le (rise_take i r.2.2)
  show (hl e (h + (e - b) * (w : Rat)) S)[i]? = some (endOf e (S.take i), h + ((w : Rat) * (max b (min e (endOf e (S.take i))) - b) + A e S (endOf e (S.take i))))
  rw [hl_get r.2.2 hi', show max b (min e (endOf e (S.take i))) = e by grind]
  congr 2
  grind
theorem Gr.mx {D : Nat} {a b : Rat} (h1 : Gr D a) (h2 : Gr D b) : Gr D (max a b) := by
 by_cases h : a ≤ b
 ·rw [show max a b = b by grind]; exact h2
 ·rw [show max a b = a by grind]; exact h1
theorem Gr.mn {D : Nat} {a b : Rat} (h1 : Gr D a) (h2 : Gr D b) : Gr D (min a b) := by
 by_cases h : a ≤ b
 ·rw [show min a b = a by grind]; exact h1
 ·rw [show min a b = b by grind]; exact h2
theorem A_gr : ∀ {D : Nat} {b : Rat} {S : Steps} {x : Rat}, Gr D b → (∀ z ∈ S, Gr D z.1) → Gr D x → Gr D (A b S x)
 | D, b, [], x, _, _, _ => Gr.zero D
 | D, b, (e, w) :: S, x, hb, hS, hx => by
  have he := hS (e, w) List.mem_cons_self
  exact Gr.add (Gr.imul (Gr.sub (hb.mx (he.mn hx)) hb) w) (A_gr he (fun z hz => hS z (List.mem_cons_of_mem _ hz)) hx)
theorem end_gr : ∀ {D : Nat} {b : Rat} {S : Steps}, Gr D b → (∀ z ∈ S, Gr D z.1) → Gr D (endOf b S)
 | D, b, [], hb, _ => hb
 | D, b, (e, w) :: S, _, hS => end_gr (b := e) (S := S) (hS (e, w) List.mem_cons_self) fun z hz => hS z (List.mem_cons_of_mem _ hz)
structure TsOk (p : Nat) (S : Steps) : Prop where
 pos : 0 < p
 few : p ≤ 1000 ^ 8
 ne : S ≠ []
 len : S.length ≤ 8
 rise : Rise 0 S
 top : endOf 0 S = 1
 gr : ∀ z ∈ S, Gr p z.1
 w : ∀ z ∈ S, z.2 ≤ 1000
 den : ∀ z ∈ S, z.1.den ≤ 1000
def tot (S : Steps) : Rat := A 0 S 1
section
variable {p : Nat} {S : Steps}
theorem TsOk.tp (h : TsOk p S) : 0 < tot S := by
 have := A_smono (x := 0) (y := 1) h.rise Rat.le_refl (by decide) (by rw [h.top]; exact Rat.le_refl)
 rw [A_low h.rise Rat.le_refl] at this
 exact this
theorem TsOk.up (h : TsOk p S) {x : Rat} (h0 : 0 ≤ x) (h1 : x ≤ 1) : A 0 S x ≤ 1000 := by
 have := A_up (x := x) (M := 1000) h.rise (by decide) (fun z hz => by
  have := Rat.intCast_le_intCast.mpr (h.w z hz)
  exact this) h0
 grind
def wl (S : Steps) : List (Rat × Rat) := (hl 0 0 S).map fun z => (z.1, z.2 / tot S)
theorem zero_add' (x : Rat) : 0 + x = x := by grind
theorem end_nn (h : TsOk p S) (i : Nat) : 0 ≤ endOf 0 (S.take i) := Rise.le (rise_take i h.rise)
theorem end_le (h : TsOk p S) (i : Nat) : endOf 0 (S.take i) ≤ 1 := by
 have := end_take_le i h.rise
 rw [h.top] at this
 exact this
theorem end_g (h : TsOk p S) (i : Nat) : Gr p (endOf 0 (S.take i)) := end_gr (Gr.zero p) fun z hz => h.gr z (List.mem_of_mem_take hz)
theorem end_bd (h : TsOk p S) (i : Nat) : Bd 90 (endOf 0 (S.take i)) := by
 have f := h.few
 exact (end_g h i).bd h.pos (end_nn h i) (m := 1) (by rw [show ((1 : Nat) : Rat) = 1 from rfl]; exact end_le h i) (by omega) (by omega)
end
end FK
namespace L2
open PySem PySem.Spec PyProof.Rows
section
variable {X : Cx} {pins : List (Addr × Obj)} {σ : St} {H : Hp} {s : Shared} {h' : Heap}
theorem Inv.turnedN {t' : Nat} {ch : List Addr} {T : Addr} {o : HO} (I : Inv X pins σ H s) (k : ∀ b o, b ∉ ch → s.heap.get? b = some o → h'.get? b = some o) (hf : ∀ b ∈ ch, FpOk X pins H b)
  (hT : s.heap.objs.size ≤ T) (new : ObjOk X.prog X.w (upd H T o) h' T o) : Inv X pins σ (upd H T o) { s with heap := h', toks := t' } := by
 have hn : H T = none := I.hok.fresh hT
 have nch : ∀ b u, H b = some u → b ∉ ch := fun b u e z => by
  rw [(hf b z).1] at e
  cases e
 refine I.step (g' := s.gens) (d' := s.drawn) (ch := ch) (fun b hb => ?_) (fun b o _ _ hc e _ => k b o hc e) (fun b o _ _ hc e _ => ⟨o.slots, k b o hc e⟩) (fun b o hc e n => ?_)
  (fun b o hc e => ⟨o, k b o hc e⟩) (fun b xs e => by rw [upd_ne (ne_of_none e hn)]; exact e) (fun b u xs e => by rw [upd_ne (ne_of_none e hn)]; exact e) (fun b ps e => ⟨#[], by rw [upd_ne (ne_of_none e hn), e]; simp⟩) (fun m hm => ?_) (fun b u e => ?_) I.bare
 ·obtain ⟨_, f1, _, f3, f4, f5⟩ := hf b hb
  exact ⟨f3, f1, f4, f5⟩
 ·rw [upd_ne (Nat.ne_of_lt (Nat.lt_of_lt_of_le (Heap.lt_size e) hT))]
  exact n
 ·obtain ⟨o, es, ep, ho, r⟩ := hm
  exact ⟨o, es, ep, k _ o (fun z => (hf _ z).2.1 rfl) ho, r⟩
 ·by_cases hb : b = T
  ·subst hb
   rw [upd_same] at e
   cases e
   exact new
  ·rw [upd_ne hb] at e
   refine (I.hok b u e).stay (fun c v hc q => k c v ?_ q) (fun c q => by rw [upd_ne (ne_of_none q hn)]; exact q) fun c xs q => by rw [upd_ne (ne_of_none q hn)]; exact q
   rcases hc with z | z
   ·rw [z]
    exact nch b u e
   ·exact nch c _ z
theorem Inv.turnedL {t' : Nat} {ch : List Addr} (I : Inv X pins σ H s) (k : ∀ b o, b ∉ ch → s.heap.get? b = some o → h'.get? b = some o) (hf : ∀ b ∈ ch, FpOk X pins H b) : Inv X pins σ H { s with heap := h', toks := t' } := by
 have nch : ∀ b u, H b = some u → b ∉ ch := fun b u e z => by
  rw [(hf b z).1] at e
  cases e
 refine I.step (g' := s.gens) (d' := s.drawn) (ch := ch) (fun b hb => ?_) (fun b o _ _ hc e _ => k b o hc e) (fun b o _ _ hc e _ => ⟨o.slots, k b o hc e⟩) (fun b o hc e n => n)
  (fun b o hc e => ⟨o, k b o hc e⟩) (fun b xs e => e) (fun b u xs e => e) (fun b ps e => ⟨#[], by rw [e]; simp⟩) (fun m hm => ?_) (fun b u e => ?_) I.bare
 ·obtain ⟨_, f1, _, f3, f4, f5⟩ := hf b hb
  exact ⟨f3, f1, f4, f5⟩
 ·obtain ⟨o, es, ep, ho, r⟩ := hm
  exact ⟨o, es, ep, k _ o (fun z => (hf _ z).2.1 rfl) ho, r⟩
 ·refine (I.hok b u e).stay (fun c v hc q => k c v ?_ q) (fun _ q => q) fun _ _ q => q
  rcases hc with z | z
  ·rw [z]
   exact nch b u e
  ·exact nch c _ z
end
def Itz (K : PySem.W.Frag) (l1 l2 : Addr) : It :=
  ⟨fun i H => ∃ xs ys x y, SqL K H l1 xs ∧ SqL K H l2 ys ∧ xs[i]? = some x ∧ ys[i]? = some y,
   fun i H v H' => ∃ T x y, v = .ref T ∧ H T = none ∧ H' = upd H T (.tup [x, y]) ∧ (∀ xs, SqL K H l1 xs → xs[i]? = some x) ∧ (∀ ys, SqL K H l2 ys → ys[i]? = some y),
   fun i H => ∃ xs ys, SqL K H l1 xs ∧ SqL K H l2 ys ∧ (xs.length ≤ i ∨ ys.length ≤ i)⟩
def tnZ (z TI TO i1 i2 l1 l2 : Addr) (i : Nat) (h : Heap) : Prop := IsZip h z TI TO .none ∧ IsPair h TI (.ref i1) (.ref i2) ∧ (∃ a b, IsPair h TO a b) ∧ h.IsListIter i1 l1 i ∧ h.IsListIter i2 l2 i
theorem turn_zip {P : Program} {w : World} {K : PySem.W.Frag} {elts : List Expr} {kk : Nat} {tp : Pos} {z TI TO i1 i2 l1 l2 : Addr} (D : ZipApart z TI TO i1 i2 l1 l2) : Turn P w K (.Tuple elts kk tp) (Itz K l1 l2) [z, TI, TO, i1, i2] z (tnZ z TI TO i1 i2 l1 l2) where
 mem := by simp
 obj := fun i h st b hb => by
  obtain ⟨hz, hTI, ⟨a, c, hTO⟩, ⟨o1, e1, _, d1⟩, ⟨o2, e2, _, d2⟩⟩ := st
  simp only [List.mem_cons, List.mem_nil_iff, or_false] at hb
  rcases hb with rfl | rfl | rfl | rfl | rfl
  ·exact ⟨_, hz, fun v z => by cases z⟩
  ·exact ⟨_, hTI, fun v z => by cases z⟩
  ·exact ⟨_, hTO, fun v z => by cases z⟩
  ·exact ⟨_, e1, fun v z => by rw [d1] at z; cases z⟩
  ·exact ⟨_, e2, fun v z => by rw [d2] at z; cases z⟩
 keep := fun i h h' st k => by
  obtain ⟨hz, hTI, ⟨a, c, hTO⟩, h1, h2⟩ := st
  exact ⟨k z (by simp) _ hz, k TI (by simp) _ hTI, ⟨a, c, k TO (by simp) _ hTO⟩, h1.at fun o e => k i1 (by simp) o e, h2.at fun o e => k i2 (by simp) o e⟩
 item := by
  intro X hP hw hK hc i pins s σ H E I hf st hg
  subst hP hw hK
  obtain ⟨xs, ys, x, y, hq1, hq2, hx, hy⟩ := hg
  obtain ⟨its1, rv1, p1, hz1⟩ := I.list hq1
  obtain ⟨its2, rv2, p2, hz2⟩ := I.list hq2
  obtain ⟨u1, hu1, ru1⟩ := rv1.get hx
  obtain ⟨u2, hu2, ru2⟩ := rv2.get hy
  obtain ⟨hz, hTI, ⟨a, c, hTO⟩, h1, h2⟩ := st
  refine wpAny_pyNext_zip_item D hz hTI hTO h1 h2 p1.isList p2.isList (x := u1) (y := u2) (by simpa using hu1) (by simpa using hu2) fun h' a1 a2 a3 a4 a5 a6 a7 => ?_
  refine ⟨_, rfl, wpAny_letOwnedTupleGo_zip a1 fun h'' b1 b2 => ?_⟩
  have lt : ∀ {c o}, s.heap.get? c = some o → s.heap.objs.size ≠ c := fun e => Nat.ne_of_gt (Heap.lt_size e)
  have kp : ∀ b o, b ∉ [z, TO, i1, i2] → s.heap.get? b = some o → h''.get? b = some o := fun b o hb e => by
   simp only [List.mem_cons, List.mem_nil_iff, or_false, not_or] at hb
   exact b2.extBut _ _ hb.1 (a7 b o hb.1 hb.2.1 hb.2.2.1 hb.2.2.2 e)
  have hT : h''.get? s.heap.objs.size = some { cls := .type "tuple", data := .seq #[u1, u2] } := b2.extBut _ _ (lt hz) a5
  have I2 : Inv X pins σ (upd H s.heap.objs.size (.tup [x, y])) { s with heap := h'', toks := s.toks } := by
   refine I.turnedN (ch := [z, TO, i1, i2]) kp (fun b hb => hf b ?_) (Nat.le_refl _) ⟨(by show 2 ≤ sizeLine; decide), [u1, u2], .cons ru1 (.cons ru2 .nil), ⟨_, hT, rfl, _, rfl⟩⟩
   simp only [List.mem_cons, List.mem_nil_iff, or_false] at hb ⊢
   rcases hb with rfl | rfl | rfl | rfl <;> simp
  refine ⟨.ref s.heap.objs.size, _, I2, rfl, ⟨s.heap.objs.size, x, y, rfl, I.hok.fresh (Nat.le_refl _), rfl, fun zs hy' => by rw [I.list_inj hy' hq1]; exact hx, fun zs hy' => by rw [I.list_inj hy' hq2]; exact hy⟩,
   ⟨b1, b2.extBut _ _ D.TIz (a7 _ _ D.TIz D.TITO D.TIi1 D.TIi2 hTI), ⟨_, _, b2.extBut _ _ D.TOz a2⟩, a3.extBut b2.extBut D.i1z, a4.extBut b2.extBut D.i2z⟩, fun b hb => ?_⟩
  have ne : b ≠ s.heap.objs.size := by
   intro e
   subst e
   simp only [List.mem_cons, List.mem_nil_iff, or_false] at hb
   obtain ⟨o1, e1, _⟩ := h1
   obtain ⟨o2, e2, _⟩ := h2
   rcases hb with e | e | e | e | e
   ·exact lt hz e
   ·exact lt hTI e
   ·exact lt hTO e
   ·exact lt e1 e
   ·exact lt e2 e
  rw [upd_ne ne]
  exact (hf b hb).1
 done := by
  intro X hP hw hK hc i pins s σ H E I hf st hg
  subst hP hw hK
  obtain ⟨xs, ys, hq1, hq2, hl⟩ := hg
  obtain ⟨its1, rv1, p1, hz1⟩ := I.list hq1
  obtain ⟨its2, rv2, p2, hz2⟩ := I.list hq2
  have l1' := rv1.length
  have l2' := rv2.length
  obtain ⟨hz, hTI, ⟨a, c, hTO⟩, h1, h2⟩ := st
  refine wpAny_pyNext_zip_end (I.ok.hd hc) D hz hTI hTO h1 h2 p1.isList p2.isList ?_ fun h' k => ⟨rfl, ?_⟩
  ·rcases hl with e | e
   ·exact .inl (by simp; omega)
   ·exact .inr (by simp; omega)
  ·refine I.turnedL (t' := s.toks) (ch := [z, TO, i1, i2]) (fun b o hb e => ?_) fun b hb => hf b ?_
   ·simp only [List.mem_cons, List.mem_nil_iff, or_false, not_or] at hb
    exact k b o hb.1 hb.2.1 hb.2.2.1 hb.2.2.2 e
   ·simp only [List.mem_cons, List.mem_nil_iff, or_false] at hb ⊢
    rcases hb with rfl | rfl | rfl | rfl <;> simp
 self := fun _ _ _ _ _ st h => wpAny_pyIter_zip st.1 h
section
variable {X : Cx}
def iZip (K : PySem.W.Frag) (ta : TA) : TI := fun σ H R => ta σ H fun vs H1 => ∃ l1 l2, vs = [.ref l1, .ref l2] ∧ (∃ xs, SqL K H1 l1 xs) ∧ (∃ ys, SqL K H1 l2 ys) ∧ R (Itz K l1 l2) H1
theorem pi_zip {elts : List Expr} {kk : Nat} {tp : Pos} {a b : Expr} {ta : TA} {p pos : Pos} (hg : Gl X "zip") (hm : X.mg "zip" = none) (ha : PA X [a, b] ta) (hs : starEach [a, b] X.env = (false, eval a X.env) :: starEach [b] X.env := by rfl) (hp : (backTo pos (starEach [b] X.env)).any (·.1) = false := by rfl) :
  PI X (.Tuple elts kk tp) (.Call (.Name "zip" p) [a, b] [] pos) (iZip X.K ta) := by
 intro pins s σ H R I h
 refine Call_ (ld_blt I hg hm boot_zip (PyProof.Rows.callWith_type1 (thn (ha pos pins s σ H _ I h) fun us s1 ⟨vs, H1, I1, r1, q1⟩ => ?_) hs hp))
 obtain ⟨l1, l2, rfl, ⟨xs, hq1⟩, ⟨ys, hq2⟩, q⟩ := q1
 obtain ⟨u1, u2, rfl, e1, e2⟩ := r1.two
 cases (show u1 = Value.ref l1 from e1)
 cases (show u2 = Value.ref l2 from e2)
 obtain ⟨its1, rv1, p1, hz1⟩ := I1.list hq1
 obtain ⟨its2, rv2, p2, hz2⟩ := I1.list hq2
 have lt1 : l1 < s1.heap.objs.size := by obtain ⟨o, e, _⟩ := p1.isList; exact Heap.lt_size e
 have lt2 : l2 < s1.heap.objs.size := by obtain ⟨o, e, _⟩ := p2.isList; exact Heap.lt_size e
 refine call_zip_2 p1.isList p2.isList fun h' a1 a2 a3 a4 a5 a6 a7 => ?_
 have I2 : Inv X pins σ H1 { s1 with heap := h', toks := s1.toks } := I1.kept a7
 refine wpAny_pyIter_zip a1 ⟨s1.heap.objs.size + 4, [s1.heap.objs.size + 4, s1.heap.objs.size + 2, s1.heap.objs.size + 3, s1.heap.objs.size, s1.heap.objs.size + 1], _, _, H1, rfl, I2, turn_zip (l1 := l1) (l2 := l2) ?_, ⟨a1, a2, ⟨_, _, a3⟩, a4, a5⟩, fun b hb => ?_, q⟩
 ·have lt1' : @LT.lt Nat _ l1 s1.heap.objs.size := lt1
  have lt2' : @LT.lt Nat _ l2 s1.heap.objs.size := lt2
  constructor <;> (intro z; have z' : @Eq Nat _ _ := z; omega)
 ·have hb' : s1.heap.objs.size ≤ b := by
   simp only [List.mem_cons, List.mem_nil_iff, or_false] at hb
   rcases hb with rfl | rfl | rfl | rfl | rfl
   ·exact Nat.le_add_right _ _
   ·exact Nat.le_add_right _ _
   ·exact Nat.le_add_right _ _
   ·exact Nat.le_refl _
   ·exact Nat.le_add_right _ _
  have f := I1.fpOk (H' := H1) hb' (I1.hok.fresh hb')
  exact f
end
theorem CompOk.free1 {X : Cx} {sc : Scope} {cl : List (Str × Addr)} {F : List Str} {js : List Nat} (kind : sc.kind = .function) (cell : ∀ y ∈ sc.names, y.2 ≠ .cell) (names : ∀ y ∈ sc.names, y.2 = .local → sc.names.lookup y.1 = some .local)
  (clos : closureFor sc X.env = pure cl) (cls : ClOk X cl) (has : (sc.names.all fun y => !(decide (y.2 = .free)) || (cl.lookup y.1).isSome) = true) (free : FreeOk X sc F js) : CompOk X sc cl F js :=
 ⟨kind, cell, names, clos, cls, fun y hy e => by
  have := List.all_eq_true.mp has y hy
  rw [decide_eq_true e] at this
  exact Option.isSome_iff_exists.mp this, free⟩
theorem comp_zip {K : PySem.W.Frag} {l1 l2 D : Addr} {xs zs : List V} {g : CS → TG} {tc : CS → TT} {te : CS → TE} {σ0 : St} {H0 : Hp} {Q : Hp → Prop} (Pv : Nat → List V → St → Hp → Prop) (hzs : zs.length = xs.length) (hz : xs.length ≤ sizeLine) (h0 : Pv 0 [] σ0 H0)
  (hl : ∀ i ys σ H, i ≤ xs.length → Pv i ys σ H → SqL K H l1 xs ∧ SqL K H l2 zs ∧ H D = some (.lst ys) ∧ ys.length ≤ i)
  (hs : ∀ i x z ys σ H T, xs[i]? = some x → zs[i]? = some z → Pv i ys σ H → H T = none → ∀ c : CS, g c (.ref T) σ (upd H T (.tup [x, z])) fun σ2 H2 => tc c σ2 H2 fun b H3 => if b = true then te c σ2 H3 fun v H4 => H4 D = some (.lst ys) ∧ Pv (i + 1) (ys ++ [v]) σ2 (upd H4 D (.lst (ys ++ [v]))) else Pv (i + 1) ys σ2 H3)
  (hd : ∀ ys σ H, Pv xs.length ys σ H → Q H) :
  ∃ W : Nat → Nat → List V → St → Hp → Prop, (∃ m, W 0 m [] σ0 H0) ∧ ∀ i m ys σ' H', W i m ys σ' H' → H' D = some (.lst ys) ∧ (((Itz K l1 l2).stop i H' ∧ Q H') ∨ ((Itz K l1 l2).go i H' ∧ ys.length < sizeLine ∧ ∃ N : List V → St → Hp → Prop, (∀ ys' σ'' H'', N ys' σ'' H'' → ∃ m', m' < m ∧ W (i + 1) m' ys' σ'' H'') ∧
    ∀ x H2, (Itz K l1 l2).yld i H' x H2 → ∀ c : CS, g c x σ' H2 fun σ2 H3 => tc c σ2 H3 fun b H4 => if b = true then te c σ2 H4 fun v H5 => H5 D = some (.lst ys) ∧ N (ys ++ [v]) σ2 (upd H5 D (.lst (ys ++ [v]))) else N ys σ2 H4)) := by
 refine ⟨fun i m ys σ H => m = xs.length - i ∧ i ≤ xs.length ∧ Pv i ys σ H, ⟨xs.length, by simp, Nat.zero_le _, h0⟩, ?_⟩
 rintro i m ys σ H ⟨rfl, hi, p⟩
 obtain ⟨q1, q2, qD, ql⟩ := hl i ys σ H hi p
 refine ⟨qD, ?_⟩
 by_cases hlt : i < xs.length
 ·refine .inr ⟨⟨xs, zs, xs[i], zs[i]'(by omega), q1, q2, by simp [hlt], by simp [hzs, hlt]⟩, by omega, Pv (i + 1), fun ys' σ' H' p' => ⟨xs.length - (i + 1), by omega, rfl, hlt, p'⟩, fun x H' y c => ?_⟩
  obtain ⟨T, a, b, rfl, hT, rfl, y1, y2⟩ := y
  exact hs i a b ys σ _ T (y1 xs q1) (y2 zs q2) p hT c
 ·have e : i = xs.length := by omega
  subst e
  exact .inl ⟨⟨xs, zs, q1, q2, .inl (Nat.le_refl _)⟩, hd ys σ H p⟩
def Keep (H H' : Hp) : Prop := ∀ b o, H b = some o → (∀ zs, o ≠ .lst zs) → (∀ ps, o ≠ .tbl ps) → H' b = some o
theorem Keep.of {H H' : Hp} (s : Same H H') : Keep H H' := fun b o e _ _ => s b o e
theorem Keep.trans {A B C : Hp} (h : Keep A B) (g : Keep B C) : Keep A C := fun b o e n m => g b o (h b o e n m) n m
theorem Keep.updL {H : Hp} {D : Addr} {zs : List V} {o : HO} (h : H D = some (.lst zs)) : Keep H (upd H D o) := fun b u e n _ => by
 rw [upd_ne (ne_of e h (n zs))]
 exact e
theorem Keep.sqT {K : PySem.W.Frag} {H H' : Hp} {a : Addr} {xs : List V} (s : Keep H H') (h : SqT K H a xs) : SqT K H' a xs := by
 rcases h with (z | ⟨o, z⟩) | z
 ·exact .inl (.inl (s _ _ z (fun _ z => nomatch z) (fun _ z => nomatch z)))
 ·exact .inl (.inr ⟨o, s _ _ z (fun _ z => nomatch z) (fun _ z => nomatch z)⟩)
 ·exact .inr z
theorem Keep.fr {K : PySem.W.Frag} {H H' : Hp} {x : V} {d : Int × Int} (s : Keep H H') (h : FrR K H x d) : FrR K H' x d := by
 obtain ⟨p, y, z, rfl, q, h1, h2⟩ := h
 exact ⟨p, y, z, rfl, s.sqT q, h1, h2⟩
theorem Same.updN {H H' : Hp} {D : Addr} {o : HO} (s : Same H H') (h : H D = none) : Same H (L2.upd H' D o) := fun b u e => by
 rw [upd_ne (ne_of_none e h)]
 exact s b u e
def Ml (P : Program) (w : World) (K : PySem.W.Frag) (mg : Str → Option Value) (base : Heap) (C : Addr) (m : Str) (k : Nat) (ps : List Str) (sp : Sp) : Prop :=
 ∃ (f : Addr) (fd : FuncData), Meth K C m f ∧ Binds K fd ps [] ∧ FnOk P w K mg base CX0 k f fd ps sp
def Mc (P : Program) (w : World) (K : PySem.W.Frag) (mg : Str → Option Value) (base : Heap) (x : Str) (C : Addr) (k : Nat) (ps : List Str) (sp : Sp) : Prop :=
 ∃ (f : Addr) (fd : FuncData), Mk K C f ∧ mg x = some (.ref C) ∧ Binds K fd ps [] ∧ FnOk P w K mg base CX0 k f fd ps sp
section
variable {X : Cx} {k : Nat} {C : Addr} {ps : List Str} {sp : Sp} {x m : Str} {p pos apos : Pos} {e o : Expr} {es : List Expr} {ta : TE} {t : TA}
theorem pe_ml0 {pl : Sem Bool} (M : Ml X.prog X.w X.K X.mg X.base C m k ps sp) (c : Cls X.K C) (hr : Room k X.A) (he : PE X o ta)
  (ht : eval (.Call (.Attribute o m apos) [] [] pos) X.env = (do
   let ov ← eval o X.env
   standAt apos.atName
   let (f, first) ← holding [ov] (getMethod ov m pl)
   callWith pos f first (backTo pos (starEach [] X.env)) (backToKw pos (keywordEach [] X.env))) := by rfl) :
  PE X (.Call (.Attribute o m apos) [] [] pos) (tMeth C m sp [] E0 ta tNil) := by
 obtain ⟨f, fd, h1, h2, h3⟩ := M
 exact pe_meth0 he c h1 h3 hr h2 .nil pass0 ht
theorem pe_mk (M : Mc X.prog X.w X.K X.mg X.base x C k ps sp) (hr : Room (k + 1) X.A) (hg : Gl X x) (ha : PA X (e :: es) t) (hdb : (x == ("__debug__" : Str)) = false := by decide) (he : starEach (e :: es) X.env = (false, eval e X.env) :: starEach es X.env := by rfl)
  (hpl : (backTo pos (starEach es X.env)).any (·.1) = false := by rfl) : PE X (.Call (.Name x p) (e :: es) [] pos) (tMake C sp [] E0 t) := by
 obtain ⟨f, fd, h1, h2, h3, h4⟩ := M
 exact pe_make h1 h4 hr hg h2 h3 .nil pass0 ha hdb he hpl
end
theorem atI_of {α : Type} {xs : List α} {i : Int} {v : α} (h0 : 0 ≤ i) (h : xs[i.toNat]? = some v) : atI xs i = some v := by
 obtain ⟨m, rfl⟩ := Int.eq_ofNat_of_zero_le h0
 exact atI_nat (by simpa using h)
theorem flat_ints (l : List Int) : (l.map V.int).all flatV = true := by
 rw [List.all_map]
 exact List.all_eq_true.mpr fun _ _ => rfl
theorem inV_int {e : Int} {l : List Int} : inV (.int e) (l.map V.int) = true ↔ e ∈ l := by
 unfold inV
 rw [List.any_map, List.any_eq_true]
 constructor
 ·rintro ⟨y, hy, h⟩
  have : (y == e) = true := h
  rw [← beq_iff_eq.mp this]
  exact hy
 ·exact fun h => ⟨e, h, beq_self_eq_true e⟩
end L2
namespace PySem.SeqAt
open PySem.AutoSeq1 (wpAny_loadPart')
open PySem.MeetsSeq
end PySem.SeqAt
namespace L2
open PySem PySem.Spec PyProof.Rows
section
variable {X : Cx}
theorem all_range (bs : List Bool) : (List.range bs.length).all (fun i => bs.getD i false) = bs.all id := by
 rw [Bool.eq_iff_iff, List.all_eq_true, List.all_eq_true]
 constructor
 ·intro h b hb
  obtain ⟨i, hi, rfl⟩ := List.mem_iff_getElem.mp hb
  have := h i (List.mem_range.mpr hi)
  rw [List.getD_eq_getElem?_getD, List.getElem?_eq_getElem hi] at this
  exact this
 ·intro h i hi
  have hi := List.mem_range.mp hi
  rw [List.getD_eq_getElem?_getD, List.getElem?_eq_getElem hi]
  exact h _ (List.getElem_mem hi)
theorem call_all (hc : X.calm = true) : CallR X (.builtin "all") (fun xs H Q => ∃ (p : Addr) (bs : List Bool), xs = [.ref p] ∧ SqL X.K H p (bs.map V.bl) ∧ Q (.bl (bs.all id)) H) := by
 intro pins s σ H xs us Q I r h
 obtain ⟨p, bs, rfl, hq, q⟩ := h
 obtain ⟨u, rfl, rx⟩ := r.one
 cases (show u = Value.ref p from rx)
 obtain ⟨its, rv, pl, hz⟩ := I.list hq
 have hl := rv.length
 rw [List.length_map] at hl
 refine call_all_walk (wpAny_pyIter_list pl.isList ?_)
 have hp : p ≠ s.heap.objs.size := fun e => by
  obtain ⟨o, n, e1, _⟩ := pl
  exact absurd (Heap.lt_size e1) (by rw [e]; exact Nat.lt_irrefl _)
 have old : ∀ b o, s.heap.get? b = some o → (s.heap.push { cls := .type "list_iterator", data := .fields #[.ref p, .int 0 0] }).get? b = some o := fun b o e => Heap.get?_push_of_some _ e
 refine ⟨s.heap.objs.size, [s.heap.objs.size, p], [s.heap.objs.size], its.toArray.size, _, _, fun i => bs.getD i false, rfl,
  Walks.list (A := X.A.in1) (I.ok.hd hc) s.heap.objs.size p hp its.toArray, ⟨⟨_, Heap.get?_push_size _ rfl, rfl, rfl⟩, pl.isList.at fun o e => old p o e⟩, ?_, fun h' tk hk => ?_⟩
 ·intro i v s2 Q2 E2 hv hq2
  have hv' : its[i]? = some v := by simpa using hv
  have hi : i < its.length := (List.getElem?_eq_some_iff.mp hv').1
  have g : (bs.map V.bl)[i]? = some (V.bl (bs.getD i false)) := by
   have hb : i < bs.length := by omega
   rw [List.getElem?_map, List.getD_eq_getElem?_getD, List.getElem?_eq_getElem hb]
   rfl
  obtain ⟨u, gu, ru⟩ := rv.get g
  rw [hv'] at gu
  cases gu
  cases (show v = Value.bool _ from ru)
  exact wpAny_truthy_bool hq2
 ·have en : (List.range its.toArray.size).all (fun i => bs.getD i false) = bs.all id := by
   rw [List.size_toArray, ← hl]
   exact all_range bs
  rw [en]
  refine ⟨.bl _, H, I.kept (h' := h') (t' := tk) (fun b o e => hk b o (fun z => ?_) (old b o e)), rfl, q⟩
  have z' : b = s.heap.objs.size := by simpa using z
  exact absurd (Heap.lt_size e) (by rw [z']; exact Nat.lt_irrefl _)
end
end L2
namespace L2
open PySem PySem.Spec PyProof.Rows
section
variable {X : Cx}
end
end L2
namespace FT
def isFig (d : Nat) : Bool := decide (48 ≤ d) && decide (d ≤ 57)
def val (l : List Nat) : Nat := l.foldl (fun a d => 10 * a + (d - 48)) 0
def dig (n : Nat) : List Nat := (Nat.toDigits 10 n).map Char.toNat
theorem fold_map (l : List Char) (a : Nat) : (l.map Char.toNat).foldl (fun a d => 10 * a + (d - 48)) a = Nat.ofDigitChars 10 l a := by
 rw [List.foldl_map]
 rfl
theorem val_dig (n : Nat) : val (dig n) = n := by
 unfold val dig
 rw [fold_map]
 exact Nat.ofDigitChars_ten_toDigits
theorem dig_ne (n : Nat) : dig n ≠ [] := by
 unfold dig
 intro h
 exact Nat.toDigits_ne_nil (List.map_eq_nil_iff.mp h)
theorem dig_fig {n d : Nat} (h : d ∈ dig n) : isFig d = true := by
 unfold dig at h
 obtain ⟨c, hc, rfl⟩ := List.mem_map.mp h
 have := Nat.isDigit_of_mem_toDigits (b := 10) (by decide) (by decide) hc
 unfold Char.isDigit at this
 simp only [Bool.and_eq_true, decide_eq_true_eq] at this
 unfold isFig
 simp only [Bool.and_eq_true, decide_eq_true_eq]
 exact ⟨UInt32.le_iff_toNat_le.mp this.1, UInt32.le_iff_toNat_le.mp this.2⟩
theorem digit_nat : ∀ d : Nat, d < 10 → (Nat.digitChar d).toNat = 48 + d := by decide
theorem dig_lt {d : Nat} (h : d < 10) : dig d = [48 + d] := by
 unfold dig
 rw [Nat.toDigits_of_lt_base h, List.map_singleton, digit_nat d h]
theorem dig_snoc {n d : Nat} (hn : 0 < n) (hd : d < 10) : dig (10 * n + d) = dig n ++ [48 + d] := by
 unfold dig
 rw [← Nat.toDigits_append_toDigits (by decide) hn hd, List.map_append, Nat.toDigits_of_lt_base hd, List.map_singleton, digit_nat d hd]
theorem val_snoc (l : List Nat) (d : Nat) : val (l ++ [d]) = 10 * val l + (d - 48) := by
 unfold val
 rw [List.foldl_append]
 rfl
theorem foldl_mono (l : List Nat) (a : Nat) : a ≤ l.foldl (fun a d => 10 * a + (d - 48)) a := by
 induction l generalizing a with
 | nil => exact Nat.le_refl _
 | cons x l ih =>
  rw [List.foldl_cons]
  exact Nat.le_trans (by omega) (ih _)
theorem val_pos {x : Nat} {l : List Nat} (h : 48 < x) : 0 < val (x :: l) := by
 have := foldl_mono l (10 * 0 + (x - 48))
 exact Nat.lt_of_lt_of_le (by omega) this
def plain (l : List Nat) : Bool := !(l.head? == some 48) || l == [48]
theorem dig_val : ∀ (k : Nat) (l : List Nat), l.length = k → l ≠ [] → (∀ d ∈ l, isFig d = true) → plain l = true → dig (val l) = l
 | 0, l, e, ne, _, _ => absurd (List.eq_nil_of_length_eq_zero e) ne
 | k + 1, l, e, ne, fig, pl => by
  obtain ⟨l', d, rfl⟩ : ∃ l' d, l = l' ++ [d] := ⟨l.dropLast, l.getLast ne, (List.dropLast_concat_getLast ne).symm⟩
  have fd := fig d (List.mem_append_right _ (List.mem_singleton.mpr rfl))
  unfold isFig at fd
  simp only [Bool.and_eq_true, decide_eq_true_eq] at fd
  rw [val_snoc]
  cases l' with
  | nil =>
   show dig (10 * 0 + (d - 48)) = [d]
   rw [show 10 * 0 + (d - 48) = d - 48 by omega, dig_lt (by omega)]
   congr 1
   omega
  | cons x r =>
   have fx := fig x (List.mem_append_left _ (List.mem_cons_self ..))
   unfold isFig at fx
   simp only [Bool.and_eq_true, decide_eq_true_eq] at fx
   have x48 : x ≠ 48 := fun z => by
    subst z
    unfold plain at pl
    simp at pl
   have v := val_pos (x := x) (l := r) (by omega)
   rw [dig_snoc v (by omega), dig_val k (x :: r) (by simp at e ⊢; omega) (fun z => nomatch z) (fun y hy => fig y (List.mem_append_left _ hy)) (by unfold plain; simp [x48])]
   congr 2
   omega
theorem dig_plain (n : Nat) : plain (dig n) = true := by
 by_cases h : n = 0
 ·subst h
  decide
 ·cases e : dig n with
  | nil => exact absurd e (dig_ne n)
  | cons x l =>
   unfold plain
   by_cases hx : x = 48
   ·subst hx
    exfalso
    have key : ∀ (k n : Nat), n ≤ k → 0 < n → (dig n).head? ≠ some 48 := fun k => by
     induction k with
     | zero => intro n h1 h2; omega
     | succ k ih =>
      intro n h1 h2
      by_cases c : n < 10
      ·rw [dig_lt c]
       intro z
       have z' : 48 + n = 48 := Option.some.inj z
       omega
      ·have e : n = 10 * (n / 10) + n % 10 := by omega
       rw [e, dig_snoc (by omega) (by omega)]
       have q := ih (n / 10) (by omega) (by omega)
       cases e2 : dig (n / 10) with
       | nil => exact absurd e2 (dig_ne _)
       | cons y r =>
        rw [e2] at q
        exact q
    exact key n n (Nat.le_refl _) (by omega) (by rw [e]; rfl)
   ·simp [hx]
def numP (l : List Nat) : Option Nat := if l.length < 1 ∨ 300 < l.length then none else if (l.any fun d => !isFig d) = true then none else if plain l = false then none else some (val l)
def numL (l : List Nat) : Option Nat := if l.length < 1 ∨ 300 < l.length then none else if (l.any fun d => !isFig d) = true then none else if dig (val l) = l then some (val l) else none
theorem any_fig {l : List Nat} (h : ¬ (l.any fun d => !isFig d) = true) : ∀ d ∈ l, isFig d = true := fun d hd => by
 cases e : isFig d with
 | true => rfl
 | false => exact absurd (List.any_eq_true.mpr ⟨d, hd, by rw [e]; rfl⟩) h
theorem num_eq (l : List Nat) : numL l = numP l := by
 unfold numL numP
 split
 ·rfl
 ·rename_i h1
  split
  ·rfl
  ·rename_i h2
   have f := any_fig h2
   have ne : l ≠ [] := fun z => by subst z; exact h1 (.inl (by decide))
   by_cases p : plain l = true
   ·rw [if_pos (dig_val _ l rfl ne f p), if_neg (by rw [p]; decide)]
   ·rw [if_neg, if_pos (by simpa using p)]
    intro z
    exact p (by rw [← z]; exact dig_plain _)
theorem numP_fig {l : List Nat} {n : Nat} (h : numP l = some n) : ∀ d ∈ l, isFig d = true := by
 unfold numP at h
 split at h
 ·cases h
 ·split at h
  ·cases h
  ·rename_i h2
   exact any_fig h2
theorem numP_dig {l : List Nat} {n : Nat} (h : numP l = some n) : dig n = l := by
 rw [← num_eq] at h
 unfold numL at h
 split at h
 ·cases h
 ·split at h
  ·cases h
  ·split at h
   ·rename_i e
    cases h
    exact e
   ·cases h
theorem numP_lt {l : List Nat} {n : Nat} (h : numP l = some n) : n < 10 ^ 300 := by
 have e := numP_dig h
 have : l.length ≤ 300 := by
  unfold numP at h
  split at h
  ·cases h
  ·omega
 rw [← e] at this
 unfold dig at this
 rw [List.length_map] at this
 exact (Nat.length_toDigits_le_iff (by decide) (by decide)).mp this
theorem numP_of {n : Nat} (h : n < 10 ^ 300) : numP (dig n) = some n := by
 have l1 : (dig n).length ≤ 300 := by
  unfold dig
  rw [List.length_map]
  exact (Nat.length_toDigits_le_iff (by decide) (by decide)).mpr h
 have l0 : 0 < (dig n).length := List.length_pos_iff.mpr (dig_ne n)
 rw [← num_eq]
 unfold numL
 rw [if_neg (by omega), if_neg, val_dig, if_pos rfl]
 intro z
 obtain ⟨d, h1, h2⟩ := List.any_eq_true.mp z
 rw [dig_fig h1] at h2
 cases h2
def sp (c : Nat) : List Nat → List (List Nat)
 | [] => [[]]
 | x :: r => if x = c then [] :: sp c r else match sp c r with
  | [] => [[x]]
  | w :: ws => (x :: w) :: ws
def pt (c : Nat) : List Nat → List Nat × Bool × List Nat
 | [] => ([], false, [])
 | x :: r => if x = c then ([], true, r) else ((x :: (pt c r).1), (pt c r).2.1, (pt c r).2.2)
theorem pt_no {c : Nat} : ∀ {l : List Nat}, c ∉ l → pt c l = (l, false, [])
 | [], _ => rfl
 | x :: r, h => by
  have hx : x ≠ c := fun z => h (by rw [z]; exact List.mem_cons_self ..)
  unfold pt
  rw [if_neg hx, pt_no (fun z => h (List.mem_cons_of_mem _ z))]
theorem pt_yes {c : Nat} : ∀ {l : List Nat}, c ∈ l → (pt c l).2.1 = true ∧ l = (pt c l).1 ++ c :: (pt c l).2.2 ∧ c ∉ (pt c l).1
 | [], h => nomatch h
 | x :: r, h => by
  unfold pt
  by_cases hx : x = c
  ·rw [if_pos hx]
   exact ⟨rfl, by rw [hx]; rfl, (fun z => nomatch z)⟩
  ·rw [if_neg hx]
   have hr : c ∈ r := by
    rcases List.mem_cons.mp h with z | z
    ·exact absurd z.symm hx
    ·exact z
   obtain ⟨h1, h2, h3⟩ := pt_yes hr
   exact ⟨h1, by rw [List.cons_append, ← h2], fun z => by
    rcases List.mem_cons.mp z with y | y
    ·exact hx y.symm
    ·exact h3 y⟩
theorem sp_no {c : Nat} : ∀ {l : List Nat}, c ∉ l → sp c l = [l]
 | [], _ => rfl
 | x :: r, h => by
  have hx : x ≠ c := fun z => h (by rw [z]; exact List.mem_cons_self ..)
  unfold sp
  rw [if_neg hx, sp_no (fun z => h (List.mem_cons_of_mem _ z))]
theorem sp_app {c : Nat} : ∀ {a r : List Nat}, c ∉ a → sp c (a ++ c :: r) = a :: sp c r
 | [], r, _ => by
  show sp c (c :: r) = _
  rw [sp, if_pos rfl]
 | x :: a, r, h => by
  have hx : x ≠ c := fun z => h (by rw [z]; exact List.mem_cons_self ..)
  show sp c (x :: (a ++ c :: r)) = _
  rw [sp, if_neg hx, sp_app (fun z => h (List.mem_cons_of_mem _ z))]
theorem sp_yes {c : Nat} {l : List Nat} (h : c ∈ l) : sp c l = (pt c l).1 :: sp c (pt c l).2.2 := by
 obtain ⟨_, h2, h3⟩ := pt_yes h
 have := sp_app (r := (pt c l).2.2) h3
 rw [← h2] at this
 exact this
theorem sp_ne {c : Nat} : ∀ (l : List Nat), sp c l ≠ []
 | [] => fun z => nomatch z
 | x :: r => by
  unfold sp
  split
  ·exact fun z => nomatch z
  ·split <;> exact fun z => nomatch z
theorem sp_len (c : Nat) : ∀ (l : List Nat), (sp c l).length ≤ l.length + 1
 | [] => Nat.le_refl _
 | x :: r => by
  have ih := sp_len c r
  unfold sp
  split
  ·rw [List.length_cons, List.length_cons]
   omega
  ·split
   ·rw [List.length_cons, List.length_cons]
    exact Nat.le_add_left _ _
   ·rename_i e
    rw [e] at ih
    simp only [List.length_cons] at ih ⊢
    omega
def frP (l : List Nat) : Option (Nat × Nat) := match sp 47 l with
 | [_] => (numP l).map (·, 1)
 | [p, q] => if q = [49] then none else (numP p).bind fun a => (numP q).map fun b => (a, b)
 | _ => none
def frL (l : List Nat) : Option (Nat × Nat) := (numP (pt 47 l).1).bind fun a => (if (pt 47 l).2.1 = true then numP (pt 47 l).2.2 else some 1).bind fun b =>
 if b < 1 ∨ ((pt 47 l).2.1 = true ∧ b = 1) ∨ Nat.gcd a b ≠ 1 then none else some (a, b)
def okF (p : Nat × Nat) : Bool := decide (1 ≤ p.2) && decide (Nat.gcd p.1 p.2 = 1)
theorem num_no {l : List Nat} {c : Nat} (h : c ∈ l) (hc : isFig c = false) : numP l = none := by
 cases e : numP l with
 | none => rfl
 | some n =>
  have := numP_fig e c h
  rw [hc] at this
  cases this
theorem fr_eq (l : List Nat) : frL l = (frP l).filter okF := by
 by_cases h : 47 ∈ l
 ·obtain ⟨h1, h2, h3⟩ := pt_yes h
  have e := sp_yes h
  unfold frL frP
  rw [h1, if_pos rfl]
  by_cases g : 47 ∈ (pt 47 l).2.2
  ·rw [num_no g (by decide)]
   have : ∃ u v w, sp 47 l = u :: v :: w :: (sp 47 (pt 47 (pt 47 l).2.2).2.2).tail := by
    rw [e, sp_yes g]
    cases z : sp 47 (pt 47 (pt 47 l).2.2).2.2 with
    | nil => exact absurd z (sp_ne _)
    | cons w ws => exact ⟨_, _, w, rfl⟩
   obtain ⟨u, v, w, e3⟩ := this
   rw [e3]
   show _ = Option.filter okF none
   cases numP (pt 47 l).1 <;> rfl
  ·rw [sp_no g] at e
   rw [e]
   show _ = Option.filter okF (if (pt 47 l).2.2 = [49] then none else (numP (pt 47 l).1).bind fun a => (numP (pt 47 l).2.2).map fun b => (a, b))
   cases ea : numP (pt 47 l).1 with
   | none => split <;> rfl
   | some a =>
    show ((numP (pt 47 l).2.2).bind fun b => if b < 1 ∨ (true = true ∧ b = 1) ∨ Nat.gcd a b ≠ 1 then none else some (a, b)) = _
    cases eb : numP (pt 47 l).2.2 with
    | none => split <;> rfl
    | some b =>
     show (if b < 1 ∨ (true = true ∧ b = 1) ∨ Nat.gcd a b ≠ 1 then none else some (a, b)) = Option.filter okF (if (pt 47 l).2.2 = [49] then none else some (a, b))
     have d := numP_dig eb
     by_cases c : (pt 47 l).2.2 = [49]
     ·rw [if_pos c]
      have : b = 1 := by
       have v := val_dig b
       rw [d, c] at v
       exact v.symm
      rw [if_pos (.inr (.inl ⟨rfl, this⟩))]
      rfl
     ·rw [if_neg c]
      have nb : b ≠ 1 := fun z => c (by rw [← d, z]; decide)
      show _ = if (decide (1 ≤ b) && decide (Nat.gcd a b = 1)) = true then some (a, b) else none
      by_cases k : 1 ≤ b ∧ Nat.gcd a b = 1
      ·rw [if_neg (by omega), decide_eq_true k.1, decide_eq_true k.2]
       rfl
      ·rw [if_pos (by omega)]
       have : (decide (1 ≤ b) && decide (Nat.gcd a b = 1)) = false := by
        rw [Bool.and_eq_false_iff]
        by_cases k1 : 1 ≤ b
        ·exact .inr (decide_eq_false fun z => k ⟨k1, z⟩)
        ·exact .inl (decide_eq_false k1)
       rw [this]
       rfl
 ·unfold frL frP
  rw [pt_no h, sp_no h]
  show ((numP l).bind fun a => if 1 < 1 ∨ (false = true ∧ 1 = 1) ∨ Nat.gcd a 1 ≠ 1 then none else some (a, 1)) = Option.filter okF ((numP l).map (·, 1))
  cases numP l with
  | none => rfl
  | some a =>
   show (if 1 < 1 ∨ (false = true ∧ 1 = 1) ∨ Nat.gcd a 1 ≠ 1 then none else some (a, 1)) = if (decide (1 ≤ 1) && decide (Nat.gcd a 1 = 1)) = true then some (a, 1) else none
   have g := Nat.gcd_one_right a
   rw [if_neg (by simp), if_pos (by simp)]
theorem frP_signs {l : List Nat} {p : Nat × Nat} (h : frP l = some p) : ∀ d ∈ l, isFig d = true ∨ d = 47 := by
 by_cases g : 47 ∈ l
 ·have e := sp_yes g
  obtain ⟨_, h2, h3⟩ := pt_yes g
  unfold frP at h
  by_cases g2 : 47 ∈ (pt 47 l).2.2
  ·rw [e, sp_yes g2] at h
   cases z : sp 47 (pt 47 (pt 47 l).2.2).2.2 with
   | nil => exact absurd z (sp_ne _)
   | cons w ws =>
    rw [z] at h
    cases h
  ·rw [e, sp_no g2] at h
   have h : (if (pt 47 l).2.2 = [49] then none else (numP (pt 47 l).1).bind fun a => (numP (pt 47 l).2.2).map fun b => (a, b)) = some p := h
   split at h
   ·cases h
   ·obtain ⟨a, ha, hb⟩ := Option.bind_eq_some_iff.mp h
    obtain ⟨b, hb, _⟩ := Option.map_eq_some_iff.mp hb
    intro d hd
    rw [h2] at hd
    rcases List.mem_append.mp hd with z | z
    ·exact .inl (numP_fig ha d z)
    ·rcases List.mem_cons.mp z with z | z
     ·exact .inr z
     ·exact .inl (numP_fig hb d z)
 ·unfold frP at h
  rw [sp_no g] at h
  obtain ⟨a, ha, _⟩ := Option.map_eq_some_iff.mp (show (numP l).map (·, 1) = some p from h)
  exact fun d hd => .inl (numP_fig ha d hd)
theorem frP_lt {l : List Nat} {p : Nat × Nat} (h : frP l = some p) : p.1 < 10 ^ 300 ∧ p.2 < 10 ^ 300 := by
 unfold frP at h
 split at h
 ·obtain ⟨a, ha, rfl⟩ := Option.map_eq_some_iff.mp h
  exact ⟨numP_lt ha, by show 1 < 10 ^ 300; exact Nat.one_lt_pow (by decide) (by decide)⟩
 ·split at h
  ·cases h
  ·obtain ⟨a, ha, h'⟩ := Option.bind_eq_some_iff.mp h
   obtain ⟨b, hb, e⟩ := Option.map_eq_some_iff.mp h'
   cases e
   exact ⟨numP_lt ha, numP_lt hb⟩
 ·cases h
def frT (p : Nat × Nat) : List Nat := if p.2 = 1 then dig p.1 else dig p.1 ++ 47 :: dig p.2
theorem dig_no {n c : Nat} (h : isFig c = false) : c ∉ dig n := fun z => by
 rw [dig_fig z] at h
 cases h
theorem frP_T {p : Nat × Nat} (h1 : p.1 < 10 ^ 300) (h2 : p.2 < 10 ^ 300) : frP (frT p) = some p := by
 obtain ⟨a, b⟩ := p
 unfold frT
 split
 ·rename_i e
  cases (show b = 1 from e)
  unfold frP
  rw [sp_no (dig_no (by decide))]
  show (numP (dig a)).map (·, 1) = _
  rw [numP_of h1]
  rfl
 ·rename_i e
  unfold frP
  rw [sp_app (dig_no (by decide)), sp_no (dig_no (by decide))]
  show (if dig b = [49] then none else (numP (dig a)).bind fun a => (numP (dig b)).map fun b => (a, b)) = _
  rw [if_neg, numP_of h1, numP_of h2]
  ·rfl
  ·intro z
   have v := val_dig b
   rw [z] at v
   exact e v.symm
theorem frT_signs {p : Nat × Nat} {c : Nat} (h : isFig c = false) (h7 : c ≠ 47) : c ∉ frT p := by
 unfold frT
 split
 ·exact dig_no h
 ·intro z
  rcases List.mem_append.mp z with y | y
  ·exact dig_no h y
  ·rcases List.mem_cons.mp y with y | y
   ·exact h7 y
   ·exact dig_no h y
end FT
namespace FT
def lessN (p q : Nat × Nat) : Bool := decide (p.1 * q.2 < q.1 * p.2)
def allP {α : Type} (f : List Nat → Option α) : List (List Nat) → Option (List α)
 | [] => some []
 | w :: r => (f w).bind fun a => (allP f r).map (a :: ·)
abbrev Stp := (Nat × Nat) × Nat
abbrev Spn := (Nat × Nat) × (Nat × Nat)
def stP (w : List Nat) : Option Stp := match sp 64 w with
 | [p, q] => (frP q).bind fun f => (numP p).map fun n => (f, n)
 | _ => none
def okSt (s : Stp) : Bool := okF s.1 && decide (s.1.2 ≤ 1000) && (decide (1 ≤ s.2) && decide (s.2 ≤ 1000))
def okS : Nat × Nat → List Stp → Bool
 | last, [] => decide (last = (1, 1))
 | last, s :: r => (okSt s && lessN last s.1) && okS s.1 r
def tsP (l : List Nat) : Option (List Stp) := (allP stP (sp 32 l)).filter fun S => decide (1 ≤ S.length ∧ S.length ≤ 8) && okS (0, 1) S
def wdL (last : Nat × Nat) (w : List Nat) : Option Stp := (frL (pt 64 w).2.2).bind fun f => (numP (pt 64 w).1).bind fun n =>
 if (pt 64 w).2.1 = true ∧ (1 ≤ n ∧ n ≤ 1000) ∧ f.2 ≤ 1000 ∧ lessN last f = true then some (f, n) else none
def lpL : Nat × Nat → List (List Nat) → Option (List Stp)
 | last, [] => if last = (1, 1) then some [] else none
 | last, w :: r => (wdL last w).bind fun s => (lpL s.1 r).map (s :: ·)
def tsL (l : List Nat) : Option (List Stp) := (lpL (0, 1) (sp 32 l)).filter fun S => decide (S.length < 9)
theorem fr_no {l : List Nat} {c : Nat} (h : c ∈ l) (hc : isFig c = false) (h7 : c ≠ 47) : frP l = none := by
 cases e : frP l with
 | none => rfl
 | some p =>
  rcases frP_signs e c h with z | z
  ·rw [hc] at z
   cases z
  ·exact absurd z h7
theorem filter_some {α : Type} {p : α → Bool} {a : α} : (some a).filter p = if p a = true then some a else none := rfl
theorem bool_if {α : Type} {a : α} {b : Bool} {p : Prop} [Decidable p] (h : b = true ↔ p) : (if p then some a else none) = if b = true then some a else none := by
 by_cases c : p
 ·rw [if_pos c, if_pos (h.mpr c)]
 ·rw [if_neg c, if_neg (fun z => c (h.mp z))]
theorem wd_eq (last : Nat × Nat) (w : List Nat) : wdL last w = (stP w).filter fun s => okSt s && lessN last s.1 := by
 unfold wdL stP
 rw [fr_eq]
 by_cases h : 64 ∈ w
 ·obtain ⟨h1, _, _⟩ := pt_yes h
  rw [h1]
  by_cases g : 64 ∈ (pt 64 w).2.2
  ·rw [fr_no g (by decide) (by decide), sp_yes h, sp_yes g]
   cases z : sp 64 (pt 64 (pt 64 w).2.2).2.2 with
   | nil => exact absurd z (sp_ne _)
   | cons => rfl
  ·rw [sp_yes h, sp_no g]
   show _ = Option.filter _ ((frP (pt 64 w).2.2).bind fun f => (numP (pt 64 w).1).map fun n => (f, n))
   cases frP (pt 64 w).2.2 with
   | none => rfl
   | some f =>
    cases e : numP (pt 64 w).1 with
    | none =>
     rw [filter_some]
     split <;> rfl
    | some n =>
     rw [filter_some]
     show _ = if (okSt (f, n) && lessN last f) = true then some (f, n) else none
     by_cases k : okF f = true
     ·rw [if_pos k]
      refine bool_if ?_
      unfold okSt
      simp only [Bool.and_eq_true, decide_eq_true_eq, true_and]
      exact ⟨fun z => ⟨z.1.2, z.1.1.2, z.2⟩, fun z => ⟨⟨⟨k, z.2.1⟩, z.1⟩, z.2.2⟩⟩
     ·rw [if_neg k, if_neg]
      ·rfl
      ·unfold okSt
       simp only [Bool.and_eq_true]
       exact fun z => k z.1.1.1
 ·rw [pt_no h, sp_no h]
  show _ = Option.filter _ none
  cases Option.filter okF (frP []) with
  | none => rfl
  | some f => cases numP w <;> rfl
theorem lp_eq : ∀ (ws : List (List Nat)) (last : Nat × Nat), lpL last ws = (allP stP ws).filter (okS last)
 | [], last => by
  show (if last = (1, 1) then some [] else none) = if decide (last = (1, 1)) = true then some [] else none
  by_cases c : last = (1, 1)
  ·rw [if_pos c, decide_eq_true c, if_pos rfl]
  ·rw [if_neg c, decide_eq_false c]
   rfl
 | w :: r, last => by
  unfold lpL allP
  rw [wd_eq]
  cases stP w with
  | none => rfl
  | some s =>
   rw [filter_some]
   show _ = Option.filter (okS last) ((allP stP r).map (s :: ·))
   by_cases c : (okSt s && lessN last s.1) = true
   ·rw [if_pos c]
    show (lpL s.1 r).map (s :: ·) = _
    rw [lp_eq r s.1]
    cases allP stP r with
    | none => rfl
    | some S =>
     have e2 : okS last (s :: S) = okS s.1 S := by
      rw [okS, c, Bool.true_and]
     show (if okS s.1 S = true then some S else none).map (s :: ·) = if okS last (s :: S) = true then some (s :: S) else none
     rw [e2]
     by_cases d : okS s.1 S = true
     ·rw [if_pos d, if_pos d]
      rfl
     ·rw [if_neg d, if_neg d]
      rfl
   ·rw [if_neg c]
    show none = _
    cases allP stP r with
    | none => rfl
    | some S =>
     show none = if okS last (s :: S) = true then some (s :: S) else none
     rw [if_neg]
     unfold okS
     rw [Bool.and_eq_true]
     exact fun z => c z.1
theorem allP_len {α : Type} {f : List Nat → Option α} : ∀ {ws : List (List Nat)} {S : List α}, allP f ws = some S → S.length = ws.length
 | [], S, h => by
  cases h
  rfl
 | w :: r, S, h => by
  obtain ⟨a, _, h2⟩ := Option.bind_eq_some_iff.mp h
  obtain ⟨S', h3, rfl⟩ := Option.map_eq_some_iff.mp h2
  rw [List.length_cons, List.length_cons, allP_len h3]
theorem ts_eq (l : List Nat) : tsL l = tsP l := by
 unfold tsL tsP
 rw [lp_eq]
 cases e : allP stP (sp 32 l) with
 | none => rfl
 | some S =>
  have ln := allP_len e
  have l1 : 1 ≤ S.length := by
   rw [ln]
   exact List.length_pos_iff.mpr (sp_ne l)
  rw [filter_some, filter_some]
  by_cases c : okS (0, 1) S = true
  ·rw [if_pos c, filter_some]
   by_cases d : S.length < 9
   ·rw [if_pos (decide_eq_true d), if_pos (by simp [c]; omega)]
   ·rw [if_neg (by simpa using d), if_neg (by simp [c]; omega)]
  ·rw [if_neg c, if_neg (by simp [c])]
   rfl
def snP (w : List Nat) : Option Spn := match sp 45 w with
 | [p, q] => (frP p).bind fun a => (frP q).map fun b => (a, b)
 | _ => none
def okSn (s : Spn) : Bool := (okF s.1 && okF s.2) && (lessN s.1 s.2 && !lessN (1, 1) s.2)
def behind : Option (Nat × Nat) → Nat × Nat → Bool
 | none, _ => true
 | some l, p => lessN l p
def okC : Option (Nat × Nat) → List Spn → Bool
 | _, [] => true
 | last, s :: r => (okSn s && behind last s.1) && okC (some s.2) r
def pcP (l : List Nat) : Option (List Spn) := if l = [] then some [] else (allP snP (sp 32 l)).filter (okC none)
def wnL (last : Option (Nat × Nat)) (w : List Nat) : Option Spn := (frL (pt 45 w).1).bind fun a => (frL (pt 45 w).2.2).bind fun b =>
 if (pt 45 w).2.1 = true ∧ (lessN a b = true ∧ lessN (1, 1) b = false) ∧ behind last a = true then some (a, b) else none
def lpC : Option (Nat × Nat) → List (List Nat) → Option (List Spn)
 | _, [] => some []
 | last, w :: r => (wnL last w).bind fun s => (lpC (some s.2) r).map (s :: ·)
def pcL (l : List Nat) : Option (List Spn) := if l = [] then some [] else lpC none (sp 32 l)
theorem wn_eq (last : Option (Nat × Nat)) (w : List Nat) : wnL last w = (snP w).filter fun s => okSn s && behind last s.1 := by
 unfold wnL snP
 rw [fr_eq, fr_eq]
 by_cases h : 45 ∈ w
 ·obtain ⟨h1, _, _⟩ := pt_yes h
  rw [h1]
  by_cases g : 45 ∈ (pt 45 w).2.2
  ·rw [fr_no g (by decide) (by decide), sp_yes h, sp_yes g]
   cases z : sp 45 (pt 45 (pt 45 w).2.2).2.2 with
   | nil => exact absurd z (sp_ne _)
   | cons => cases Option.filter okF (frP (pt 45 w).1) <;> rfl
  ·rw [sp_yes h, sp_no g]
   show _ = Option.filter _ ((frP (pt 45 w).1).bind fun a => (frP (pt 45 w).2.2).map fun b => (a, b))
   cases frP (pt 45 w).1 with
   | none => rfl
   | some a =>
    cases frP (pt 45 w).2.2 with
    | none =>
     rw [filter_some]
     split <;> rfl
    | some b =>
     rw [filter_some, filter_some]
     show _ = if (okSn (a, b) && behind last a) = true then some (a, b) else none
     by_cases k : okF a = true
     ·rw [if_pos k]
      by_cases k2 : okF b = true
      ·rw [if_pos k2]
       refine bool_if ?_
       unfold okSn
       simp only [Bool.and_eq_true, Bool.not_eq_true', true_and]
       exact ⟨fun z => ⟨z.1.2, z.2⟩, fun z => ⟨⟨⟨k, k2⟩, z.1⟩, z.2⟩⟩
      ·rw [if_neg k2, if_neg]
       ·rfl
       ·unfold okSn
        simp only [Bool.and_eq_true]
        exact fun z => k2 z.1.1.2
     ·have nk : ¬ (okSn (a, b) && behind last a) = true := by
       unfold okSn
       simp only [Bool.and_eq_true]
       exact fun z => k z.1.1.1
      rw [if_neg k, if_neg nk]
      rfl
 ·rw [pt_no h, sp_no h]
  show _ = Option.filter _ none
  cases Option.filter okF (frP w) with
  | none => rfl
  | some f => cases Option.filter okF (frP []) <;> rfl
theorem lc_eq : ∀ (ws : List (List Nat)) (last : Option (Nat × Nat)), lpC last ws = (allP snP ws).filter (okC last)
 | [], last => by
  cases last <;> rfl
 | w :: r, last => by
  unfold lpC allP
  rw [wn_eq]
  cases snP w with
  | none => rfl
  | some s =>
   rw [filter_some]
   show _ = Option.filter (okC last) ((allP snP r).map (s :: ·))
   by_cases c : (okSn s && behind last s.1) = true
   ·rw [if_pos c]
    show (lpC (some s.2) r).map (s :: ·) = _
    rw [lc_eq r (some s.2)]
    cases allP snP r with
    | none => rfl
    | some S =>
     have e2 : okC last (s :: S) = okC (some s.2) S := by
      rw [okC, c, Bool.true_and]
     show (if okC (some s.2) S = true then some S else none).map (s :: ·) = if okC last (s :: S) = true then some (s :: S) else none
     rw [e2]
     by_cases d : okC (some s.2) S = true
     ·rw [if_pos d, if_pos d]
      rfl
     ·rw [if_neg d, if_neg d]
      rfl
   ·rw [if_neg c]
    show none = _
    cases allP snP r with
    | none => rfl
    | some S =>
     show none = if okC last (s :: S) = true then some (s :: S) else none
     rw [if_neg]
     unfold okC
     rw [Bool.and_eq_true]
     exact fun z => c z.1
theorem pc_eq (l : List Nat) : pcL l = pcP l := by
 unfold pcL pcP
 rw [lc_eq]
def jn (c : Nat) : List (List Nat) → List Nat
 | [] => []
 | [w] => w
 | w :: r => w ++ c :: jn c r
theorem sp_jn {c : Nat} : ∀ {ws : List (List Nat)}, ws ≠ [] → (∀ w ∈ ws, c ∉ w) → sp c (jn c ws) = ws
 | [], h, _ => absurd rfl h
 | [w], _, h => sp_no (h w (List.mem_cons_self ..))
 | w :: v :: r, _, h => by
  show sp c (w ++ c :: jn c (v :: r)) = _
  rw [sp_app (h w (List.mem_cons_self ..)), sp_jn (ws := v :: r) (fun z => nomatch z) fun y hy => h y (List.mem_cons_of_mem _ hy)]
def stT (s : Stp) : List Nat := dig s.2 ++ 64 :: frT s.1
def snT (s : Spn) : List Nat := frT s.1 ++ 45 :: frT s.2
theorem stP_T {s : Stp} (h1 : s.1.1 < 10 ^ 300) (h2 : s.1.2 < 10 ^ 300) (h3 : s.2 < 10 ^ 300) : stP (stT s) = some s := by
 unfold stP stT
 rw [sp_app (dig_no (by decide)), sp_no (frT_signs (by decide) (by decide))]
 show ((frP (frT s.1)).bind fun f => (numP (dig s.2)).map fun n => (f, n)) = some s
 rw [frP_T h1 h2, numP_of h3]
 rfl
theorem snP_T {s : Spn} (h1 : s.1.1 < 10 ^ 300) (h2 : s.1.2 < 10 ^ 300) (h3 : s.2.1 < 10 ^ 300) (h4 : s.2.2 < 10 ^ 300) : snP (snT s) = some s := by
 unfold snP snT
 rw [sp_app (frT_signs (by decide) (by decide)), sp_no (frT_signs (by decide) (by decide))]
 show ((frP (frT s.1)).bind fun a => (frP (frT s.2)).map fun b => (a, b)) = some s
 rw [frP_T h1 h2, frP_T h3 h4]
 rfl
theorem allP_map {α : Type} {f : List Nat → Option α} {g : α → List Nat} : ∀ {S : List α}, (∀ s ∈ S, f (g s) = some s) → allP f (S.map g) = some S
 | [], _ => rfl
 | s :: r, h => by
  show ((f (g s)).bind fun a => (allP f (r.map g)).map (a :: ·)) = _
  rw [h s (List.mem_cons_self ..), allP_map fun x hx => h x (List.mem_cons_of_mem _ hx)]
  rfl
theorem stT_no {s : Stp} : 32 ∉ stT s := fun z => by
 unfold stT at z
 rcases List.mem_append.mp z with y | y
 ·exact dig_no (by decide) y
 ·rcases List.mem_cons.mp y with y | y
  ·cases y
  ·exact frT_signs (by decide) (by decide) y
theorem snT_no {s : Spn} : 32 ∉ snT s := fun z => by
 unfold snT at z
 rcases List.mem_append.mp z with y | y
 ·exact frT_signs (by decide) (by decide) y
 ·rcases List.mem_cons.mp y with y | y
  ·cases y
  ·exact frT_signs (by decide) (by decide) y
theorem tsP_T {S : List Stp} (h : ∀ s ∈ S, s.1.1 < 10 ^ 300 ∧ s.1.2 < 10 ^ 300 ∧ s.2 < 10 ^ 300) (l1 : 1 ≤ S.length) (l8 : S.length ≤ 8) (ok : okS (0, 1) S = true) : tsP (jn 32 (S.map stT)) = some S := by
 unfold tsP
 rw [sp_jn (fun z => by rw [List.map_eq_nil_iff.mp z] at l1; cases l1) fun w hw => by
  obtain ⟨s, _, rfl⟩ := List.mem_map.mp hw
  exact stT_no]
 rw [allP_map fun s hs => stP_T (h s hs).1 (h s hs).2.1 (h s hs).2.2, filter_some, if_pos]
 rw [ok, decide_eq_true ⟨l1, l8⟩]
 rfl
theorem jn_ne {c : Nat} {w : List Nat} {r : List (List Nat)} (h : w ≠ []) : jn c (w :: r) ≠ [] := by
 cases r with
 | nil => exact h
 | cons v r => exact fun z => h (List.append_eq_nil_iff.mp z).1
theorem frT_ne (p : Nat × Nat) : frT p ≠ [] := by
 unfold frT
 split
 ·exact dig_ne _
 ·exact fun z => dig_ne _ (List.append_eq_nil_iff.mp z).1
theorem pcP_T {L : List Spn} (h : ∀ s ∈ L, s.1.1 < 10 ^ 300 ∧ s.1.2 < 10 ^ 300 ∧ s.2.1 < 10 ^ 300 ∧ s.2.2 < 10 ^ 300) (ok : okC none L = true) : pcP (jn 32 (L.map snT)) = some L := by
 unfold pcP
 cases L with
 | nil => rfl
 | cons s r =>
  have ne : snT s ≠ [] := fun z => frT_ne s.1 (List.append_eq_nil_iff.mp z).1
  rw [if_neg (show ¬ jn 32 ((s :: r).map snT) = [] from jn_ne ne)]
  rw [sp_jn (ws := (s :: r).map snT) (fun z => nomatch z) fun w hw => by
   obtain ⟨s, _, rfl⟩ := List.mem_map.mp hw
   exact snT_no]
  rw [allP_map fun s hs => snP_T (h s hs).1 (h s hs).2.1 (h s hs).2.2.1 (h s hs).2.2.2, filter_some, if_pos ok]
end FT
namespace FT
open PySem PySem.StrLaws PySem.Builtin.Str
abbrev tl (x : PySem.Str) : List Nat := x.cps.toList
def mkS (l : List Nat) : PySem.Str := ⟨l.toArray⟩
theorem tl_mk (l : List Nat) : tl (mkS l) = l := rfl
theorem mk_tl (x : PySem.Str) : mkS (tl x) = x := rfl
theorem tl_inj {x y : PySem.Str} (h : tl x = tl y) : x = y := by
 rw [← mk_tl x, h]
 rfl
theorem tl_app (x y : PySem.Str) : tl (x ++ y) = tl x ++ tl y := by
 show (x.cps ++ y.cps).toList = _
 rw [Array.toList_append]
theorem join_jn (c : Nat) : ∀ ps : List PySem.Str, tl (PySem.Str.join ⟨#[c]⟩ ps) = jn c (ps.map tl)
 | [] => rfl
 | [x] => rfl
 | x :: y :: r => by
  show tl (x ++ ⟨#[c]⟩ ++ PySem.Str.join ⟨#[c]⟩ (y :: r)) = _
  rw [tl_app, tl_app, join_jn c (y :: r)]
  show _ = tl x ++ c :: jn c ((y :: r).map tl)
  rw [List.append_assoc]
  rfl
theorem split_ne (x y : PySem.Str) : Txt.split x y ≠ [] := by
 unfold Txt.split
 split
 ·exact fun z => nomatch z
 ·split
  ·exact fun z => nomatch z
  ·rw [partsBetween_eq]
   obtain ⟨p, r, e⟩ := partsFrom_ne x y.length 0 (occurrences x y 0 x.length (x.length + 1))
   rw [e]
   exact fun z => nomatch z
theorem split_sp (x : PySem.Str) (c : Nat) : (Txt.split x ⟨#[c]⟩).map tl = sp c (tl x) := by
 have e := join_jn c (Txt.split x ⟨#[c]⟩)
 rw [join_split] at e
 rw [e, sp_jn]
 ·intro z
  exact split_ne _ _ (List.map_eq_nil_iff.mp z)
 ·intro w hw
  obtain ⟨p, hp, rfl⟩ := List.mem_map.mp hw
  exact split_free x c p hp
theorem split_eq (x : PySem.Str) (c : Nat) : Txt.split x ⟨#[c]⟩ = (sp c (tl x)).map mkS := by
 rw [← split_sp, List.map_map]
 show _ = List.map (fun y => mkS (tl y)) _
 rw [show (fun y : PySem.Str => mkS (tl y)) = id from rfl, List.map_id]
theorem pt_app {c : Nat} : ∀ {a d : List Nat}, c ∉ a → pt c (a ++ c :: d) = (a, true, d)
 | [], d, _ => by
  show pt c (c :: d) = _
  rw [pt, if_pos rfl]
 | x :: a, d, h => by
  have hx : x ≠ c := fun z => h (by rw [z]; exact List.mem_cons_self ..)
  show pt c (x :: (a ++ c :: d)) = _
  rw [pt, if_neg hx, pt_app (fun z => h (List.mem_cons_of_mem _ z))]
def mrk (c : Nat) (b : Bool) : PySem.Str := if b = true then ⟨#[c]⟩ else ⟨#[]⟩
theorem part_eq (x : PySem.Str) (c : Nat) : Txt.partition x ⟨#[c]⟩ = (mkS (pt c (tl x)).1, mrk c (pt c (tl x)).2.1, mkS (pt c (tl x)).2.2) := by
 have f := found_one x c
 have sum := partition_sum x ⟨#[c]⟩
 unfold Txt.partition at sum ⊢
 rcases occ_head x ⟨#[c]⟩ 1 (Nat.le_refl _) with ⟨e, _⟩ | ⟨i, r, e, a, n⟩
 ·rw [e] at f ⊢
  have no : c ∉ tl x := fun z => by
   rw [decide_eq_true z] at f
   cases f
  rw [pt_no no]
  rfl
 ·rw [e] at sum ⊢
  have sum : strSub x 0 i ++ ⟨#[c]⟩ ++ strSub x (i + 1) x.length = x := sum
  have free : c ∉ tl (strSub x 0 i) := part_free x c 0 i (Nat.le_trans (Nat.le_add_right _ _) a.1) fun k _ h => n k h
  have tx : tl x = tl (strSub x 0 i) ++ c :: tl (strSub x (i + 1) x.length) := by
   rw [← congrArg tl sum, tl_app, tl_app, List.append_assoc]
   rfl
  rw [tx, pt_app free]
  rfl
theorem glued_jn (c : Nat) (ps : List PySem.Str) : tl (Txt.join ⟨#[c]⟩ ps) = jn c (ps.map tl) := by
 show tl (glued _ _) = _
 rw [glued_eq_join, join_jn]
theorem sub_len (x : PySem.Str) (i j : Nat) : (strSub x i j).length ≤ x.length := by
 show (x.cps.extract i j).size ≤ x.cps.size
 rw [Array.size_extract]
 omega
end FT
namespace L2
open PySem PySem.Spec PyProof.Rows
section
variable {M : Model} {A : Around} {E : Value → Shared → Prop} {s : Shared} {base : Heap} {env : Env} {outer : List Env} {L e : Addr} {oe : Obj} {vs : Array Value} {Q : Unit → Shared → Prop}
def LeftX (base : Heap) (l : List Env) (e : Addr) (oe : Obj) (vs : Array Value) (h h' : Heap) : Prop :=
 base.StaysIn h' ∧ h'.FunFrames base l ∧ h.UpToSlots h' ∧ ∃ oe' vs' T oT ts, h'.get? e = some oe' ∧ oe'.cls = oe.cls ∧ oe'.data = .fields vs' ∧ (∀ i, i ≠ 1 → vs'[i]? = vs[i]?) ∧ vs'[1]? = some (.ref T) ∧ base.get? T = none ∧ T ≠ e ∧ h'.get? T = some oT ∧ oT.data = .fields ts ∧ ts[3]? = some .none
theorem entryX {head : Value} {had : Bool} (hfr : A.frames = some (env :: outer)) (hf : env.frame = some L) (stay : base.StaysIn s.heap) (no : base.get? e = none) (ff : s.heap.FunFrames base (env :: outer)) (he : s.heap.get? e = some oe) (hd : oe.data = .fields vs) (hsz : 1 < vs.size)
  (hQ : ∀ h', LeftX base (env :: outer) e oe vs s.heap h' → Q () { s with heap := h' }) :
  wpAny M A (do let a ← frameOf env; let pl ← entryPlaceOf L had; let b ← EntryCells.newEntry head a .none (rawInt L) .none pl; setField (.ref e) 1 b) (fun _ s' => wpAny M A (setFlight (.ref e) none) Q E s') E s := by
 have ne : e ∉ (env :: outer).filterMap (·.frame) := fun z => by
  obtain ⟨_, o, ho, nf⟩ := ff.mem z
  rw [he] at ho
  cases ho
  exact nf vs hd
 refine wpAny_bind (wpAny_frameOf_fun hfr ff hf fun h1 q1 => wpAny_bind (wpAny_entryPlaceOf fun pl ip => ?_))
 unfold EntryCells.newEntry newFields
 refine wpAny_bind (wpAny_newObj_type ?_ (ip.sizeOk5 _ _ _ _ _))
 have e1 : h1.get? e = some oe := by rw [q1.2.1 e ne]; exact he
 have b1 : base.StaysIn h1 := fun b o g => by
  rw [q1.2.1 b fun z => by rw [(ff.mem z).1] at g; cases g]
  exact stay b o g
 generalize hT : ({ cls := .type "traceback", dict := none, data := .fields ([head, .ref L, .none, rawInt L, .none] ++ (if pl.isEmpty then List.replicate 6 Value.none else pl)).toArray } : Obj) = oT
 have dT : oT.data = .fields ([head, .ref L, .none, rawInt L, .none] ++ (if pl.isEmpty then List.replicate 6 Value.none else pl)).toArray := by rw [← hT]
 have fT : oT.isFreed = false := by rw [← hT]; rfl
 have e2 : (h1.push oT).get? e = some oe := Heap.get?_push_of_some _ e1
 refine wpAny_setField e2 hd hsz ?_
 have nTe : h1.objs.size ≠ e := Nat.ne_of_gt (Heap.lt_size e1)
 have d3 := Obj.data_mapFields hd (·.setIfInBounds 1 (Value.ref h1.objs.size))
 have e3 := Heap.get?_update_self (Obj.mapFields (·.setIfInBounds 1 (Value.ref h1.objs.size))) e2 (Obj.isFreed_of_fields d3)
 have t3 : ((h1.push oT).update e (Obj.mapFields (·.setIfInBounds 1 (Value.ref h1.objs.size)))).get? h1.objs.size = some oT := by
  rw [Heap.get?_update_other _ _ (Ne.symm nTe)]
  exact Heap.get?_push_size h1 fT
 unfold setFlight
 refine wpAny_bind (wpAny_field e3 d3 (x := .ref h1.objs.size) (by simp [hsz]) ?_)
 rw [if_pos (by simp)]
 refine wpAny_setField t3 dT (by simp only [List.size_toArray, List.length_append, List.length_cons, List.length_nil]; omega) (hQ _ ?_)
 have d4 := Obj.data_mapFields dT (·.setIfInBounds 3 ((none : Option Addr).elim Value.none fun f => rawInt f))
 have old : ∀ b o, b ≠ e → h1.get? b = some o → (((h1.push oT).update e (Obj.mapFields (·.setIfInBounds 1 (Value.ref h1.objs.size)))).update h1.objs.size (Obj.mapFields (·.setIfInBounds 3 ((none : Option Addr).elim Value.none fun f => rawInt f)))).get? b = some o := fun b o hb g => by
  rw [Heap.get?_update_other _ _ (Nat.ne_of_gt (Heap.lt_size g)), Heap.get?_update_other _ _ (Ne.symm hb)]
  exact Heap.get?_push_of_some _ g
 have plain : ∀ b o, s.heap.get? b = some o → (∀ vs, o.data ≠ .fields vs) → b ≠ e := fun b o g n z => by
  rw [z, he] at g
  cases g
  exact n vs hd
 refine ⟨fun b o g => old b o (fun z => by rw [z, no] at g; cases g) (b1 b o g), ff.of_keeps fun b o g n => ?_, fun b o g n => ?_, _, _, h1.objs.size, _, _, ?_, ?_, d3, fun i hi => ?_, by simp [hsz], b1.fresh, nTe, Heap.get?_update_self _ t3 (Obj.isFreed_of_fields d4), d4, ?_⟩
 ·obtain ⟨sl, z⟩ := q1.2.2 b o g
  exact ⟨_, old b _ (plain b o g n) z, rfl⟩
 ·obtain ⟨sl, z⟩ := q1.2.2 b o g
  exact ⟨sl, old b _ (plain b o g n) z⟩
 ·rw [Heap.get?_update_other _ _ nTe]
  exact e3
 ·exact Obj.cls_mapFields _ _
 ·rw [Array.getElem?_setIfInBounds_ne (Ne.symm hi)]
 ·have : 3 < ([head, .ref L, .none, rawInt L, .none] ++ (if pl.isEmpty then List.replicate 6 Value.none else pl)).toArray.size := by
   simp only [List.size_toArray, List.length_append, List.length_cons, List.length_nil]
   omega
  rw [Array.getElem?_setIfInBounds_self_of_lt this]
  rfl
def NotedX (base : Heap) (l : List Env) (e : Addr) (oe : Obj) (vs : Array Value) (fl : Value) (h h' : Heap) : Prop :=
 base.StaysIn h' ∧ h'.FunFrames base l ∧ h.UpToSlots h' ∧ ∃ oe' vs' T oT ts, h'.get? e = some oe' ∧ oe'.cls = oe.cls ∧ oe'.data = .fields vs' ∧ (∀ i, i ≠ 1 → vs'[i]? = vs[i]?) ∧ vs'[1]? = some (.ref T) ∧ base.get? T = none ∧ T ≠ e ∧ h'.get? T = some oT ∧ oT.data = .fields ts ∧ ts[3]? = some fl
theorem noteX (hfr : A.frames = some (env :: outer)) (hf : env.frame = some L) (stay : base.StaysIn s.heap) (no : base.get? e = none) (ff : s.heap.FunFrames base (env :: outer)) (he : s.heap.get? e = some oe) (hd : oe.data = .fields vs)
  {T : Addr} {oT : Obj} {ts : Array Value} (z : vs[1]? = some (.ref T)) (nT : base.get? T = none) (nTe : T ≠ e) (gT : s.heap.get? T = some oT) (dT : oT.data = .fields ts) (z3 : ts[3]? = some .none)
  (hQ : ∀ h', NotedX base (env :: outer) e oe vs (rawInt L) s.heap h' → Q () { s with heap := h' }) : wpAny M A (noteFrame (.ref e) env) Q E s := by
 unfold noteFrame
 simp only [hf]
 have hsz : 1 < vs.size := (Array.getElem?_eq_some_iff.mp z).1
 have lt3 := (Array.getElem?_eq_some_iff.mp z3).1
 refine wpAny_bind (wpAny_field he hd z ?_)
 rw [if_pos (by simp)]
 refine wpAny_bind (wpAny_field gT dT z3 ?_)
 rw [if_neg (by simp [rawInt])]
 refine wpAny_bind (wpAny_setField gT dT lt3 ?_)
 have away : ∀ {b : Addr}, b ≠ T → (s.heap.update T (Obj.mapFields (·.setIfInBounds 3 Value.none))).get? b = s.heap.get? b := fun q => Heap.get?_update_other _ _ (Ne.symm q)
 have plainT : ∀ {b : Addr} {o : Obj}, s.heap.get? b = some o → (∀ vs, o.data ≠ .fields vs) → b ≠ T := fun {b o} g n q => by
  subst q
  rw [gT] at g
  cases g
  exact n ts dT
 have ff' : (s.heap.update T (Obj.mapFields (·.setIfInBounds 3 Value.none))).FunFrames base (env :: outer) := ff.of_keeps fun b o g n => ⟨o, by rw [away (plainT g n)]; exact g, rfl⟩
 have he' : (s.heap.update T (Obj.mapFields (·.setIfInBounds 3 Value.none))).get? e = some oe := by rw [away (Ne.symm nTe)]; exact he
 have ne : e ∉ (env :: outer).filterMap (·.frame) := fun z => by
  obtain ⟨_, o, ho, nf⟩ := ff.mem z
  rw [he] at ho
  cases ho
  exact nf vs hd
 refine wpAny_bind (wpAny_frameOf_fun hfr ff' hf fun h1 q1 => wpAny_bind (wpAny_entryPlaceOf fun pl ip => ?_))
 unfold EntryCells.newEntry newFields
 refine wpAny_bind (wpAny_newObj_type ?_ (ip.sizeOk5 _ _ _ _ _))
 have e1 : h1.get? e = some oe := by rw [q1.2.1 e ne]; exact he'
 have b1 : base.StaysIn h1 := fun b o g => by
  rw [q1.2.1 b fun z => by rw [(ff.mem z).1] at g; cases g]
  show (s.heap.update T _).get? b = some o
  rw [away (fun q => by rw [q, nT] at g; cases g)]
  exact stay b o g
 generalize hT' : ({ cls := .type "traceback", dict := none, data := .fields ([.ref T, .ref L, .none, rawInt L, .none] ++ (if pl.isEmpty then List.replicate 6 Value.none else pl)).toArray } : Obj) = oN
 have dN : oN.data = .fields ([.ref T, .ref L, .none, rawInt L, .none] ++ (if pl.isEmpty then List.replicate 6 Value.none else pl)).toArray := by rw [← hT']
 have fN : oN.isFreed = false := by rw [← hT']; rfl
 have e2 : (h1.push oN).get? e = some oe := Heap.get?_push_of_some _ e1
 refine wpAny_setField e2 hd hsz (hQ _ ?_)
 have nNe : h1.objs.size ≠ e := Nat.ne_of_gt (Heap.lt_size e1)
 have d3 := Obj.data_mapFields hd (·.setIfInBounds 1 (Value.ref h1.objs.size))
 have e3 := Heap.get?_update_self (Obj.mapFields (·.setIfInBounds 1 (Value.ref h1.objs.size))) e2 (Obj.isFreed_of_fields d3)
 have t3 : ((h1.push oN).update e (Obj.mapFields (·.setIfInBounds 1 (Value.ref h1.objs.size)))).get? h1.objs.size = some oN := by
  rw [Heap.get?_update_other _ _ (Ne.symm nNe)]
  exact Heap.get?_push_size h1 fN
 have old : ∀ b o, b ≠ e → h1.get? b = some o → ((h1.push oN).update e (Obj.mapFields (·.setIfInBounds 1 (Value.ref h1.objs.size)))).get? b = some o := fun b o hb g => by
  rw [Heap.get?_update_other _ _ (Ne.symm hb)]
  exact Heap.get?_push_of_some _ g
 have plain : ∀ b o, s.heap.get? b = some o → (∀ vs, o.data ≠ .fields vs) → b ≠ e := fun b o g n z => by
  rw [z, he] at g
  cases g
  exact n vs hd
 refine ⟨fun b o g => old b o (fun z => by rw [z, no] at g; cases g) (b1 b o g), ff.of_keeps fun b o g n => ?_, fun b o g n => ?_, _, _, h1.objs.size, oN, _, e3, Obj.cls_mapFields _ _, d3, fun i hi => ?_, by simp [hsz], b1.fresh, nNe, t3, dN, ?_⟩
 ·obtain ⟨sl, z⟩ := q1.2.2 b o (by show (s.heap.update T _).get? b = some o; rw [away (plainT g n)]; exact g)
  exact ⟨_, old b _ (plain b o g n) z, rfl⟩
 ·obtain ⟨sl, z⟩ := q1.2.2 b o (by show (s.heap.update T _).get? b = some o; rw [away (plainT g n)]; exact g)
  exact ⟨sl, old b _ (plain b o g n) z⟩
 ·rw [Array.getElem?_setIfInBounds_ne (Ne.symm hi)]
 ·rfl
theorem landX {f : Option Addr} (stay : base.StaysIn s.heap) {l : List Env} (ff : s.heap.FunFrames base l) (he : s.heap.get? e = some oe) (hd : oe.data = .fields vs)
  {T : Addr} {oT : Obj} {ts : Array Value} {fl : Value} (z : vs[1]? = some (.ref T)) (nT : base.get? T = none) (nTe : T ≠ e) (gT : s.heap.get? T = some oT) (dT : oT.data = .fields ts) (z3 : ts[3]? = some fl)
  (hQ : ∀ h', NotedX base l e oe vs (f.elim .none fun f => rawInt f) s.heap h' → Q () { s with heap := h' }) : wpAny M A (setFlight (.ref e) f) Q E s := by
 have lt3 := (Array.getElem?_eq_some_iff.mp z3).1
 unfold setFlight
 refine wpAny_bind (wpAny_field he hd z ?_)
 rw [if_pos (by simp)]
 refine wpAny_setField gT dT lt3 (hQ _ ?_)
 generalize (f.elim Value.none fun f => rawInt f) = fv
 have dn := Obj.data_mapFields dT (·.setIfInBounds 3 fv)
 have away : ∀ {b : Addr}, b ≠ T → (s.heap.update T (Obj.mapFields (·.setIfInBounds 3 fv))).get? b = s.heap.get? b := fun q => Heap.get?_update_other _ _ (Ne.symm q)
 have plainT : ∀ {b : Addr} {o : Obj}, s.heap.get? b = some o → (∀ vs, o.data ≠ .fields vs) → b ≠ T := fun {b o} g n q => by
  subst q
  rw [gT] at g
  cases g
  exact n ts dT
 refine ⟨fun b o g => ?_, ff.of_keeps fun b o g n => ⟨o, by rw [away (plainT g n)]; exact g, rfl⟩, fun b o g n => ⟨o.slots, by rw [away (plainT g n)]; exact g⟩, oe, vs, T, _, _, by rw [away (Ne.symm nTe)]; exact he, rfl, hd, fun _ _ => rfl, z, nT, nTe, Heap.get?_update_self _ gT (Obj.isFreed_of_fields dn), dn, Array.getElem?_setIfInBounds_self_of_lt lt3⟩
 rw [away (fun q => by rw [q, nT] at g; cases g)]
 exact stay b o g
theorem leaveX (hfr : A.frames = some (env :: outer)) (hf : env.frame = some L) (stay : base.StaysIn s.heap) (no : base.get? e = none) (ff : s.heap.FunFrames base (env :: outer)) (he : s.heap.get? e = some oe) (hd : oe.data = .fields vs)
  (h1 : vs[1]? = some .none ∨ ∃ T oT ts fl, vs[1]? = some (.ref T) ∧ base.get? T = none ∧ T ≠ e ∧ s.heap.get? T = some oT ∧ oT.data = .fields ts ∧ ts[3]? = some fl)
  (hQ : ∀ h', LeftX base outer e oe vs s.heap h' → Q () { s with heap := h' }) : wpAny M A (leaving env (.ref e)) Q E s := by
 unfold leaving noteFrame
 simp only [hf]
 have hsz : 1 < vs.size := by
  rcases h1 with z | ⟨_, _, _, _, z, _⟩ <;> exact (Array.getElem?_eq_some_iff.mp z).1
 have down : ∀ {h h'}, LeftX base (env :: outer) e oe vs h h' → LeftX base outer e oe vs h h' := fun q => ⟨q.1, q.2.1.2.2, q.2.2⟩
 rcases h1 with z | ⟨T, oT, ts, fl, z, nT, nTe, gT, dT, z3⟩
 ·refine wpAny_bind (wpAny_bind (wpAny_field he hd z ?_))
  rw [if_neg (by decide)]
  exact entryX hfr hf stay no ff he hd hsz fun h' q => hQ h' (down q)
 ·refine wpAny_bind (wpAny_bind (wpAny_field he hd z ?_))
  rw [if_pos (by simp)]
  refine wpAny_bind (wpAny_field gT dT z3 ?_)
  have plain : ∀ {b : Addr} {o : Obj}, s.heap.get? b = some o → (∀ vs, o.data ≠ .fields vs) → b ≠ T := fun {b o} g n q => by
   subst q
   rw [gT] at g
   cases g
   exact n ts dT
  have dn := Obj.data_mapFields dT (·.setIfInBounds 3 Value.none)
  have away : ∀ {b : Addr}, b ≠ T → (s.heap.update T (Obj.mapFields (·.setIfInBounds 3 Value.none))).get? b = s.heap.get? b := fun q => Heap.get?_update_other _ _ (Ne.symm q)
  have stay' : base.StaysIn (s.heap.update T (Obj.mapFields (·.setIfInBounds 3 Value.none))) := fun b o g => by
   rw [away (fun q => by rw [q, nT] at g; cases g)]
   exact stay b o g
  have ff' : (s.heap.update T (Obj.mapFields (·.setIfInBounds 3 Value.none))).FunFrames base (env :: outer) := ff.of_keeps fun b o g n => ⟨o, by rw [away (plain g n)]; exact g, rfl⟩
  have up' : s.heap.UpToSlots (s.heap.update T (Obj.mapFields (·.setIfInBounds 3 Value.none))) := fun b o g n => ⟨o.slots, by rw [away (plain g n)]; exact g⟩
  have lt3 := (Array.getElem?_eq_some_iff.mp z3).1
  by_cases c : fl = rawInt L
  ·subst c
   rw [if_pos (by simp)]
   refine wpAny_pure ?_
   unfold setFlight
   refine wpAny_bind (wpAny_field he hd z ?_)
   rw [if_pos (by simp)]
   refine wpAny_setField gT dT lt3 (hQ _ ?_)
   exact ⟨stay', ff'.2.2, up', oe, vs, T, _, _, by rw [show ((none : Option Addr).elim Value.none fun f => rawInt f) = Value.none from rfl, away (Ne.symm nTe)]; exact he, rfl, hd, fun _ _ => rfl, z, nT, nTe, Heap.get?_update_self _ gT (Obj.isFreed_of_fields dn), dn, Array.getElem?_setIfInBounds_self_of_lt lt3⟩
  ·rw [if_neg (fun q => c (beq_iff_eq.mp q))]
   refine wpAny_bind (wpAny_setField gT dT lt3 ?_)
   refine entryX (s := { s with heap := s.heap.update T (Obj.mapFields (·.setIfInBounds 3 Value.none)) }) hfr hf stay' no ff' (by show Heap.get? (s.heap.update T _) e = _; rw [away (Ne.symm nTe)]; exact he) hd hsz fun h' q => ?_
   obtain ⟨g1, g2, g3, g4⟩ := down q
   exact hQ h' ⟨g1, g2, up'.trans g3, g4⟩
end
end L2
namespace L2
open PySem PySem.Spec PyProof.Rows
section
variable {prog : Program} {w : World} {A : Around} {E : Value → Shared → Prop} {s : Shared} {env : Env}
variable {nm q : Str} {C N : Addr} {bs bm bmB : List Value} {hdct : Bool} {sn : List Str} {sub : List Value} {ab : Bool} {col : Option Bool} {dd : Option Addr} {k0 k1 k2 k3 k5 : Option Value} {B newId initId : String}
theorem raiseNewX {α : Type} {e ea : Addr} {oe oa : Obj} {vs va : Array Value} {Q : α → Shared → Prop} (hh : A.handled = some (.ref ea)) (ne : ea ≠ e) (he : s.heap.get? e = some oe) (hd : oe.data = .fields vs) (hsz : 2 < vs.size) (ha : s.heap.get? ea = some oa) (hda : oa.data = .fields va) (h2 : va[2]? = some .none)
  (h : E (.ref e) { s with heap := s.heap.update e (Obj.mapFields (·.setIfInBounds 2 (.ref ea))) }) : wpAny (model prog w) A (raiseNew (.ref e) : Sem α) Q E s := by
 unfold raiseNew
 refine wpAny_bind (wpAny_handled ?_)
 rw [hh]
 show wpAny _ _ (if (Value.ref ea != Value.ref e) = true then _ else _) _ _ _
 rw [if_pos (by simpa using ne)]
 refine wpAny_bind (wpAny_holding (wpAny_runValue (codeAny_builtin (show entryFor table "proto.unchain" = some Builtin.«proto.unchain» from entryFor_of_tree (by kernel_rfl)) ?_)))
 unfold Builtin.«proto.unchain»
 refine wpAny_bind (wpAny_field ha hda h2 ?_)
 rw [if_pos (by decide)]
 refine wpAny_bind (wpAny_pure (wpAny_pure ?_))
 show wpAny _ _ (updateField e 2 (Value.ref ea) >>= _) _ _ _
 exact wpAny_bind (wpAny_setField he hd hsz (wpAny_throw h))
def lastF (t : Addr) (ea : Addr) : Array Value := #[.ref t, .none, .ref ea, .none, .bool true, .none]
theorem raiseStmtX {x c : Sem Value} {ea : Addr} {Q : Flow → Shared → Prop} (hc : ∀ {Q1 : Value → Shared → Prop} {s1 : Shared}, Q1 .none s1 → wpAny (model prog w) A c Q1 E s1) (hbase : bm.contains (.type "BaseException") = true) (hh : A.handled = some (.ref ea))
  (h : wpAny (model prog w) A x (fun v s₁ => ∃ e t oa va, v = .ref e ∧ ea ≠ e ∧ s₁.heap.get? C = some (excClassObj nm q C N bs bm hdct sn sub ab col dd k0 k1 k2 k3 k5 newId) ∧
   s₁.heap.get? e = some { cls := .ref C, data := .fields #[.ref t, .none, .none, .none, .bool false, .none] } ∧ s₁.heap.get? ea = some oa ∧ oa.data = .fields va ∧ va[2]? = some .none ∧
   ∀ h', h'.get? e = some { cls := .ref C, data := .fields (lastF t ea) } → (∀ b, b ≠ e → h'.get? b = s₁.heap.get? b) → E (.ref e) { s₁ with heap := h' }) E s) :
  wpAny (model prog w) A (raiseStmt env (some x) (some c)) Q E s := by
 have hcB : (Value.ref C :: bm).contains (.type "BaseException") = true := by rw [List.contains_cons, hbase, Bool.or_true]
 unfold raiseStmt
 refine wpAny_bind (wpAny_mono h (fun v s₁ h₁ => ?_) fun _ _ x => x)
 obtain ⟨e, t, oa, va, rfl, ne, hC, he, ha, hda, h2, hE⟩ := h₁
 obtain ⟨hp, g, d, tk, os⟩ := s₁
 refine wpAny_bind (wpAny_holding (hc (wpAny_bind (wpAny_pure ?_))))
 refine wpAny_bind (wpAny_holding ?_)
 have step1 : ∀ {Q1 : Value → Shared → Prop}, Q1 (.ref e) ⟨hp, g, d, tk, os⟩ → wpAny (model prog w) A (excFromValue (.ref e) "exceptions must derive from BaseException") Q1 E ⟨hp, g, d, tk, os⟩ := fun {Q1} q1 => by
  unfold excFromValue isExcClass
  repeat (first | exact q1 | with_reducible refine wpAny_loadPart_at he ?_ | with_reducible refine wpAny_loadPart_at hC ?_ | (with_reducible refine wpAny_isSubtype_exc hC ?_; rw [hcB]) | wp_step)
 refine step1 ?_
 show wpAny _ _ (if (Value.none == Value.none) = true then _ else _) _ _ _
 rw [if_pos (by decide)]
 refine wpAny_bind (wpAny_pure ?_)
 refine wpAny_bind (wpAny_setField he rfl (by simp) ?_)
 generalize hh1 : hp.update e (Obj.mapFields (·.setIfInBounds 3 Value.none)) = h1
 have g1 : h1.get? e = some { cls := .ref C, data := .fields #[.ref t, .none, .none, .none, .bool false, .none] } := by
  rw [← hh1]
  exact Heap.get?_update_self _ he rfl
 have o1 : ∀ b, b ≠ e → h1.get? b = hp.get? b := fun b hb => by rw [← hh1]; exact Heap.get?_update_other _ _ (Ne.symm hb)
 refine wpAny_bind (wpAny_setField (s := ⟨h1, g, d, tk, os⟩) g1 rfl (by simp) ?_)
 generalize hh2 : h1.update e (Obj.mapFields (·.setIfInBounds 4 (Value.bool true))) = h2'
 have g2 : h2'.get? e = some { cls := .ref C, data := .fields #[.ref t, .none, .none, .none, .bool true, .none] } := by
  rw [← hh2]
  exact Heap.get?_update_self _ g1 rfl
 have o2 : ∀ b, b ≠ e → h2'.get? b = hp.get? b := fun b hb => by rw [← hh2, Heap.get?_update_other _ _ (Ne.symm hb)]; exact o1 b hb
 have nCe : C ≠ e := fun z => by
  rw [z, he] at hC
  cases hC
 have hC2 : h2'.get? C = some (excClassObj nm q C N bs bm hdct sn sub ab col dd k0 k1 k2 k3 k5 newId) := by rw [o2 C nCe]; exact hC
 have step2 : ∀ {Q1 : Bool → Shared → Prop}, Q1 false ⟨h2', g, d, tk, os⟩ → wpAny (model prog w) A (isType (.ref e)) Q1 E ⟨h2', g, d, tk, os⟩ := fun {Q1} q1 => by
  unfold isType
  repeat (first | exact q1 | with_reducible refine wpAny_loadPart_at g2 ?_ | wp_step)
 have step3 : ∀ {Q1 : Value → Shared → Prop}, Q1 (.ref e) ⟨h2', g, d, tk, os⟩ → wpAny (model prog w) A (raisedInstance (.ref e)) Q1 E ⟨h2', g, d, tk, os⟩ := fun {Q1} q1 => by
  unfold raisedInstance
  repeat (first | exact q1 | with_reducible refine wpAny_loadPart_at g2 ?_ | with_reducible refine wpAny_loadPart_at hC2 ?_ | wp_step)
 refine wpAny_bind (step2 ?_)
 rw [if_neg (by decide)]
 refine wpAny_bind (step3 ?_)
 unfold setFlight
 refine wpAny_bind (wpAny_bind (wpAny_field g2 rfl (x := .none) rfl ?_))
 rw [if_neg (by decide)]
 refine wpAny_pure ?_
 refine raiseNewX hh ne g2 rfl (by simp) (by show h2'.get? ea = some oa; rw [o2 ea ne]; exact ha) hda h2 (hE _ ?_ fun b hb => ?_)
 ·exact Heap.get?_update_self _ g2 rfl
 ·rw [Heap.get?_update_other _ _ (Ne.symm hb)]
  exact o2 b hb
theorem execRaiseX (F : ExcBaseFacts B newId initId bmB) {mN : Str → Option Value} {x : Str} {np cpos pos kp : Pos} {kj : Nat} {args : List Expr} {ea : Addr} {Q : Flow → Shared → Prop} (hbase : bm.contains (.type "BaseException") = true) (hh : A.handled = some (.ref ea)) (hplain : (backTo cpos (starEach args env)).any (·.1) = false) (hni : mN "__init__" = none)
  (h : wpAny (model prog w) A (eval (.Name x np) env) (fun f s₁ => f = .ref C ∧ wpAny (model prog w) A (evalArgs (.ref C) true (backTo cpos (starEach args env)) [])
   (fun a s₂ => a.kw = [] ∧ a.pos.length ≤ sizeLine ∧ s₂.heap.get? C = some (excClassObj nm q C N bs bm hdct sn sub ab col dd k0 k1 k2 k3 k5 newId) ∧ s₂.heap.Ns N mN ∧ OwnTail s₂.heap bmB bm ∧
    (∃ oa va, s₂.heap.get? ea = some oa ∧ oa.data = .fields va ∧ va[2]? = some .none) ∧
    ∀ h1 h' e t, Heap.MadeExcOf s₂.heap h1 e (.ref C) a.pos → h1.get? e = some { cls := .ref C, data := .fields #[.ref t, .none, .none, .none, .bool false, .none] } → h'.get? e = some { cls := .ref C, data := .fields (lastF t ea) } → (∀ b, b ≠ e → h'.get? b = h1.get? b) → E (.ref e) { s₂ with heap := h' }) E s₁) E s) :
  wpAny (model prog w) A (exec (.Raise (some (.Call (.Name x np) args [] cpos)) (some (.Constant .none kj kp)) pos) env) Q E s := by
 rw [arm_exec_Raise]
 refine wpAny_bind (wpAny_standAt ?_)
 show wpAny _ _ (raiseStmt env (some (do let v ← eval (.Call (.Name x np) args [] cpos) env; standAt pos; pure v)) (some (do let v ← eval (.Constant .none kj kp) env; standAt pos; pure v))) _ _ _
 refine raiseStmtX (C := C) (nm := nm) (q := q) (N := N) (bs := bs) (bm := bm) (hdct := hdct) (sn := sn) (sub := sub) (ab := ab) (col := col) (dd := dd) (k0 := k0) (k1 := k1) (k2 := k2) (k3 := k3) (k5 := k5) (newId := newId) (fun {Q1 s1} q1 => ?_) hbase hh ?_
 ·exact wpAny_bind (wpAny_Constant_none (wpAny_bind (wpAny_standAt (wpAny_pure q1))))
 ·refine wpAny_bind (wpAny_mono (wpAny_Call_ofName (wpAny_mono h (fun f s₁ h₁ => ?_) fun _ _ x => x)) (fun v s₃ h₃ => wpAny_bind (wpAny_standAt (wpAny_pure h₃))) fun _ _ x => x)
  obtain ⟨rfl, h₁⟩ := h₁
  unfold callWith
  refine wpAny_bind (wpAny_holding (wpAny_mono h₁ (fun a s₂ h₂ => wpAny_bind (wpAny_standAt ?_)) fun _ _ x => x))
  obtain ⟨ap, ak⟩ := a
  obtain ⟨hkw, hlen, hC, hn, T, ⟨oa, va, g1, g2, g3⟩, h₂⟩ := h₂
  obtain rfl : ak = [] := hkw
  obtain ⟨hp, g, d, tk, os⟩ := s₂
  simp only [hplain]
  refine wpAny_bind (wpAny_keeperOf_exc hC ?_)
  refine wpAny_bind (wpAny_call_exc_subT (hrest := hlen) F T hC hn hni fun h' e hm => wpAny_bind (wpAny_holding (wpAny_point (wpAny_pure ?_))))
  obtain ⟨t, ht, _, _⟩ := hm.there
  have ne : ea ≠ e := fun z => by
   have nw := hm.new
   rw [← z] at nw
   have g1' : hp.get? ea = some oa := g1
   rw [nw] at g1'
   cases g1'
  exact ⟨e, t, oa, va, rfl, ne, hm.keeps _ _ hC, ht, hm.keeps _ _ g1, g2, g3, fun h2 y1 y2 => h₂ h' h2 e t hm ht y1 y2⟩
end
end L2
namespace L2
open PySem PySem.Spec PyProof.Rows
theorem vals_strs : ∀ (l : List (PySem.Str × Tok)), Vals (l.map fun p => V.str p.1) (strValues l)
 | [] => .nil
 | p :: l => .cons ⟨p.2, rfl⟩ (vals_strs l)
theorem strs_of : ∀ {ws : List PySem.Str} {its : List Value}, Vals (ws.map V.str) its → ∃ l : List (PySem.Str × Tok), its = strValues l ∧ l.map (·.1) = ws
 | [], _, r => by
  cases r
  exact ⟨[], rfl, rfl⟩
 | x :: ws, its, r => by
  cases r with
  | cons r1 r2 =>
   obtain ⟨t, rfl⟩ := r1
   obtain ⟨l, rfl, rfl⟩ := strs_of r2
   exact ⟨(x, t) :: l, rfl, rfl⟩
section
variable {X : Cx}
def rSplit : V → List V → Hp → VK → Prop := fun x vs H Q => ∃ (a : PySem.Str) (c : Nat), x = .str a ∧ vs = [.str ⟨#[c]⟩] ∧ a.length < 100000 ∧ ∀ p, H p = none → Q (.ref p) (upd H p (.lst ((FT.sp c (FT.tl a)).map fun w => .str (FT.mkS w))))
theorem split_lay {pins : List (Addr × Obj)} {σ : St} {H : Hp} {s : Shared} {Q : VK} {l : List (PySem.Str × Tok)} {ws : List (List Nat)} {t' : Nat} (I : Inv X pins σ H s) (e : l.map (·.1) = ws.map FT.mkS) (hz : ws.length ≤ sizeLine) (q : ∀ p, H p = none → Q (.ref p) (upd H p (.lst (ws.map fun w => .str (FT.mkS w))))) :
  EP X pins σ Q (.ref s.heap.objs.size) { s with heap := s.heap.push { cls := .type "list", data := .seq (strValues l).toArray }, toks := t' } := by
 have v := vals_strs l
 have e2 : l.map (fun p => V.str p.1) = ws.map fun w => V.str (FT.mkS w) := by
  have := congrArg (List.map V.str) e
  rw [List.map_map, List.map_map] at this
  exact this
 rw [e2] at v
 exact ⟨.ref s.heap.objs.size, _, I.lnew (t' := t') v (by rw [List.length_map]; exact hz), rfl, q _ I.fresh⟩
theorem mt_split : MtM X "str.split" rSplit := by
 intro pins s σ H x vs v us Q I rx rv h
 obtain ⟨a, c, rfl, rfl, hz, q⟩ := h
 obtain ⟨t, rfl⟩ := rx
 obtain ⟨u, rfl, ⟨t2, rfl⟩⟩ := rv.one
 have e := FT.split_eq a c
 have big : 100000 ≤ sizeLine := by decide
 have hw : (FT.sp c (FT.tl a)).length ≤ sizeLine := Nat.le_trans (FT.sp_len c (FT.tl a)) (by have : (FT.tl a).length = a.length := Array.length_toList; omega)
 have eu : Txt.split a ⟨#[c]⟩ = if (decide (a.length < (⟨#[c]⟩ : PySem.Str).length) || decide (Builtin.Str.strKind a < Builtin.Str.strKind ⟨#[c]⟩)) = true then [a] else
  if (Builtin.Str.occurrences a ⟨#[c]⟩ 0 a.length (a.length + 1)).isEmpty = true then [a] else Builtin.Str.partsBetween a (Builtin.Str.occurrences a ⟨#[c]⟩ 0 a.length (a.length + 1)) (⟨#[c]⟩ : PySem.Str).length := rfl
 rw [eu] at e
 cases h1 : (decide (a.length < (⟨#[c]⟩ : PySem.Str).length) || decide (Builtin.Str.strKind a < Builtin.Str.strKind ⟨#[c]⟩))
 ·rw [h1, if_neg Bool.false_ne_true] at e
  cases hf : (Builtin.Str.occurrences a ⟨#[c]⟩ 0 a.length (a.length + 1)).isEmpty
  ·rw [hf, if_neg Bool.false_ne_true] at e
   have hl : (Builtin.Str.partsBetween a (Builtin.Str.occurrences a ⟨#[c]⟩ 0 a.length (a.length + 1)) (⟨#[c]⟩ : PySem.Str).length).length ≤ sizeLine := by rw [e, List.length_map]; exact hw
   refine call_meets F.slot_str_split (typeIs_str _ _ _) F.entry_str_split (F.args_str_split_2 _ _) (meets_str_split_sep a ⟨#[c]⟩ t t2 h1 rfl hf (by omega) hl) ?_
   show EP X pins σ Q _ { s with toks := _, heap := s.heap.push { cls := .type "list", data := .seq (strsFrom s.toks _).toArray } }
   rw [strsFrom_eq]
   exact split_lay I ((numbered_texts _ _).trans e) hw q
  ·rw [hf, if_pos rfl] at e
   exact call_meets F.slot_str_split (typeIs_str _ _ _) F.entry_str_split (F.args_str_split_2 _ _) (meets_str_split_not_found a ⟨#[c]⟩ t t2 h1 rfl hf) (split_lay (l := [(a, t)]) I e hw q)
 ·rw [h1, if_pos rfl] at e
  exact call_meets F.slot_str_split (typeIs_str _ _ _) F.entry_str_split (F.args_str_split_2 _ _) (meets_str_split_cannot_occur a ⟨#[c]⟩ t t2 h1) (split_lay (l := [(a, t)]) I e hw q)
def rJoin (K : PySem.W.Frag) : V → List V → Hp → VK → Prop := fun x vs H Q => ∃ (y : PySem.Str) (a : Addr) (ws : List PySem.Str), x = .str y ∧ vs = [.ref a] ∧ SqL K H a (ws.map V.str) ∧ JoinOk y ws = true ∧ Q (.str (Txt.join y ws)) H
theorem mt_join : MtM X "str.join" (rJoin X.K) := by
 intro pins s σ H x vs v us Q I rx rv h
 obtain ⟨y, a, ws, rfl, rfl, ha, ok, q⟩ := h
 obtain ⟨t, rfl⟩ := rx
 obtain ⟨u, rfl, ru⟩ := rv.one
 cases (show u = Value.ref a from ru)
 obtain ⟨its, r, p, _⟩ := I.list ha
 obtain ⟨l, rfl, e⟩ := strs_of r
 exact SC.join p.isList e ok fun t' k => ⟨.str _, H, I.tok k, ⟨_, rfl⟩, q⟩
theorem call_int_text : CallR X (.type "int") (fun xs H Q => ∃ (x : PySem.Str) (n : Int), xs = [.str x] ∧ PySem.intText? x = some n ∧ x.length ≤ 640 ∧ Q (.int n) H) := by
 intro pins s σ H xs us Q I r h
 obtain ⟨x, n, rfl, e, hl, q⟩ := h
 obtain ⟨u, rfl, t, rfl⟩ := vals1 r
 exact PySem.W.KIN.call_text e hl ⟨.int n, H, I.tok _, ⟨_, rfl⟩, q⟩
def Its (x : PySem.Str) : It := ⟨fun i _ => i < (FT.tl x).length, fun i H v H' => H' = H ∧ ∃ c, (FT.tl x)[i]? = some c ∧ v = .str ⟨#[c]⟩, fun i _ => (FT.tl x).length ≤ i⟩
theorem tl_get (x : PySem.Str) (i : Nat) : (FT.tl x)[i]? = x.cps[i]? := Array.getElem?_toList
theorem turn_str {P : Program} {w : World} {K : PySem.W.Frag} {tg : Expr} (ty : String) (hty : ty = "str_ascii_iterator" ∨ ty = "str_iterator") (x : PySem.Str) (t : Tok) (it : Addr) : Turn P w K tg (Its x) [it] it (fun i h => h.IsStrIter it ty x t i) where
 mem := by simp
 obj := fun i h st b hb => by
  have e : b = it := by simpa using hb
  subst e
  obtain ⟨o, e, c, d⟩ := st
  exact ⟨o, e, fun v z => by rw [d] at z; cases z⟩
 keep := fun i h h' st k => by
  obtain ⟨o, e, c, d⟩ := st
  exact ⟨o, k it (by simp) o e, c, d⟩
 item := by
  intro X hP hw hK hc i pins s σ H E I hf st hg
  subst hP hw hK
  obtain ⟨f0, f1, f2, f3, f4, f5⟩ := hf it (by simp)
  have hg : i < (FT.tl x).length := hg
  have hx : x.cps[i]? = some ((FT.tl x)[i]) := by rw [← tl_get]; exact List.getElem?_eq_getElem hg
  have done : ∀ h', h'.IsStrIter it ty x t (i + 1) → Heap.SameBut it s.heap h' → ∃ u, some (Value.str ⟨#[(FT.tl x)[i]]⟩ s.toks) = some u ∧ wpAny (model X.prog X.w) X.A (letOwnedTupleGo tg (.ref it) u) (fun _ s2 => ∃ v H', Inv X pins σ H' s2 ∧ RelV v u ∧ (Its x).yld i H v H' ∧ s2.heap.IsStrIter it ty x t (i + 1) ∧ ∀ b ∈ [it], H' b = none) E { s with heap := h', toks := s.toks + 1 } := fun h' st' sb => by
   have I1 : Inv X pins σ H { s with heap := h', toks := s.toks + 1 } := I.turned (t' := s.toks + 1) (fun b o hb e => (sb.2 b hb).trans e) f0 f1 f3 f4 f5
   obtain ⟨o, e, c, d⟩ := id st'
   refine ⟨_, rfl, go_of (s := { s with heap := h', toks := s.toks + 1 }) e c d (by rcases hty with z | z <;> rw [z] <;> decide) ⟨.str ⟨#[(FT.tl x)[i]]⟩, H, I1, ⟨_, rfl⟩, ⟨rfl, _, List.getElem?_eq_getElem hg, rfl⟩, st', fun b hb => (hf b hb).1⟩⟩
  rcases hty with rfl | rfl
  ·exact wpAny_pyNext_ascii_item st hx done
  ·exact wpAny_pyNext_wide_item st hx done
 done := by
  intro X hP hw hK hc i pins s σ H E I hf st hg
  subst hP hw hK
  obtain ⟨f0, f1, f2, f3, f4, f5⟩ := hf it (by simp)
  have hg : (FT.tl x).length ≤ i := hg
  have hx : x.cps[i]? = none := by rw [← tl_get]; exact List.getElem?_eq_none hg
  have done : ∀ h', Heap.ExtBut it s.heap h' → (none : Option Value) = none ∧ Inv X pins σ H { s with heap := h' } := fun h' eb => ⟨rfl, I.turned (t' := s.toks) (fun b o hb e => eb b o hb e) f0 f1 f3 f4 f5⟩
  rcases hty with rfl | rfl
  ·exact wpAny_pyNext_ascii_end (I.ok.hd hc) st hx done
  ·exact wpAny_pyNext_wide_end (I.ok.hd hc) st hx done
 self := fun _ _ _ _ _ st h => by
  rcases hty with rfl | rfl
  ·exact wpAny_pyIter_striter_ascii st h
  ·exact wpAny_pyIter_striter_wide st h
def iStr (tl : TE) : TI := fun σ H R => tl σ H fun x H1 => ∃ a, x = .str a ∧ R (Its a) H1
theorem pi_str {tg l : Expr} {tl : TE} (hl : PE X l tl) : PI X tg l (iStr tl) := by
 intro pins s σ H R I h
 refine thn (hl pins s σ H _ I h) fun v s1 ⟨x, H1, I1, r1, q1⟩ => ?_
 obtain ⟨a, e, q⟩ := q1
 subst e
 obtain ⟨t, rfl⟩ := r1
 have fp : ∀ b ∈ [s1.heap.objs.size], FpOk X pins H1 b := fun b hb => by
  have e : b = s1.heap.objs.size := by simpa using hb
  subst e
  exact I1.fpOk (Nat.le_refl _) (I1.hok.fresh (Nat.le_refl _))
 cases ha : a.cps.all (· < 128)
 ·exact wpAny_pyIter_wide ha ⟨s1.heap.objs.size, [s1.heap.objs.size], _, _, H1, rfl, I1.kept (t' := s1.toks) fun b o e => Heap.get?_push_of_some _ e, turn_str _ (.inr rfl) a t _, ⟨_, Heap.get?_push_size _ rfl, rfl, rfl⟩, fp, q⟩
 ·exact wpAny_pyIter_ascii ha ⟨s1.heap.objs.size, [s1.heap.objs.size], _, _, H1, rfl, I1.kept (t' := s1.toks) fun b o e => Heap.get?_push_of_some _ e, turn_str _ (.inl rfl) a t _, ⟨_, Heap.get?_push_size _ rfl, rfl, rfl⟩, fp, q⟩
end
theorem comp_str {x : PySem.Str} {D : Addr} {g : CS → TG} {tc : CS → TT} {te : CS → TE} {σ0 : St} {H0 : Hp} {Q : Hp → Prop} (Pv : Nat → List V → St → Hp → Prop) (hz : (FT.tl x).length ≤ sizeLine) (h0 : Pv 0 [] σ0 H0)
  (hl : ∀ i ys σ H, i ≤ (FT.tl x).length → Pv i ys σ H → H D = some (.lst ys) ∧ ys.length ≤ i)
  (hs : ∀ i c ys σ H, (FT.tl x)[i]? = some c → Pv i ys σ H → ∀ cc : CS, g cc (.str ⟨#[c]⟩) σ H fun σ2 H2 => tc cc σ2 H2 fun b H3 => if b = true then te cc σ2 H3 fun v H4 => H4 D = some (.lst ys) ∧ Pv (i + 1) (ys ++ [v]) σ2 (upd H4 D (.lst (ys ++ [v]))) else Pv (i + 1) ys σ2 H3)
  (hd : ∀ ys σ H, Pv (FT.tl x).length ys σ H → Q H) :
  ∃ W : Nat → Nat → List V → St → Hp → Prop, (∃ m, W 0 m [] σ0 H0) ∧ ∀ i m ys σ' H', W i m ys σ' H' → H' D = some (.lst ys) ∧ (((Its x).stop i H' ∧ Q H') ∨ ((Its x).go i H' ∧ ys.length < sizeLine ∧ ∃ N : List V → St → Hp → Prop, (∀ ys' σ'' H'', N ys' σ'' H'' → ∃ m', m' < m ∧ W (i + 1) m' ys' σ'' H'') ∧
    ∀ v H2, (Its x).yld i H' v H2 → ∀ c : CS, g c v σ' H2 fun σ2 H3 => tc c σ2 H3 fun b H4 => if b = true then te c σ2 H4 fun v H5 => H5 D = some (.lst ys) ∧ N (ys ++ [v]) σ2 (upd H5 D (.lst (ys ++ [v]))) else N ys σ2 H4)) := by
 refine ⟨fun i m ys σ H => m = (FT.tl x).length - i ∧ i ≤ (FT.tl x).length ∧ Pv i ys σ H, ⟨(FT.tl x).length, by simp, Nat.zero_le _, h0⟩, ?_⟩
 rintro i m ys σ H ⟨rfl, hi, p⟩
 obtain ⟨qD, ql⟩ := hl i ys σ H hi p
 refine ⟨qD, ?_⟩
 by_cases hlt : i < (FT.tl x).length
 ·refine .inr ⟨hlt, by omega, Pv (i + 1), fun ys' σ' H' p' => ⟨(FT.tl x).length - (i + 1), by omega, rfl, hlt, p'⟩, fun v H' y c => ?_⟩
  obtain ⟨e, cc, hc, e2⟩ := y
  subst e e2
  exact hs i cc ys σ _ hc p c
 ·have e : i = (FT.tl x).length := by omega
  subst e
  exact .inl ⟨Nat.le_refl _, hd ys σ H p⟩
end L2
namespace L2
open PySem PySem.Spec PyProof.Rows
section
variable {X : Cx}
def rPart : V → List V → Hp → VK → Prop := fun x vs H Q => ∃ (a : PySem.Str) (c : Nat), x = .str a ∧ vs = [.str ⟨#[c]⟩] ∧ a.length < 100000 ∧ ∀ p, H p = none → Q (.ref p) (upd H p (.tup [.str (FT.mkS (FT.pt c (FT.tl a)).1), .str (FT.mrk c (FT.pt c (FT.tl a)).2.1), .str (FT.mkS (FT.pt c (FT.tl a)).2.2)]))
theorem mt_part : MtM X "str.partition" rPart := by
 intro pins s σ H x vs v us Q I rx rv h
 obtain ⟨a, c, rfl, rfl, hz, q⟩ := h
 obtain ⟨t, rfl⟩ := rx
 obtain ⟨u, rfl, ⟨t2, rfl⟩⟩ := rv.one
 have big : 100000 ≤ sizeLine := by decide
 have e := FT.part_eq a c
 refine wpAny_call_entry F.slot_str_partition (typeIs_str _ _ _) F.entry_str_partition ?_ (F.args_str_partition_2 _ _)
 obtain ⟨ra, et⟩ := partition_tree a ⟨#[c]⟩ t t2
 rw [et, if_neg (by simp [PySem.Str.length])]
 unfold Txt.partition at e
 have lay : ∀ (tk : Nat) (u1 u2 u3 : Value) (z1 z2 z3 : PySem.Str), (z1, z2, z3) = (FT.mkS (FT.pt c (FT.tl a)).1, FT.mrk c (FT.pt c (FT.tl a)).2.1, FT.mkS (FT.pt c (FT.tl a)).2.2) → RelV (.str z1) u1 → RelV (.str z2) u2 → RelV (.str z3) u3 →
   EP X pins σ Q (.ref s.heap.objs.size) { s with heap := s.heap.push { cls := .type "tuple", data := .seq [u1, u2, u3].toArray }, toks := tk } := fun tk u1 u2 u3 z1 z2 z3 ez r1 r2 r3 => by
  cases ez
  exact ⟨.ref s.heap.objs.size, _, I.laid (t' := tk) (o := .tup [.str (FT.mkS (FT.pt c (FT.tl a)).1), .str (FT.mrk c (FT.pt c (FT.tl a)).2.1), .str (FT.mkS (FT.pt c (FT.tl a)).2.2)]) (fun _ _ g => Heap.get?_push_of_some _ g) (Nat.le_refl _) ⟨by show 3 ≤ sizeLine; decide, [u1, u2, u3], .cons r1 (.cons r2 (.cons r3 .nil)), IsTup.new _ _⟩, rfl, q _ I.fresh⟩
 cases ho : Builtin.Str.occurrences a ⟨#[c]⟩ 0 a.length 1 with
 | nil =>
  rw [ho] at e
  refine wpAny_bind (wpAny_rule (wpAny_bind (wpAny_mkStr ?_ (by show 0 ≤ sizeLine; decide))))
  unfold newTuple
  refine wpAny_bind (wpAny_newObj_type (wpAny_pure ⟨_, rfl, ?_⟩) (by show 3 ≤ sizeLine; decide))
  exact lay _ _ _ _ _ _ _ e ⟨_, rfl⟩ ⟨_, rfl⟩ ⟨_, rfl⟩
 | cons i r =>
  rw [ho] at e
  have l1 : (Builtin.Str.strSub a 0 i).length ≤ sizeLine := Nat.le_trans (FT.sub_len a 0 i) (by omega)
  have l2 : (Builtin.Str.strSub a (i + (⟨#[c]⟩ : PySem.Str).length) a.length).length ≤ sizeLine := Nat.le_trans (FT.sub_len a _ _) (by omega)
  refine wpAny_bind (wpAny_mkStr (wpAny_bind (wpAny_mkStr ?_ l2)) l1)
  unfold newTuple
  refine wpAny_bind (wpAny_newObj_type (wpAny_pure ⟨_, rfl, ?_⟩) (by show 3 ≤ sizeLine; decide))
  exact lay _ _ _ _ _ _ _ e ⟨_, rfl⟩ ⟨_, rfl⟩ ⟨_, rfl⟩
def rSlS : V → Option Int → Option Int → Hp → VK → Prop := fun x _ _ H Q => ∃ a : PySem.Str, x = .str a ∧ a.length ≤ 100000 ∧ ∀ z : PySem.Str, z.length ≤ a.length → Q (.str z) H
theorem sl_str : SlR X rSlS := by
 intro pins s σ H x v vl vu lo hi sl Q I rx hs pl pu h
 obtain ⟨a, rfl, hz, q⟩ := h
 obtain ⟨t, rfl⟩ := rx
 refine ⟨"str", _, F.slot_str_getitem.lookup, typeIs_str _ _ _, ?_⟩
 have fin : ∀ (l u : Option (Int × Tok)), IsPart vl (l.map (·.1)) → IsPart vu (u.map (·.1)) → vl = partValue l → vu = partValue u → wpAny (model X.prog X.w) X.A (getItem (.str a t) (.ref sl)) (EP X pins σ Q) X.xe s := fun l u _ _ e1 e2 => by
  subst e1 e2
  refine wpAny_getItem_str_slice (l := l) (u := u) (st := none) hs rfl (post_val_or_str ⟨Nat.le_trans (Txt.slice_le a _ _) (Nat.le_trans hz (by decide)), fun t' k => ?_⟩)
  exact ⟨.str _, H, I.tok k, ⟨_, rfl⟩, q _ (Txt.slice_le a _ _)⟩
 cases pl with
 | none => cases pu with
  | none => exact fin none none .none .none rfl rfl
  | int j tj => exact fin none (some (j, tj)) .none (.int j tj) rfl rfl
 | int i ti => cases pu with
  | none => exact fin (some (i, ti)) none (.int i ti) .none rfl rfl
  | int j tj => exact fin (some (i, ti)) (some (j, tj)) (.int i ti) (.int j tj) rfl rfl
end
end L2
namespace PySem
namespace F
theorem lri_no_len : typeLookup (.type "list_reverseiterator") "__len__" = pure none := by rw [typeLookup_type, builtinLookup_eq_fast]; kernel_rfl
theorem lri_hint : typeLookup (.type "list_reverseiterator") "__length_hint__" = pure (some (.builtin "list_reverseiterator.__length_hint__")) := by rw [typeLookup_type, builtinLookup_eq_fast]; kernel_rfl
end F
section
variable {prog : Program} {w : World} {A : Around} {E : Value → Shared → Prop} {s : Shared}
theorem hint_rev {it l : Addr} {i : Int} {Q : Bool → Shared → Prop} (hit : s.heap.IsRevIter it l i) (h : Q false s) : wpAny (model prog w) A (Builtin.List.listLengthHint (.ref it)) Q E s := by
 unfold Builtin.List.listLengthHint
 refine wpAny_bind (wpAny_specialOf hit.typeIs F.lri_no_len ?_)
 show wpAny _ _ (specialOf (Value.ref it) (Str.ofString "__length_hint__") >>= _) _ _ _
 refine wpAny_bind (wpAny_specialOf hit.typeIs F.lri_hint ?_)
 generalize hid : ("list_reverseiterator.__length_hint__" : String) = id0
 wp_delta
 rw [show splitId id0 = some ("list_reverseiterator", "__length_hint__") from by subst hid; decide +kernel]
 subst hid
 refine wpAny_bind (wpAny_isInstance (T := "list_reverseiterator") (b := true) hit.typeIs (by rw [isSubtype_type]; kernel_rfl) ?_)
 refine wpAny_ite_split (fun hab => absurd hab (by decide)) (fun _ => ?_)
 refine wpAny_ite_split (fun _ => ?_) (fun hab => absurd (by decide +kernel) hab)
 refine wpAny_ite_split (fun hab => absurd hab (by decide +kernel)) (fun _ => ?_)
 exact wpAny_pure h
theorem extend_rev {R : Result → Shared → Prop} {it l : Addr} {items : Array Value} (hh : A.handled = none) (hne : l ≠ it) (hit : s.heap.IsRevIter it l ((items.size : Int) - 1)) (hl : s.heap.IsList l items) (S : Addr) (res : Value) (c₀ : Nat)
  (hS : s.heap.get? S = some { cls := .type "list", data := .seq #[] c₀ }) (hSl : S ≠ l)
  (hR : ∀ h' tk acc' c', (∀ b o, b ≠ S → b ≠ it → s.heap.get? b = some o → h'.get? b = some o) → h'.get? S = some { cls := .type "list", dict := none, data := .seq acc' c', slots := #[] } →
   ItemsOf (fun i v => items[items.size - 1 - i]? = some v) acc' items.size → R (.ok (.ret res)) { s with heap := h', toks := tk }) (hn : items.size ≤ sizeLine) :
  wpAny (model prog w) A.in1 (Builtin.List.listExtendWith (.ref S) (.ref it) res)
   (fun fin s' => match fin with | .done f => R (.ok f) s' | .again c' => c'.quiet = true ∧ codeAny (model prog w) A c' R s') (fun e s' => R (.error e) s') s := by
 have hSi : S ≠ it := fun e => by
  obtain ⟨o, ho, hc, _⟩ := hit
  rw [← e, hS] at ho
  cases ho
  exact absurd (show Value.type "list" = Value.type "list_reverseiterator" from hc) (by decide)
 have hSf : S ∉ [it, l] := fun hm => by
  rcases List.mem_cons.mp hm with e | e
  ·exact hSi e
  ·exact hSl (List.mem_singleton.mp e)
 unfold Builtin.List.listExtendWith
 refine wpAny_bind (wpAny_typeOf (T := "list_reverseiterator") hit.typeIs ?_)
 have h1 : Builtin.List.listSameRef (.ref S) (.ref it) = false := by simp [Builtin.List.listSameRef, hSi]
 have h2 : (Value.type "list_reverseiterator" == Value.type "list") = false := by decide
 have h3 : (Value.type "list_reverseiterator" == Value.type "tuple") = false := by decide
 simp only [h1, h2, h3, Bool.or_false, Bool.false_eq_true, if_false]
 refine wpAny_bind (wpAny_pyIter_revIter hit ?_)
 refine wpAny_bind (wpAny_holding (hint_rev hit ?_))
 refine wpAny_ite_split (fun hab => absurd hab (by decide +kernel)) (fun _ => ?_)
 have W := (Walks.listRev (prog := prog) (w := w) (A := A.in1) hh it l hne items).toS
 refine wpAny_pure ⟨plainId_quiet F.plain_extend_loop _, codeAny_extend_loopS W hn S hSf res items.size 0 _ #[] c₀ rfl (Nat.zero_le _) ⟨Nat.zero_le _, by simpa using hit, hl⟩ hS (ItemsOf.nil _) fun s' acc' c' hm hS' hacc => ?_⟩
 rw [Moved.eq_with hm]
 refine hR s'.heap s'.toks acc' c' (fun b o hb hb2 e => hm.heap b o (fun hmem => ?_) e) hS' hacc
 rcases List.mem_cons.mp hmem with e' | hmem
 ·exact hb e'
 ·exact hb2 (List.mem_singleton.mp hmem)
end
end PySem
namespace L2
open PySem PySem.Spec PyProof.Rows
section
variable {X : Cx}
end
end L2
namespace PySem
section
variable {prog : Program} {w : World} {A : Around} {E : Value → Shared → Prop} {s : Shared}
theorem collect_rev {Q : List Value → Shared → Prop} {it l : Addr} {its : List Value} (hh : A.handled = none) (hne : l ≠ it) (hit : s.heap.IsRevIter it l ((its.toArray.size : Int) - 1)) (hl : s.heap.IsList l its.toArray) (hn : its.toArray.size ≤ sizeLine)
  (hQ : ∀ h' tk, (∀ b o, b ≠ it → s.heap.get? b = some o → h'.get? b = some o) → Q its.reverse { s with heap := h', toks := tk }) : wpAny (model prog w) A (collect (.ref it)) Q E s := by
 have nl : s.heap.objs.size ≠ l := fun z => by
  obtain ⟨o, ho, _⟩ := id hl
  rw [← z] at ho
  exact Nat.lt_irrefl _ (Heap.lt_size ho)
 unfold collect
 refine wpAny_bind (wpAny_runValue (codeAny_builtin F.entry_proto_collect ?_))
 rw [Around.under_plainId F.plain_proto_collect _]
 show wpAny _ A.in1 (newList [] >>= fun l => again (.builtin "list.__iadd__" ⟨[l, .ref it], []⟩)) _ _ s
 refine wpAny_bind (wpAny_newObj_type (wpAny_pure ⟨plainId_quiet F.plain_list_iadd _, codeAny_builtin F.entry_list_iadd ?_⟩))
 rw [Around.under_plainId F.plain_list_iadd _]
 have hS : (s.heap.push { cls := .type "list", data := .seq ([] : List Value).toArray }).get? s.heap.objs.size = some { cls := .type "list", data := .seq #[] } := Heap.get?_push_size _ rfl
 show wpAny _ A.in1 (Builtin.List.listExtendWith (.ref s.heap.objs.size) (.ref it) (.ref s.heap.objs.size)) _ _ _
 refine extend_rev (R := fun r s' => match r with | .ok (.ret v) => wpAny (model prog w) A (match v with | Value.ref a => do (match (← load a).data with | .seq xs _ => pure xs.toList | _ => unsupported "internal:collect") | _ => unsupported "internal:collect") Q E s' | .ok _ => False | .error e => E e s') (A := A) (s := { s with heap := s.heap.push { cls := .type "list", data := .seq ([] : List Value).toArray } }) (c₀ := 0) hh hne (hit.at fun o e => Heap.get?_push_of_some _ e) (hl.at fun o e => Heap.get?_push_of_some _ e) s.heap.objs.size _ (hS := hS) nl (fun h' tk acc c hk hS' hacc => ?_) hn
 show wpAny _ A (load s.heap.objs.size >>= _) _ _ _
 refine wpAny_bind (wpAny_load hS' ?_)
 obtain ⟨n1, n2⟩ := hacc
 have ea : acc.toList = its.reverse := by
  refine List.ext_getElem? fun i => ?_
  rw [Array.getElem?_toList]
  by_cases c : i < its.length
  ·have hi : i < acc.size := by rw [n1, List.size_toArray]; exact c
   have := n2 i _ (Array.getElem?_eq_getElem hi)
   rw [Array.getElem?_eq_getElem hi, List.getElem?_reverse c, ← this, List.size_toArray]
   simp
  ·rw [Array.getElem?_eq_none (by rw [n1, List.size_toArray]; omega), List.getElem?_eq_none (by rw [List.length_reverse]; omega)]
 show wpAny _ A (pure acc.toList) _ _ _
 rw [ea]
 exact wpAny_pure (hQ h' tk fun b o hb e => hk b o (Nat.ne_of_lt (Heap.lt_size e)) hb (Heap.get?_push_of_some _ e))
open Builtin Builtin.Str in
theorem call_join_rev {x : Str} {t : Tok} {Q : Value → Shared → Prop} {it l : Addr} {ls : List (Str × Tok)} (hh : A.handled = none) (hne : l ≠ it) (hit : s.heap.IsRevIter it l (((strValues ls).toArray.size : Int) - 1)) (hl : s.heap.IsList l (strValues ls).toArray) (hn : (strValues ls).toArray.size ≤ sizeLine) (hok : JoinOk x (ls.map (·.1)).reverse = true)
  (hQ : ∀ h' t' tk, (∀ b o, b ≠ it → s.heap.get? b = some o → h'.get? b = some o) → Q (.str (Txt.join x (ls.map (·.1)).reverse) t') { s with heap := h', toks := tk }) :
  wpAny (model prog w) A (call (.builtin "str.join") [.str x t, .ref it]) Q E s := by
 refine wpAny_call (codeAny_call_builtin F.slot_str_join.plain F.entry_str_join (F.slot_str_join.check _ _ _ _ _ _ _ _ (typeIs_str _ _ _) (F.args_str_join_2 _ _) ?_))
 rw [join_tree_other]
 refine wpAny_bind (wpAny_typeOf hit.typeIs ?_)
 show wpAny _ A.in1 ((pyIter (.ref it)).tryCatch _ >>= fun it => collect it >>= fun items => joinTail x items) _ _ s
 refine wpAny_bind (wpAny_tryCatch (wpAny_pyIter_revIter hit ?_))
 refine wpAny_bind (collect_rev hh hne hit hl hn fun h' tk hk => ?_)
 have er : (strValues ls).reverse = strValues ls.reverse := by
  unfold strValues
  rw [List.map_reverse]
 rw [er]
 have em : (ls.map (·.1)).reverse = ls.reverse.map (·.1) := by rw [List.map_reverse]
 rw [em] at hok hQ
 have ok := hok
 unfold JoinOk at ok
 rw [Bool.not_eq_true'] at ok
 have g : Gives (joinTail x (strValues ls.reverse)) (joinMade x ls.reverse) := by
  clear hok hQ em er
  generalize ls.reverse = l2 at ok ⊢
  have g0 := gives_joinTail x l2 ok
  cases l2 with
  | nil => exact g0
  | cons p r => cases r with
   | nil => exact g0
   | cons q r' => exact g0
 exact g prog w A (wants Q E) _ (post_join ls.reverse ⟨joinFit_length ok, fun t' k => hQ h' t' k hk⟩)
end
end PySem
namespace L2
open PySem PySem.Spec PyProof.Rows
section
variable {X : Cx}
def tJoinRev (K : PySem.W.Frag) (to : TE) (t : TA) : TE := fun σ H Q => to σ H fun x H1 => ∃ y, x = .str y ∧ t σ H1 fun vs H2 => ∃ (a : Addr) (ws : List PySem.Str), vs = [.ref a] ∧ SqL K H2 a (ws.map V.str) ∧ JoinOk y ws.reverse = true ∧ Q (.str (Txt.join y ws.reverse)) H2
theorem pe_joinrev {o e : Expr} {to : TE} {ta : TA} {p' apos cpos pos' : Pos} (hc : X.calm = true) (ho : PE X o to) (hg' : Gl X "reversed") (hm' : X.mg "reversed" = none) (ha : PA X [e] ta) (hbase : attributeBase o "join" X.env (eval o X.env) = eval o X.env := by rfl)
  (hfew : ((backTo cpos (starEach [.Call (.Name "reversed" p') [e] [] pos'] X.env)).all (fun x => !x.1) && (backToKw cpos (keywordEach [] X.env)).all (fun x => x.1.isSome) && decide ([Expr.Call (.Name "reversed" p') [e] [] pos'].length + ([] : List Keyword).length + (if ([] : List Keyword).isEmpty then 0 else 1) < 30)) = true := by rfl)
  (hline : (apos.endLine == cpos.line) = true := by rfl) (hs : starEach [e] X.env = [(false, eval e X.env)] := by rfl) (hs' : starEach [.Call (.Name "reversed" p') [e] [] pos'] X.env = [(false, eval (.Call (.Name "reversed" p') [e] [] pos') X.env)] := by rfl) :
  PE X (.Call (.Attribute o "join" apos) [.Call (.Name "reversed" p') [e] [] pos'] [] cpos) (tJoinRev X.K to ta) := by
 intro pins s σ H Q I h
 refine wpAny_Call_method_late hbase hfew hline rfl (thn (ho pins s σ H _ I h) fun v s0 ⟨x, H0, I0, r0, y, ey, q0⟩ => ?_)
 subst ey
 obtain ⟨t, rfl⟩ := r0
 refine ⟨"str", "str.join", F.plainAttrs_str, F.slot_str_join, F.type_str_join, typeIs_str _ _ _, fun _ z => (nomatch z), ?_⟩
 rw [hs']
 refine Calls.callWith_builtin rfl (Calls.evalArgs_plain ?_)
 show wpAny _ _ (spliced ((false, eval (.Call (.Name "reversed" p') [e] [] pos') X.env) :: backTo cpos [])) _ _ s0
 refine Calls.spliced_cons ?_
 refine wpAny_Call_Name_kw (ld_blt I0 hg' hm' boot_reversed ?_)
 refine PyProof.Rows.callWith_type1 (thn (ha pos' pins s0 σ H0 _ I0 q0) fun us s1 ⟨vs, H1, I1, r1, q1⟩ => ?_) hs rfl
 obtain ⟨a, ws, rfl, hq, ok, q⟩ := q1
 obtain ⟨u, rfl, rx⟩ := r1.one
 cases (show u = Value.ref a from rx)
 obtain ⟨its, rv, pl, hz⟩ := I1.list hq
 refine call_reversed_list pl.isList ?_
 refine Calls.spliced_nil ?_
 obtain ⟨ls, rfl, el⟩ := strs_of rv
 have old : ∀ b o, s1.heap.get? b = some o → (s1.heap.push (revObj a (((strValues ls).toArray.size : Int) - 1))).get? b = some o := fun b o e => Heap.get?_push_of_some _ e
 have hp : a ≠ s1.heap.objs.size := fun e => by
  obtain ⟨o, n, e1, _⟩ := pl
  exact absurd (Heap.lt_size e1) (by rw [e]; exact Nat.lt_irrefl _)
 refine call_join_rev (it := s1.heap.objs.size) (l := a) (ls := ls) (I1.ok.hd hc) hp ⟨_, Heap.get?_push_size _ rfl, rfl, rfl⟩ (pl.isList.at fun o e => old a o e) (by have := rv.length; rw [List.size_toArray]; omega) (by rw [el]; exact ok) fun h' t' tk hk => ?_
 have kp : ∀ b o, s1.heap.get? b = some o → h'.get? b = some o := fun b o e => hk b o (fun z => absurd (Heap.lt_size e) (by rw [z]; exact Nat.lt_irrefl _)) (old b o e)
 rw [el]
 exact ⟨.str _, H1, I1.kept (t' := tk) kp, ⟨_, rfl⟩, q⟩
end
end L2
namespace L2
open PySem PySem.Spec PyProof.Rows
def bas (fs : List Addr) (h : Heap) : Heap := ⟨h.objs.mapIdx fun i o => if i ∈ fs then { o with data := .freed } else o, h.life⟩
theorem bas_get {fs : List Addr} {h : Heap} {b : Addr} (hb : b ∉ fs) : (bas fs h).get? b = h.get? b := by
 unfold bas Heap.get?
 simp only [Array.getElem?_mapIdx]
 cases e : h.objs[b]? with
 | none => rfl
 | some o => simp only [Option.map_some, if_neg hb]
theorem bas_none {fs : List Addr} {h : Heap} {b : Addr} (hb : b ∈ fs) : (bas fs h).get? b = none := by
 unfold bas Heap.get?
 simp only [Array.getElem?_mapIdx]
 cases e : h.objs[b]? with
 | none => rfl
 | some o => simp only [Option.map_some, if_pos hb]
theorem bas_stays {fs : List Addr} {h : Heap} : (bas fs h).StaysIn h := fun b o e => by
 by_cases hb : b ∈ fs
 ·rw [bas_none hb] at e; cases e
 ·rw [bas_get hb] at e; exact e
theorem bas_frames {h h' base : Heap} : ∀ {l : List Env} (all : List Addr), (∀ b ∈ frs l, b ∈ all) → h.FunFrames base l → h.FunFrames (bas all h') l
 | [], _, _, _ => trivial
 | env :: r, all, sub, ⟨hk, ⟨L, o, hf, hn, ho, hd⟩, hr⟩ => by
  have e : frs (env :: r) = L :: frs r := by
   unfold frs
   rw [List.filterMap_cons, hf]
  rw [e] at sub
  exact ⟨hk, ⟨L, o, hf, bas_none (sub L (List.mem_cons_self ..)), ho, hd⟩, bas_frames all (fun b hb => sub b (List.mem_cons_of_mem _ hb)) hr⟩
theorem hok_fly {P : Program} {w : World} {fs : List Addr} {H : Hp} {h h' : Heap} (k : (bas fs h).StaysIn h') (x : HOk P w H h) (hf : ∀ b ∈ fs, H b = none) : HOk P w H h' := fun a o e =>
 (x a o e).stay (fun b u hb q => k b u (by
  rw [bas_get]
  ·exact q
  ·intro z
   have n := hf b z
   rcases hb with rfl | hb
   ·rw [e] at n; cases n
   ·rw [hb] at n; cases n)) (fun _ q => q) fun _ _ q => q
theorem ObjOk.has {P : Program} {w : World} {H : Hp} {h : Heap} {a : Addr} {o : HO} (x : ObjOk P w H h a o) : ∃ u, h.get? a = some u := by
 cases o with
 | lst xs => obtain ⟨_, _, _, _, e⟩ := x; exact ⟨_, e⟩
 | tup xs => obtain ⟨_, _, _, _, e, _⟩ := x; exact ⟨_, e⟩
 | dK kvs => obtain ⟨_, _, _, _, o, _, _, e, _⟩ := x; exact ⟨_, e⟩
 | dT kvs => obtain ⟨_, _, _, _, o, _, _, e, _⟩ := x; exact ⟨_, e⟩
 | set S n => obtain ⟨o, _, _, _, e, _⟩ := x; exact ⟨_, e⟩
 | ins C dx fs => obtain ⟨_, _, _, e, _⟩ := x; exact ⟨_, e⟩
 | own y => exact x
 | xd fs => obtain ⟨_, ⟨_, _, _, e, _⟩, _⟩ := x; exact ⟨_, e⟩
 | rng lo hi => obtain ⟨_, _, _, e⟩ := x; exact ⟨_, e⟩
 | frz ob u => obtain ⟨e, _⟩ := x; exact ⟨_, e⟩
 | tbl ps => exact ⟨_, (show h.get? a = some _ from x)⟩
 | met f y => exact ⟨_, (show h.get? a = some _ from x)⟩
 | ext φ => obtain ⟨_, e, _⟩ := x; exact e
theorem HOk.no {P : Program} {w : World} {H : Hp} {h : Heap} {a : Addr} (x : HOk P w H h) (n : h.get? a = none) : H a = none := by
 cases e : H a with
 | none => rfl
 | some o =>
  obtain ⟨u, q⟩ := (x a o e).has
  rw [n] at q
  cases q
end L2
namespace L2
open PySem PySem.Spec PyProof.Rows
theorem un_left2 {fs l : List Addr} {H H' : Hp} {h0 h1 h5 : Heap} (u : Un fs [] H H' h0 h1) (k : (bas l h1).StaysIn h5) (up : ∀ b ∈ fs, ∀ o, h1.get? b = some o → ∃ sl, h5.get? b = some { o with slots := sl }) (hl : ∀ b ∈ l, b ∉ fs → h0.get? b = none) : Un fs [] H H' h0 h5 := by
 have stay : ∀ b o o1, h0.get? b = some o → b ∉ fs → h1.get? b = some o1 → h5.get? b = some o1 := fun b o o1 e nb e1 => by
  refine k b o1 ?_
  rw [bas_get]
  ·exact e1
  ·intro z
   rw [hl b z nb] at e
   cases e
 refine ⟨fun b o e n nb nx => stay b o o e nb (u.keep b o e n nb nx), fun b o e n hb nx => ?_, u.free, fun b o e nx => ?_, u.tups, u.frzs, u.tbls⟩
 ·obtain ⟨sl, e1⟩ := u.slot b o e n hb nx
  obtain ⟨sl', e2⟩ := up b hb _ e1
  exact ⟨sl', e2⟩
 ·obtain ⟨o1, e1⟩ := u.there b o e nx
  by_cases hb : b ∈ fs
  ·obtain ⟨sl, z⟩ := up b hb o1 e1
   exact ⟨_, z⟩
  ·exact ⟨o1, stay b o o1 e hb e1⟩
theorem fun_frames_in {h h' base : Heap} : ∀ {l : List Env}, (∀ b ∈ frs l, ∀ o, h.get? b = some o → (∀ vs, o.data ≠ .fields vs) → ∃ o', h'.get? b = some o' ∧ o'.data = o.data) → h.FunFrames base l → h'.FunFrames base l
 | [], _, _ => trivial
 | env :: r, k, ⟨hk, ⟨L, o, hf, hn, ho, hd⟩, hr⟩ => by
  have e : frs (env :: r) = L :: frs r := by
   unfold frs
   rw [List.filterMap_cons, hf]
  rw [e] at k
  obtain ⟨o', q1, q2⟩ := k L (List.mem_cons_self ..) o ho hd
  exact ⟨hk, ⟨L, o', hf, hn, q1, by rw [q2]; exact hd⟩, fun_frames_in (fun b hb => k b (List.mem_cons_of_mem _ hb)) hr⟩
def TrG (b : Bool) (h : Heap) (ea T C : Addr) : Prop := ∃ oe vs oT ts, h.get? ea = some oe ∧ oe.cls = .ref C ∧ oe.data = .fields vs ∧ vs[1]? = some (.ref T) ∧ (b = true → vs[2]? = some .none) ∧ T ≠ ea ∧ h.get? T = some oT ∧ oT.data = .fields ts ∧ ts[3]? = some .none
def CXg (b : Bool) (P : Program) (w : World) (C : Addr) : CXT := fun outer H s E e s' => ∃ (ea T : Addr) (H' : Hp), e = .ref ea ∧ s'.os = s.os ∧ AllBare s'.gens ∧ Un (frs outer) [] H H' s.heap s'.heap ∧ HOk P w H' s'.heap ∧ TrG b s'.heap ea T C ∧ (s.heap.get? ea = none ∧ s.heap.get? T = none) ∧ (H' ea = none ∧ H' T = none) ∧ E (.ref C) none H'
abbrev CX1 (P : Program) (w : World) (C : Addr) : CXT := CXg true P w C
section
variable {P : Program} {w : World} {K : PySem.W.Frag} {mg : Str → Option Value} {base : Heap} {N : List Str} {qual : Str} {scope : Scope} {f C : Addr} {cd : Value} {A : Around} {outer : List Env} {s0 : Shared} {H0 : Hp} {E : XK} {b' : Bool}
theorem leave_def {pins : List (Addr × Obj)} {σ : St} {H' : Hp} {s1 : Shared} {h : Heap} {l : List Addr} {ea : Addr} {oe : Obj} {vs : Array Value}
  (I1 : Inv (cxOf (CXg b' P w C) P w K mg base N qual scope f cd A outer s0 H0 E) pins σ H' s1) (hE : E (.ref C) none H') (he : h.get? ea = some oe) (hc : oe.cls = .ref C) (hd : oe.data = .fields vs) (el : ea ∈ l) (fl : ∀ b ∈ frs ((envOfC qual scope s0.heap.objs.size f cd) :: outer), b ∈ l)
  (hl : ∀ b ∈ l, (b ∉ frs ((envOfC qual scope s0.heap.objs.size f cd) :: outer) → s0.heap.get? b = none) ∧ H' b = none) (stay : (bas l s1.heap).StaysIn h) (up : ∀ b ∈ frs ((envOfC qual scope s0.heap.objs.size f cd) :: outer), ∀ o, s1.heap.get? b = some o → ∃ sl, h.get? b = some { o with slots := sl })
  (ne : ea ∉ frs ((envOfC qual scope s0.heap.objs.size f cd) :: outer))
  (h1 : vs[1]? = some .none ∨ ∃ T oT ts fl, vs[1]? = some (.ref T) ∧ (bas l s1.heap).get? T = none ∧ T ≠ ea ∧ h.get? T = some oT ∧ oT.data = .fields ts ∧ ts[3]? = some fl) (h2 : b' = true → vs[2]? = some .none) :
  Cx.xe (cxOf (CXg b' P w C) P w K mg base N qual scope f cd A outer s0 H0 E) (.ref ea) { s1 with heap := h } := by
 have stk := I1.stack
 have fr : ∀ b ∈ frs ((envOfC qual scope s0.heap.objs.size f cd) :: outer), ∃ o, s1.heap.get? b = some o ∧ ∀ vs, o.data ≠ .fields vs := fun b hb => (stk.mem hb).2
 have ff : h.FunFrames (bas l s1.heap) ((envOfC qual scope s0.heap.objs.size f cd) :: outer) := by
  refine bas_frames (h := h) (base := base) l fl (fun_frames_in (h := s1.heap) (fun b hb o ho nf => ?_) stk)
  obtain ⟨sl, q⟩ := up b hb o ho
  exact ⟨_, q, rfl⟩
 show wpAny _ _ (leaving (envOfC qual scope s0.heap.objs.size f cd) (.ref ea)) _ _ _
 refine leaveX (s := { s1 with heap := h }) (base := bas l s1.heap) I1.ok.frames rfl stay (bas_none el) ff he hd ?_ fun h5 left => ?_
 ·exact h1
 obtain ⟨k1, k2, k3, oe', vs', T, oT, ts, p1, p2, p3, p4, p5, p6, p7, p8, p9, p10⟩ := left
 have mem : ∀ b, b ∈ frs ((envOfC qual scope s0.heap.objs.size f cd) :: outer) ↔ b = s0.heap.objs.size ∨ b ∈ frs outer := fun b => by
  show b ∈ s0.heap.objs.size :: frs outer ↔ _
  exact List.mem_cons
 have up5 : ∀ b ∈ frs ((envOfC qual scope s0.heap.objs.size f cd) :: outer), ∀ o, s1.heap.get? b = some o → ∃ sl, h5.get? b = some { o with slots := sl } := fun b hb o ho => by
  obtain ⟨o', ho', nf⟩ := fr b hb
  rw [ho] at ho'
  cases ho'
  obtain ⟨sl, q⟩ := up b hb o ho
  obtain ⟨sl', q'⟩ := k3 b _ q nf
  exact ⟨sl', q'⟩
 have L0 : s0.heap.get? s0.heap.objs.size = none := by
  cases y : s0.heap.get? s0.heap.objs.size with
  | none => rfl
  | some o => exact absurd (Heap.lt_size y) (Nat.lt_irrefl _)
 have low : ∀ b ∈ l, b ∉ frs outer → s0.heap.get? b = none := fun b hb n => by
  by_cases z : b ∈ frs ((envOfC qual scope s0.heap.objs.size f cd) :: outer)
  ·rcases (mem b).mp z with y | y
   ·rw [y]; exact L0
   ·exact absurd y n
  ·exact (hl b hb).1 z
 have fT : s0.heap.get? T = none ∧ H' T = none := by
  by_cases z : T ∈ l
  ·by_cases y : T ∈ frs ((envOfC qual scope s0.heap.objs.size f cd) :: outer)
   ·obtain ⟨o, ho, nf⟩ := fr T y
    obtain ⟨sl, q⟩ := up5 T y o ho
    rw [p8] at q
    cases q
    exact absurd p9 (nf _)
   ·exact ⟨(hl T z).1 y, (hl T z).2⟩
  ·rw [bas_get z] at p6
   refine ⟨?_, I1.hok.no p6⟩
   cases y : s0.heap.get? T with
   | none => rfl
   | some o =>
    obtain ⟨o', q⟩ := I1.base.there T o y (fun y => nomatch y)
    rw [p6] at q
    cases q
 refine ⟨ea, T, H', rfl, I1.os, I1.bare, un_left2 I1.base k1 (fun b hb => up5 b ((mem b).mpr (.inr hb))) low, hok_fly k1 I1.hok fun b hb => (hl b hb).2, ⟨oe', vs', oT, ts, p1, p2.trans hc, p3, p5, fun y => by rw [p4 2 (by decide)]; exact h2 y, p7, p8, p9, p10⟩, ⟨(hl ea el).1 ne, fT.1⟩, ⟨(hl ea el).2, fT.2⟩, hE⟩
theorem passG {b : Bool} (hb : b' = true → b = true) : Passes (CXg b P w C) (cxOf (CXg b' P w C) P w K mg base N qual scope f cd A outer s0 H0 E) E := by
 intro pins σ H s e s1 I0 q
 obtain ⟨ea, T, H', rfl, os, bare, un, hok, ⟨oe, vs, oT, ts, r1, r2, r3, r4, r5, r6, r7, r8, r9⟩, ⟨n1, n2⟩, ⟨n3, n4⟩, hw⟩ := q
 have I1 := I0.call' (ch := []) os un hok bare (fun b z => nomatch z)
 have back : ∀ b, s.heap.get? b = none → s0.heap.get? b = none := fun b n => by
  cases z : s0.heap.get? b with
  | none => rfl
  | some o =>
   obtain ⟨o', q⟩ := I0.base.there b o z (fun y => nomatch y)
   rw [n] at q
   cases q
 have plain : ∀ {x : Addr} {o : Obj} {us : Array Value}, s1.heap.get? x = some o → o.data = .fields us → x ∉ frs ((envOfC qual scope s0.heap.objs.size f cd) :: outer) := fun {x o us} g d z => by
  obtain ⟨_, o', g', nf⟩ := I1.stack.mem z
  rw [g] at g'
  cases g'
  exact nf _ d
 have key := leave_def (h := s1.heap) (l := ea :: T :: frs ((envOfC qual scope s0.heap.objs.size f cd) :: outer)) I1 hw r1 r2 r3 (List.mem_cons_self ..) (fun b hb => List.mem_cons_of_mem _ (List.mem_cons_of_mem _ hb)) (fun b hb => ?_) bas_stays (fun b _ o ho => ⟨o.slots, ho⟩) (plain r1 r3)
  (.inr ⟨T, oT, ts, _, r4, bas_none (List.mem_cons_of_mem _ (List.mem_cons_self ..)), r6, r7, r8, r9⟩) (fun y => r5 (hb y))
 ·exact key
 ·rcases List.mem_cons.mp hb with q | q
  ·rw [q]; exact ⟨fun _ => back _ n1, n3⟩
  ·rcases List.mem_cons.mp q with q | q
   ·rw [q]; exact ⟨fun _ => back _ n2, n4⟩
   ·exact ⟨fun n => absurd q n, I1.stkFree b q⟩
end
end L2
namespace L2
open PySem PySem.Spec PyProof.Rows
structure ExcC (K : PySem.W.Frag) (mg : Str → Option Value) (x : Str) (C : Addr) : Prop where
 bound : mg x = some (.ref C)
 exc : PySem.W.excIn K C [.type "ValueError", .type "Exception", .type "BaseException", .type "object"] "ValueError.__new__" = true
theorem ExcC.own {K : PySem.W.Frag} {mg : Str → Option Value} {x : Str} {C : Addr} {h : Heap} (c : ExcC K mg x C) (X : K.In h) : OwnCls x C [.type "ValueError", .type "Exception", .type "BaseException", .type "object"] "ValueError.__new__" mg h := by
 refine ⟨c.bound, ?_⟩
 have z := c.exc
 unfold PySem.W.excIn at z
 split at z
 case h_2 => cases z
 case h_1 d1 cl sl there =>
  split at z
  case h_2 => cases z
  case h_1 C1 tail g0 g1 g2 g3 made g5 em es =>
   simp only [Bool.and_eq_true, beq_iff_eq, Bool.not_eq_true'] at z
   obtain ⟨⟨⟨⟨⟨ec, en⟩, fd⟩, tl⟩, nso⟩, noi⟩ := z
   obtain ⟨c1, c2, c3, c4, c5, c6, c7, c8, c9, c10, c11⟩ := cl
   dsimp only at em fd nso noi
   subst em fd ec en
   have esl : sl = ⟨[g0, g1, g2, g3, some (.builtin "ValueError.__new__"), g5]⟩ := by
    obtain ⟨sl⟩ := sl
    exact congrArg Array.mk es
   subst esl
   exact ⟨tail, c4, c1, c5, c2, c6, c7, c8, c9, c10, d1, g0, g1, g2, g3, g5, _, X _ _ there, .of_isNs (PySem.W.isNs_of_in X nso), PySem.W.nsMap_none_of_in X nso noi, PySem.W.tail_of_in X tl⟩
theorem Fun.okX {P : Program} {w : World} {K : PySem.W.Frag} {mg : Str → Option Value} {base : Heap} {C : Addr} {x qual : Str} {st : Stmt} {f : Addr} {fd : FuncData} {N ps : List Str} {k : Nat} {sp : Sp} (F : Fun K x qual st f fd) (S : FnScope N ps (defScope st)) (len : ∀ vs H Q E, sp vs H Q E → vs.length = ps.length)
  (hb : ∀ (cdv : Value) (A : Around) (outer : List Env) (s : Shared) (H : Hp) (vs : List V) (Q : VK) (E : XK), Room k (A.deeper (envOfC qual (defScope st) s.heap.objs.size f cdv)) → sp vs H Q E →
   ∃ t, PSs (cxOf (CX1 P w C) P w K mg base N qual (defScope st) f cdv A outer s H E) (defBody st) t ∧ t { nx := fun _ H' => Q .non H', rt := Q } (start N vs) H) : FnOk P w K mg base (CX1 P w C) (k + 1) f fd ps sp := by
 obtain ⟨oc, od, kV, doc, pm, an, cdv, ct, osl, rfl, lk, hcd⟩ := F.ex
 exact fn_of lk hcd S len fun A outer s H vs Q E hr hsp => hb cdv A outer s H vs Q E hr hsp
abbrev Cx.pin (X : Cx) (pins : List (Addr × Obj)) : Cx := { X with pn := X.pn ++ pins }
abbrev Cx.caught (X : Cx) (ea : Addr) : Cx := { X with A := X.A.mark (some (.ref ea)), calm := false, xe := fun _ _ => False }
section
variable {X : Cx} {pins : List (Addr × Obj)} {σ : St} {H : Hp} {s : Shared}
theorem Cx.Ok.pinX (ok : X.Ok) : (X.pin pins).Ok := ⟨ok.mod, ok.kind, ok.glob, ok.blt, ok.above, ok.inj, ok.has, ok.cab, ok.hd, ok.frames, ok.stk, ok.exf, ok.bs, ok.bsz, ok.noex, ok.exfs, ok.funs, ok.frf⟩
theorem Cx.Ok.unpinX (ok : (X.pin pins).Ok) : X.Ok := ⟨ok.mod, ok.kind, ok.glob, ok.blt, ok.above, ok.inj, ok.has, ok.cab, ok.hd, ok.frames, ok.stk, ok.exf, ok.bs, ok.bsz, ok.noex, ok.exfs, ok.funs, ok.frf⟩
theorem Cx.Ok.caught (ok : X.Ok) {ea : Addr} : (X.caught ea).Ok := ⟨ok.mod, ok.kind, ok.glob, ok.blt, ok.above, ok.inj, ok.has, ok.cab, (fun z => nomatch z), ok.frames, ok.stk, ok.exf, ok.bs, ok.bsz, ok.noex, ok.exfs, ok.funs, ok.frf⟩
theorem Inv.pinX (I : Inv X pins σ H s) : Inv (X.pin pins) [] σ H s := ⟨I.ok.pinX, I.os, I.bare, I.base, I.loc, I.cell, I.free, I.freeC, fun p hp => I.pin p (by rw [List.append_nil] at hp; exact hp), I.hok, I.len⟩
theorem Inv.unpinX {p' : List (Addr × Obj)} (I : Inv (X.pin pins) p' σ H s) : Inv X pins σ H s := ⟨I.ok.unpinX, I.os, I.bare, I.base, I.loc, I.cell, I.free, I.freeC, fun p hp => I.pin p (List.mem_append_left _ hp), I.hok, I.len⟩
theorem Inv.caught (I : Inv X pins σ H s) {ea : Addr} : Inv (X.caught ea) pins σ H s := ⟨I.ok.caught, I.os, I.bare, I.base, I.loc, I.cell, I.free, I.freeC, I.pin, I.hok, I.len⟩
theorem Inv.uncaught {ea : Addr} (ok : X.Ok) (I : Inv (X.caught ea) pins σ H s) : Inv X pins σ H s := ⟨ok, I.os, I.bare, I.base, I.loc, I.cell, I.free, I.freeC, I.pin, I.hok, I.len⟩
theorem SP.unpinX {D : Ends} {f : Flow} {s' : Shared} (h : SP (X.pin pins) [] D f s') : SP X pins D f s' := by
 cases f with
 | next => obtain ⟨σ', H', I, q⟩ := h; exact ⟨σ', H', I.unpinX, q⟩
 | brk => obtain ⟨σ', H', I, q⟩ := h; exact ⟨σ', H', I.unpinX, q⟩
 | cont => obtain ⟨σ', H', I, q⟩ := h; exact ⟨σ', H', I.unpinX, q⟩
 | ret u => obtain ⟨v, σ', H', I, r, q⟩ := h; exact ⟨v, σ', H', I.unpinX, r, q⟩
end
def ClX (P : Program) (w : World) (K : PySem.W.Frag) (mg : Str → Option Value) (base : Heap) (C : Addr) (x : Str) (k : Nat) (ps : List Str) (sp : Sp) : Prop :=
 ∃ (f : Addr) (fd : FuncData), mg x = some (.ref f) ∧ PySem.W.keepIn K (.ref f) = true ∧ Binds K fd ps [] ∧ FnOk P w K mg base (CX1 P w C) k f fd ps sp
theorem DefAt.clX {P : Program} {w : World} {K : PySem.W.Frag} {mg : Str → Option Value} {base : Heap} {C : Addr} {x : Str} {st : Stmt} {ps : List Str} {f : Addr} {fd : FuncData} {k : Nat} {sp : Sp} (D : DefAt K mg x st ps f fd) (h : FnOk P w K mg base (CX1 P w C) k f fd ps sp) : ClX P w K mg base C x k ps sp :=
 ⟨f, fd, D.nm, D.fn.kp, D.bd, h⟩
section
variable {P : Program} {w : World} {K : PySem.W.Frag} {mg : Str → Option Value} {base : Heap} {N : List Str} {qual : Str} {scope : Scope} {f C D : Addr} {cd : Value} {A : Around} {outer : List Env} {s0 : Shared} {H0 : Hp} {E : XK}
variable {x m : Str} {k : Nat} {ps : List Str} {sp : Sp} {e o : Expr} {es : List Expr} {p pos apos : Pos} {t : TA} {ta : TE}
theorem pe_clX (Q : ClX P w K mg base C x k ps sp) (hr : Room k (cxOf (CX1 P w C) P w K mg base N qual scope f cd A outer s0 H0 E).A) (hg : Gl (cxOf (CX1 P w C) P w K mg base N qual scope f cd A outer s0 H0 E) x) (ha : PA (cxOf (CX1 P w C) P w K mg base N qual scope f cd A outer s0 H0 E) (e :: es) t) (hdb : (x == ("__debug__" : Str)) = false := by decide)
  (he : starEach (e :: es) (envOfC qual scope s0.heap.objs.size f cd) = (false, eval e (envOfC qual scope s0.heap.objs.size f cd)) :: starEach es (envOfC qual scope s0.heap.objs.size f cd) := by rfl) (hpl : (backTo pos (starEach es (envOfC qual scope s0.heap.objs.size f cd))).any (·.1) = false := by rfl) :
  PE (cxOf (CX1 P w C) P w K mg base N qual scope f cd A outer s0 H0 E) (.Call (.Name x p) (e :: es) [] pos) (tCall sp [] E t) := by
 obtain ⟨g, fd, hm, hk, hb, F⟩ := Q
 exact pe_call F hr hg hm hk hb .nil (passG (fun z => z)) ha hdb he hpl
def McX (P : Program) (w : World) (K : PySem.W.Frag) (mg : Str → Option Value) (base : Heap) (C : Addr) (x : Str) (D : Addr) (k : Nat) (ps : List Str) (sp : Sp) : Prop :=
 ∃ (f : Addr) (fd : FuncData), Mk K D f ∧ mg x = some (.ref D) ∧ Binds K fd ps [] ∧ FnOk P w K mg base (CX1 P w C) k f fd ps sp
end
end L2
namespace L2
open PySem PySem.Spec PyProof.Rows
section
variable {P : Program} {w : World} {K : PySem.W.Frag} {mg : Str → Option Value} {base : Heap} {N : List Str} {qual : Str} {scope : Scope} {f C : Addr} {cd : Value} {A : Around} {outer : List Env} {s0 : Shared} {H0 : Hp} {E : XK} {b' : Bool}
theorem raised {pins : List (Addr × Obj)} {σ : St} {H : Hp} {s2 : Shared} {h1 h : Heap} {e : Addr} {args : List Value} {vs : Array Value} (I2 : Inv (cxOf (CXg b' P w C) P w K mg base N qual scope f cd A outer s0 H0 E) pins σ H s2) (hE : E (.ref C) none H) (made : Heap.MadeExcOf s2.heap h1 e (.ref C) args) (he : h.get? e = some { cls := .ref C, data := .fields vs }) (oth : ∀ b, b ≠ e → h.get? b = h1.get? b)
  (z1 : vs[1]? = some .none) (z2 : b' = true → vs[2]? = some .none) : Cx.xe (cxOf (CXg b' P w C) P w K mg base N qual scope f cd A outer s0 H0 E) (.ref e) { s2 with heap := h } := by
 have neF : e ∉ frs ((envOfC qual scope s0.heap.objs.size f cd) :: outer) := fun hb => by
  obtain ⟨_, o, ho, _⟩ := I2.stack.mem hb
  rw [made.new] at ho
  cases ho
 have nb : ∀ {b : Addr} {o : Obj}, s2.heap.get? b = some o → b ≠ e := fun {b o} g z => by
  rw [z, made.new] at g
  cases g
 refine leave_def (s1 := s2) (l := e :: frs ((envOfC qual scope s0.heap.objs.size f cd) :: outer)) I2 hE he rfl rfl (List.mem_cons_self ..) (fun b hb => List.mem_cons_of_mem _ hb) (fun b hb => ?_) (fun b o g => ?_) (fun b hb o ho => ⟨o.slots, ?_⟩) neF (.inl z1) z2
 ·rcases List.mem_cons.mp hb with q | q
  ·rw [q]
   refine ⟨fun _ => ?_, I2.hok.no made.new⟩
   cases z : s0.heap.get? e with
   | none => rfl
   | some o =>
    obtain ⟨o', y⟩ := I2.base.there e o z (fun y => nomatch y)
    rw [made.new] at y
    cases y
  ·exact ⟨fun n => absurd q n, I2.stkFree b q⟩
 ·by_cases z : b ∈ e :: frs ((envOfC qual scope s0.heap.objs.size f cd) :: outer)
  ·rw [bas_none z] at g
   cases g
  ·rw [bas_get z] at g
   rw [oth b (nb g)]
   exact made.keeps _ _ g
 ·rw [oth b (nb ho)]
  exact made.keeps _ _ ho
theorem ps_raise {x msg : Str} {np cpos pos mpos : Pos} {j : Nat} (c : ExcC K mg x C) (hg : Gl (cxOf (CXg b' P w C) P w K mg base N qual scope f cd A outer s0 H0 E) x) (hdb : (x == ("__debug__" : Str)) = false := by decide) :
  PS (cxOf (CXg b' P w C) P w K mg base N qual scope f cd A outer s0 H0 E) (.Raise (some (.Call (.Name x np) [.Constant (.str msg) j mpos] [] cpos)) none pos) (fun _ _ H => E (.ref C) none H) := by
 intro pins s σ H D I hE
 obtain ⟨tl, N0, nm, q, bs, hdct, sn, sub, ab, col, dd, k0, k1, k2, k3, k5, mN, hC, hN, hni, tail⟩ := (c.own I.mod.kin).obj
 refine wpAny_Raise_call_subT (C := C) (nm := nm) (q := q) (N := N0) (bs := bs) (bm := tl) (hdct := hdct) (sn := sn) (sub := sub) (ab := ab) (col := col) (dd := dd) (k0 := k0) (k1 := k1) (k2 := k2) (k3 := k3) (k5 := k5)
  PySem.F.excBase_ValueError (mN := mN) (tail.hasType PySem.F.excBase_ValueError.hasBase) (I.ok.hd rfl) rfl hni (ld_glob I hg c.bound ⟨rfl, ?_⟩ hdb)
 refine Calls.evalArgs_plain (spliced_more (thn (pe_str (X := (cxOf (CXg b' P w C) P w K mg base N qual scope f cd A outer s0 H0 E)) pins s σ H (fun v H' => H' = H) I rfl) fun u s2 ⟨v, H2, I2, _, e2⟩ => ?_))
 subst e2
 refine spliced_none ⟨rfl, by show 1 ≤ sizeLine; decide, I2.bk _ _ hC, hN.keeps I2.bk, tail.keeps I2.bk, fun h' e made => ?_⟩
 obtain ⟨t, he, _, _⟩ := made.there
 exact raised I2 hE made he (fun _ _ => rfl) rfl (fun _ => rfl)
end
theorem FnOk.calm {P : Program} {w : World} {K : PySem.W.Frag} {mg : Str → Option Value} {base : Heap} {C : Addr} {k : Nat} {f : Addr} {fd : FuncData} {ps : List Str} {sp : Sp} {b : Bool} (F : FnOk P w K mg base (CXg b P w C) k f fd ps sp) : FnOk P w K mg base CX0 k f fd ps (fun vs H Q _ => sp vs H Q E0) :=
 ⟨fun vs H Q _ h => F.len vs H Q E0 h, fun A outer s H args us vs Q E hr e0 hb r h => codeAny_mono (F.run A outer s H args us vs Q E0 hr e0 hb r h) fun r s' q => by
  cases r with
  | ok fl => cases fl <;> exact q
  | error e =>
   obtain ⟨_, _, _, _, _, _, _, _, _, _, _, z⟩ := q
   exact z⟩
theorem Fun.okG {P : Program} {w : World} {K : PySem.W.Frag} {mg : Str → Option Value} {base : Heap} {C : Addr} {b : Bool} {x qual : Str} {st : Stmt} {f : Addr} {fd : FuncData} {N ps : List Str} {k : Nat} {sp : Sp} (F : Fun K x qual st f fd) (S : FnScope N ps (defScope st)) (len : ∀ vs H Q E, sp vs H Q E → vs.length = ps.length)
  (hb : ∀ (cdv : Value) (A : Around) (outer : List Env) (s : Shared) (H : Hp) (vs : List V) (Q : VK) (E : XK), Room k (A.deeper (envOfC qual (defScope st) s.heap.objs.size f cdv)) → sp vs H Q E →
   ∃ t, PSs (cxOf (CXg b P w C) P w K mg base N qual (defScope st) f cdv A outer s H E) (defBody st) t ∧ t { nx := fun _ H' => Q .non H', rt := Q } (start N vs) H) : FnOk P w K mg base (CXg b P w C) (k + 1) f fd ps sp := by
 obtain ⟨oc, od, kV, doc, pm, an, cdv, ct, osl, rfl, lk, hcd⟩ := F.ex
 exact fn_of lk hcd S len fun A outer s H vs Q E hr hsp => hb cdv A outer s H vs Q E hr hsp
def xeG (b : Bool) (X : Cx) (XC : Addr) (W : St → Hp → Prop) : Value → Shared → Prop := fun e s' => ∃ (pins : List (Addr × Obj)) (σ : St) (H : Hp) (s : Shared), Inv X pins σ H s ∧ CXg b X.prog X.w XC X.stack H s (fun _ _ H' => W σ H') e s'
abbrev Cx.tryG (X : Cx) (XC : Addr) (W : St → Hp → Prop) : Cx := X.wish (xeG true X XC W)
abbrev Cx.tryL (X : Cx) (XC : Addr) (W : St → Hp → Prop) : Cx := X.wish (xeG false X XC W)
theorem passT {X : Cx} {XC : Addr} {Wh : Hp → Prop} : Passes (CXg true X.prog X.w XC) (X.tryG XC (fun _ H' => Wh H')) (fun _ _ H' => Wh H') := fun pins σ H s e s' I q => ⟨pins, σ, H, s, I.unwish, q⟩
end L2
namespace L2
open PySem PySem.Spec PyProof.Rows
section
variable {P : Program} {w : World} {K : PySem.W.Frag} {mg : Str → Option Value} {base : Heap} {N : List Str} {qual : Str} {scope : Scope} {f C : Addr} {cd : Value} {A : Around} {outer : List Env} {s0 : Shared} {H0 : Hp} {E : XK} {b' : Bool}
theorem comp_thrown {pins : List (Addr × Obj)} {σ : St} {H3 : Hp} {s3 : Shared} {sc : Scope} {cl : List (Str × Addr)} {T F : List Str} {fp : List Addr} {e : Value} {s1 : Shared} {use : Option (Value → Sem Unit)} {Q : Value → Shared → Prop} {acc : Value}
  (I3 : Inv (cxOf (CXg b' P w C) P w K mg base N qual scope f cd A outer s0 H0 E) pins σ H3 s3) (f3 : ∀ b ∈ fp, FpOk (cxOf (CXg b' P w C) P w K mg base N qual scope f cd A outer s0 H0 E) pins H3 b) (h : xeG true (compCx (cxOf (CXg b' P w C) P w K mg base N qual scope f cd A outer s0 H0 E) (T ++ F) sc cl s3 H3 fp) C (fun _ H' => E (.ref C) none H') e s1) :
  notedBy (model P w) (Cx.A (cxOf (CXg b' P w C) P w K mg base N qual scope f cd A outer s0 H0 E)) (compEnvC sc cl s3.heap.objs.size (Cx.env (cxOf (CXg b' P w C) P w K mg base N qual scope f cd A outer s0 H0 E))) (fun x s' => compPost (model P w) (Cx.A (cxOf (CXg b' P w C) P w K mg base N qual scope f cd A outer s0 H0 E)) (Cx.xe (cxOf (CXg b' P w C) P w K mg base N qual scope f cd A outer s0 H0 E)) use Q acc s3.heap.objs.size (.error x) s') e s1 := by
 obtain ⟨pin', σ', H, s, I0, ea, Ta, H', rfl, os, bare, un, hok, ⟨oe, vs, oT, ts, r1, r2, r3, r4, r5, r6, r7, r8, r9⟩, ⟨n1, n2⟩, ⟨n3, n4⟩, hw⟩ := h
 have I1 := I0.call' (ch := []) os un hok bare (fun b z => nomatch z)
 have IX : Inv (cxOf (CXg b' P w C) P w K mg base N qual scope f cd A outer s0 H0 E) pins σ H' s1 := I3.call' (s' := s1) (ch := fp) I1.os I1.base I1.hok I1.bare fun b hb => ⟨(f3 b hb).2.2.2.1, (f3 b hb).2.1, (f3 b hb).2.2.2.2.1, (f3 b hb).2.2.2.2.2⟩
 have stk := IX.stack
 have fr : ∀ b ∈ frs ((envOfC qual scope s0.heap.objs.size f cd) :: outer), ∃ o, s1.heap.get? b = some o ∧ ∀ vs, o.data ≠ .fields vs := fun b hb => (stk.mem hb).2
 have old0 : ∀ b, s3.heap.get? b = none → s0.heap.get? b = none := fun b n => by
  cases z : s0.heap.get? b with
  | none => rfl
  | some o =>
   obtain ⟨o', q⟩ := I3.base.there b o z (fun y => nomatch y)
   rw [n] at q
   cases q
 have back : ∀ b, s.heap.get? b = none → s0.heap.get? b = none := fun b n => by
  by_cases hb : b ∈ fp
  ·rcases (f3 b hb).2.2.2.1 with z | z
   ·exact absurd z (fun y => nomatch y)
   ·cases y : s0.heap.get? b with
    | none => rfl
    | some o => exact absurd (Heap.lt_size y) (Nat.not_lt.mpr z)
  ·refine old0 b ?_
   cases z : s3.heap.get? b with
   | none => rfl
   | some o =>
    obtain ⟨o', q⟩ := I0.base.there b o z hb
    rw [n] at q
    cases q
 have C3 : s3.heap.get? s3.heap.objs.size = none := by
  cases y : s3.heap.get? s3.heap.objs.size with
  | none => rfl
  | some o => exact absurd (Heap.lt_size y) (Nat.lt_irrefl _)
 obtain ⟨m, hn, _⟩ := id I1.loc
 have hn : s1.heap.Ns s3.heap.objs.size m := hn
 have nC : s3.heap.objs.size ∉ frs ((envOfC qual scope s0.heap.objs.size f cd) :: outer) := fun hb => by
  obtain ⟨_, o, ho, _⟩ := I3.stack.mem hb
  rw [C3] at ho
  cases ho
 have plain : ∀ {x : Addr} {o : Obj} {us : Array Value}, s1.heap.get? x = some o → o.data = .fields us → x ∉ frs ((envOfC qual scope s0.heap.objs.size f cd) :: outer) := fun {x o us} g d z => by
  obtain ⟨o', g', nf⟩ := fr x z
  rw [g] at g'
  cases g'
  exact nf _ d
 have inF : ∀ b ∈ frs ((envOfC qual scope s0.heap.objs.size f cd) :: outer), b ∈ ea :: Ta :: s3.heap.objs.size :: frs ((envOfC qual scope s0.heap.objs.size f cd) :: outer) := fun b hb => List.mem_cons_of_mem _ (List.mem_cons_of_mem _ (List.mem_cons_of_mem _ hb))
 show wpAny _ _ (noteFrame (.ref ea) (envOfC qual scope s0.heap.objs.size f cd)) _ _ s1
 refine noteX (base := bas (ea :: Ta :: s3.heap.objs.size :: frs ((envOfC qual scope s0.heap.objs.size f cd) :: outer)) s1.heap) IX.ok.frames rfl bas_stays (bas_none (List.mem_cons_self ..)) (bas_frames _ inF stk) r1 r3 r4 (bas_none (List.mem_cons_of_mem _ (List.mem_cons_self ..))) r6 r7 r8 r9 fun h2 noted => ?_
 obtain ⟨k1, k2, up2, oe2, vs2, T2, oT2, ts2, p1, p2, p3, p4, p5, p6, p7, p8, p9, p10⟩ := noted
 have hn2 := up2.ns hn
 show ∃ m, Heap.Ns h2 _ m ∧ _
 refine ⟨m, hn2, fun h' sb cenv hc => ?_⟩
 have noNs : ∀ {x : Addr} {o : Obj} {us : Array Value}, h2.get? x = some o → o.data = .fields us → x ≠ s3.heap.objs.size := fun {x o us} g d z => by
  obtain ⟨o', _, _, ho, hd, _⟩ := hn2
  rw [← z, g] at ho
  cases ho
  rw [d] at hd
  cases hd
 have g1 : h'.get? ea = some oe2 := by rw [sb.2 _ (noNs p1 p3)]; exact p1
 have g8 : h'.get? T2 = some oT2 := by rw [sb.2 _ (noNs p8 p9)]; exact p8
 have k1' : (bas (ea :: Ta :: s3.heap.objs.size :: frs ((envOfC qual scope s0.heap.objs.size f cd) :: outer)) s1.heap).StaysIn h' := fun b o q => by
  rw [sb.2 b fun z => by rw [z, bas_none (List.mem_cons_of_mem _ (List.mem_cons_of_mem _ (List.mem_cons_self ..)))] at q; cases q]
  exact k1 b o q
 unfold PySem.passOn
 refine wpAny_bind (wpAny_field g1 p3 p5 ?_)
 rw [if_neg (by simp)]
 refine wpAny_bind (landX (s := { s1 with heap := h' }) (base := bas (ea :: Ta :: s3.heap.objs.size :: frs ((envOfC qual scope s0.heap.objs.size f cd) :: outer)) s1.heap) (l := []) k1' trivial g1 p3 p5 p6 p7 g8 p9 p10 fun h5 landed => ?_)
 obtain ⟨q1, _, up5, oe5, vs5, T5, oT5, ts5, v1, v2, v3, v4, v5, v6, v7, v8, v9, v10⟩ := landed
 refine wpAny_throw ?_
 refine leave_def (s1 := s1) (h := h5) (l := ea :: Ta :: s3.heap.objs.size :: frs ((envOfC qual scope s0.heap.objs.size f cd) :: outer)) IX hw v1 (v2.trans (p2.trans r2)) v3 (List.mem_cons_self ..) inF (fun b hb => ?_) q1 (fun b hb o ho => ?_) (plain r1 r3) (.inr ⟨T5, oT5, ts5, _, v5, v6, v7, v8, v9, v10⟩) (fun _ => by rw [v4 2 (by decide), p4 2 (by decide)]; exact r5 rfl)
 ·rcases List.mem_cons.mp hb with q | q
  ·rw [q]; exact ⟨fun _ => back _ n1, n3⟩
  ·rcases List.mem_cons.mp q with q | q
   ·rw [q]; exact ⟨fun _ => back _ n2, n4⟩
   ·rcases List.mem_cons.mp q with q | q
    ·rw [q]; exact ⟨fun _ => old0 _ C3, I1.free⟩
    ·exact ⟨fun n => absurd q n, IX.stkFree b q⟩
 ·obtain ⟨o', ho', nf⟩ := fr b hb
  rw [ho] at ho'
  cases ho'
  obtain ⟨sl, z⟩ := up2 b o ho nf
  have z' : h'.get? b = some { o with slots := sl } := by rw [sb.2 b fun y => nC (y ▸ hb)]; exact z
  obtain ⟨sl', z2⟩ := up5 b _ z' nf
  exact ⟨sl', z2⟩
end
section
variable {prog : Program} {w : World} {A : Around} {R : Result → Shared → Prop} {s : Shared}
theorem compLoop_anyX {elt target iter : Expr} {ifs : List Expr} {scope : Scope} {pos : Pos} {it acc : Value} {env : Env} (I : Nat → Shared → Prop)
  (turn : ∀ n s, I n s → wpAny (model prog w) A (pyNext it) (fun r s₁ => match r with
   | none => R (.ok .next) s₁
   | some v => wpAny (model prog w) A (letOwnedTupleGo target it v) (fun _ s₁' => wpAny (model prog w) A (assign target env v) (fun _ s₂ =>
     wpAny (model prog w) A (forIn ifs true fun c r => if r = true then do let ok ← isTrue c env (eval c env); pure (ForInStep.yield ok) else pure (ForInStep.yield r)) (fun ok s₃ =>
      if ok = true then wpAny (model prog w) A (eval elt env) (fun x s₄ =>
       wpAny (model prog w) A (call (.builtin "list.append") [acc, x]) (fun _ s₅ => ∃ m, m < n ∧ I m s₅) (fun _ _ => False) s₄) (notedBy (model prog w) A env fun x s' => R (.error x) s') s₃
      else ∃ m, m < n ∧ I m s₃) (fun _ _ => False) s₂) (fun _ _ => False) s₁') (fun _ _ => False) s₁) (fun _ _ => False) s)
  (n : Nat) (h : I n s) :
  codeAny (model prog w) A (.compLoop (.ListComp elt [⟨target, iter, ifs, 0⟩] scope pos) 0 it acc env) R s := by
 refine codeAny_loop rfl I (fun n s hI => ?_) n h
 show wpAny _ A ((compTurn (.ListComp elt [⟨target, iter, ifs, 0⟩] scope pos) 0 it acc env).onRaise (fun x => do noteFrame x env; theTreesLotGoes x)) _ _ s
 refine wpAny_noted ?_
 rw [compTurn_list]
 refine wpAny_bind (wpAny_standAt (wpAny_bind (wpAny_mono (turn n s hI) (fun r s₁ h₁ => ?_) fun _ _ h' => h'.elim)))
 cases r with
 | none => exact wpAny_pure h₁
 | some v =>
  refine wpAny_bind (wpAny_mono h₁ (fun _ s₁' h₁' => ?_) fun _ _ h' => h'.elim)
  refine wpAny_bind (wpAny_mono h₁' (fun _ s₂ h₂ => wpAny_bind (wpAny_mono h₂ (fun ok s₃ h₃ => ?_) fun _ _ h' => h'.elim)) fun _ _ h' => h'.elim)
  cases ok with
  | false => exact wpAny_pure ⟨rfl, h₃⟩
  | true =>
   exact wpAny_bind (wpAny_bind (wpAny_mono h₃ (fun x s₄ h₄ => wpAny_bind (wpAny_mono h₄ (fun _ s₅ h₅ => wpAny_pure (wpAny_pure ⟨rfl, h₅⟩)) fun _ _ h' => h'.elim)) fun _ _ h' => h'))
end
section
variable {X : Cx} {elt tg iter : Expr} {ifs : List Expr} {sc : Scope} {pos : Pos} {cl : List (Str × Addr)} {T F : List Str} {js : List Nat} {wi : TI} {g : CS → TG} {tc : CS → TT} {te : CS → TE} {pins : List (Addr × Obj)} {σ : St}
theorem comp_blockX {XC : Addr} {W0 : St → Hp → Prop} (hc : X.calm = true) (C : CompOk X sc cl F js) (hg : ∀ c : CS, PG (compCx X (T ++ F) sc cl c.s c.H c.fp) tg (g c)) (hif : ∀ c : CS, PIfs (compCx X (T ++ F) sc cl c.s c.H c.fp) ifs (tc c)) (he : ∀ c : CS, PE ((compCx X (T ++ F) sc cl c.s c.H c.fp).tryG XC W0) elt (te c))
  {H2 : Hp} {s2 : Shared} {it : Addr} {fp : List Addr} {tn : Nat → Heap → Prop} {J : It} {Q : VK} {RR : Value → Addr → Result → Shared → Prop} (I2 : Inv X pins σ H2 s2) (Tn : Turn X.prog X.w X.K tg J fp it tn) (st2 : tn 0 s2.heap) (f2 : ∀ b ∈ fp, FpOk X pins H2 b)
  (hw : ∀ D, H2 D = none → ∃ W : Nat → Nat → List V → St → Hp → Prop, (∃ m, W 0 m [] (compSt T.length js σ) (upd H2 D (.lst []))) ∧
   ∀ i m ys σ' H', W i m ys σ' H' → H' D = some (.lst ys) ∧ ((J.stop i H' ∧ Q (.ref D) H') ∨ (J.go i H' ∧ ys.length < sizeLine ∧ ∃ N : List V → St → Hp → Prop, (∀ ys' σ'' H'', N ys' σ'' H'' → ∃ m', m' < m ∧ W (i + 1) m' ys' σ'' H'') ∧
    ∀ x H2, J.yld i H' x H2 → ∀ c : CS, g c x σ' H2 fun σ2 H3 => tc c σ2 H3 fun b H4 => if b = true then te c σ2 H4 fun v H5 => H5 D = some (.lst ys) ∧ N (ys ++ [v]) σ2 (upd H5 D (.lst (ys ++ [v]))) else N ys σ2 H4)))
  (thr : ∀ (s3 : Shared) (H3 : Hp) (e : Value) (s1 : Shared) (D : Value), Inv X pins σ H3 s3 → (∀ b ∈ fp, FpOk X pins H3 b) → xeG true (compCx X (T ++ F) sc cl s3 H3 fp) XC W0 e s1 → notedBy (model X.prog X.w) X.A (compEnvC sc cl s3.heap.objs.size X.env) (fun x s' => RR D s3.heap.objs.size (.error x) s') e s1)
  (hRR : ∀ D C H' s1, Inv X pins σ H' s1 → Gone X pins H' C → (∃ m, s1.heap.Ns C m) → Q (.ref D) H' → RR (.ref D) C (.ok .next) s1) :
  wpAny (model X.prog X.w) X.A (newList []) (fun acc s₃ => wpAny (model X.prog X.w) X.A (newFunctionEnv sc X.env.globals cl [] X.env.qual none .none (some X.env)) (fun cenv s₄ =>
   codeAny (model X.prog X.w) X.A (.compStart (.ListComp elt [⟨tg, iter, ifs, 0⟩] sc pos) 0 (.ref it) acc { cenv with scope := relabel sc X.env }) (RR acc cenv.locals) s₄) X.xe s₃) X.xe s2 := by
 obtain ⟨W, ⟨m0, w0⟩, turn⟩ := hw s2.heap.objs.size (I2.hok.fresh (Nat.le_refl _))
 have I3 : Inv X pins σ (upd H2 s2.heap.objs.size (.lst [])) { s2 with heap := s2.heap.push { cls := .type "list", data := .seq ([] : List Value).toArray } } := I2.lnew (t' := s2.toks) .nil (Nat.zero_le _)
 have lt2 : ∀ b ∈ fp, b < s2.heap.objs.size := fun b hb => by
  obtain ⟨o, e, _⟩ := Tn.obj 0 _ st2 b hb
  exact Heap.lt_size e
 have f3 : ∀ b ∈ fp, FpOk X pins (upd H2 s2.heap.objs.size (.lst [])) b := fun b hb => ⟨by rw [upd_ne (Nat.ne_of_lt (lt2 b hb))]; exact (f2 b hb).1, (f2 b hb).2⟩
 refine wpAny_newObj_type ?_
 have st3 : tn 0 ({ s2 with heap := s2.heap.push { cls := .type "list", data := .seq ([] : List Value).toArray } } : Shared).heap := Tn.keep 0 _ _ st2 fun b hb o e => Heap.get?_push_of_some _ e
 have lt3 : ∀ b ∈ fp, b < ({ s2 with heap := s2.heap.push { cls := .type "list", data := .seq ([] : List Value).toArray } } : Shared).heap.objs.size := fun b hb => by
  show b < (s2.heap.push _).objs.size
  rw [Heap.size_push]
  exact Nat.lt_succ_of_lt (lt2 b hb)
 generalize ({ s2 with heap := s2.heap.push { cls := .type "list", data := .seq ([] : List Value).toArray } } : Shared) = s3 at I3 st3 lt3 ⊢
 refine wpAny_newFunctionEnv C.cell (by intro y hy; simp at hy) (fun h4 hns hsb => ?_) C.kind
 have old : ∀ b o, s3.heap.get? b = some o → h4.get? b = some o := fun b o e => hsb.extBut b o (Nat.ne_of_lt (Heap.lt_size e)) (Heap.get?_push_of_some _ e)
 have st4 : tn 0 h4 := Tn.keep 0 _ _ st3 fun b hb o e => old b o e
 have J4 : ∀ tk, Inv (compCx X (T ++ F) sc cl s3 (upd H2 s2.heap.objs.size (.lst [])) fp) [] (compSt T.length js σ) (upd H2 s2.heap.objs.size (.lst [])) { s3 with heap := h4, toks := tk } := fun tk => inv_comp C I3 f3 lt3 hns old
 have fpX : ∀ {H' : Hp}, (∀ b ∈ fp, H' b = none) → ∀ b ∈ fp, FpOk (compCx X (T ++ F) sc cl s3 (upd H2 s2.heap.objs.size (.lst [])) fp) [] H' b := fun hn b hb =>
  ⟨hn b hb, Nat.ne_of_lt (lt3 b hb), (comp_ok C I3 f3 lt3 (T ++ F)).exfs b hb, .inl hb, fun x c e => ((comp_ok C I3 f3 lt3 (T ++ F)).exf b hb).2 x c e, fun p hp => absurd (show p ∈ ([] : List (Addr × Obj)) from hp) (by simp)⟩
 have loop : ∀ s4 : Shared, (∃ tk, s4 = { s3 with heap := h4, toks := tk }) →
   codeAny (model X.prog X.w) X.A (.compLoop (.ListComp elt [⟨tg, iter, ifs, 0⟩] sc pos) 0 (.ref it) (.ref s2.heap.objs.size) (compEnvC sc cl s3.heap.objs.size X.env)) (RR (.ref s2.heap.objs.size) s3.heap.objs.size) s4 := by
  rintro s4 ⟨tk, rfl⟩
  refine compLoop_anyX (fun n s' => ∃ i ys σ' H', Inv (compCx X (T ++ F) sc cl s3 (upd H2 s2.heap.objs.size (.lst [])) fp) [] σ' H' s' ∧ tn i s'.heap ∧ (∀ b ∈ fp, H' b = none) ∧ W i n ys σ' H') ?_ m0
   ⟨0, [], _, _, J4 tk, st4, fun b hb => (f3 b hb).1, w0⟩
  rintro n s5 ⟨i, ys, σ5, H5, I5, st5, fr5, w5⟩
  obtain ⟨hD, q⟩ := turn i n ys σ5 H5 w5
  rcases q with ⟨stop, q⟩ | ⟨go, hz, N, hN, step⟩
  ·refine thn (Tn.done (compCx X (T ++ F) sc cl s3 (upd H2 s2.heap.objs.size (.lst [])) fp) rfl rfl rfl hc i [] s5 σ5 H5 (fun _ _ => False) I5 (fpX fr5) st5 stop) fun r s6 ⟨hr, I6⟩ => ?_
   subst hr
   obtain ⟨m, hn, _⟩ := id I6.loc
   exact hRR _ _ H5 s6 (comp_back I3 f3 I6) (Gone.of I3 I6.free) ⟨m, hn⟩ q
  ·refine thn (Tn.item (compCx X (T ++ F) sc cl s3 (upd H2 s2.heap.objs.size (.lst [])) fp) rfl rfl rfl hc i [] s5 σ5 H5 (fun _ _ => False) I5 (fpX fr5) st5 go) fun r s6 ⟨u, hr, h6⟩ => ?_
   subst hr
   refine thn h6 fun _ s7 ⟨x, H7, I7, r7, y7, st7, fr7⟩ => ?_
   have I7' := I7.pinned (fpX fr7) (Tn.obj _ _ st7)
   have again : ∀ {s8 : Shared} {σ8 : St} {H8 : Hp} {ys8 : List V}, Inv (compCx X (T ++ F) sc cl s3 (upd H2 s2.heap.objs.size (.lst [])) fp) ([] ++ pinsAt fp s7.heap) σ8 H8 s8 → N ys8 σ8 H8 →
     ∃ m, m < n ∧ ∃ i ys σ' H', Inv (compCx X (T ++ F) sc cl s3 (upd H2 s2.heap.objs.size (.lst [])) fp) [] σ' H' s8 ∧ tn i s8.heap ∧ (∀ b ∈ fp, H' b = none) ∧ W i m ys σ' H' := fun {s8 σ8 H8 ys8} I8 n8 => by
    obtain ⟨m', hm, w8⟩ := hN ys8 σ8 H8 n8
    refine ⟨m', hm, i + 1, ys8, σ8, H8, I8.unpinned, Tn.keep _ _ _ st7 fun b hb o e => (I8.pin (b, o) (List.mem_append_right _ (List.mem_append_right _ (mem_pinsAt hb e)))).1, fun b hb => ?_, w8⟩
    obtain ⟨o, e, d⟩ := Tn.obj _ _ st7 b hb
    exact (I8.pin (b, o) (List.mem_append_right _ (List.mem_append_right _ (mem_pinsAt hb e)))).2.1
   refine thn (hg ⟨s3, _, fp⟩ _ s7 σ5 H7 x u _ I7' r7 (step x H7 y7 ⟨s3, upd H2 s2.heap.objs.size (.lst []), fp⟩)) fun _ s8 ⟨σ8, H8, I8, q8⟩ => ?_
   refine thn (hif ⟨s3, _, fp⟩ _ s8 σ8 H8 _ I8 q8) fun ok s9 ⟨H9, I9, q9⟩ => ?_
   cases ok with
   | false =>
    rw [if_neg Bool.false_ne_true]
    rw [if_neg Bool.false_ne_true] at q9
    exact again I9 q9
   | true =>
    rw [if_pos rfl]
    rw [if_pos rfl] at q9
    refine wpAny_mono (he ⟨s3, _, fp⟩ _ s9 σ8 H9 _ (I9.wish _) q9) (fun y s10 ⟨v10, H10, I10', r10, hD10, n10⟩ => ?_) (fun e s10 z => thr s3 _ e s10 _ I3 f3 z)
    have I10 := I10'.unwish
    refine thn (mt_append _ s10 σ8 H10 (.ref s2.heap.objs.size) [v10] (.ref s2.heap.objs.size) [y] (fun _ H11 => N (ys ++ [v10]) σ8 H11) I10 rfl (.cons r10 .nil) ⟨_, ys, v10, rfl, rfl, hD10, hz, n10⟩) fun _ s11 ⟨_, H11, I11, _, n11⟩ => ?_
    exact again I11 n11
 exact codeAny_compStart_list (loop _ ⟨_, rfl⟩) (Tn.self X.A 0 _ _ _ st4 (loop _ ⟨_, rfl⟩))
end
section
variable {P : Program} {w : World} {K : PySem.W.Frag} {mg : Str → Option Value} {base : Heap} {N : List Str} {qual : Str} {scope : Scope} {f XC : Addr} {cd : Value} {A : Around} {outer : List Env} {s0 : Shared} {H0 : Hp} {E : XK} {b' : Bool}
variable {elt tg iter : Expr} {ifs : List Expr} {sc : Scope} {pos : Pos} {cl : List (Str × Addr)} {F : List Str} {js : List Nat} {wi : TI} {g : CS → TG} {tc : CS → TT} {te : CS → TE}
theorem ps_compX (T : List Str) {i : Nat} {x : Str} {pos' spos : Pos} (hN : (Cx.N (cxOf (CXg b' P w XC) P w K mg base N qual scope f cd A outer s0 H0 E)).Nodup) (hiN : (Cx.N (cxOf (CXg b' P w XC) P w K mg base N qual scope f cd A outer s0 H0 E))[i]? = some x) (hx : Loc (Cx.env (cxOf (CXg b' P w XC) P w K mg base N qual scope f cd A outer s0 H0 E)).scope x) (C : CompOk (cxOf (CXg b' P w XC) P w K mg base N qual scope f cd A outer s0 H0 E) sc cl F js) (hi : PI (cxOf (CXg b' P w XC) P w K mg base N qual scope f cd A outer s0 H0 E) tg iter wi)
  (hg : ∀ c : CS, PG (compCx (cxOf (CXg b' P w XC) P w K mg base N qual scope f cd A outer s0 H0 E) (T ++ F) sc cl c.s c.H c.fp) tg (g c)) (hif : ∀ c : CS, PIfs (compCx (cxOf (CXg b' P w XC) P w K mg base N qual scope f cd A outer s0 H0 E) (T ++ F) sc cl c.s c.H c.fp) ifs (tc c)) (he : ∀ c : CS, PE ((compCx (cxOf (CXg b' P w XC) P w K mg base N qual scope f cd A outer s0 H0 E) (T ++ F) sc cl c.s c.H c.fp).tryG XC (fun _ H' => E (.ref XC) none H')) elt (te c))
  (hsw : swapsWith (.ListComp elt [⟨tg, iter, ifs, 0⟩] sc pos) (some (.Name x pos')) spos.line (Cx.env (cxOf (CXg b' P w XC) P w K mg base N qual scope f cd A outer s0 H0 E)) = pure true := by rfl)
  (hs : ∀ x, foldedSetIterable iter (Cx.env (cxOf (CXg b' P w XC) P w K mg base N qual scope f cd A outer s0 H0 E)) x = pure x := by intro _; rfl) :
  PS (cxOf (CXg b' P w XC) P w K mg base N qual scope f cd A outer s0 H0 E) (.Assign [.Name x pos'] (.ListComp elt [⟨tg, iter, ifs, 0⟩] sc pos) spos) (tAsg (tComp T.length js wi g tc te) (gName i)) := by
 intro pins s σ H D I h
 rw [exec_Assign_Name_used _ _ _ _ hsw]
 refine wpAny_bind (wpAny_standAt (wpAny_bind ?_))
 show wpAny _ (Cx.A (cxOf (CXg b' P w XC) P w K mg base N qual scope f cd A outer s0 H0 E)) (do let _ ← comprehension (.ListComp elt [⟨tg, iter, ifs, 0⟩] sc pos) sc (Cx.env (cxOf (CXg b' P w XC) P w K mg base N qual scope f cd A outer s0 H0 E)) _ (newList []) false (eval iter (Cx.env (cxOf (CXg b' P w XC) P w K mg base N qual scope f cd A outer s0 H0 E))) (some (assign (.Name x pos') (Cx.env (cxOf (CXg b' P w XC) P w K mg base N qual scope f cd A outer s0 H0 E))))) _ _ s
 refine wpAny_bind (wpAny_mono (wpAny_comprehension_free (use := some (assign (.Name x pos') (Cx.env (cxOf (CXg b' P w XC) P w K mg base N qual scope f cd A outer s0 H0 E)))) (Q := fun _ s' => SP (cxOf (CXg b' P w XC) P w K mg base N qual scope f cd A outer s0 H0 E) pins D .next s') rfl hs C.clos C.kind C.names ?_) (fun _ s' hq => wpAny_pure (wpAny_pure hq)) fun _ _ e => e)
 refine thn (hi pins s σ H _ I h) fun v s1 h1 => thn h1 fun itv s2 h2 => ?_
 obtain ⟨it, fp, tn, J, H2, e, I2, Tn, st2, f2, hw⟩ := h2
 subst e
 refine comp_blockX (X := (cxOf (CXg b' P w XC) P w K mg base N qual scope f cd A outer s0 H0 E)) (Q := fun x H1 => gName i x σ H1 D.nx) (RR := fun acc C => compPost (model P w) (Cx.A (cxOf (CXg b' P w XC) P w K mg base N qual scope f cd A outer s0 H0 E)) (Cx.xe (cxOf (CXg b' P w XC) P w K mg base N qual scope f cd A outer s0 H0 E)) (some (assign (.Name x pos') (Cx.env (cxOf (CXg b' P w XC) P w K mg base N qual scope f cd A outer s0 H0 E)))) (fun _ s' => SP (cxOf (CXg b' P w XC) P w K mg base N qual scope f cd A outer s0 H0 E) pins D .next s') acc C) rfl C hg hif he I2 Tn st2 f2 hw (fun s3 H3 e s1 D' I3 f3 z => comp_thrown I3 f3 z) ?_
 intro D' C' H' s6 I6 G ⟨m, hn⟩ q
 show wpAny _ (Cx.A (cxOf (CXg b' P w XC) P w K mg base N qual scope f cd A outer s0 H0 E)) (assign (.Name x pos') (Cx.env (cxOf (CXg b' P w XC) P w K mg base N qual scope f cd A outer s0 H0 E)) (.ref D')) _ _ _
 refine wpAny_assign_Name (store_ok2 I6 hN hiN hx (show RelV (.ref D') (.ref D') from rfl) (fun s7 I7 ⟨a, hs7, ha⟩ => ?_) (.inl rfl))
 have nC : C' ≠ a := by
  rcases ha with rfl | ha
  ·exact G.loc
  ·exact fun e => G.cell x a ha e.symm
 exact ⟨m, hn.sameBut hs7 nC, fun h' hs' => ⟨_, H', G.let I7 hs', q⟩⟩
end
end L2
namespace L2
open PySem PySem.Spec PyProof.Rows PySem.W PySem.Builtin PySem.Builtin.Getset_descriptor
section
variable {prog : Program} {w : World} {A : Around} {E : Value → Shared → Prop} {s : Shared} {K : Frag} {x C : Addr}
structure ExcK (K : Frag) (C : Addr) : Prop where
 ga : findIn K (.ref C) "__getattribute__" = some (some (.builtin "BaseException.__getattribute__"))
 hk : findIn K (.ref C) "__getattr__" = some none
 cl : findIn K (.ref C) "__class__" = some (some (.builtin "object.__class__"))
 get : specialIn K (.builtin "object.__class__") "__get__" = some (some (.builtin "getset_descriptor.__get__"))
 tk : takesIn K (.builtin "object.__class__") = some true
 hm : mroIn K C (.type "object") = some true
 hb : mroIn K C (.type "BaseException") = some true
def ExcAt (h : Heap) (x C : Addr) : Prop := ∃ o, h.get? x = some o ∧ o.cls = .ref C
theorem ExcAt.type {M : Model} {h : Heap} (I : ExcAt h x C) : Looks M h (typeOf (.ref x)) (.ref C) := by
 obtain ⟨o, e, c⟩ := I
 rw [← c]
 exact (Looks.ld e).andThen .now
theorem exc_find {M : Model} {h : Heap} (k : ExcK K C) (X : K.In h) : Looks M h (Builtin.ObjectAttr.find (.ref x) (.ref C) "__class__") (.bind (.builtin "getset_descriptor.__get__") (.builtin "object.__class__")) := by
 have L1 := looks_findIn (M := M) X k.cl
 have L2 := looks_specialIn (M := M) X k.get
 have L3 := looks_takesIn (M := M) X k.tk
 have G : Looks M h (Builtin.ObjectAttr.getOf (some (Value.builtin "object.__class__"))) (some (Value.builtin "getset_descriptor.__get__")) := L2
 have D : Looks M h (Builtin.ObjectAttr.dataDescriptor? (some (Value.builtin "object.__class__")) (some (Value.builtin "getset_descriptor.__get__"))) (some (Value.builtin "getset_descriptor.__get__", Value.builtin "object.__class__")) := L3.andThen .now
 exact L1.andThen (G.andThen (D.andThen (Looks.tag .now)))
theorem exc_get {tp : Value} {R : Result → Shared → Prop} (k : ExcK K C) (X : K.In s.heap) (I : ExcAt s.heap x C)
  (h : R (.ok (.ret (.ref C))) s) : codeAny (model prog w) A (.call (.builtin "getset_descriptor.__get__") ⟨[.builtin "object.__class__", .ref x, tp], []⟩) R s := by
 obtain ⟨hh, g, dr, t, os⟩ := s
 have L0 := I.type (M := model prog w)
 have L1 := looks_mroIn (M := model prog w) X k.hm
 refine codeAny_call_builtin KF.slot_gs.plain KF.entry_gs ?_
 refine KF.slot_gs.check _ _ _ _ _ _ _ _ KF.type_class (KF.args_gs _ _ _) ?_
 unfold Builtin.«getset_descriptor.__get__»
 unfold descrGet
 rw [dga_obj]
 refine wpAny_bind (wpAny_pure ?_)
 unfold descrGetter descrCheckInstance
 unfold descrNameAndClass
 unfold isInstance
 simp only [KF.owner_class]
 repeat lk
 refine ⟨?_, codeAny_builtin KF.entry_class ?_⟩
 ·exact Code.quiet_builtin _ (by decide +kernel)
 unfold Builtin.«object.__class__»
 unfold shownTypeOf
 repeat lk
 exact h
theorem exc_entry {tk : Tok} {Q : Fin → Shared → Prop} (k : ExcK K C) (X : K.In s.heap) (I : ExcAt s.heap x C) (h : Q (.done (.ret (.ref C))) s) :
  wpAny (model prog w) A (Builtin.«object.__getattribute__» ⟨[.ref x, .str "__class__" tk], []⟩) Q E s := by
 obtain ⟨hh, g, d, t, os⟩ := s
 have L0 := I.type (M := model prog w)
 have L1 := exc_find (x := x) (M := model prog w) k X
 unfold Builtin.«object.__getattribute__»
 refine wpAny_bind (wpAny_of_eq (a := (Value.ref x, [Value.str "__class__" tk])) rfl ?_)
 try dsimp only
 refine wpAny_bind ?_
 repeat (first | (with_reducible refine L0.at ?_) | (with_reducible refine L1.at ?_) | wp_step)
 refine exc_get k X I ?_
 exact wpAny_pure h
theorem exc_check {M : Model} {nameV : Value} {Q : Unit → Shared → Prop} (k : ExcK K C) (X : K.In s.heap) (I : ExcAt s.heap x C) (hq : Q () s) : wpAny M A (checkBuiltinCall "BaseException.__getattribute__" ⟨[.ref x, nameV], []⟩) Q E s := by
 obtain ⟨hh, g, d, t, os⟩ := s
 have kd : builtinKind "BaseException.__getattribute__" = some .slot := by decide +kernel
 have sp : splitId "BaseException.__getattribute__" = some ("BaseException", "__getattribute__") := by decide +kernel
 have L0 := I.type (M := M)
 have L1 := looks_mroIn (M := M) X k.hb
 have ao := PySem.F.args_bexc_ga (.ref x) nameV
 simp only [checkBuiltinCall, kd, sp]
 refine wpAny_bind ?_
 unfold isInstance
 repeat (first | (with_reducible refine L0.at ?_) | (with_reducible refine L1.at ?_) | wp_step)
 exact hq
theorem exc_class {Q : Option Value → Shared → Prop} (k : ExcK K C) (X : K.In s.heap) (I : ExcAt s.heap x C) (h : Q (some (.ref C)) { s with toks := s.toks + 1 }) : wpAny (model prog w) A (getAttr? (.ref x) "__class__") Q E s := by
 obtain ⟨hh, g, d, t, os⟩ := s
 have L0 := I.type (M := model prog w)
 have L1 := looks_findIn (M := model prog w) X k.ga
 have L2 := looks_findIn (M := model prog w) X k.hk
 have f3 := PySem.F.excAttr_ValueError.ga.bind (.ref x)
 unfold getAttr? getAttrBy? getAttrBy
 refine wpAny_bind (wpAny_mkText (wpAny_bind (wpAny_attempt (wpAny_holding (wpAny_bind (L0.at (wpAny_bind (L1.at ?_))))))))
 have e1 : (onTheHeap (Value.ref C) && Value.builtin "BaseException.__getattribute__" == Value.builtin "object.__getattribute__") = false := by rw [show (Value.builtin "BaseException.__getattribute__" == Value.builtin "object.__getattribute__") = false by decide +kernel]; rfl
 dsimp only
 rw [if_neg (by rw [e1]; exact Bool.false_ne_true)]
 unfold getAttrByItsOwn hookBefore
 repeat (first | (with_reducible refine L0.at ?_) | (with_reducible refine L2.at ?_) | wp_step)
 refine codeAny_call_builtin PySem.F.excAttr_ValueError.ga.plain PySem.F.entry_bexc_ga (exc_check k X I (exc_entry (s := ⟨hh, g, d, t + 1, os⟩) k X I ?_))
 dsimp only
 repeat (first | assumption | wp_step)
theorem kitx_exc (k : ExcK K C) : KitX K (.ref x) (.ref C) (fun h => ExcAt h x C) where
 ty := fun _ _ _ I => I.type
 it := fun _ h X _ => by
  obtain ⟨cd, hc, _⟩ := Option.bind_eq_some_iff.mp k.hm
  unfold clsIn at hc
  split at hc
  case h_1 there =>
   intro A1 Q1 E1 s1 kp z
   unfold isType loadHead
   refine wpAny_bind (wpAny_loadPart (kp _ _ (X _ _ there)) ?_)
   exact wpAny_pure z
  case h_2 => cases hc
 ne := fun h tp dd its n sl X htp => by
  obtain ⟨cd, hc, _⟩ := Option.bind_eq_some_iff.mp k.hm
  by_cases e : C = tp
  ·subst e
   unfold clsIn at hc
   split at hc
   case h_1 there =>
    have := (X _ _ there).symm.trans htp
    cases this
   case h_2 => cases hc
  ·simp [e]
 ca := fun X I q => exc_class k X I q
end
end L2
namespace L2
open PySem PySem.Spec PyProof.Rows PySem.W
def excO (x C : Addr) : HO := .ext (fun h => ExcAt h x C)
theorem excO_ok {P : Program} {w : World} {H : Hp} {h : Heap} {x C : Addr} (e : ExcAt h x C) : ObjOk P w H h x (excO x C) :=
 ⟨e, (by obtain ⟨o, e, _⟩ := e; exact ⟨o, e⟩), fun h1 h2 ⟨o, e1, c⟩ k => ⟨o, k o e1, c⟩⟩
def valT : V → Value
 | .ref a => .ref a
 | .ty n => .type n
 | _ => .none
section
variable {X : Cx}
theorem call_isX : CallR X (.builtin "isinstance") (fun xs H Q => ∃ a C c b, xs = [.ref a, c] ∧ H a = some (excO a C) ∧ ExcK X.K C ∧ (∀ u, RelV c u → u = valT c) ∧ kitOne X.K (.ref C) (valT c) = some b ∧ Q (.bl b) H) := by
 intro pins s σ H xs us Q I r h
 obtain ⟨a, C, c, b, rfl, hH, k, hc, e, q⟩ := h
 obtain ⟨u, v, rfl, ru, rv⟩ := r.two
 cases (show u = Value.ref a from ru)
 rw [hc v rv]
 obtain ⟨ex, _, _⟩ := (show ObjOk X.prog X.w H s.heap a (excO a C) from I.hok a _ hH)
 exact kia_one (kitx_exc k) I.kIn ex e (fun z => nomatch z) fun tk => ⟨.bl b, H, I.tok tk, rfl, q⟩
end
section
variable {K : Frag} {M : Model} {A : Around} {E : Value → Shared → Prop} {s : Shared}
structure BaseK (K : Frag) (B : Addr) : Prop where
 ty : typeIn K (.ref B) = some (.type "type")
 hb : mroIn K B (.type "BaseException") = some true
theorem BaseK.isType {B : Addr} (b : BaseK K B) {h : Heap} (X : K.In h) : Looks M h (isType (.ref B)) true := by
 obtain ⟨cd, hc, _⟩ := Option.bind_eq_some_iff.mp b.hb
 unfold clsIn at hc
 split at hc
 case h_1 there =>
  intro A1 Q1 E1 s1 kp z
  unfold PySem.isType loadHead
  refine wpAny_bind (wpAny_loadPart (kp _ _ (X _ _ there)) ?_)
  exact wpAny_pure z
 case h_2 => cases hc
theorem exc_match {e B C : Addr} {Q : Bool → Shared → Prop} (X : K.In s.heap) (I : ExcAt s.heap e C) (b : BaseK K B) (hm : mroIn K C (.ref B) = some true) (hq : Q true s) : wpAny M A (excMatches (.ref e) (.ref B)) Q E s := by
 obtain ⟨hh, g, d, t, os⟩ := s
 have L0 := looks_typeIn (M := M) X b.ty
 have L1 := looks_mroIn (M := M) X b.hb
 have L2 := looks_mroIn (M := M) X hm
 have L3 := I.type (M := M)
 have L4 := b.isType (M := M) X
 have f := tc_notTuple
 unfold excMatches isExcClass isInstance
 repeat (first | (with_reducible refine L0.at ?_) | (with_reducible refine L1.at ?_) | (with_reducible refine L2.at ?_) | (with_reducible refine L3.at ?_) | (with_reducible refine L4.at ?_) | wp_step)
 exact hq
end
theorem un_ext {fs : List Addr} {H H' : Hp} {h0 h1 : Heap} {a : Addr} {o : HO} (u : Un fs [] H H' h0 h1) (n : h0.get? a = none) (n' : H' a = none) : Un fs [] H (upd H' a o) h0 h1 := by
 have ne : ∀ b ob, h0.get? b = some ob → b ≠ a := fun b ob e z => by rw [z, n] at e; cases e
 have ne' : ∀ b ob, H' b = some ob → b ≠ a := fun b ob e z => by rw [z, n'] at e; cases e
 refine ⟨u.keep, u.slot, fun b ob e f g => by rw [upd_ne (ne b ob e)]; exact u.free b ob e f g, u.there, fun b xs e => ?_, fun b ob v e => ?_, fun b ps e => ?_⟩
 ·have := u.tups b xs e
  rw [upd_ne (ne' _ _ this)]; exact this
 ·have := u.frzs b ob v e
  rw [upd_ne (ne' _ _ this)]; exact this
 ·obtain ⟨more, this⟩ := u.tbls b ps e
  exact ⟨more, by rw [upd_ne (ne' _ _ this)]; exact this⟩
theorem hok_ext {P : Program} {w : World} {H : Hp} {h : Heap} {a : Addr} {o : HO} (x : HOk P w H h) (n : H a = none) (new : ObjOk P w (upd H a o) h a o) : HOk P w (upd H a o) h := fun b u e => by
 have ne : ∀ c oc, H c = some oc → c ≠ a := fun c oc e z => by rw [z, n] at e; cases e
 by_cases hb : b = a
 ·subst hb
  rw [upd_same] at e
  cases e
  exact new
 ·rw [upd_ne hb] at e
  exact (x b u e).stay (fun _ _ _ q => q) (fun c q => by rw [upd_ne (ne c _ q)]; exact q) fun c xs q => by rw [upd_ne (ne c _ q)]; exact q
theorem Inv.forget {X : Cx} {pins : List (Addr × Obj)} {σ : St} {H : Hp} {s : Shared} {h' : Heap} {m' : Str → Option Value} {t' : Nat} (I : Inv X pins σ H s) (hn : h'.Ns X.env.locals m') (hs : Heap.SameBut X.env.locals s.heap h') : Inv X pins (List.replicate σ.length none) H { s with heap := h', toks := t' } := by
 obtain ⟨m, hn0, _⟩ := I.loc
 obtain ⟨oL, _, _, hoL, _⟩ := id hn0
 have above : ∀ b o, X.s₀.heap.get? b = some o → b ≠ X.env.locals := fun b o e => Nat.ne_of_lt (Nat.lt_of_lt_of_le (Heap.lt_size e) I.ok.above)
 have oth : ∀ b, b ≠ X.env.locals → h'.get? b = s.heap.get? b := fun b hb => hs.2 b hb
 refine ⟨I.ok, I.os, I.bare, ⟨fun b o e n hb hx => ?_, fun b o e n hb hx => ?_, I.base.free, fun b o e hx => ?_, I.base.tups, I.base.frzs, I.base.tbls⟩, ⟨m', hn, fun j y v e1 e2 => ?_⟩, fun y c e => ?_, I.free, I.freeC, fun p hp => ?_, fun b ob e => ?_, by rw [List.length_replicate]; exact I.len⟩
 ·exact (oth b (above b o e)).trans (I.base.keep b o e n hb hx)
 ·obtain ⟨sl, q⟩ := I.base.slot b o e n hb hx
  exact ⟨sl, (oth b (above b o e)).trans q⟩
 ·obtain ⟨o', q⟩ := I.base.there b o e hx
  exact ⟨o', (oth b (above b o e)).trans q⟩
 ·rw [List.getElem?_replicate] at e2
  split at e2 <;> cases e2
 ·obtain ⟨v, o, q1, q2⟩ := I.cell y c e
  exact ⟨v, o, (oth c (I.cne y c e)).trans q1, q2⟩
 ·obtain ⟨p1, p2, p3, p4⟩ := I.pin p hp
  exact ⟨(oth p.1 p3).trans p1, p2, p3, p4⟩
 ·refine (I.hok b ob e).stay (fun c w' hc q => (oth c ?_).trans q) (fun _ q => q) fun _ _ q => q
  rintro rfl
  rcases hc with rfl | hc
  ·rw [I.free] at e; cases e
  ·rw [I.free] at hc; cases hc
def tTryAs (i : Nat) (XC : Addr) (tb : (St → Hp → Prop) → TS) (ts : TS) : TS := fun D σ H => ∃ W : St → Hp → Prop, tb W D σ H ∧ ∀ σ' H', W σ' H' → ∀ ea, H' ea = none → ts { nx := fun _ _ => False, rt := D.rt } (σ'.set i (some (.ref ea))) (upd H' ea (excO ea XC))
section
variable {X : Cx} {pins : List (Addr × Obj)} {σ : St} {H H' : Hp} {s s1 : Shared} {ea T : Addr}
theorem caught_inv (I0 : Inv X pins σ H s) (os : s1.os = s.os) (bare : AllBare s1.gens) (un : Un (frs X.stack) [] H H' s.heap s1.heap) (hok : HOk X.prog X.w H' s1.heap) (n1 : s.heap.get? ea = none) (n2 : s.heap.get? T = none) (n3 : H' ea = none) (n4 : H' T = none) (stk : s1.heap.FunFrames X.base X.stack) {h5 : Heap}
  (k : (bas (ea :: T :: frs X.stack) s1.heap).StaysIn h5) (up : s1.heap.UpToSlots h5) (fr : ∀ b ∈ frs X.stack, H' b = none) : Un (frs X.stack) [] H H' s.heap h5 ∧ HOk X.prog X.w H' h5 := by
 refine ⟨un_left2 un k (fun b hb o ho => ?_) (fun b hb nb => ?_), hok_fly k hok fun b hb => ?_⟩
 ·obtain ⟨_, o', ho', nf⟩ := stk.mem hb
  rw [ho] at ho'
  cases ho'
  exact up b o ho nf
 ·rcases List.mem_cons.mp hb with z | z
  ·rw [z]; exact n1
  ·rcases List.mem_cons.mp z with z | z
   ·rw [z]; exact n2
   ·exact absurd z nb
 ·rcases List.mem_cons.mp hb with z | z
  ·rw [z]; exact n3
  ·rcases List.mem_cons.mp z with z | z
   ·rw [z]; exact n4
   ·exact fr b z
end
theorem ps_tryAs {X : Cx} {XC B : Addr} {x n : Str} {i : Nat} {np hpos pos : Pos} {body suite : List Stmt} {b0 : Stmt} {tb : (St → Hp → Prop) → TS} {ts : TS} (hx : X.mg x = some (.ref B)) (bB : BaseK X.K B) (hm : mroIn X.K XC (.ref B) = some true) (hg : Gl X x) (hs : X.stack = X.env :: X.outer) (hf : X.env.frame = some X.env.locals)
  (hN : X.N.Nodup) (hi : X.N[i]? = some n) (hl : Loc X.env.scope n) (hk : X.env.kindOf n = some .local) (hcl : (X.env.scope.kind == .class || (X.env.scope.kind == .module && X.env.locals != X.env.globals)) = false)
  (hb : ∀ W pins, PSs ((X.pin pins).tryL XC W) body (tb W)) (hh : ∀ ea, PSs (X.caught ea) (b0 :: suite) ts) (hdb : (x == ("__debug__" : Str)) = false := by decide) (hfn : X.fn n = true ∨ X.env.scope.names.lookup n = some .local := by first | exact .inl rfl | exact .inr rfl | assumption) :
  PS X (.Try body [.ExceptHandler (some (.Name x np)) (some n) (b0 :: suite) hpos] [] [] pos) (tTryAs i XC tb ts) := by
 intro pins s σ H D I ⟨W, h, hW⟩
 refine wpAny_Try_except (wpAny_mono (hb W pins [] s σ H D (I.pinX.wish _) h) (fun f s1 q => ?_) (fun e s1 q => ?_))
 ·have q1 : SP X pins D f s1 := (SP.unwish q).unpinX
  cases f with
  | next =>
   obtain ⟨σ', H', I', q'⟩ := q1
   exact pss_nil pins s1 σ' H' D I' q'
  | brk => exact q1
  | cont => exact q1
  | ret u => exact q1
 ·obtain ⟨pins', σ', H1, s0, I0', ea, T, H', rfl, os, bare, un, hok, ⟨oe, vs, oT, ts', r1, r2, r3, r4, _, r6, r7, r8, r9⟩, ⟨n1, n2⟩, ⟨n3, n4⟩, hw⟩ := q
  have I0 : Inv X pins σ' H1 s0 := I0'.unpinX
  have I1 : Inv X pins σ' H' s1 := I0.call' os un hok bare (fun b z => nomatch z)
  have stk := I1.stack
  have ff : s1.heap.FunFrames (bas (ea :: T :: frs X.stack) s1.heap) X.stack := bas_frames _ (fun b hb => List.mem_cons_of_mem _ (List.mem_cons_of_mem _ hb)) stk
  have nT : (bas (ea :: T :: frs X.stack) s1.heap).get? T = none := bas_none (List.mem_cons_of_mem _ (List.mem_cons_self ..))
  have then' : ∀ h5 : Heap, (bas (ea :: T :: frs X.stack) s1.heap).StaysIn h5 → s1.heap.UpToSlots h5 → Inv X pins σ' H' { s1 with heap := h5 } ∧ (ExcAt h5 ea XC → Inv X pins σ' (upd H' ea (excO ea XC)) { s1 with heap := h5 }) := fun h5 k up => by
   obtain ⟨u5, o5⟩ := caught_inv I0 os bare un hok n1 n2 n3 n4 stk k up I1.stkFree
   exact ⟨I0.call' (s' := { s1 with heap := h5 }) os u5 o5 bare (fun b z => nomatch z), fun ex => I0.call' (s' := { s1 with heap := h5 }) os (un_ext u5 n1 n3) (hok_ext o5 n3 (excO_ok ex)) bare (fun b z => nomatch z)⟩
  have ff' : s1.heap.FunFrames (bas (ea :: T :: frs X.stack) s1.heap) (X.env :: X.outer) := by
   generalize bas (ea :: T :: frs X.stack) s1.heap = bb at ff ⊢
   rw [hs] at ff
   exact ff
  refine noteX (base := bas (ea :: T :: frs X.stack) s1.heap) (by rw [← hs]; exact I.ok.frames) hf bas_stays (bas_none (List.mem_cons_self ..)) ff' r1 r3 r4 nT r6 r7 r8 r9 fun h4 noted => ?_
  obtain ⟨k1, k2, up4, oe4, vs4, T4, oT4, ts4, p1, p2, p3, p4, p5, p6, p7, p8, p9, p10⟩ := noted
  refine landX (s := { s1 with heap := h4 }) k1 k2 p1 p3 p5 p6 p7 p8 p9 p10 fun h5 landed => ?_
  obtain ⟨j1, j2, up5, oe5, vs5, T5, oT5, ts5, v1, v2, v3, v4, v5, v6, v7, v8, v9, v10⟩ := landed
  have up45 : s1.heap.UpToSlots h5 := up4.trans up5
  have I5 := (then' h5 j1 up45).1
  have c5 : oe5.cls = .ref XC := v2.trans (p2.trans r2)
  refine wpAny_handleBy_cons (codeAny_handlers_test (ld_glob (I5.caught (ea := ea)) hg hx ?_ hdb)) (by intro z; cases z)
  refine exc_match (K := X.K) I5.kIn ⟨oe5, v1, c5⟩ bB hm ?_
  refine codeAny_handlers_suite_as ?_
  refine landX (s := { s1 with heap := h5 }) j1 j2 v1 v3 v5 v6 v7 v8 v9 v10 fun h6 landed6 => ?_
  obtain ⟨y1, y2, up6, oe6, vs6, T6, oT6, ts6, z1, z2, z3, _⟩ := landed6
  have I6 := (then' h6 y1 (up45.trans up6)).2 ⟨oe6, z1, z2.trans c5⟩
  refine store_ok (X := X.caught ea) I6.caught hN hi hl (v := .ref ea) rfl (fun s7 I7 => ?_) hfn
  refine wpAny_mono (hh ea pins s7 _ _ { nx := fun _ _ => False, rt := D.rt } I7 (hW σ' H' hw ea n3)) (fun f s8 q => ?_) (fun _ _ z => False.elim z)
  cases f with
  | ret u =>
   obtain ⟨v, σ8, H8, I8, rv, q8⟩ := q
   have I8' := I8.uncaught I.ok
   obtain ⟨m, hn, _⟩ := I8'.loc
   exact wpAny_nameGoes hk hn hcl fun h9 m9 hn9 sb => ⟨v, _, H8, I8'.forget hn9 sb, rv, q8⟩
  | next =>
   obtain ⟨_, _, _, z⟩ := q
   exact False.elim z
  | brk =>
   obtain ⟨_, _, _, z⟩ := q
   exact False.elim z
  | cont =>
   obtain ⟨_, _, _, z⟩ := q
   exact False.elim z
end L2
namespace L2
open PySem PySem.Spec PyProof.Rows PySem.W
section
variable {P : Program} {w : World} {K : PySem.W.Frag} {mg : Str → Option Value} {base : Heap} {N : List Str} {qual : Str} {scope : Scope} {f C XC : Addr} {cd : Value} {A : Around} {outer : List Env} {s0 : Shared} {H0 : Hp} {E : XK}
theorem ps_tryR {x y msg : Str} {np np2 cpos rpos kp mpos hpos pos : Pos} {j kj : Nat} {body : List Stmt} {tb : (Hp → Prop) → TS} (c : ExcC K mg x XC) (hg : Gl (cxOf (CXg false P w C) P w K mg base N qual scope f cd A outer s0 H0 E) x) (cr : ExcC K mg y C) (hgy : Gl (cxOf (CXg false P w C) P w K mg base N qual scope f cd A outer s0 H0 E) y)
  (hb : ∀ (W : Hp → Prop) pins, PSs ((Cx.pin (cxOf (CXg false P w C) P w K mg base N qual scope f cd A outer s0 H0 E) pins).tryG XC (fun _ H' => W H')) body (tb W)) (hdb : (x == ("__debug__" : Str)) = false := by decide) (hdy : (y == ("__debug__" : Str)) = false := by decide) :
  PS (cxOf (CXg false P w C) P w K mg base N qual scope f cd A outer s0 H0 E) (.Try body [.ExceptHandler (some (.Name x np)) none [.Raise (some (.Call (.Name y np2) [.Constant (.str msg) j mpos] [] cpos)) (some (.Constant .none kj kp)) rpos] hpos] [] [] pos)
   (fun D σ H => ∃ W : Hp → Prop, tb W D σ H ∧ ∀ H', W H' → E (.ref C) none H') := by
 intro pins s σ H D I ⟨W, h, hW⟩
 refine wpAny_Try_except (wpAny_mono (hb W pins [] s σ H D (I.pinX.wish _) h) (fun fl s1 q => ?_) (fun e s1 q => ?_))
 ·have q1 : SP (cxOf (CXg false P w C) P w K mg base N qual scope f cd A outer s0 H0 E) pins D fl s1 := (SP.unwish q).unpinX
  cases fl with
  | next =>
   obtain ⟨σ', H', I', q'⟩ := q1
   exact pss_nil pins s1 σ' H' D I' q'
  | brk => exact q1
  | cont => exact q1
  | ret u => exact q1
 ·obtain ⟨pins', σ', H1, s0', I0', ea, T, H', rfl, os, bare, un, hok, ⟨oe, vs, oT, ts', r1, r2, r3, r4, r5, r6, r7, r8, r9⟩, ⟨n1, n2⟩, ⟨n3, n4⟩, hw⟩ := q
  have I0 : Inv (cxOf (CXg false P w C) P w K mg base N qual scope f cd A outer s0 H0 E) pins σ' H1 s0' := I0'.unpinX
  have I1 : Inv (cxOf (CXg false P w C) P w K mg base N qual scope f cd A outer s0 H0 E) pins σ' H' s1 := I0.call' os un hok bare (fun b z => nomatch z)
  have stk := I1.stack
  have ff : s1.heap.FunFrames (bas (ea :: T :: frs (Cx.stack (cxOf (CXg false P w C) P w K mg base N qual scope f cd A outer s0 H0 E))) s1.heap) ((envOfC qual scope s0.heap.objs.size f cd) :: outer) := bas_frames _ (fun b hb => List.mem_cons_of_mem _ (List.mem_cons_of_mem _ hb)) stk
  have nT : (bas (ea :: T :: frs (Cx.stack (cxOf (CXg false P w C) P w K mg base N qual scope f cd A outer s0 H0 E))) s1.heap).get? T = none := bas_none (List.mem_cons_of_mem _ (List.mem_cons_self ..))
  have then' : ∀ h5 : Heap, (bas (ea :: T :: frs (Cx.stack (cxOf (CXg false P w C) P w K mg base N qual scope f cd A outer s0 H0 E))) s1.heap).StaysIn h5 → s1.heap.UpToSlots h5 → Inv (cxOf (CXg false P w C) P w K mg base N qual scope f cd A outer s0 H0 E) pins σ' H' { s1 with heap := h5 } := fun h5 k up => by
   obtain ⟨u5, o5⟩ := caught_inv I0 os bare un hok n1 n2 n3 n4 stk k up I1.stkFree
   exact I0.call' (s' := { s1 with heap := h5 }) os u5 o5 bare (fun b z => nomatch z)
  refine noteX (base := bas (ea :: T :: frs (Cx.stack (cxOf (CXg false P w C) P w K mg base N qual scope f cd A outer s0 H0 E))) s1.heap) (outer := outer) I.ok.frames rfl bas_stays (bas_none (List.mem_cons_self ..)) ff r1 r3 r4 nT r6 r7 r8 r9 fun h4 noted => ?_
  obtain ⟨k1, k2, up4, oe4, vs4, T4, oT4, ts4, p1, p2, p3, p4, p5, p6, p7, p8, p9, p10⟩ := noted
  refine landX (s := { s1 with heap := h4 }) k1 k2 p1 p3 p5 p6 p7 p8 p9 p10 fun h5 landed => ?_
  obtain ⟨j1, j2, up5, oe5, vs5, T5, oT5, ts5, v1, v2, v3, v4, v5, v6, v7, v8, v9, v10⟩ := landed
  have up45 : s1.heap.UpToSlots h5 := up4.trans up5
  have I5 := then' h5 j1 up45
  have c5 : oe5.cls = .ref XC := v2.trans (p2.trans r2)
  refine wpAny_handleBy_cons (codeAny_handlers_test (ld_glob (I5.caught (ea := ea)) hg c.bound ?_ hdb)) (by intro z; cases z)
  obtain ⟨tl, N0, nm, q, bs, hdct, sn, sub, ab, col, dd, k0, k1', k2', k3, k5, mN, hC, hN, hni, tail⟩ := (c.own I5.kIn).obj
  refine wpAny_excMatches_sub_self hC v1 c5 (tail.hasType PySem.F.excBase_ValueError.hasBase) (codeAny_handlers_suite ?_)
  refine landX (s := { s1 with heap := h5 }) j1 j2 v1 v3 v5 v6 v7 v8 v9 v10 fun h6 landed6 => ?_
  obtain ⟨y1, y2, up6, oe6, vs6, T6, oT6, ts6, z1, z2, z3, z4, _⟩ := landed6
  have I6 : Inv (cxOf (CXg false P w C) P w K mg base N qual scope f cd A outer s0 H0 E) pins σ' H' { s1 with heap := h6 } := then' h6 y1 (up45.trans up6)
  have w2 : vs6[2]? = some .none := by rw [z4 2 (by decide), v4 2 (by decide), p4 2 (by decide)]; exact r5 rfl
  refine wpAny_mono (Q := fun _ _ => False) (E := Cx.xe (cxOf (CXg false P w C) P w K mg base N qual scope f cd A outer s0 H0 E)) ?_ (fun _ _ z => z.elim) (fun e s z => PassesOwnAt.leaving e s z)
  refine wpAny_execs_cons ?_
  obtain ⟨tl2, N2, nm2, q2, bs2, hdct2, sn2, sub2, ab2, col2, dd2, m0, m1, m2, m3, m5, mN2, hC2, hN2, hni2, tail2⟩ := (cr.own I6.kIn).obj
  refine execRaiseX (C := C) (nm := nm2) (q := q2) (N := N2) (bs := bs2) (bm := tl2) (hdct := hdct2) (sn := sn2) (sub := sub2) (ab := ab2) (col := col2) (dd := dd2) (k0 := m0) (k1 := m1) (k2 := m2) (k3 := m3) (k5 := m5) (ea := ea)
   PySem.F.excBase_ValueError (mN := mN2) (tail2.hasType PySem.F.excBase_ValueError.hasBase) rfl rfl hni2 (ld_glob (I6.caught (ea := ea)) hgy cr.bound ⟨rfl, ?_⟩ hdy)
  refine Calls.evalArgs_plain (spliced_more (Calls.Constant_str ?_))
  refine spliced_none ⟨rfl, by show 1 ≤ sizeLine; decide, hC2, hN2, tail2, ⟨oe6, vs6, z1, z3, w2⟩, fun h1 h' e t made he1 he' oth => ?_⟩
  exact raised (I6.tok _) (hW H' hw) made he' oth rfl (fun z => nomatch z)
end
end L2
namespace L2
open PySem PySem.Spec PyProof.Rows PySem.W
section
variable {X : Cx}
theorem refs_of : ∀ {cs : List Addr} {its : List Value}, Vals (cs.map V.ref) its → its = cs.map Value.ref
 | [], _, r => by
  cases r
  rfl
 | c :: cs, its, r => by
  cases r with
  | cons r1 r2 =>
   rw [refs_of r2, show _ = Value.ref c from r1]
   rfl
theorem call_isXT : CallR X (.builtin "isinstance") (fun xs H Q => ∃ (a C tp : Addr) (cs : List Addr) (b : Bool), xs = [.ref a, .ref tp] ∧ H a = some (excO a C) ∧ ExcK X.K C ∧ H tp = some (.tup (cs.map V.ref)) ∧ kitAny X.K (.ref C) (cs.map Value.ref) = some b ∧ Q (.bl b) H) := by
 intro pins s σ H xs us Q I r h
 obtain ⟨a, C, tp, cs, b, rfl, hH, k, ht, e, q⟩ := h
 obtain ⟨u, v, rfl, ru, rv⟩ := r.two
 cases (show u = Value.ref a from ru)
 cases (show v = Value.ref tp from rv)
 obtain ⟨ex, _, _⟩ := (show ObjOk X.prog X.w H s.heap a (excO a C) from I.hok a _ hH)
 obtain ⟨_, its, rt, o, h1, h2, n, h3⟩ := I.hok tp _ ht
 cases refs_of rt
 obtain ⟨oc, od, da, osl⟩ := o
 cases (show oc = .type "tuple" from h2)
 cases (show da = .seq _ n from h3)
 exact kia_tup (kitx_exc k) I.kIn ex h1 e (fun z => nomatch z) fun tk => ⟨.bl b, H, I.tok tk, rfl, q⟩
end
end L2
namespace L2
open PySem PySem.Spec PyProof.Rows PySem.W
section
variable {P : Program} {w : World} {K : PySem.W.Frag} {mg : Str → Option Value} {base : Heap} {N : List Str} {qual : Str} {scope : Scope} {f C : Addr} {cd : Value} {A : Around} {outer : List Env} {s0 : Shared} {H0 : Hp} {E : XK} {b' : Bool}
variable {x m : Str} {k : Nat} {ps : List Str} {sp : Sp} {e o : Expr} {es : List Expr} {p pos apos : Pos} {t : TA} {ta : TE}
theorem pe_clG (Q : ClX P w K mg base C x k ps sp) (hr : Room k (cxOf (CXg b' P w C) P w K mg base N qual scope f cd A outer s0 H0 E).A) (hg : Gl (cxOf (CXg b' P w C) P w K mg base N qual scope f cd A outer s0 H0 E) x) (ha : PA (cxOf (CXg b' P w C) P w K mg base N qual scope f cd A outer s0 H0 E) (e :: es) t) (hdb : (x == ("__debug__" : Str)) = false := by decide)
  (he : starEach (e :: es) (envOfC qual scope s0.heap.objs.size f cd) = (false, eval e (envOfC qual scope s0.heap.objs.size f cd)) :: starEach es (envOfC qual scope s0.heap.objs.size f cd) := by rfl) (hpl : (backTo pos (starEach es (envOfC qual scope s0.heap.objs.size f cd))).any (·.1) = false := by rfl) :
  PE (cxOf (CXg b' P w C) P w K mg base N qual scope f cd A outer s0 H0 E) (.Call (.Name x p) (e :: es) [] pos) (tCall sp [] E t) := by
 obtain ⟨g, fd, hm, hk, hb, F⟩ := Q
 exact pe_call F hr hg hm hk hb .nil (passG (fun _ => rfl)) ha hdb he hpl
end
section
variable {X : Cx} {XC C : Addr} {Wh : Hp → Prop} {x : Str} {k : Nat} {ps : List Str} {sp : Sp} {e : Expr} {es : List Expr} {p pos : Pos} {t : TA}
theorem pe_clT (Q : ClX X.prog X.w X.K X.mg X.base XC x k ps sp) (hr : Room k X.A) (hg : Gl X x) (ha : PA (X.tryG XC (fun _ H' => Wh H')) (e :: es) t) (hdb : (x == ("__debug__" : Str)) = false := by decide) (he : starEach (e :: es) X.env = (false, eval e X.env) :: starEach es X.env := by rfl) (hpl : (backTo pos (starEach es X.env)).any (·.1) = false := by rfl) :
  PE (X.tryG XC (fun _ H' => Wh H')) (.Call (.Name x p) (e :: es) [] pos) (tCall sp [] (fun _ _ H' => Wh H') t) := by
 obtain ⟨g, fd, hm, hk, hb, F⟩ := Q
 exact pe_call (X := X.tryG XC (fun _ H' => Wh H')) F hr hg hm hk hb .nil passT ha hdb he hpl
theorem pe_mkT (M : McX X.prog X.w X.K X.mg X.base XC x C k ps sp) (hr : Room (k + 1) X.A) (hg : Gl X x) (ha : PA (X.tryG XC (fun _ H' => Wh H')) (e :: es) t) (hdb : (x == ("__debug__" : Str)) = false := by decide) (he : starEach (e :: es) X.env = (false, eval e X.env) :: starEach es X.env := by rfl) (hpl : (backTo pos (starEach es X.env)).any (·.1) = false := by rfl) :
  PE (X.tryG XC (fun _ H' => Wh H')) (.Call (.Name x p) (e :: es) [] pos) (tMake C sp [] (fun _ _ H' => Wh H') t) := by
 obtain ⟨g, fd, hm, hn, hb, F⟩ := M
 exact pe_make (X := X.tryG XC (fun _ H' => Wh H')) hm F hr hg hn hb .nil passT ha hdb he hpl
def ClW (P : Program) (w : World) (K : PySem.W.Frag) (mg : Str → Option Value) (base : Heap) (C : Addr) (x : Str) (k : Nat) (ps : List Str) (sp : Sp) : Prop :=
 ∃ (f : Addr) (fd : FuncData), mg x = some (.ref f) ∧ PySem.W.keepIn K (.ref f) = true ∧ Binds K fd ps [] ∧ FnOk P w K mg base (CXg false P w C) k f fd ps sp
theorem DefAt.clW {P : Program} {w : World} {K : PySem.W.Frag} {mg : Str → Option Value} {base : Heap} {C : Addr} {x : Str} {st : Stmt} {ps : List Str} {f : Addr} {fd : FuncData} {k : Nat} {sp : Sp} (D : DefAt K mg x st ps f fd) (h : FnOk P w K mg base (CXg false P w C) k f fd ps sp) : ClW P w K mg base C x k ps sp :=
 ⟨f, fd, D.nm, D.fn.kp, D.bd, h⟩
theorem passLn : Passes (CXg false X.prog X.w XC) (X.tryL XC (fun σ' H' => σ'.length = X.N.length ∧ Wh H')) (fun _ _ H' => Wh H') := fun pins σ H s e s' I q => by
 refine ⟨pins, σ, H, s, I.unwish, ?_⟩
 obtain ⟨ea, T, H', e1, os, bare, un, hok, tr, n, m, hw⟩ := q
 exact ⟨ea, T, H', e1, os, bare, un, hok, tr, n, m, I.len, hw⟩
theorem pe_clL (Q : ClW X.prog X.w X.K X.mg X.base XC x k ps sp) (hr : Room k X.A) (hg : Gl X x) (ha : PA (X.tryL XC (fun σ' H' => σ'.length = X.N.length ∧ Wh H')) (e :: es) t) (hdb : (x == ("__debug__" : Str)) = false := by decide) (he : starEach (e :: es) X.env = (false, eval e X.env) :: starEach es X.env := by rfl) (hpl : (backTo pos (starEach es X.env)).any (·.1) = false := by rfl) :
  PE (X.tryL XC (fun σ' H' => σ'.length = X.N.length ∧ Wh H')) (.Call (.Name x p) (e :: es) [] pos) (tCall sp [] (fun _ _ H' => Wh H') t) := by
 obtain ⟨g, fd, hm, hk, hb, F⟩ := Q
 exact pe_call (X := X.tryL XC (fun σ' H' => σ'.length = X.N.length ∧ Wh H')) F hr hg hm hk hb .nil passLn ha hdb he hpl
end
end L2
namespace FQ
open PySem L2 FK
def top (i : Nat) : Stmt := PySem.Challenge.pw_fairknife_k14_written.main.body.getD i (.Pass ⟨0, 0, 0, 0⟩)
abbrev s_is_whole : Stmt := top 10
abbrev s_greatest_divisor : Stmt := top 11
abbrev s_is_fraction : Stmt := top 12
abbrev s_made : Stmt := top 13
abbrev s_plus : Stmt := top 14
abbrev s_minus : Stmt := top 15
abbrev s_times : Stmt := top 16
abbrev s_over : Stmt := top 17
abbrev s_below : Stmt := top 18
abbrev s_is_span : Stmt := top 22
abbrev s_check_piece : Stmt := top 23
abbrev s_check_step : Stmt := top 28
abbrev s_check_steps : Stmt := top 29
abbrev s_worth_line : Stmt := top 30
abbrev m_Taste___init__ : Stmt := inClass (top 31) 0
abbrev m_Taste_steps : Stmt := inClass (top 31) 1
abbrev s_number_text : Stmt := top 36
abbrev s_fraction_text : Stmt := top 37
abbrev s_taste_text : Stmt := top 38
abbrev s_piece_text : Stmt := top 39
abbrev s_number_of : Stmt := top 40
abbrev s_fraction_of : Stmt := top 41
abbrev s_two_parts : Stmt := top 42
abbrev s_step_of : Stmt := top 43
abbrev s_span_of : Stmt := top 44
abbrev s_check_text : Stmt := top 45
abbrev s_taste_of : Stmt := top 46
abbrev s_piece_of : Stmt := top 47
abbrev s__law_cell_at : Stmt := top 49
abbrev s__law_mixed : Stmt := top 50
abbrev s__law_low : Stmt := top 51
abbrev s__law_less : Stmt := top 52
abbrev s__law_steps_by : Stmt := top 55
abbrev s__law_piece_by : Stmt := top 58
abbrev s__law_text : Stmt := top 59
abbrev s__law_number : Stmt := top 60
abbrev s__law_fraction_of : Stmt := top 61
abbrev s__law_steps_of : Stmt := top 62
abbrev s__law_spans_of : Stmt := top 63
abbrev s__law_refused : Stmt := top 64
abbrev s__law_read_right : Stmt := top 65
abbrev s__law_other : Stmt := top 66
abbrev s__law_few : Stmt := top 67
abbrev s_law : Stmt := top 68
end FQ
namespace FQ
open PySem L2 FK
def Fit (q : Rat) : Prop := 0 ≤ q ∧ Bd 1900 q
def FrQ (K : PySem.W.Frag) (H : Hp) (x : V) (q : Rat) : Prop := FrR K H x (fr q)
theorem FrQ.same {K : PySem.W.Frag} {H H' : Hp} {x : V} {q : Rat} (s : Same H H') (h : FrQ K H x q) : FrQ K H' x q := FrR.same s h
theorem FrQ.sq {K : PySem.W.Frag} {H : Hp} {x : V} {q : Rat} (h : FrQ K H x q) : ∃ p, x = .ref p ∧ SqT K H p [.int q.num, .int (q.den : Int)] := FrR.sq h
theorem FrQ.of {K : PySem.W.Frag} {H : Hp} {p : Addr} {a b : Int} {q : Rat} (h : SqT K H p [.int a, .int b]) (ha : a = q.num) (hb : b = (q.den : Int)) : FrQ K H (.ref p) q := ⟨p, _, _, rfl, h, by rw [ha]; rfl, by rw [hb]; rfl⟩
theorem rpe_fr {K : PySem.W.Frag} : RpE K (FrQ K) 1 where
 inj := fun hK I h1 h2 => fr_inj ((rpe_pair (d := 0) rpe_int rpe_int).inj hK I h1 h2)
 eq := fun {X pins σ H s A x y u v a b} hK I hu h1 h2 r1 r2 => by
  have := (rpe_pair (d := 0) rpe_int rpe_int).eq hK I hu h1 h2 r1 r2
  rw [fr_dec] at this
  exact this
abbrev CoQ (K : PySem.W.Frag) := rpPair K (FrQ K) (FrQ K)
theorem CoQ.same {K : PySem.W.Frag} {H H' : Hp} {x : V} {d : Rat × Rat} (s : Same H H') (h : CoQ K H x d) : CoQ K H' x d := by
 obtain ⟨p, y, z, rfl, q, h1, h2⟩ := h
 exact ⟨p, y, z, rfl, s.sqT q, h1.same s, h2.same s⟩
theorem Fit.nn {q : Rat} (h : Fit q) : 0 ≤ q.num := num_nn h.1
theorem Fit.s1 {q : Rat} (h : Fit q) : Sm q.num := .of_bits h.2.1 (by decide)
theorem Fit.s2 {q : Rat} (h : Fit q) : Sm (q.den : Int) := .of_bits (by rw [Int.natAbs_natCast]; exact h.2.2) (by decide)
theorem Bd.fit {n : Nat} {q : Rat} (h : Bd n q) (h0 : 0 ≤ q) (hn : n ≤ 1900) : Fit q := ⟨h0, h.mono hn⟩
theorem sm_mul {a b : Int} {m n : Nat} (h1 : a.natAbs < 2 ^ m) (h2 : b.natAbs < 2 ^ n) (h : m + n ≤ 4000) : Sm (a * b) := .of_bits (n := m + n) (by rw [Int.natAbs_mul]; exact mul_lt_pow h1 h2) h
theorem Fit.dd {q r : Rat} (h1 : Fit q) (h2 : Fit r) : Sm ((q.den : Int) * (r.den : Int)) := sm_mul (m := 1900) (n := 1900) (by rw [Int.natAbs_natCast]; exact h1.2.2) (by rw [Int.natAbs_natCast]; exact h2.2.2) (by decide)
theorem Fit.dn {q r : Rat} (h1 : Fit q) (h2 : Fit r) : Sm ((q.den : Int) * r.num) := sm_mul (m := 1900) (n := 1900) (by rw [Int.natAbs_natCast]; exact h1.2.2) h2.2.1 (by decide)
def spWhole : Sp := fun vs H Q _ => ∃ i : Int, vs = [.int i] ∧ Q (.bl true) H
def spGcd : Sp := fun vs H Q _ => ∃ a b : Int, vs = [.int a, .int b] ∧ 0 ≤ a ∧ 0 ≤ b ∧ Q (.int (G a b)) H
def spMade : Sp := fun vs H Q _ => ∃ a b : Int, vs = [.int a, .int b] ∧ 0 ≤ a ∧ 0 < b ∧ Sm b ∧ ∀ p, H p = none → Q (.ref p) (upd H p (.tup [.int (lo a b), .int (hi a b)]))
def spMadeQ (K : PySem.W.Frag) : Sp := fun vs H Q _ => ∃ a b : Int, vs = [.int a, .int b] ∧ 0 ≤ a ∧ 0 < b ∧ Sm b ∧ ∀ v H', Same H H' → FrQ K H' v ((a : Rat) / (b : Rat)) → Q v H'
def spTwo (K : PySem.W.Frag) (f g : Int → Int → Int → Int → Int) : Sp := fun vs H Q _ => ∃ (p q : Addr) (a b c d : Int), vs = [.ref p, .ref q] ∧ SqT K H p [.int a, .int b] ∧ SqT K H q [.int c, .int d] ∧ (Sm a ∧ Sm b ∧ Sm c ∧ Sm d) ∧
 (0 ≤ f a b c d ∧ 0 < g a b c d ∧ Sm (g a b c d)) ∧ ∀ r, H r = none → Q (.ref r) (upd H r (.tup [.int (lo (f a b c d) (g a b c d)), .int (hi (f a b c d) (g a b c d))]))
def spOp (K : PySem.W.Frag) (f : Rat → Rat → Rat) (c : Rat → Rat → Prop) : Sp := fun vs H Q _ => ∃ (x y : V) (q r : Rat), vs = [x, y] ∧ FrQ K H x q ∧ FrQ K H y r ∧ Fit q ∧ Fit r ∧ c q r ∧ ∀ v H', Same H H' → FrQ K H' v (f q r) → Q v H'
abbrev spPlus (K : PySem.W.Frag) := spOp K (fun a b => a + b) (fun _ _ => True)
abbrev spMinus (K : PySem.W.Frag) := spOp K (fun a b => a - b) (fun a b => b ≤ a)
abbrev spTimes (K : PySem.W.Frag) := spOp K (fun a b => a * b) (fun _ _ => True)
abbrev spOver (K : PySem.W.Frag) := spOp K (fun a b => a / b) (fun _ b => 0 < b)
def spBelow (K : PySem.W.Frag) : Sp := fun vs H Q _ => ∃ (x y : V) (q r : Rat), vs = [x, y] ∧ FrQ K H x q ∧ FrQ K H y r ∧ Fit q ∧ Fit r ∧ Q (.bl (decide (q < r))) H
def spFrac (K : PySem.W.Frag) : Sp := fun vs H Q _ => ∃ (x : V) (q : Rat), vs = [x] ∧ FrQ K H x q ∧ 0 ≤ q ∧ Q (.bl true) H
structure Txt (K : PySem.W.Frag) (mg : Str → Option Value) (aL aR : Addr) : Prop where
 isi : mg "isinstance" = none
 int : mg "int" = none
 bool : mg "bool" = none
 tuple : mg "tuple" = none
 list : mg "list" = none
 len : mg "len" = none
 range : mg "range" = none
 zip : mg "zip" = none
 sorted : mg "sorted" = none
 any : mg "any" = none
 enumerate : mg "enumerate" = none
 reversed : mg "reversed" = none
 left : mg "LEFT_END" = some (.ref aL)
 leftT : ∀ H : Hp, SqT K H aL [.int 0, .int 1]
 right : mg "RIGHT_END" = some (.ref aR)
 rightT : ∀ H : Hp, SqT K H aR [.int 1, .int 1]
theorem sqK {K : PySem.W.Frag} {a : Addr} {od : Option Addr} {i j : Int} {t u : Tok} {n : Nat} {sl : Array (Option Value)} (h : K.lookup a = some ⟨.type "tuple", od, .seq #[.int i t, .int j u] n, sl⟩) : ∀ H : Hp, SqT K H a [.int i, .int j] :=
 fun _ => .inr ⟨_, _, n, h, rfl, rfl, (by show 2 ≤ sizeLine; decide), .cons ⟨t, rfl⟩ (.cons ⟨u, rfl⟩ .nil)⟩
theorem Txt.l {K : PySem.W.Frag} {mg : Str → Option Value} {aL aR : Addr} (T : Txt K mg aL aR) (H : Hp) : FrQ K H (.ref aL) 0 := .of (T.leftT H) rfl rfl
theorem Txt.r {K : PySem.W.Frag} {mg : Str → Option Value} {aL aR : Addr} (T : Txt K mg aL aR) (H : Hp) : FrQ K H (.ref aR) 1 := .of (T.rightT H) rfl rfl
theorem Fit.one : Fit 1 := ⟨by decide, by show (1 : Nat) < 2 ^ 1900; exact Nat.one_lt_two_pow (by decide), by show (1 : Nat) < 2 ^ 1900; exact Nat.one_lt_two_pow (by decide)⟩
section
variable {P : Program} {w : World} {K : PySem.W.Frag} {mg : Str → Option Value} {base : Heap} {aL aR : Addr}
theorem scWhole : FnScope ["thing"] ["thing"] (defScope s_is_whole) := ⟨rfl, rfl, rfl, by decide +kernel, rfl, by decide +kernel, by decide +kernel⟩
theorem ok_whole {f : Addr} {fd : FuncData} (D : DefAt K mg "is_whole" s_is_whole ["thing"] f fd) (T : Txt K mg aL aR) : FnOk P w K mg base CX0 1 f fd ["thing"] spWhole := by
 refine D.fn.ok scWhole (fun vs H Q E h => ?_) (fun cdv A outer s H vs Q E hr h => ?_)
 ·obtain ⟨i, rfl, _⟩ := h
  rfl
 ·obtain ⟨i, rfl, k⟩ := h
  refine ⟨_, pss_one (ps_ret (pe_and (pe_isi (pv 0) rfl T.isi rfl T.int PyProof.Rows.boot_int) (pe_one (pe_not (pe_isi (pv 0) rfl T.isi rfl T.bool PyProof.Rows.boot_bool))))), ?_⟩
  refine ⟨_, rfl, _, _, .of (.int _), kit_int _, _, rfl, ?_⟩
  refine iteT ?_
  exact ⟨_, rfl, _, _, .of (.int _), kit_int_bool _, _, rfl, k⟩
theorem scGcd : FnScope ["a", "b", "rest"] ["a", "b"] (defScope s_greatest_divisor) := ⟨rfl, rfl, rfl, by decide +kernel, rfl, by decide +kernel, by decide +kernel⟩
def mu1 (σ : St) : Nat := match σ with
 | [_, some (.int b), _] => b.toNat
 | _ => 0
theorem ok_gcd {f : Addr} {fd : FuncData} (D : DefAt K mg "greatest_divisor" s_greatest_divisor ["a", "b"] f fd) : FnOk P w K mg base CX0 1 f fd ["a", "b"] spGcd := by
 refine D.fn.ok scGcd (fun vs H Q E h => ?_) (fun cdv A outer s H vs Q E hr h => ?_)
 ·obtain ⟨a, b, rfl, _⟩ := h
  rfl
 ·obtain ⟨a0, b0, rfl, ha, hb, k⟩ := h
  refine ⟨_, pss_cons (ps_while PassesOwn.never (pt_cmpR op_gt (pv 1) pe_int (nomark _))
   (pss_cons (ps_set (i := 2) scGcd.nd rfl (Or.inl rfl) (pe_op op_mod (pv 0) (pv 1)))
   (pss_cons (ps_set (i := 0) scGcd.nd rfl (Or.inl rfl) (pv 1))
   (pss_one (ps_set (i := 1) scGcd.nd rfl (Or.inl rfl) (pv 2))))))
   (pss_one (ps_ret (pv 0))), ?_⟩
  refine while_by (fun σ H' => H' = H ∧ ∃ (a b : Int) (r : Option V), σ = [some (.int a), some (.int b), r] ∧ 0 ≤ a ∧ 0 ≤ b ∧ G a b = G a0 b0) (fun σ _ => mu1 σ) ⟨rfl, a0, b0, none, rfl, ha, hb, rfl⟩ ?_ ?_
  ·rintro σ H' ⟨rfl, a, b, r, rfl, ha, hb, e⟩
   refine ⟨_, rfl, _, _, rfl, rfl, _, rfl, ?_⟩
   refine ite2 (fun h => ?_) (fun h => ?_)
   ·have hb' : 0 < b := of_decide_eq_true h
    refine ⟨_, rfl, _, rfl, _, _, rfl, rfl, hb', _, rfl, _, rfl, ?_⟩
    refine ⟨⟨rfl, b, a % b, _, rfl, hb, Int.emod_nonneg _ (by omega), (G_step ha hb').trans e⟩, ?_⟩
    show (a % b).toNat < b.toNat
    have := Int.emod_lt_of_pos a hb'
    omega
   ·have hb' : b = 0 := by
     have : ¬ 0 < b := fun z => h (decide_eq_true z)
     omega
    refine ⟨_, rfl, ?_⟩
    have e' : a = G a0 b0 := by rw [← e, hb', G_zero ha]
    rw [e']
    exact k
  ·rintro σ H Q Q' hq ⟨v, e, i, j, e1, e2, z, e3, q⟩
   exact ⟨v, e, i, j, e1, e2, z, e3, hq _ _ q⟩
theorem scMade : FnScope ["a", "b", "common"] ["a", "b"] (defScope s_made) := ⟨rfl, rfl, rfl, by decide +kernel, rfl, by decide +kernel, by decide +kernel⟩
theorem ok_made {f : Addr} {fd : FuncData} (D : DefAt K mg "made" s_made ["a", "b"] f fd) (CW : Cl P w K mg base "is_whole" 1 ["thing"] spWhole) (CG : Cl P w K mg base "greatest_divisor" 1 ["a", "b"] spGcd) :
  FnOk P w K mg base CX0 2 f fd ["a", "b"] spMade := by
 refine D.fn.ok scMade (fun vs H Q E h => ?_) (fun cdv A outer s H vs Q E hr h => ?_)
 ·obtain ⟨a, b, rfl, _⟩ := h
  rfl
 ·obtain ⟨a, b, rfl, ha, hb, hS, k⟩ := h
  refine ⟨_, pss_cons (ps_if (PW.pt (pw_or (pt_not (pt_val (pe_cl CW hr rfl (pa_cons (pv 0) pa_nil)))) (pw_or1 (pt_not (pt_val (pe_cl CW hr rfl (pa_cons (pv 1) pa_nil))))))) pss_never pss_nil)
   (pss_cons (ps_if (PW.pt (pw_or (pt_cmpR op_lt (pv 0) pe_int (nomark _)) (pw_or1 (pt_cmpR op_lt (pv 1) pe_int (nomark _))))) pss_never pss_nil)
   (pss_cons (ps_set (i := 2) scMade.nd rfl (Or.inl rfl) (pe_cl CG hr rfl (pa_cons (pv 0) (pa_cons (pv 1) pa_nil))))
   (pss_one (ps_ret (pe_tup (pa_cons (pe_op op_fdivS (pv 0) (pv 2)) (pa_cons (pe_op op_fdivS (pv 1) (pv 2)) pa_nil))))))), ?_⟩
  refine ⟨_, rfl, a, rfl, _, rfl, iteF ?_⟩
  refine ⟨_, rfl, b, rfl, _, rfl, iteF ?_⟩
  refine ⟨_, rfl, _, _, rfl, rfl, _, rfl, iteN (by omega) ?_⟩
  refine ⟨_, rfl, _, _, rfl, rfl, _, rfl, iteN (by omega) ?_⟩
  have gp := G_pos (a := a) hb
  have gS : Sm (G a b) := hS.mono (by have := G_le (a := a) hb; omega)
  refine ⟨_, rfl, _, rfl, a, b, rfl, ha, Int.le_of_lt hb, ?_⟩
  exact ⟨_, rfl, _, rfl, _, _, rfl, rfl, ⟨gp, gS⟩, _, rfl, _, rfl, _, _, rfl, rfl, ⟨gp, gS⟩, (by show 2 ≤ sizeLine; decide), fun p hp => k p hp⟩
theorem madeQ : ∀ vs H Q E, spMadeQ K vs H Q E → spMade vs H Q E := by
 rintro vs H Q E ⟨a, b, rfl, ha, hb, hS, k⟩
 refine ⟨a, b, rfl, ha, hb, hS, fun p hp => k _ _ (Same.upd hp) ?_⟩
 obtain ⟨e1, e2⟩ := low_fr (a := a) hb
 exact .of sqT_new e1 e2
theorem two_op {f g : Int → Int → Int → Int → Int} {F : Rat → Rat → Rat} {c : Rat → Rat → Prop}
  (h : ∀ q r : Rat, Fit q → Fit r → c q r → (0 ≤ f q.num q.den r.num r.den ∧ 0 < g q.num q.den r.num r.den ∧ Sm (g q.num q.den r.num r.den)) ∧ ((f q.num q.den r.num r.den : Int) : Rat) / ((g q.num q.den r.num r.den : Int) : Rat) = F q r) :
  ∀ vs H Q E, spOp K F c vs H Q E → spTwo K f g vs H Q E := by
 rintro vs H Q E ⟨x, y, q, r, rfl, hx, hy, fq, fr, hc, k⟩
 obtain ⟨p1, rfl, h1⟩ := hx.sq
 obtain ⟨p2, rfl, h2⟩ := hy.sq
 obtain ⟨e1, e2⟩ := h q r fq fr hc
 refine ⟨p1, p2, _, _, _, _, rfl, h1, h2, ⟨fq.s1, fq.s2, fr.s1, fr.s2⟩, e1, fun p hp => k _ _ (Same.upd hp) ?_⟩
 obtain ⟨l1, l2⟩ := low_fr (a := f q.num q.den r.num r.den) e1.2.1
 rw [e2] at l1 l2
 exact .of sqT_new l1 l2
theorem low_nn {q r : Rat} (h1 : Fit q) (h2 : Fit r) : 0 < (q.den : Int) * (r.den : Int) := Int.mul_pos (den_pos q) (den_pos r)
theorem sum_op : ∀ vs H Q E, spPlus K vs H Q E → spTwo K (fun a b c d => a * d + c * b) (fun _ b _ d => b * d) vs H Q E :=
 two_op fun q r h1 h2 _ => ⟨⟨Int.add_nonneg (Int.mul_nonneg h1.nn (Int.le_of_lt (den_pos r))) (Int.mul_nonneg h2.nn (Int.le_of_lt (den_pos q))), low_nn h1 h2, h1.dd h2⟩, plus_fr q r⟩
theorem left_op : ∀ vs H Q E, spMinus K vs H Q E → spTwo K (fun a b c d => a * d - c * b) (fun _ b _ d => b * d) vs H Q E :=
 two_op fun q r h1 h2 h3 => ⟨⟨by
  have := (Rat.le_iff r q).mp h3
  omega, low_nn h1 h2, h1.dd h2⟩, minus_fr q r⟩
theorem times_op : ∀ vs H Q E, spTimes K vs H Q E → spTwo K (fun a _ c _ => a * c) (fun _ b _ d => b * d) vs H Q E :=
 two_op fun q r h1 h2 _ => ⟨⟨Int.mul_nonneg h1.nn h2.nn, low_nn h1 h2, h1.dd h2⟩, times_fr q r⟩
theorem over_op : ∀ vs H Q E, spOver K vs H Q E → spTwo K (fun a _ _ d => a * d) (fun _ b c _ => b * c) vs H Q E :=
 two_op fun q r h1 h2 h3 => ⟨⟨Int.mul_nonneg h1.nn (Int.le_of_lt (den_pos r)), Int.mul_pos (den_pos q) (num_pos h3), h1.dn h2⟩, over_fr h3⟩
theorem scPlus : FnScope ["one", "other"] ["one", "other"] (defScope s_plus) := ⟨rfl, rfl, rfl, by decide +kernel, rfl, by decide +kernel, by decide +kernel⟩
theorem scMinus : FnScope ["one", "other"] ["one", "other"] (defScope s_minus) := ⟨rfl, rfl, rfl, by decide +kernel, rfl, by decide +kernel, by decide +kernel⟩
theorem scTimes : FnScope ["one", "other"] ["one", "other"] (defScope s_times) := ⟨rfl, rfl, rfl, by decide +kernel, rfl, by decide +kernel, by decide +kernel⟩
theorem scOver : FnScope ["one", "other"] ["one", "other"] (defScope s_over) := ⟨rfl, rfl, rfl, by decide +kernel, rfl, by decide +kernel, by decide +kernel⟩
theorem scBelow : FnScope ["one", "other"] ["one", "other"] (defScope s_below) := ⟨rfl, rfl, rfl, by decide +kernel, rfl, by decide +kernel, by decide +kernel⟩
theorem ok_plus {f : Addr} {fd : FuncData} (D : DefAt K mg "plus" s_plus ["one", "other"] f fd) (CM : Cl P w K mg base "made" 2 ["a", "b"] spMade) :
  FnOk P w K mg base CX0 3 f fd ["one", "other"] (spPlus K) := by
 refine FnOk.imp (sp := spTwo K (fun a b c d => a * d + c * b) (fun _ b _ d => b * d)) ?_ sum_op
 refine D.fn.ok scPlus (fun vs H Q E h => ?_) (fun cdv A outer s H vs Q E hr h => ?_)
 ·obtain ⟨p, q, a, b, c, d, rfl, _⟩ := h
  rfl
 ·obtain ⟨p, q, a, b, c, d, rfl, hp, hq, ⟨sa, sb, sc, sd⟩, ⟨n1, n2, n3⟩, k⟩ := h
  refine ⟨_, pss_one (ps_ret (pe_cl CM hr rfl
   (pa_cons (pe_op op_add (pe_op op_mulS (pe_ix ix_tup (pv 0) pe_int (fun _ _ => rfl)) (pe_ix ix_tup (pv 1) pe_int (fun _ _ => rfl))) (pe_op op_mulS (pe_ix ix_tup (pv 1) pe_int (fun _ _ => rfl)) (pe_ix ix_tup (pv 0) pe_int (fun _ _ => rfl))))
   (pa_cons (pe_op op_mulS (pe_ix ix_tup (pv 0) pe_int (fun _ _ => rfl)) (pe_ix ix_tup (pv 1) pe_int (fun _ _ => rfl))) pa_nil)))), ?_⟩
  refine ⟨_, rfl, p, _, _, _, rfl, rfl, hp, rfl, _, rfl, q, _, _, _, rfl, rfl, hq, rfl, _, _, rfl, rfl, ⟨sa, sd⟩, ?_⟩
  refine ⟨_, rfl, q, _, _, _, rfl, rfl, hq, rfl, _, rfl, p, _, _, _, rfl, rfl, hp, rfl, _, _, rfl, rfl, ⟨sc, sb⟩, _, _, rfl, rfl, ?_⟩
  refine ⟨_, rfl, p, _, _, _, rfl, rfl, hp, rfl, _, rfl, q, _, _, _, rfl, rfl, hq, rfl, _, _, rfl, rfl, ⟨sb, sd⟩, ?_⟩
  exact ⟨_, _, rfl, n1, n2, n3, k⟩
theorem ok_minus {f : Addr} {fd : FuncData} (D : DefAt K mg "minus" s_minus ["one", "other"] f fd) (CM : Cl P w K mg base "made" 2 ["a", "b"] spMade) :
  FnOk P w K mg base CX0 3 f fd ["one", "other"] (spMinus K) := by
 refine FnOk.imp (sp := spTwo K (fun a b c d => a * d - c * b) (fun _ b _ d => b * d)) ?_ left_op
 refine D.fn.ok scMinus (fun vs H Q E h => ?_) (fun cdv A outer s H vs Q E hr h => ?_)
 ·obtain ⟨p, q, a, b, c, d, rfl, _⟩ := h
  rfl
 ·obtain ⟨p, q, a, b, c, d, rfl, hp, hq, ⟨sa, sb, sc, sd⟩, ⟨n1, n2, n3⟩, k⟩ := h
  refine ⟨_, pss_one (ps_ret (pe_cl CM hr rfl
   (pa_cons (pe_op op_sub (pe_op op_mulS (pe_ix ix_tup (pv 0) pe_int (fun _ _ => rfl)) (pe_ix ix_tup (pv 1) pe_int (fun _ _ => rfl))) (pe_op op_mulS (pe_ix ix_tup (pv 1) pe_int (fun _ _ => rfl)) (pe_ix ix_tup (pv 0) pe_int (fun _ _ => rfl))))
   (pa_cons (pe_op op_mulS (pe_ix ix_tup (pv 0) pe_int (fun _ _ => rfl)) (pe_ix ix_tup (pv 1) pe_int (fun _ _ => rfl))) pa_nil)))), ?_⟩
  refine ⟨_, rfl, p, _, _, _, rfl, rfl, hp, rfl, _, rfl, q, _, _, _, rfl, rfl, hq, rfl, _, _, rfl, rfl, ⟨sa, sd⟩, ?_⟩
  refine ⟨_, rfl, q, _, _, _, rfl, rfl, hq, rfl, _, rfl, p, _, _, _, rfl, rfl, hp, rfl, _, _, rfl, rfl, ⟨sc, sb⟩, _, _, rfl, rfl, ?_⟩
  refine ⟨_, rfl, p, _, _, _, rfl, rfl, hp, rfl, _, rfl, q, _, _, _, rfl, rfl, hq, rfl, _, _, rfl, rfl, ⟨sb, sd⟩, ?_⟩
  exact ⟨_, _, rfl, n1, n2, n3, k⟩
theorem ok_times {f : Addr} {fd : FuncData} (D : DefAt K mg "times" s_times ["one", "other"] f fd) (CM : Cl P w K mg base "made" 2 ["a", "b"] spMade) :
  FnOk P w K mg base CX0 3 f fd ["one", "other"] (spTimes K) := by
 refine FnOk.imp (sp := spTwo K (fun a _ c _ => a * c) (fun _ b _ d => b * d)) ?_ times_op
 refine D.fn.ok scTimes (fun vs H Q E h => ?_) (fun cdv A outer s H vs Q E hr h => ?_)
 ·obtain ⟨p, q, a, b, c, d, rfl, _⟩ := h
  rfl
 ·obtain ⟨p, q, a, b, c, d, rfl, hp, hq, ⟨sa, sb, sc, sd⟩, ⟨n1, n2, n3⟩, k⟩ := h
  refine ⟨_, pss_one (ps_ret (pe_cl CM hr rfl
   (pa_cons (pe_op op_mulS (pe_ix ix_tup (pv 0) pe_int (fun _ _ => rfl)) (pe_ix ix_tup (pv 1) pe_int (fun _ _ => rfl)))
   (pa_cons (pe_op op_mulS (pe_ix ix_tup (pv 0) pe_int (fun _ _ => rfl)) (pe_ix ix_tup (pv 1) pe_int (fun _ _ => rfl))) pa_nil)))), ?_⟩
  refine ⟨_, rfl, p, _, _, _, rfl, rfl, hp, rfl, _, rfl, q, _, _, _, rfl, rfl, hq, rfl, _, _, rfl, rfl, ⟨sa, sc⟩, ?_⟩
  refine ⟨_, rfl, p, _, _, _, rfl, rfl, hp, rfl, _, rfl, q, _, _, _, rfl, rfl, hq, rfl, _, _, rfl, rfl, ⟨sb, sd⟩, ?_⟩
  exact ⟨_, _, rfl, n1, n2, n3, k⟩
theorem ok_over {f : Addr} {fd : FuncData} (D : DefAt K mg "over" s_over ["one", "other"] f fd) (CM : Cl P w K mg base "made" 2 ["a", "b"] spMade) :
  FnOk P w K mg base CX0 3 f fd ["one", "other"] (spOver K) := by
 refine FnOk.imp (sp := spTwo K (fun a _ _ d => a * d) (fun _ b c _ => b * c)) ?_ over_op
 refine D.fn.ok scOver (fun vs H Q E h => ?_) (fun cdv A outer s H vs Q E hr h => ?_)
 ·obtain ⟨p, q, a, b, c, d, rfl, _⟩ := h
  rfl
 ·obtain ⟨p, q, a, b, c, d, rfl, hp, hq, ⟨sa, sb, sc, sd⟩, ⟨n1, n2, n3⟩, k⟩ := h
  refine ⟨_, pss_one (ps_ret (pe_cl CM hr rfl
   (pa_cons (pe_op op_mulS (pe_ix ix_tup (pv 0) pe_int (fun _ _ => rfl)) (pe_ix ix_tup (pv 1) pe_int (fun _ _ => rfl)))
   (pa_cons (pe_op op_mulS (pe_ix ix_tup (pv 0) pe_int (fun _ _ => rfl)) (pe_ix ix_tup (pv 1) pe_int (fun _ _ => rfl))) pa_nil)))), ?_⟩
  refine ⟨_, rfl, p, _, _, _, rfl, rfl, hp, rfl, _, rfl, q, _, _, _, rfl, rfl, hq, rfl, _, _, rfl, rfl, ⟨sa, sd⟩, ?_⟩
  refine ⟨_, rfl, p, _, _, _, rfl, rfl, hp, rfl, _, rfl, q, _, _, _, rfl, rfl, hq, rfl, _, _, rfl, rfl, ⟨sb, sc⟩, ?_⟩
  exact ⟨_, _, rfl, n1, n2, n3, k⟩
theorem ok_below {f : Addr} {fd : FuncData} (D : DefAt K mg "below" s_below ["one", "other"] f fd) : FnOk P w K mg base CX0 1 f fd ["one", "other"] (spBelow K) := by
 refine D.fn.ok scBelow (fun vs H Q E h => ?_) (fun cdv A outer s H vs Q E hr h => ?_)
 ·obtain ⟨x, y, q, r, rfl, _⟩ := h
  rfl
 ·obtain ⟨x, y, u, v, rfl, hx, hy, fu, fv, k⟩ := h
  obtain ⟨p, rfl, hp⟩ := hx.sq
  obtain ⟨q, rfl, hq⟩ := hy.sq
  refine ⟨_, pss_one (ps_ret (pe_cmpR op_lt (pe_op op_mulS (pe_ix ix_tup (pv 0) pe_int (fun _ _ => rfl)) (pe_ix ix_tup (pv 1) pe_int (fun _ _ => rfl))) (pe_op op_mulS (pe_ix ix_tup (pv 1) pe_int (fun _ _ => rfl)) (pe_ix ix_tup (pv 0) pe_int (fun _ _ => rfl))) (nomark _))), ?_⟩
  refine ⟨_, rfl, p, _, _, _, rfl, rfl, hp, rfl, _, rfl, q, _, _, _, rfl, rfl, hq, rfl, _, _, rfl, rfl, ⟨fu.s1, fv.s2⟩, ?_⟩
  refine ⟨_, rfl, q, _, _, _, rfl, rfl, hq, rfl, _, rfl, p, _, _, _, rfl, rfl, hp, rfl, _, _, rfl, rfl, ⟨fv.s1, fu.s2⟩, _, _, rfl, rfl, ?_⟩
  rw [decide_eq_decide.mpr (Rat.lt_iff u v)] at k
  exact k
theorem scFrac : FnScope ["thing", "a", "b"] ["thing"] (defScope s_is_fraction) := ⟨rfl, rfl, rfl, by decide +kernel, rfl, by decide +kernel, by decide +kernel⟩
theorem ok_frac {f : Addr} {fd : FuncData} (D : DefAt K mg "is_fraction" s_is_fraction ["thing"] f fd) (CW : Cl P w K mg base "is_whole" 1 ["thing"] spWhole) (CG : Cl P w K mg base "greatest_divisor" 1 ["a", "b"] spGcd) (T : Txt K mg aL aR) :
  FnOk P w K mg base CX0 2 f fd ["thing"] (spFrac K) := by
 refine D.fn.ok scFrac (fun vs H Q E h => ?_) (fun cdv A outer s H vs Q E hr h => ?_)
 ·obtain ⟨x, q, rfl, _⟩ := h
  rfl
 ·obtain ⟨x, q, rfl, hx, h0, k⟩ := h
  obtain ⟨p, rfl, hp⟩ := hx.sq
  have ha := num_nn h0
  have hb := den_pos q
  refine ⟨_, pss_cons (ps_if (PW.pt (pw_or (pt_not (pt_val (pe_isi (pv 0) rfl T.isi rfl T.tuple PyProof.Rows.boot_tuple))) (pw_or1 (pt_cmpR op_ne (pe_callB call_len_seq (by rfl) T.len PySem.boot_len (pa_cons (pv 0) pa_nil)) pe_int (nomark _))))) pss_never pss_nil)
   (pss_cons (ps_set (i := 1) scFrac.nd rfl (Or.inl rfl) (pe_ix ix_tup (pv 0) pe_int (fun _ _ => rfl)))
   (pss_cons (ps_set (i := 2) scFrac.nd rfl (Or.inl rfl) (pe_ix ix_tup (pv 0) pe_int (fun _ _ => rfl)))
   (pss_cons (ps_if (PW.pt (pw_or (pt_not (pt_val (pe_cl CW hr rfl (pa_cons (pv 1) pa_nil)))) (pw_or (pt_not (pt_val (pe_cl CW hr rfl (pa_cons (pv 2) pa_nil))))
    (pw_or (pt_cmpR op_lt (pv 1) pe_int (nomark _)) (pw_or1 (pt_cmpR op_lt (pv 2) pe_int (nomark _))))))) pss_never pss_nil)
   (pss_one (ps_ret (pe_cmpR op_eq (pe_cl CG hr rfl (pa_cons (pv 1) (pa_cons (pv 2) pa_nil))) pe_int (nomark _))))))), ?_⟩
  refine ⟨_, rfl, _, _, .sqT hp, kit_tuple _, _, rfl, iteF ?_⟩
  refine ⟨_, rfl, p, _, rfl, .inr hp, rfl, _, rfl, iteNS rfl ?_⟩
  refine ⟨_, rfl, p, _, _, _, rfl, rfl, hp, rfl, _, rfl, p, _, _, _, rfl, rfl, hp, rfl, ?_⟩
  refine ⟨_, rfl, q.num, rfl, _, rfl, iteF ?_⟩
  refine ⟨_, rfl, (q.den : Int), rfl, _, rfl, iteF ?_⟩
  refine ⟨_, rfl, _, _, rfl, rfl, _, rfl, iteN (by omega) ?_⟩
  refine ⟨_, rfl, _, _, rfl, rfl, _, rfl, iteN (by omega) ?_⟩
  refine ⟨_, rfl, _, rfl, q.num, (q.den : Int), rfl, ha, Int.le_of_lt hb, rfl, ?_⟩
  have e : decide (V.int (G q.num q.den) = V.int 1) = true := decide_eq_true (by rw [fr_cop])
  rw [e]
  exact k
end
end FQ
namespace FQ
open PySem L2 FK
abbrev cx (P : Program) (w : World) (K : PySem.W.Frag) (mg : Str → Option Value) (base : Heap) (N : List Str) (q : Str) (st : Stmt) (f : Addr) (cdv : Value) (A : Around) (outer : List Env) (s : Shared) (H : Hp) (E : XK) : Cx := (cxOf CX0 P w K mg base N q (defScope st) f cdv A outer s H E).nox
def Ft (n : Nat) (q : Rat) : Prop := 0 ≤ q ∧ Bd n q
theorem Ft.fit {n : Nat} {q : Rat} (h : Ft n q) (hn : n ≤ 1900 := by decide) : Fit q := ⟨h.1, h.2.mono hn⟩
section
variable {P : Program} {w : World} {K : PySem.W.Frag} {mg : Str → Option Value} {base : Heap} {aL aR : Addr}
structure Four (P : Program) (w : World) (K : PySem.W.Frag) (mg : Str → Option Value) (base : Heap) : Prop where
 plus : Cl P w K mg base "plus" 3 ["one", "other"] (spPlus K)
 minus : Cl P w K mg base "minus" 3 ["one", "other"] (spMinus K)
 times : Cl P w K mg base "times" 3 ["one", "other"] (spTimes K)
 over : Cl P w K mg base "over" 3 ["one", "other"] (spOver K)
 below : Cl P w K mg base "below" 1 ["one", "other"] (spBelow K)
end
end FQ
namespace FQ
open PySem L2 FK
structure DOk (D : Nat) : Prop where
 pos : 0 < D
 few : D < 2 ^ 220
structure PcOk (D : Nat) (L : List (Rat × Rat)) : Prop where
 d : DOk D
 win : ∀ p ∈ L, 0 ≤ p.1 ∧ p.1 < p.2 ∧ p.2 ≤ 1
 apart : L.Pairwise fun a b => a.2 < b.1
 gr : ∀ p ∈ L, Gr D p.1 ∧ Gr D p.2
 few : L.length ≤ 1000
theorem DOk.bd {D : Nat} (h : DOk D) {q : Rat} (g : Gr D q) (h0 : 0 ≤ q) (h1 : q ≤ 1) : Bd 250 q :=
 (g.bd (n := 220) h.pos h0 (m := 1) (by rw [show ((1 : Nat) : Rat) = 1 from rfl]; exact h1) (by rw [Nat.one_mul]; exact h.few) h.few).mono (by decide)
theorem PcOk.fit {D : Nat} {L : List (Rat × Rat)} (h : PcOk D L) (p : Rat × Rat) (hp : p ∈ L) : Bd 250 p.1 ∧ Bd 250 p.2 := by
 have w := h.win p hp
 have g := h.gr p hp
 exact ⟨h.d.bd g.1 w.1 (by grind), h.d.bd g.2 (by grind) w.2.2⟩
def spSpan (K : PySem.W.Frag) : Sp := fun vs H Q _ => ∃ (x : V) (p : Rat × Rat), vs = [x] ∧ CoQ K H x p ∧ (0 ≤ p.1 ∧ p.1 < p.2 ∧ p.2 ≤ 1) ∧ (Bd 250 p.1 ∧ Bd 250 p.2) ∧ Q (.bl true) H
def spCheck (K : PySem.W.Frag) : Sp := fun vs H Q _ => ∃ (a : Addr) (xs : List V) (D : Nat) (L : List (Rat × Rat)), vs = [.ref a] ∧ SqL K H a xs ∧ Paired (CoQ K H) xs L ∧ PcOk D L ∧ Q .non H
abbrev StQ (K : PySem.W.Frag) := rpPair K (FrQ K) rpInt
theorem StQ.same {K : PySem.W.Frag} {H H' : Hp} {x : V} {d : Rat × Int} (s : Same H H') (h : StQ K H x d) : StQ K H' x d := by
 obtain ⟨p, y, z, rfl, q, h1, h2⟩ := h
 exact ⟨p, y, z, rfl, s.sqT q, h1.same s, h2⟩
theorem FrQ.keep {K : PySem.W.Frag} {H H' : Hp} {x : V} {q : Rat} (s : Keep H H') (h : FrQ K H x q) : FrQ K H' x q := s.fr h
theorem CoQ.keep {K : PySem.W.Frag} {H H' : Hp} {x : V} {d : Rat × Rat} (s : Keep H H') (h : CoQ K H x d) : CoQ K H' x d := by
 obtain ⟨p, y, z, rfl, q, h1, h2⟩ := h
 exact ⟨p, y, z, rfl, s.sqT q, h1.keep s, h2.keep s⟩
theorem StQ.keep {K : PySem.W.Frag} {H H' : Hp} {x : V} {d : Rat × Int} (s : Keep H H') (h : StQ K H x d) : StQ K H' x d := by
 obtain ⟨p, y, z, rfl, q, h1, h2⟩ := h
 exact ⟨p, y, z, rfl, s.sqT q, h1.keep s, h2⟩
structure TxtT (mg : Str → Option Value) : Prop where
 most : ∃ t, mg "MOST_STEPS" = some (.int 8 t)
 second : ∃ t, mg "GREATEST_SECOND_NUMBER" = some (.int 1000 t)
 weight : ∃ t, mg "GREATEST_WEIGHT" = some (.int 1000 t)
def spStep (K : PySem.W.Frag) : Sp := fun vs H Q _ => ∃ (x : V) (z : Rat × Int), vs = [x] ∧ StQ K H x z ∧ 0 ≤ z.1 ∧ z.1.den ≤ 1000 ∧ 1 ≤ z.2 ∧ z.2 ≤ 1000 ∧ Q .non H
def spSteps (K : PySem.W.Frag) : Sp := fun vs H Q _ => ∃ (a : Addr) (xs : List V) (p : Nat) (S : Steps), vs = [.ref a] ∧ SqL K H a xs ∧ Paired (StQ K H) xs S ∧ TsOk p S ∧ Q .non H
def spLine (K : PySem.W.Frag) : Sp := fun vs H Q _ => ∃ (a : Addr) (xs : List V) (p : Nat) (S : Steps), vs = [.ref a] ∧ SqL K H a xs ∧ Paired (StQ K H) xs S ∧ TsOk p S ∧
 ∀ (r : Addr) (ys : List V) (H' : Hp), Same H H' → H r = none → H' r = some (.lst ys) → Paired (CoQ K H') ys (wl S) → Q (.ref r) H'
theorem gr_den {D : Nat} {q : Rat} (h : Gr D q) (hD : 0 < D) : q.den ≤ D := by
 obtain ⟨n, hn⟩ := h
 have e : q = ((n : Rat) / ((D : Int) : Rat)) := by
  rw [Rat.intCast_natCast, ← hn]
  have := nat_ne hD
  grind
 obtain ⟨_, e2⟩ := low_fr (a := n) (b := (D : Int)) (by omega)
 rw [← e] at e2
 have := hi_le (a := n) (b := (D : Int)) (by omega)
 omega
section
variable {P : Program} {w : World} {K : PySem.W.Frag} {mg : Str → Option Value} {base : Heap} {aL aR : Addr}
theorem scSpan : FnScope ["thing"] ["thing"] (defScope s_is_span) := ⟨rfl, rfl, rfl, by decide +kernel, rfl, by decide +kernel, by decide +kernel⟩
theorem ok_span {f : Addr} {fd : FuncData} (D : DefAt K mg "is_span" s_is_span ["thing"] f fd) (CF : Cl P w K mg base "is_fraction" 2 ["thing"] (spFrac K)) (CB : Cl P w K mg base "below" 1 ["one", "other"] (spBelow K)) (T : Txt K mg aL aR) :
  FnOk P w K mg base CX0 3 f fd ["thing"] (spSpan K) := by
 refine D.fn.ok scSpan (fun vs H Q E h => ?_) (fun cdv A outer s H vs Q E hr h => ?_)
 ·obtain ⟨x, q, rfl, _⟩ := h
  rfl
 ·obtain ⟨x, q, rfl, ⟨p, y, z, rfl, hp, hy, hz⟩, ⟨w0, w1, w2⟩, ⟨b1, b2⟩, k⟩ := h
  have hr1 : Room 1 _ := hr.mono (by decide)
  have n2 : 0 ≤ q.2 := by grind
  have f1 : Fit q.1 := Bd.fit b1 w0 (by decide)
  have f2 : Fit q.2 := Bd.fit b2 n2 (by decide)
  refine ⟨_, pss_cons (ps_if (PW.pt (pw_or (pt_not (pt_val (pe_isi (pv 0) rfl T.isi rfl T.tuple PyProof.Rows.boot_tuple))) (pw_or1 (pt_cmpR op_ne (pe_callB call_len_seq (by rfl) T.len PySem.boot_len (pa_cons (pv 0) pa_nil)) pe_int (nomark _))))) pss_never pss_nil)
   (pss_cons (ps_if (PW.pt (pw_or (pt_not (pt_val (pe_cl CF hr rfl (pa_cons (pe_ix ix_tup (pv 0) pe_int (fun _ _ => rfl)) pa_nil)))) (pw_or1 (pt_not (pt_val (pe_cl CF hr rfl (pa_cons (pe_ix ix_tup (pv 0) pe_int (fun _ _ => rfl)) pa_nil))))))) pss_never pss_nil)
   (pss_one (ps_ret (pe_and (pe_cl CB hr1 rfl (pa_cons (pe_ix ix_tup (pv 0) pe_int (fun _ _ => rfl)) (pa_cons (pe_ix ix_tup (pv 0) pe_int (fun _ _ => rfl)) pa_nil)))
    (pe_one (pe_not (pe_cl CB hr1 rfl (pa_cons (pe_glob (v := .ref aR) rfl T.right rfl) (pa_cons (pe_ix ix_tup (pv 0) pe_int (fun _ _ => rfl)) pa_nil))))))))), ?_⟩
  refine ⟨_, rfl, _, _, .sqT hp, kit_tuple _, _, rfl, iteF ?_⟩
  refine ⟨_, rfl, p, _, rfl, .inr hp, rfl, _, rfl, iteNS rfl ?_⟩
  refine ⟨_, rfl, p, _, _, _, rfl, rfl, hp, rfl, y, q.1, rfl, hy, w0, _, rfl, iteF ?_⟩
  refine ⟨_, rfl, p, _, _, _, rfl, rfl, hp, rfl, z, q.2, rfl, hz, n2, _, rfl, iteF ?_⟩
  refine ⟨_, rfl, p, _, _, _, rfl, rfl, hp, rfl, _, rfl, p, _, _, _, rfl, rfl, hp, rfl, y, z, q.1, q.2, rfl, hy, hz, f1, f2, _, rfl, ?_⟩
  refine iteY w1 ?_
  refine ⟨_, rfl, p, _, _, _, rfl, rfl, hp, rfl, .ref aR, z, 1, q.2, rfl, T.r H, hz, Fit.one, f2, _, rfl, ?_⟩
  rw [decide_eq_false (show ¬ (1 : Rat) < q.2 by grind)]
  exact k
theorem scCheck : FnScope ["piece", "reached", "span"] ["piece"] (defScope s_check_piece) := ⟨rfl, rfl, rfl, by decide +kernel, rfl, by decide +kernel, by decide +kernel⟩
theorem ok_check {f : Addr} {fd : FuncData} (D : DefAt K mg "check_piece" s_check_piece ["piece"] f fd) (CS : Cl P w K mg base "is_span" 3 ["thing"] (spSpan K)) (CB : Cl P w K mg base "below" 1 ["one", "other"] (spBelow K)) (T : Txt K mg aL aR) :
  FnOk P w K mg base CX0 4 f fd ["piece"] (spCheck K) := by
 refine D.fn.ok scCheck (fun vs H Q E h => ?_) (fun cdv A outer s H vs Q E hr h => ?_)
 ·obtain ⟨p, xs, D, L, rfl, _⟩ := h
  rfl
 ·obtain ⟨p, xs, D, L, rfl, hp, hL, hG, k⟩ := h
  have hr1 : Room 1 _ := hr.mono (by decide)
  refine ⟨_, pss_cons (ps_if (pt_not (pt_val (pe_isi (pv 0) rfl T.isi rfl T.list PyProof.Rows.boot_list))) pss_never pss_nil)
   (pss_cons (ps_set (i := 1) scCheck.nd rfl (Or.inl rfl) pe_non)
   (pss_one (ps_for PassesOwn.never rfl (pi_list (pv 0)) (pg_name (i := 2) scCheck.nd rfl (Or.inl rfl))
    (pss_cons (ps_if (pt_not (pt_val (pe_cl CS hr rfl (pa_cons (pv 2) pa_nil)))) pss_never pss_nil)
    (pss_cons (ps_if (PW.pt (pw_and (pt_cmpR op_notN (pv 1) pe_non (nomark _)) (pw_and1 (pt_not (pt_val (pe_cl CB hr1 rfl (pa_cons (pv 1) (pa_cons (pe_ix ix_tup (pv 2) pe_int (fun _ _ => rfl)) pa_nil)))))))) pss_never pss_nil)
    (pss_one (ps_set (i := 1) scCheck.nd rfl (Or.inl rfl) (pe_ix ix_tup (pv 2) pe_int (fun _ _ => rfl))))))))), ?_⟩
  refine ⟨_, rfl, _, _, .sqL hp, kit_list _, _, rfl, iteF ?_⟩
  refine ⟨_, rfl, p, rfl, ⟨_, hp⟩, ?_⟩
  refine for_list (K := K) (a := p) (xs := xs) (fun i σ H' => H' = H ∧ ∃ (r : V) (sp : Option V), σ = [some (.ref p), some r, sp] ∧ ((i = 0 ∧ r = .non) ∨ ∃ j q, i = j + 1 ∧ L[j]? = some q ∧ FrQ K H r q.2))
   ⟨rfl, _, _, rfl, .inl ⟨rfl, rfl⟩⟩ (fun i σ H' _ h => by rw [h.1]; exact hp) ?_ ?_
  ·rintro i x σ H' hx ⟨rfl, r, sp, rfl, hR⟩
   obtain ⟨q, hq, hs⟩ := Paired.get1 hL i x hx
   obtain ⟨p0, y, z, rfl, hp0, hy, hz⟩ := id hs
   have wq := hG.win q (List.mem_of_getElem? hq)
   have fq := hG.fit q (List.mem_of_getElem? hq)
   refine ⟨_, rfl, _, q, rfl, hs, wq, fq, _, rfl, iteF ?_⟩
   have fin : H' = H' ∧ ∃ (r : V) (sp : Option V), [some (V.ref p), some z, some (V.ref p0)] = [some (.ref p), some r, sp] ∧ ((i + 1 = 0 ∧ r = .non) ∨ ∃ j q, i + 1 = j + 1 ∧ L[j]? = some q ∧ FrQ K H' r q.2) :=
    ⟨rfl, z, _, rfl, .inr ⟨i, q, rfl, hq, hz⟩⟩
   refine ⟨_, rfl, rfl, _, rfl, ?_⟩
   rcases hR with ⟨_, rfl⟩ | ⟨j, q0, hj, hq0, hr0⟩
   ·refine iteNS rfl (iteF ?_)
    exact ⟨_, rfl, p0, _, _, _, rfl, rfl, hp0, rfl, fin⟩
   ·have w0 := hG.win q0 (List.mem_of_getElem? hq0)
    have f0 := hG.fit q0 (List.mem_of_getElem? hq0)
    have ap : q0.2 < q.1 := by
     obtain ⟨l1, e1⟩ := List.getElem?_eq_some_iff.mp hq0
     obtain ⟨l2, e2⟩ := List.getElem?_eq_some_iff.mp hq
     have := List.pairwise_iff_getElem.mp hG.apart j i l1 l2 (by omega)
     rw [e1, e2] at this
     exact this
    obtain ⟨p2, rfl, h2⟩ := hr0.sq
    refine iteNN (fun z => nomatch z) ?_
    refine ⟨_, rfl, _, rfl, p0, _, _, _, rfl, rfl, hp0, rfl, .ref p2, y, q0.2, q.1, rfl, hr0, hy, Bd.fit f0.2 (by grind) (by decide), Bd.fit fq.1 wq.1 (by decide), _, rfl, ?_⟩
    refine iteNS ap ?_
    exact ⟨_, rfl, p0, _, _, _, rfl, rfl, hp0, rfl, fin⟩
  ·rintro σ H' ⟨rfl, r, sp, rfl, _⟩
   exact k
theorem scStep : FnScope ["step"] ["step"] (defScope s_check_step) := ⟨rfl, rfl, rfl, by decide +kernel, rfl, by decide +kernel, by decide +kernel⟩
theorem ok_step {f : Addr} {fd : FuncData} (D : DefAt K mg "check_step" s_check_step ["step"] f fd) (CF : Cl P w K mg base "is_fraction" 2 ["thing"] (spFrac K)) (CW : Cl P w K mg base "is_whole" 1 ["thing"] spWhole) (T : Txt K mg aL aR) (TT : TxtT mg) :
  FnOk P w K mg base CX0 3 f fd ["step"] (spStep K) := by
 obtain ⟨t2, e2⟩ := TT.second
 obtain ⟨t3, e3⟩ := TT.weight
 refine D.fn.ok scStep (fun vs H Q E h => ?_) (fun cdv A outer s H vs Q E hr h => ?_)
 ·obtain ⟨x, q, rfl, _⟩ := h
  rfl
 ·obtain ⟨x, q, rfl, ⟨p, y, z, rfl, hp, hy, hz⟩, h0, hd, w1, w2, k⟩ := h
  cases (show z = .int q.2 from hz)
  obtain ⟨p1, rfl, h1⟩ := hy.sq
  have hr1 : Room 1 _ := hr.mono (by decide)
  refine ⟨_, pss_cons (ps_if (PW.pt (pw_or (pt_not (pt_val (pe_isi (pv 0) rfl T.isi rfl T.tuple PyProof.Rows.boot_tuple))) (pw_or1 (pt_cmpR op_ne (pe_callB call_len_seq (by rfl) T.len PySem.boot_len (pa_cons (pv 0) pa_nil)) pe_int (nomark _))))) pss_never pss_nil)
   (pss_cons (ps_if (PW.pt (pw_or (pt_not (pt_val (pe_cl CF hr rfl (pa_cons (pe_ix ix_tup (pv 0) pe_int (fun _ _ => rfl)) pa_nil)))) (pw_or1 (pt_cmpR op_gt (pe_ix ix_tup (pe_ix ix_tup (pv 0) pe_int (fun _ _ => rfl)) pe_int (fun _ _ => rfl)) (pe_glob (v := .int 1000) rfl e2 ⟨_, rfl⟩) (nomark _))))) pss_never pss_nil)
   (pss_one (ps_if (PW.pt (pw_or (pt_not (pt_val (pe_cl CW hr1 rfl (pa_cons (pe_ix ix_tup (pv 0) pe_int (fun _ _ => rfl)) pa_nil)))) (pw_or (pt_cmpR op_lt (pe_ix ix_tup (pv 0) pe_int (fun _ _ => rfl)) pe_int (nomark _)) (pw_or1 (pt_cmpR op_gt (pe_ix ix_tup (pv 0) pe_int (fun _ _ => rfl)) (pe_glob (v := .int 1000) rfl e3 ⟨_, rfl⟩) (nomark _)))))) pss_never pss_nil))), ?_⟩
  refine ⟨_, rfl, _, _, .sqT hp, kit_tuple _, _, rfl, iteF ?_⟩
  refine ⟨_, rfl, p, _, rfl, .inr hp, rfl, _, rfl, iteNS rfl ?_⟩
  refine ⟨_, rfl, p, _, _, _, rfl, rfl, hp, rfl, .ref p1, q.1, rfl, hy, h0, _, rfl, iteF ?_⟩
  refine ⟨_, rfl, p, _, _, _, rfl, rfl, hp, rfl, p1, _, _, _, rfl, rfl, h1, rfl, _, _, rfl, rfl, _, rfl, iteN (by omega) ?_⟩
  refine ⟨_, rfl, p, _, _, _, rfl, rfl, hp, rfl, q.2, rfl, _, rfl, iteF ?_⟩
  refine ⟨_, rfl, p, _, _, _, rfl, rfl, hp, rfl, _, _, rfl, rfl, _, rfl, iteN (by omega) ?_⟩
  refine ⟨_, rfl, p, _, _, _, rfl, rfl, hp, rfl, _, _, rfl, rfl, _, rfl, iteN (by omega) ?_⟩
  exact k
theorem scSteps : FnScope ["steps", "start", "step"] ["steps"] (defScope s_check_steps) := ⟨rfl, rfl, rfl, by decide +kernel, rfl, by decide +kernel, by decide +kernel⟩
theorem ok_steps {f : Addr} {fd : FuncData} (D : DefAt K mg "check_steps" s_check_steps ["steps"] f fd) (CT : Cl P w K mg base "check_step" 3 ["step"] (spStep K)) (CB : Cl P w K mg base "below" 1 ["one", "other"] (spBelow K)) (T : Txt K mg aL aR) (TT : TxtT mg) :
  FnOk P w K mg base CX0 4 f fd ["steps"] (spSteps K) := by
 obtain ⟨t1, e1⟩ := TT.most
 refine D.fn.ok scSteps (fun vs H Q E h => ?_) (fun cdv A outer s H vs Q E hr h => ?_)
 ·obtain ⟨a, xs, p, S, rfl, _⟩ := h
  rfl
 ·obtain ⟨a, xs, p, S, rfl, ha, hS, ok, k⟩ := h
  have hr1 : Room 1 _ := hr.mono (by decide)
  have hu : _ + (0 + 1) < cLine := hu_of hr
  have lX := hS.length
  have l8 := ok.len
  have l0 : 0 < S.length := List.length_pos_iff.mpr ok.ne
  have few := ok.few
  refine ⟨_, pss_cons (ps_if (pt_not (pt_val (pe_isi (pv 0) rfl T.isi rfl T.list PyProof.Rows.boot_list))) pss_never pss_nil)
   (pss_cons (ps_if (PW.pt (pw_or (pt_cmpR op_lt (pe_callB call_len_seq (by rfl) T.len PySem.boot_len (pa_cons (pv 0) pa_nil)) pe_int (nomark _)) (pw_or1 (pt_cmpR op_gt (pe_callB call_len_seq (by rfl) T.len PySem.boot_len (pa_cons (pv 0) pa_nil)) (pe_glob (v := .int 8) rfl e1 ⟨_, rfl⟩) (nomark _))))) pss_never pss_nil)
   (pss_cons (ps_set (i := 1) scSteps.nd rfl (Or.inl rfl) (pe_glob (v := .ref aL) rfl T.left rfl))
   (pss_cons (ps_for PassesOwn.never rfl (pi_list (pv 0)) (pg_name (i := 2) scSteps.nd rfl (Or.inl rfl))
    (pss_cons (ps_expr (pe_cl CT hr rfl (pa_cons (pv 2) pa_nil)))
    (pss_cons (ps_if (pt_not (pt_val (pe_cl CB hr1 rfl (pa_cons (pv 1) (pa_cons (pe_ix ix_tup (pv 2) pe_int (fun _ _ => rfl)) pa_nil))))) pss_never pss_nil)
    (pss_one (ps_set (i := 1) scSteps.nd rfl (Or.inl rfl) (pe_ix ix_tup (pv 2) pe_int (fun _ _ => rfl)))))))
   (pss_one (ps_if (pt_cmpR (op_neP rpe_int rpe_int hu) (pv 1) (pe_glob (v := .ref aR) rfl T.right rfl) (nomark _)) pss_never pss_nil))))), ?_⟩
  refine ⟨_, rfl, _, _, .sqL ha, kit_list _, _, rfl, iteF ?_⟩
  refine ⟨_, rfl, a, _, rfl, .inl ha, _, _, rfl, rfl, _, rfl, iteN (by omega) ?_⟩
  refine ⟨_, rfl, a, _, rfl, .inl ha, _, _, rfl, rfl, _, rfl, iteN (by omega) ?_⟩
  refine ⟨_, rfl, a, rfl, ⟨_, ha⟩, ?_⟩
  refine for_list (K := K) (a := a) (xs := xs) (fun i σ H' => H' = H ∧ ∃ (v : V) (x2 : Option V), σ = [some (.ref a), some v, x2] ∧ FrQ K H v (endOf 0 (S.take i)))
   ⟨rfl, _, _, rfl, T.l H⟩ (fun i σ H' _ h => by rw [h.1]; exact ha) ?_ ?_
  ·rintro i x σ H' hx ⟨rfl, v, x2, rfl, hv⟩
   obtain ⟨z, hz, hs⟩ := Paired.get1 hS i x hx
   obtain ⟨r1, r2⟩ := rise_get ok.rise hz
   have mz := List.mem_of_getElem? hz
   have z0 : 0 ≤ z.1 := by
    have := end_nn ok i
    grind
   have zd := ok.den z mz
   have zw := ok.w z mz
   refine ⟨_, rfl, x, z, rfl, hs, z0, by omega, by omega, zw, ?_⟩
   obtain ⟨p0, y, q, rfl, hp0, hy, hq⟩ := id hs
   have nx : endOf 0 (S.take (i + 1)) = z.1 := by
    rw [take_snoc hz, show z = (z.1, z.2) from rfl, end_snoc]
   have zb : Bd 90 z.1 := by
    rw [← nx]
    exact end_bd ok (i + 1)
   refine ⟨_, rfl, _, rfl, p0, _, _, _, rfl, rfl, hp0, rfl, v, y, _, _, rfl, hv, hy, ⟨end_nn ok i, (end_bd ok i).mono (by decide)⟩, ⟨z0, zb.mono (by decide)⟩, _, rfl, ?_⟩
   refine iteNS r1 ?_
   refine ⟨_, rfl, p0, _, _, _, rfl, rfl, hp0, rfl, rfl, y, _, rfl, ?_⟩
   rw [nx]
   exact hy
  ·rintro σ H' ⟨rfl, v, x2, rfl, hv⟩
   rw [List.take_of_length_le (by omega), ok.top] at hv
   refine ⟨_, rfl, _, _, hv, T.r H', _, rfl, iteNS rfl ?_⟩
   exact k
end
end FQ
namespace FK
theorem nfrac_lt {n : Nat} (hn : 0 < n) {a b : Int} (h : a < b) : (a : Rat) / (n : Rat) < (b : Rat) / (n : Rat) := by
 have p := nat_pos hn
 refine (Rat.div_lt_iff p).mpr ?_
 have e : (b : Rat) / (n : Rat) * (n : Rat) = (b : Rat) := by grind
 rw [e]
 exact Rat.intCast_lt_intCast.mpr h
theorem nfrac_gr {n : Nat} (hn : 0 < n) (a : Int) : Gr n ((a : Rat) / (n : Rat)) := ⟨a, by
 have := nat_ne hn
 grind⟩
theorem nfrac_nn {n : Nat} (hn : 0 < n) {a : Int} (h : 0 ≤ a) : 0 ≤ (a : Rat) / (n : Rat) := by
 have p := nat_pos hn
 have := (Rat.div_lt_iff (a := (a : Rat)) (b := (n : Rat)) (c := 0) p)
 have := Rat.intCast_nonneg.mpr h
 grind
theorem nfrac_le {n : Nat} (hn : 0 < n) {a : Int} (h : a ≤ n) : (a : Rat) / (n : Rat) ≤ 1 := by
 have p := nat_pos hn
 have := (Rat.lt_div_iff (a := 1) (b := (a : Rat)) (c := (n : Rat)) p)
 have h' := Rat.intCast_le_intCast.mpr h
 rw [Rat.intCast_natCast] at h'
 grind
theorem nfrac_self {n : Nat} (hn : 0 < n) : (((n : Nat) : Int) : Rat) / (n : Rat) = 1 := by
 have := nat_ne hn
 rw [Rat.intCast_natCast]
 grind
def MadeOf (n : Nat) (es : List Int) (S : Steps) : Prop := S.map Prod.fst = es.map (fun (e : Int) => (e : Rat) / (n : Rat)) ∧ ∀ z ∈ S, 0 < z.2 ∧ z.2 ≤ 1000
theorem MadeOf.nil (n : Nat) : MadeOf n [] [] := ⟨rfl, fun _ h => nomatch h⟩
theorem MadeOf.snoc {n : Nat} {es : List Int} {S : Steps} (h : MadeOf n es S) {e w : Int} (h0 : 0 < w) (h1 : w ≤ 1000) : MadeOf n (es ++ [e]) (S ++ [((e : Rat) / (n : Rat), w)]) := by
 refine ⟨by rw [List.map_append, List.map_append, h.1]; rfl, fun z hz => ?_⟩
 rcases List.mem_append.mp hz with q | q
 ·exact h.2 z q
 ·rw [List.mem_singleton.mp q]
  exact ⟨h0, h1⟩
theorem MadeOf.rise {n : Nat} (hn : 0 < n) : ∀ {es : List Int} {S : Steps} {b : Int}, MadeOf n es S → (b :: es).Pairwise (· < ·) → Rise ((b : Rat) / (n : Rat)) S
 | [], [], b, _, _ => trivial
 | [], z :: S, b, h, _ => by cases h.1
 | e :: es, [], b, h, _ => by cases h.1
 | e :: es, (x, w) :: S, b, h, hp => by
  obtain ⟨h1, h2⟩ := h
  injection h1 with e1 e2
  have pc := List.pairwise_cons.mp hp
  have ex : x = (e : Rat) / (n : Rat) := e1
  refine ⟨?_, (h2 (x, w) List.mem_cons_self).1, ?_⟩
  ·rw [ex]
   exact nfrac_lt hn (pc.1 e List.mem_cons_self)
  ·rw [ex]
   exact MadeOf.rise hn ⟨e2, fun z hz => h2 z (List.mem_cons_of_mem _ hz)⟩ pc.2
theorem MadeOf.ts {n : Nat} {es : List Int} {S : Steps} (h2n : 0 < n) (hn : n ≤ 1000) (h : MadeOf n (es ++ [(n : Int)]) S) (hl : es.length ≤ 7) (hp : (0 :: (es ++ [(n : Int)])).Pairwise (· < ·)) : TsOk n S := by
 have len : S.length = es.length + 1 := by
  have := congrArg List.length h.1
  simpa using this
 have ne : S ≠ [] := fun z => by
  rw [z] at len
  simp at len
 have gr : ∀ z ∈ S, Gr n z.1 := fun z hz => by
  have : z.1 ∈ S.map Prod.fst := List.mem_map.mpr ⟨z, hz, rfl⟩
  rw [h.1] at this
  obtain ⟨e, _, q⟩ := List.mem_map.mp this
  rw [← q]
  exact nfrac_gr h2n e
 refine ⟨h2n, Nat.le_trans hn (by decide), ne, by omega, ?_, ?_, gr, fun z hz => (h.2 z hz).2, fun z hz => Nat.le_trans (FQ.gr_den (gr z hz) h2n) hn⟩
 ·have := MadeOf.rise h2n h hp
  rw [show ((0 : Int) : Rat) / (n : Rat) = 0 by rw [show ((0 : Int) : Rat) = 0 from rfl]; grind] at this
  exact this
 ·obtain ⟨S0, l, rfl⟩ : ∃ S0 l, S = S0 ++ [l] := ⟨S.dropLast, S.getLast ne, (List.dropLast_concat_getLast ne).symm⟩
  have h1 := h.1
  rw [List.map_append, List.map_append] at h1
  have := List.append_inj_right' h1 rfl
  have e : l.1 = (((n : Nat) : Int) : Rat) / (n : Rat) := by
   injection this
  rw [show l = (l.1, l.2) from rfl, end_snoc, e, nfrac_self h2n]
theorem sorted_rise {es : List Int} (h1 : es.Pairwise (· ≤ ·)) (h2 : es.Nodup) : es.Pairwise (· < ·) := by
 refine List.Pairwise.imp₂ (fun a b h1 h2 => ?_) h1 h2
 omega
end FK
namespace FQ
open PySem L2 FK
theorem Paired.last {α β : Type} {F : α → β → Prop} : ∀ {xs : List α} {L : List β} {l : β}, Paired F xs (L ++ [l]) → ∃ xs0 v, xs = xs0 ++ [v] ∧ Paired F xs0 L ∧ F v l
 | _, [], _, .cons r .nil => ⟨[], _, rfl, .nil, r⟩
 | _, _ :: L, _, .cons r t => by
  obtain ⟨xs0, v, rfl, h1, h2⟩ := Paired.last (L := L) t
  exact ⟨_ :: xs0, v, rfl, .cons r h1, h2⟩
theorem hl_split {b h : Rat} {S : Steps} (r : Rise b S) : ∃ L, hl b h S = L ++ [(endOf b S, h + A b S (endOf b S))] := List.getLast?_eq_some_iff.mp (hl_last b h S r)
abbrev NW : List Str := ["steps", "ends", "hefts", "step", "length"]
theorem scLine : FnScope NW ["steps"] (defScope s_worth_line) := ⟨rfl, rfl, rfl, by decide +kernel, rfl, by decide +kernel, by decide +kernel⟩
section
variable {P : Program} {w : World} {K : PySem.W.Frag} {mg : Str → Option Value} {base : Heap} {aL aR : Addr}
theorem int_bd {n : Int} (h0 : 0 ≤ n) (h1 : n ≤ 1000) : Bd 10 (n : Rat) := by
 refine ⟨?_, ?_⟩
 ·show n.natAbs < 2 ^ 10
  omega
 ·show (1 : Nat) < 2 ^ 10
  decide
theorem int_nn {n : Int} (h : 0 ≤ n) : (0 : Rat) ≤ (n : Rat) := Rat.intCast_nonneg.mpr h
theorem heft_fit {p : Nat} {S : Steps} (ok : TsOk p S) (i : Nat) : Ft 95 (A 0 (S.take i) (endOf 0 (S.take i))) := by
 have f := ok.few
 rw [A_take i ok.rise]
 refine ⟨A_nn ok.rise, ?_⟩
 refine (A_gr (Gr.zero p) ok.gr (end_g ok i)).bd ok.pos (A_nn ok.rise) (m := 1000) (ok.up (end_nn ok i) (end_le ok i)) ?_ ?_
 ·omega
 ·omega
theorem ok_line {f : Addr} {fd : FuncData} (D : DefAt K mg "worth_line" s_worth_line ["steps"] f fd) (C : Four P w K mg base) (T : Txt K mg aL aR) : FnOk P w K mg base CX0 4 f fd ["steps"] (spLine K) := by
  refine D.fn.ok scLine (fun vs H Q E h => ?_) (fun cdv A0 outer s H vs Q E hr h => ?_)
  · obtain ⟨a, xs, p, S, rfl, _⟩ := h
    rfl
  · obtain ⟨a, xs, p, S, rfl, ha, hS, ok, k⟩ := h
    have lX := hS.length
    have l8 := ok.len
    refine ⟨_, pss_cons (ps_set (i := 1) scLine.nd rfl (Or.inl rfl) (pe_lst (pa_cons (pe_glob (v := .ref aL) rfl T.left rfl) pa_nil)))
      (pss_cons (ps_set (i := 2) scLine.nd rfl (Or.inr rfl) (pe_lst (pa_cons (pe_tup (pa_cons pe_int (pa_cons pe_int pa_nil))) pa_nil)))
      (pss_cons (ps_for PassesOwn.never rfl (pi_list (pv 0)) (pg_name (i := 3) scLine.nd rfl (Or.inl rfl))
        (pss_cons (ps_set (i := 4) scLine.nd rfl (Or.inl rfl) (pe_cl C.minus hr rfl (pa_cons (pe_ix ix_tup (pv 3) pe_int (fun _ _ => rfl)) (pa_cons (pe_ix ix_list (pv 1) (pe_un un_neg pe_int) (fun _ _ => rfl)) pa_nil))))
        (pss_cons (ps_expr (pe_bm PySem.F.plainAttrs_list PySem.F.slot_list_append PySem.F.type_list_append mt_append (pv 2) (pa_cons (pe_cl C.plus hr rfl (pa_cons (pe_ix ix_list (pv 2) (pe_un un_neg pe_int) (fun _ _ => rfl))
          (pa_cons (pe_cl C.times hr rfl (pa_cons (pv 4) (pa_cons (pe_tup (pa_cons (pe_ix ix_tup (pv 3) pe_int (fun _ _ => rfl)) (pa_cons pe_int pa_nil))) pa_nil))) pa_nil))) pa_nil)))
        (pss_one (ps_expr (pe_bm PySem.F.plainAttrs_list PySem.F.slot_list_append PySem.F.type_list_append mt_append (pv 1) (pa_cons (pe_ix ix_tup (pv 3) pe_int (fun _ _ => rfl)) pa_nil)))))))
      (pss_one (ps_ret (pe_comp ["point", "heft"] rfl (CompOk.free1 (F := ["hefts"]) (js := [2]) rfl (by decide +kernel) (by decide +kernel) rfl ⟨rfl, trivial⟩ rfl ⟨⟨rfl, rfl, .inl rfl⟩, trivial⟩) (pi_zip rfl T.zip (pa_cons (pv 1) (pa_cons (pv 2) pa_nil)))
        (fun _ => pg_tup rfl (pgs_cons (pg_name (i := 0) (show [Str.ofString "point", Str.ofString "heft", Str.ofString "hefts"].Nodup by decide +kernel) rfl (Or.inl rfl)) (pgs_cons (pg_name (i := 1) (show [Str.ofString "point", Str.ofString "heft", Str.ofString "hefts"].Nodup by decide +kernel) rfl (Or.inl rfl)) pgs_nil)))
        (fun _ => pifs_nil)
        (fun _ => pe_tup (pa_cons (pv 0) (pa_cons (pe_cl C.over hr rfl (pa_cons (pv 1) (pa_cons (pe_ix ix_list (pv 2) (pe_un un_neg pe_int) (fun _ _ => rfl)) pa_nil))) pa_nil)))))))), ?_⟩
    refine ⟨(by show 1 ≤ sizeLine; decide), fun le hle => ?_⟩
    refine ⟨(by show 2 ≤ sizeLine; decide), fun t ht => ⟨(by show 1 ≤ sizeLine; decide), fun lh hlh => ?_⟩⟩
    have s1 : Same H (upd H le (.lst [.ref aL])) := Same.upd hle
    have s2 := s1.trans (Same.upd (o := .tup [.int 0, .int 1]) ht)
    have s3 := s2.trans (Same.upd (o := .lst [.ref t]) hlh)
    have hlh0 : H lh = none := s2.free hlh
    have e2 : (upd (upd H le (.lst [.ref aL])) t (.tup [.int 0, .int 1])) le = some (.lst [.ref aL]) := Same.upd ht _ _ upd_same
    have ne : le ≠ lh := ne_of_none e2 hlh
    refine ⟨_, rfl, a, rfl, ⟨_, s3.seq ha⟩, ?_⟩
    refine for_list (K := K) (a := a) (xs := xs) (fun i σ H' => Same H H' ∧ ∃ (es hs : List V) (x3 x4 : Option V), σ = [some (.ref a), some (.ref le), some (.ref lh), x3, x4] ∧ H' le = some (.lst es) ∧ H' lh = some (.lst hs) ∧
        Paired (FrQ K H') es ((hl 0 0 (S.take i)).map Prod.fst) ∧ Paired (FrQ K H') hs ((hl 0 0 (S.take i)).map Prod.snd))
      ⟨s3, _, _, _, _, rfl, by rw [upd_ne ne]; exact e2, upd_same, .cons (T.l _) .nil, .cons (.of (.of (Same.upd hlh _ _ upd_same)) rfl rfl) .nil⟩ (fun i σ H' _ h => h.1.seq ha) ?_ ?_
    · rintro i x σ H' hx ⟨s4, es, hs, x3, x4, rfl, hE, hHh, pE, pH⟩
      obtain ⟨z, hz, hs0⟩ := Paired.get1 hS i x hx
      obtain ⟨p0, y, q, rfl, hp0, hy, hq⟩ := id hs0
      cases (show q = .int z.2 from hq)
      obtain ⟨r1, r2⟩ := rise_get ok.rise hz
      have mz := List.mem_of_getElem? hz
      have nx : endOf 0 (S.take (i + 1)) = z.1 := by
        rw [take_snoc hz, show z = (z.1, z.2) from rfl, end_snoc]
      have z0 : 0 ≤ z.1 := by rw [← nx]; exact end_nn ok _
      have zb : Bd 90 z.1 := by rw [← nx]; exact end_bd ok _
      have zw := ok.w z mz
      obtain ⟨L, hL⟩ := hl_split (b := 0) (h := 0) (rise_take i ok.rise)
      rw [zero_add'] at hL
      have hl1 : hl 0 0 (S.take (i + 1)) = L ++ [(endOf 0 (S.take i), A 0 (S.take i) (endOf 0 (S.take i)))] ++ [(z.1, A 0 (S.take i) (endOf 0 (S.take i)) + (z.1 - endOf 0 (S.take i)) * (z.2 : Rat))] := by
        have := hl_snoc 0 0 (S.take i) z.1 z.2 (rise_take i ok.rise)
        rw [zero_add'] at this
        rw [take_snoc hz, show z = (z.1, z.2) from rfl, this, hL]
      have pE' := pE
      have pH' := pH
      rw [hL, List.map_append] at pE' pH'
      obtain ⟨es0, v, rfl, _, hv⟩ := Paired.last pE'
      obtain ⟨hs1, u, rfl, _, hu⟩ := Paired.last pH'
      have hf := heft_fit ok i
      have dl : Bd 181 (z.1 - endOf 0 (S.take i)) := Bd.sub zb (end_bd ok i)
      have dn : 0 ≤ z.1 - endOf 0 (S.take i) := by grind
      have sp0 := s4.sqT hp0
      refine ⟨_, rfl, p0, _, _, _, rfl, rfl, sp0, rfl, _, rfl, _, rfl, le, _, _, _, rfl, rfl, .of hE, atI_last _ _, y, v, z.1, _, rfl, hy.same s4, hv, ⟨z0, zb.mono (by decide)⟩, ⟨end_nn ok i, (end_bd ok i).mono (by decide)⟩, Rat.le_of_lt r1, fun v1 H1 t1 d1 => ?_⟩
      have hE1 := t1 _ _ hE
      have hH1 := t1 _ _ hHh
      refine ⟨_, rfl, .inl ⟨rfl, _, .of hH1⟩, _, rfl, _, rfl, lh, _, _, _, rfl, rfl, .of hH1, atI_last _ _, _, rfl, _, rfl, p0, _, _, _, rfl, rfl, t1.sqT sp0, rfl, (by show 2 ≤ sizeLine; decide), fun t5 ht5 => ?_⟩
      have t2 := Same.upd (o := .tup [.int z.2, .int 1]) ht5
      refine ⟨v1, .ref t5, _, (z.2 : Rat), rfl, d1.same t2, .of sqT_new rfl rfl, ⟨dn, dl.mono (by decide)⟩, ⟨int_nn (by omega), (int_bd (by omega) zw).mono (by decide)⟩, trivial, fun v2 H2 t3 d2 => ?_⟩
      have t13 := t1.trans (t2.trans t3)
      have bm : Bd 191 ((z.1 - endOf 0 (S.take i)) * (z.2 : Rat)) := Bd.mul dl (int_bd (by omega) zw)
      have mn : 0 ≤ (z.1 - endOf 0 (S.take i)) * (z.2 : Rat) := Rat.mul_nonneg dn (int_nn (by omega))
      refine ⟨u, v2, _, _, rfl, (hu.same t13), d2, hf.fit, ⟨mn, bm.mono (by decide)⟩, trivial, fun v3 H3 t4 d3 => ?_⟩
      have t14 := t13.trans t4
      have hE3 := t14 _ _ hE
      have hH3 := t14 _ _ hHh
      have lenH : (hs1 ++ [u]).length ≤ 100 := by
        rw [pH.length, List.length_map, hl_len, List.length_take]
        omega
      have lenE : (es0 ++ [v]).length ≤ 100 := by
        rw [pE.length, List.length_map, hl_len, List.length_take]
        omega
      have big : 1000 ≤ sizeLine := by decide
      refine ⟨lh, _, v3, rfl, rfl, hH3, by omega, ?_⟩
      have k1 : Keep H3 (upd H3 lh (.lst (hs1 ++ [u] ++ [v3]))) := Keep.updL hH3
      have hE4 : (upd H3 lh (.lst (hs1 ++ [u] ++ [v3]))) le = some (.lst (es0 ++ [v])) := by rw [upd_ne ne]; exact hE3
      refine ⟨_, rfl, .inl ⟨rfl, _, .of hE4⟩, _, rfl, p0, _, _, _, rfl, rfl, k1.sqT (t14.sqT sp0), rfl, le, _, _, rfl, rfl, hE4, by omega, ?_⟩
      have k2 : Keep (upd H3 lh (.lst (hs1 ++ [u] ++ [v3]))) (upd (upd H3 lh (.lst (hs1 ++ [u] ++ [v3]))) le (.lst (es0 ++ [v] ++ [y]))) := Keep.updL hE4
      have kk := (Keep.of t14).trans (k1.trans k2)
      refine ⟨((s4.trans t14).updN hlh0).updN hle, _, _, _, _, rfl, upd_same, by rw [upd_ne ne.symm, upd_same], ?_, ?_⟩
      · rw [hl1, List.map_append, ← hL]
        exact Paired.app (Paired.mapP pE fun _ _ z => z.keep kk) (.cons ((hy.same s4).keep kk) .nil)
      · rw [hl1, List.map_append, ← hL]
        exact Paired.app (Paired.mapP pH fun _ _ z => z.keep kk) (.cons (d3.keep (k1.trans k2)) .nil)
    · rintro σ H' ⟨s4, es, hs, x3, x4, rfl, hE, hHh, pE, pH⟩
      rw [List.take_of_length_le (by omega)] at pE pH
      have lE : es.length = S.length + 1 := by rw [pE.length, List.length_map, hl_len]
      have lH : hs.length = S.length + 1 := by rw [pH.length, List.length_map, hl_len]
      obtain ⟨L, hL⟩ := hl_split (b := 0) (h := 0) ok.rise
      rw [zero_add', ok.top] at hL
      have pH' := pH
      rw [hL, List.map_append] at pH'
      obtain ⟨hs1, u, rfl, _, hu⟩ := Paired.last pH'
      refine ⟨_, rfl, _, rfl, le, lh, rfl, ⟨_, .of hE⟩, ⟨_, .of hHh⟩, fun D1 hD1 => ?_⟩
      have neE : le ≠ D1 := ne_of_none hE hD1
      have neH : lh ≠ D1 := ne_of_none hHh hD1
      refine comp_zip (K := K) (l1 := le) (l2 := lh) (D := D1) (xs := es) (zs := hs1 ++ [u]) (fun i ys σ H2 => Same H' H2 ∧ H2 D1 = some (.lst ys) ∧ Paired (CoQ K H2) ys ((wl S).take i) ∧ i ≤ S.length + 1 ∧ ∃ x0 x1, σ = [x0, x1, some (.ref lh)])
        (by omega) (by have : 1000 ≤ sizeLine := by decide
                       omega) ⟨Same.upd hD1, upd_same, .nil, by omega, _, _, rfl⟩ ?_ ?_ ?_
      · rintro i ys σ H2 hi ⟨t1, h1, h2, h3, _⟩
        refine ⟨.of (t1 _ _ hE), .of (t1 _ _ hHh), h1, ?_⟩
        rw [h2.length, List.length_take]
        omega
      · rintro i x y ys σ H2 T0 hx hy ⟨t1, h1, h2, h3, x0, x1, rfl⟩ hT0 c
        obtain ⟨q1, hq1, fq1⟩ := Paired.get1 pE i x hx
        obtain ⟨q2, hq2, fq2⟩ := Paired.get1 pH i y hy
        have i1 : i < S.length + 1 := by have := (List.getElem?_eq_some_iff.mp hx).1; omega
        have hg := hl_get (h := 0) ok.rise (show i ≤ S.length by omega)
        rw [List.getElem?_map, hg] at hq1 hq2
        have eq1 : endOf 0 (S.take i) = q1 := Option.some.inj hq1
        have eq2 : A 0 S (endOf 0 (S.take i)) = q2 := by rw [← Option.some.inj hq2, zero_add']
        have t2 : Same H2 (upd H2 T0 (.tup [x, y])) := Same.upd hT0
        have t12 := t1.trans t2
        have hH2 := t12 _ _ hHh
        have hf := heft_fit ok i
        rw [A_take i ok.rise, eq2] at hf
        have tb : Ft 95 (tot S) := by
          have := heft_fit ok S.length
          rw [List.take_length, ok.top] at this
          exact this
        refine ⟨T0, _, rfl, sqT_new, rfl, x, _, rfl, y, _, rfl, rfl, ?_⟩
        refine ⟨_, rfl, _, rfl, _, rfl, _, rfl, lh, _, _, _, rfl, rfl, .of hH2, atI_last _ _, y, u, q2, tot S, rfl, fq2.same t12, hu.same t12, hf.fit, tb.fit, ok.tp, fun v1 H3 t3 d1 => ?_⟩
        refine ⟨(by show 2 ≤ sizeLine; decide), fun r hr5 => ?_⟩
        have t4 : Same H3 (upd H3 r (.tup [x, v1])) := Same.upd hr5
        have hD4 := (t2.trans (t3.trans t4)) _ _ h1
        refine ⟨hD4, ?_, upd_same, ?_, by omega, _, _, rfl⟩
        · exact (t12.trans (t3.trans t4)).updN hD1
        · have wi : (wl S)[i]? = some (q1, q2 / tot S) := by
            unfold wl
            rw [List.getElem?_map, hg, zero_add', eq2, eq1]
            rfl
          rw [take_snoc wi]
          have k1 := Keep.updL (o := .lst (ys ++ [.ref r])) hD4
          have kk := (Keep.of (t2.trans (t3.trans t4))).trans k1
          refine Paired.app (Paired.mapP h2 fun _ _ z => CoQ.keep kk z) (.cons ⟨r, x, v1, rfl, k1.sqT sqT_new, ?_, (d1.same t4).keep k1⟩ .nil)
          exact (fq1.same (t12.trans (t3.trans t4))).keep k1
      · rintro ys σ H2 ⟨t1, h1, h2, h3, _⟩
        rw [List.take_of_length_le (by unfold wl; rw [List.length_map, hl_len]; omega)] at h2
        exact k D1 ys H2 (s4.trans t1) (s4.free hD1) h1 h2
end
end FQ
namespace FQ
open PySem L2 FK
structure TxtC (K : PySem.W.Frag) (C : Addr) : Prop where
 cl : Cls K C
 nT : NoAttr K C "told"
 nL : NoAttr K C "line"
abbrev fldT (lt ll : Addr) : List (Str × V) := putF "line" (.ref ll) (putF "told" (.ref lt) [])
structure TasteAt (K : PySem.W.Frag) (C : Addr) (H : Hp) (x lt ll : Addr) (S : Steps) : Prop where
 ins : ∃ dx, H x = some (.ins C dx (fldT lt ll))
 told : ∃ ts, H lt = some (.lst ts) ∧ Paired (StQ K H) ts S
 line : ∃ ls, H ll = some (.lst ls) ∧ Paired (CoQ K H) ls (wl S)
def spInit (K : PySem.W.Frag) (C : Addr) : Sp := fun vs H Q _ => ∃ (x dx a : Addr) (xs : List V) (p : Nat) (S : Steps), vs = [.ref x, .ref a] ∧ H x = some (.ins C dx []) ∧ SqL K H a xs ∧ Paired (StQ K H) xs S ∧ TsOk p S ∧
 ∀ (lt ll : Addr) (H' : Hp), (∀ b o, H b = some o → b ≠ x → H' b = some o) → H lt = none → H ll = none → TasteAt K C H' x lt ll S → Q .non H'
def spTold (K : PySem.W.Frag) (C : Addr) : Sp := fun vs H Q _ => ∃ (x lt ll : Addr) (S : Steps), vs = [.ref x] ∧ TasteAt K C H x lt ll S ∧ ∀ (l : Addr) (ts : List V), H l = none → Paired (StQ K H) ts S → Q (.ref l) (upd H l (.lst ts))
theorem mk_taste {K : PySem.W.Frag} {C : Addr} {H : Hp} {R : Addr → Hp → Prop} {E : XK} {a : Addr} {xs : List V} {p : Nat} {S : Steps} (ha : SqL K H a xs) (hS : Paired (StQ K H) xs S) (ok : TsOk p S)
  (k : ∀ (x lt ll : Addr) (H' : Hp), Same H H' → H x = none → H lt = none → H ll = none → TasteAt K C H' x lt ll S → R x H') :
  ∀ x dx, H x = none → H dx = none → dx ≠ x → spInit K C [.ref x, .ref a] (upd (upd H dx (.own x)) x (.ins C dx [])) (fun v H2 => v = .non ∧ R x H2) E := by
 intro x dx hx hdx ne
 have s0 : Same H (upd (upd H dx (.own x)) x (.ins C dx [])) := fun b o e => by
  rw [upd_ne (ne_of_none e hx), upd_ne (ne_of_none e hdx)]
  exact e
 refine ⟨x, dx, a, xs, p, S, rfl, upd_same, s0.seq ha, Paired.mapP hS fun _ _ z => StQ.same s0 z, ok, fun lt ll H' h1 h2 h3 h4 => ⟨rfl, k x lt ll H' (fun b o e => h1 b o (s0 b o e) (ne_of_none e hx)) hx (s0.free h2) (s0.free h3) h4⟩⟩
section
variable {P : Program} {w : World} {K : PySem.W.Frag} {mg : Str → Option Value} {base : Heap} {aL aR C : Addr}
theorem scInit : FnScope ["self", "steps"] ["self", "steps"] (defScope m_Taste___init__) := ⟨rfl, rfl, rfl, by decide +kernel, rfl, by decide +kernel, by decide +kernel⟩
theorem ok_init {f : Addr} {fd : FuncData} (D : Fun K "__init__" "Taste.__init__" m_Taste___init__ f fd) (CS : Cl P w K mg base "check_steps" 4 ["steps"] (spSteps K)) (CL : Cl P w K mg base "worth_line" 4 ["steps"] (spLine K)) (T : Txt K mg aL aR) (TC : TxtC K C) :
  FnOk P w K mg base CX0 5 f fd ["self", "steps"] (spInit K C) := by
 refine D.ok scInit (fun vs H Q E h => ?_) (fun cdv A0 outer s H vs Q E hr h => ?_)
 ·obtain ⟨x, dx, a, xs, p, S, rfl, _⟩ := h
  rfl
 ·obtain ⟨x, dx, a, xs, p, S, rfl, hx, ha, hS, ok, k⟩ := h
  refine ⟨_, pss_cons (ps_expr (pe_cl CS hr rfl (pa_cons (pv 1) pa_nil)))
   (pss_cons (ps_fld (pv 0) (pe_callTy call_list_of rfl T.list PyProof.Rows.boot_list (pa_cons (pv 1) pa_nil)) rfl)
   (pss_one (ps_fld (pv 0) (pe_cl CL hr rfl (pa_cons (pv 1) pa_nil)) rfl))), ?_⟩
  refine ⟨_, rfl, a, xs, p, S, rfl, ha, hS, ok, ?_⟩
  refine ⟨_, rfl, a, xs, rfl, .inl ha, fun lt hlt => ?_⟩
  have s1 : Same H (upd H lt (.lst xs)) := Same.upd hlt
  have nx : x ≠ lt := ne_of_none hx hlt
  refine ⟨_, rfl, x, C, dx, [], rfl, s1 _ _ hx, TC.cl, TC.nT, (by show 0 < 1000; decide), ?_⟩
  have k1 : Keep H (upd (upd H lt (.lst xs)) x (.ins C dx (putF "told" (.ref lt) []))) → True := fun _ => trivial
  have sq2 : SqL K (upd (upd H lt (.lst xs)) x (.ins C dx (putF "told" (.ref lt) []))) a xs := by
   rcases s1.seq ha with (z | ⟨o, z⟩) | z
   ·exact .inl (.inl (by rw [upd_ne (ne_of z (s1 _ _ hx) (fun z => nomatch z))]; exact z))
   ·exact .inl (.inr ⟨o, by rw [upd_ne (ne_of z (s1 _ _ hx) (fun z => nomatch z))]; exact z⟩)
   ·exact .inr z
  have tq : ∀ (b : Addr) (zs : List V), SqT K H b zs → SqT K (upd (upd H lt (.lst xs)) x (.ins C dx (putF "told" (.ref lt) []))) b zs := fun b zs hb => by
   rcases s1.sqT hb with (z | ⟨o, z⟩) | z
   ·exact .inl (.inl (by rw [upd_ne (ne_of z (s1 _ _ hx) (fun z => nomatch z))]; exact z))
   ·exact .inl (.inr ⟨o, by rw [upd_ne (ne_of z (s1 _ _ hx) (fun z => nomatch z))]; exact z⟩)
   ·exact .inr z
  have stq : Paired (StQ K (upd (upd H lt (.lst xs)) x (.ins C dx (putF "told" (.ref lt) [])))) xs S := Paired.mapP hS fun y z ⟨b, u, v, e1, e2, ⟨b2, u2, v2, e4, e5, e6, e7⟩, e3⟩ => ⟨b, u, v, e1, tq _ _ e2, ⟨b2, u2, v2, e4, tq _ _ e5, e6, e7⟩, e3⟩
  refine ⟨_, rfl, a, xs, p, S, rfl, sq2, stq, ok, fun ll ys H' s2 hll hL pL => ?_⟩
  have hx2 : H' x = some (.ins C dx (putF "told" (.ref lt) [])) := s2 _ _ upd_same
  have hlt2 : H' lt = some (.lst xs) := s2 _ _ (by rw [upd_ne nx.symm]; exact upd_same)
  have nxl : x ≠ ll := ne_of hx2 hL (fun z => nomatch z)
  refine ⟨_, rfl, x, C, dx, _, rfl, hx2, TC.cl, TC.nL, (by show 1 < 1000; decide), ?_⟩
  have tq2 : ∀ (b : Addr) (zs : List V), SqT K H' b zs → SqT K (upd H' x (.ins C dx (fldT lt ll))) b zs := fun b zs hb => by
   rcases hb with (z | ⟨o, z⟩) | z
   ·exact .inl (.inl (by rw [upd_ne (ne_of z hx2 (fun z => nomatch z))]; exact z))
   ·exact .inl (.inr ⟨o, by rw [upd_ne (ne_of z hx2 (fun z => nomatch z))]; exact z⟩)
   ·exact .inr z
  refine k lt ll _ (fun b o e hb => ?_) hlt ?_ ⟨⟨dx, upd_same⟩, ⟨xs, ?_, ?_⟩, ⟨ys, ?_, ?_⟩⟩
  ·rw [upd_ne hb]
   exact s2 _ _ (by rw [upd_ne hb]; exact s1 _ _ e)
  ·have : (upd H lt (.lst xs)) ll = none := by
    have := hll
    rw [upd_ne nxl.symm] at this
    exact this
   exact s1.free this
  ·rw [upd_ne nx.symm]
   exact hlt2
  ·exact Paired.mapP stq fun y z ⟨b, u, v, e1, e2, ⟨b2, u2, v2, e4, e5, e6, e7⟩, e3⟩ => ⟨b, u, v, e1, tq2 _ _ (s2.sqT e2), ⟨b2, u2, v2, e4, tq2 _ _ (s2.sqT e5), e6, e7⟩, e3⟩
  ·rw [upd_ne nxl.symm]
   exact hL
  ·exact Paired.mapP pL fun y z ⟨b, u, v, e1, e2, ⟨b2, u2, v2, e4, e5, e6, e7⟩, ⟨b3, u3, v3, g4, g5, g6, g7⟩⟩ => ⟨b, u, v, e1, tq2 _ _ e2, ⟨b2, u2, v2, e4, tq2 _ _ e5, e6, e7⟩, ⟨b3, u3, v3, g4, tq2 _ _ g5, g6, g7⟩⟩
theorem scTold : FnScope ["self"] ["self"] (defScope m_Taste_steps) := ⟨rfl, rfl, rfl, by decide +kernel, rfl, by decide +kernel, by decide +kernel⟩
theorem ok_told {f : Addr} {fd : FuncData} (D : Fun K "steps" "Taste.steps" m_Taste_steps f fd) (T : Txt K mg aL aR) (TC : TxtC K C) : FnOk P w K mg base CX0 1 f fd ["self"] (spTold K C) := by
 refine D.ok scTold (fun vs H Q E h => ?_) (fun cdv A0 outer s H vs Q E hr h => ?_)
 ·obtain ⟨x, lt, ll, S, rfl, _⟩ := h
  rfl
 ·obtain ⟨x, lt, ll, S, rfl, ⟨⟨dx, h1⟩, ⟨ts, h2, h3⟩, _⟩, k⟩ := h
  refine ⟨_, pss_one (ps_ret (pe_callTy call_list_of rfl T.list PyProof.Rows.boot_list (pa_cons (pe_fld (pv 0) rfl) pa_nil))), ?_⟩
  exact ⟨_, rfl, x, C, dx, _, _, rfl, h1, TC.cl, TC.nT, rfl, lt, ts, rfl, .inl (.of h2), fun l hl => k l ts hl h3⟩
end
end FQ
namespace FQ
open PySem L2 FK
inductive Tr where
 | non | bl (b : Bool) | int (i : Int) | str (x : Str) | tup (l : List Tr) | lst (l : List Tr)
mutual
def Rd (K : PySem.W.Frag) (H : Hp) : Tr → V → Prop
 | .non, v => v = .non
 | .bl b, v => v = .bl b
 | .int i, v => v = .int i
 | .str x, v => v = .str x
 | .tup l, v => ∃ p xs, v = .ref p ∧ SqT K H p xs ∧ RdL K H l xs
 | .lst l, v => ∃ p xs, v = .ref p ∧ SqL K H p xs ∧ RdL K H l xs
def RdL (K : PySem.W.Frag) (H : Hp) : List Tr → List V → Prop
 | [], xs => xs = []
 | t :: l, xs => ∃ v r, xs = v :: r ∧ Rd K H t v ∧ RdL K H l r
end
theorem rdL_len {K : PySem.W.Frag} {H : Hp} : ∀ {l : List Tr} {xs : List V}, RdL K H l xs → xs.length = l.length
 | [], _, h => by rw [show _ = [] from h]; rfl
 | t :: l, _, ⟨v, r, e, _, h2⟩ => by rw [e, List.length_cons, List.length_cons, rdL_len h2]
theorem rdL_get {K : PySem.W.Frag} {H : Hp} : ∀ {l : List Tr} {xs : List V} {i : Nat} {v : V}, RdL K H l xs → xs[i]? = some v → ∃ t, l[i]? = some t ∧ Rd K H t v
 | [], _, i, v, h, e => by rw [show _ = [] from h] at e; simp at e
 | t :: l, _, 0, v, ⟨v', r, e, h1, h2⟩, hv => by
  rw [e] at hv
  cases (show some v' = some v by simpa using hv)
  exact ⟨t, rfl, h1⟩
 | t :: l, _, i + 1, v, ⟨v', r, e, h1, h2⟩, hv => by
  rw [e] at hv
  exact rdL_get (l := l) h2 (by simpa using hv)
mutual
def Smt : Tr → Prop
 | .int i => Sm i
 | .tup l => SmL l
 | .lst l => SmL l
 | _ => True
def SmL : List Tr → Prop
 | [] => True
 | t :: l => Smt t ∧ SmL l
end
theorem smL_get : ∀ {l : List Tr} {i : Nat} {t : Tr}, SmL l → l[i]? = some t → Smt t
 | [], i, t, _, e => by simp at e
 | u :: l, 0, t, h, e => by
  cases (show some u = some t by simpa using e)
  exact h.1
 | u :: l, i + 1, t, h, e => smL_get (l := l) h.2 (by simpa using e)
def tyN : Tr → String
 | .non => "NoneType"
 | .bl _ => "bool"
 | .int _ => "int"
 | .str _ => "str"
 | .tup _ => "tuple"
 | .lst _ => "list"
theorem tyo {K : PySem.W.Frag} {H : Hp} : ∀ {t : Tr} {v : V}, Rd K H t v → TyO K H v (.type (tyN t))
 | .non, _, h => by rw [show _ = V.non from h]; exact .of .non
 | .bl b, _, h => by rw [show _ = V.bl b from h]; exact .of (.bl b)
 | .int i, _, h => by rw [show _ = V.int i from h]; exact .of (.int i)
 | .str x, _, h => by rw [show _ = V.str x from h]; exact .of (.str x)
 | .tup l, _, ⟨p, xs, e, q, _⟩ => by rw [e]; exact .sqT q
 | .lst l, _, ⟨p, xs, e, q, _⟩ => by rw [e]; exact .sqL q
def isI : Tr → Bool
 | .int _ => true
 | .bl _ => true
 | _ => false
def isB : Tr → Bool
 | .bl _ => true
 | _ => false
def isTp : Tr → Bool
 | .tup _ => true
 | _ => false
def isLs : Tr → Bool
 | .lst _ => true
 | _ => false
theorem kitI (K : PySem.W.Frag) (t : Tr) : PySem.W.kitOne K (.type (tyN t)) (.type "int") = some (isI t) := by cases t <;> (show PySem.W.kitOne K (.type _) _ = some _; kernel_rfl)
theorem kitB (K : PySem.W.Frag) (t : Tr) : PySem.W.kitOne K (.type (tyN t)) (.type "bool") = some (isB t) := by cases t <;> (show PySem.W.kitOne K (.type _) _ = some _; kernel_rfl)
theorem kitTp (K : PySem.W.Frag) (t : Tr) : PySem.W.kitOne K (.type (tyN t)) (.type "tuple") = some (isTp t) := by cases t <;> (show PySem.W.kitOne K (.type _) _ = some _; kernel_rfl)
theorem kitLs (K : PySem.W.Frag) (t : Tr) : PySem.W.kitOne K (.type (tyN t)) (.type "list") = some (isLs t) := by cases t <;> (show PySem.W.kitOne K (.type _) _ = some _; kernel_rfl)
def isWh : Tr → Bool
 | .int _ => true
 | _ => false
theorem isWh_int {t : Tr} (h : isWh t = true) : ∃ i, t = .int i := by
 cases t with
 | int i => exact ⟨i, rfl⟩
 | _ => cases h
def isFr : Tr → Bool
 | .tup [.int a, .int b] => decide (0 ≤ a) && (decide (1 ≤ b) && decide (G a b = 1))
 | _ => false
def ltT : Tr → Tr → Bool
 | .tup [.int a, .int b], .tup [.int c, .int d] => decide (a * d < c * b)
 | _, _ => false
def isSp : Tr → Bool
 | .tup [x, y] => isFr x && (isFr y && (ltT x y && !(ltT (.tup [.int 1, .int 1]) y)))
 | _ => false
theorem isFr_not {x y : Tr} (h : isWh x = false ∨ isWh y = false) : isFr (.tup [x, y]) = false := by
 rcases h with h | h
 ·cases x <;> first | rfl | cases h
 ·cases x <;> cases y <;> first | rfl | cases h
theorem isFr_two {t : Tr} (h : isFr t = true) : ∃ a b : Int, t = .tup [.int a, .int b] ∧ 0 ≤ a ∧ 1 ≤ b := by
 unfold isFr at h
 split at h
 ·rename_i a b
  simp only [Bool.and_eq_true, decide_eq_true_eq] at h
  exact ⟨a, b, rfl, h.1, h.2.1⟩
 ·cases h
theorem isFr_len {l : List Tr} (h : l.length ≠ 2) : isFr (.tup l) = false := by
 unfold isFr
 split
 ·rename_i e
  cases e
  exact absurd rfl h
 ·rfl
theorem isSp_len {l : List Tr} (h : l.length ≠ 2) : isSp (.tup l) = false := by
 unfold isSp
 split
 ·rename_i e
  cases e
  exact absurd rfl h
 ·rfl
def spWholeT (K : PySem.W.Frag) : Sp := fun vs H Q _ => ∃ (x : V) (t : Tr), vs = [x] ∧ Rd K H t x ∧ Q (.bl (isWh t)) H
def spFracT (K : PySem.W.Frag) : Sp := fun vs H Q _ => ∃ (x : V) (t : Tr), vs = [x] ∧ Rd K H t x ∧ Q (.bl (isFr t)) H
def spBelowT (K : PySem.W.Frag) : Sp := fun vs H Q _ => ∃ (p q : Addr) (a b c d : Int), vs = [.ref p, .ref q] ∧ SqT K H p [.int a, .int b] ∧ SqT K H q [.int c, .int d] ∧ (Sm a ∧ Sm b ∧ Sm c ∧ Sm d) ∧ Q (.bl (decide (a * d < c * b))) H
def spSpanT (K : PySem.W.Frag) : Sp := fun vs H Q _ => ∃ (x : V) (t : Tr), vs = [x] ∧ Rd K H t x ∧ Smt t ∧ Q (.bl (isSp t)) H
section
variable {P : Program} {w : World} {K : PySem.W.Frag} {mg : Str → Option Value} {base : Heap} {aL aR : Addr}
theorem ok_wholeT {f : Addr} {fd : FuncData} (D : DefAt K mg "is_whole" s_is_whole ["thing"] f fd) (T : Txt K mg aL aR) : FnOk P w K mg base CX0 1 f fd ["thing"] (spWholeT K) := by
 refine D.fn.ok scWhole (fun vs H Q E h => ?_) (fun cdv A outer s H vs Q E hr h => ?_)
 ·obtain ⟨x, t, rfl, _⟩ := h
  rfl
 ·obtain ⟨x, t, rfl, hx, k⟩ := h
  refine ⟨_, pss_one (ps_ret (pe_and (pe_isi (pv 0) rfl T.isi rfl T.int PyProof.Rows.boot_int) (pe_one (pe_not (pe_isi (pv 0) rfl T.isi rfl T.bool PyProof.Rows.boot_bool))))), ?_⟩
  refine ⟨_, rfl, _, _, tyo hx, kitI K t, _, rfl, ?_⟩
  cases t with
  | int i => exact iteT ⟨_, rfl, _, _, tyo hx, kitB K (.int i), _, rfl, k⟩
  | bl b => exact iteT ⟨_, rfl, _, _, tyo hx, kitB K (.bl b), _, rfl, k⟩
  | non => exact iteF k
  | str _ => exact iteF k
  | tup _ => exact iteF k
  | lst _ => exact iteF k
theorem ok_belowT {f : Addr} {fd : FuncData} (D : DefAt K mg "below" s_below ["one", "other"] f fd) : FnOk P w K mg base CX0 1 f fd ["one", "other"] (spBelowT K) := by
 refine D.fn.ok scBelow (fun vs H Q E h => ?_) (fun cdv A outer s H vs Q E hr h => ?_)
 ·obtain ⟨p, q, a, b, c, d, rfl, _⟩ := h
  rfl
 ·obtain ⟨p, q, a, b, c, d, rfl, hp, hq, ⟨sa, sb, sc, sd⟩, k⟩ := h
  refine ⟨_, pss_one (ps_ret (pe_cmpR op_lt (pe_op op_mulS (pe_ix ix_tup (pv 0) pe_int (fun _ _ => rfl)) (pe_ix ix_tup (pv 1) pe_int (fun _ _ => rfl))) (pe_op op_mulS (pe_ix ix_tup (pv 1) pe_int (fun _ _ => rfl)) (pe_ix ix_tup (pv 0) pe_int (fun _ _ => rfl))) (nomark _))), ?_⟩
  refine ⟨_, rfl, p, _, _, _, rfl, rfl, hp, rfl, _, rfl, q, _, _, _, rfl, rfl, hq, rfl, _, _, rfl, rfl, ⟨sa, sd⟩, ?_⟩
  exact ⟨_, rfl, q, _, _, _, rfl, rfl, hq, rfl, _, rfl, p, _, _, _, rfl, rfl, hp, rfl, _, _, rfl, rfl, ⟨sc, sb⟩, _, _, rfl, rfl, k⟩
theorem ok_fracT {f : Addr} {fd : FuncData} (D : DefAt K mg "is_fraction" s_is_fraction ["thing"] f fd) (CW : Cl P w K mg base "is_whole" 1 ["thing"] (spWholeT K)) (CG : Cl P w K mg base "greatest_divisor" 1 ["a", "b"] spGcd) (T : Txt K mg aL aR) :
  FnOk P w K mg base CX0 2 f fd ["thing"] (spFracT K) := by
 refine D.fn.ok scFrac (fun vs H Q E h => ?_) (fun cdv A outer s H vs Q E hr h => ?_)
 ·obtain ⟨x, t, rfl, _⟩ := h
  rfl
 ·obtain ⟨x, t, rfl, hx, k⟩ := h
  refine ⟨_, pss_cons (ps_if (PW.pt (pw_or (pt_not (pt_val (pe_isi (pv 0) rfl T.isi rfl T.tuple PyProof.Rows.boot_tuple))) (pw_or1 (pt_cmpR op_ne (pe_callB call_len_seq (by rfl) T.len PySem.boot_len (pa_cons (pv 0) pa_nil)) pe_int (nomark _))))) (pss_one (ps_ret pe_bl)) pss_nil)
   (pss_cons (ps_set (i := 1) scFrac.nd rfl (Or.inl rfl) (pe_ix ix_tup (pv 0) pe_int (fun _ _ => rfl)))
   (pss_cons (ps_set (i := 2) scFrac.nd rfl (Or.inl rfl) (pe_ix ix_tup (pv 0) pe_int (fun _ _ => rfl)))
   (pss_cons (ps_if (PW.pt (pw_or (pt_not (pt_val (pe_cl CW hr rfl (pa_cons (pv 1) pa_nil)))) (pw_or (pt_not (pt_val (pe_cl CW hr rfl (pa_cons (pv 2) pa_nil))))
    (pw_or (pt_cmpR op_lt (pv 1) pe_int (nomark _)) (pw_or1 (pt_cmpR op_lt (pv 2) pe_int (nomark _))))))) (pss_one (ps_ret pe_bl)) pss_nil)
   (pss_one (ps_ret (pe_cmpR op_eq (pe_cl CG hr rfl (pa_cons (pv 1) (pa_cons (pv 2) pa_nil))) pe_int (nomark _))))))), ?_⟩
  refine ⟨_, rfl, _, _, tyo hx, kitTp K t, _, rfl, ?_⟩
  cases t with
  | non => exact iteT k
  | bl _ => exact iteT k
  | int _ => exact iteT k
  | str _ => exact iteT k
  | lst _ => exact iteT k
  | tup l =>
   refine iteF ?_
   obtain ⟨p, xs, rfl, hp, rl⟩ := hx
   have ln := rdL_len rl
   refine ⟨_, rfl, p, _, rfl, .inr hp, rfl, _, rfl, ?_⟩
   match l, rl, k with
   | [], rl, k =>
    rw [show xs = [] from rl]
    exact iteNN (by intro z; cases z) k
   | [u], rl, k =>
    have : xs.length = 1 := rdL_len rl
    rw [isFr_len (by simp)] at k
    exact iteNN (by rw [this]; intro z; cases z) k
   | u :: v :: z :: m, rl, k =>
    have : xs.length = m.length + 3 := rdL_len rl
    rw [isFr_len (by simp)] at k
    refine iteNN (by rw [this]; intro y; have := V.int.inj y; omega) ?_
    exact k
   | [u, v], rl, k =>
    obtain ⟨x1, r1, rfl, h1, x2, r2, rfl, h2, e3⟩ := rl
    cases (show r2 = [] from e3)
    refine iteNS rfl ?_
    refine ⟨_, rfl, p, _, _, _, rfl, rfl, hp, rfl, _, rfl, p, _, _, _, rfl, rfl, hp, rfl, ?_⟩
    refine ⟨_, rfl, x1, u, rfl, h1, _, rfl, ?_⟩
    cases w1 : isWh u with
    | false =>
     rw [isFr_not (.inl w1)] at k
     exact iteT k
    | true =>
     refine iteF ⟨_, rfl, x2, v, rfl, h2, _, rfl, ?_⟩
     cases w2 : isWh v with
     | false =>
      rw [isFr_not (.inr w2)] at k
      exact iteT k
     | true =>
      obtain ⟨a, rfl⟩ := isWh_int w1
      obtain ⟨b, rfl⟩ := isWh_int w2
      have e1 : x1 = .int a := h1
      have e2 : x2 = .int b := h2
      subst e1 e2
      refine iteF ⟨_, rfl, _, _, rfl, rfl, _, rfl, ?_⟩
      have kk : Q (.bl (decide (0 ≤ a) && (decide (1 ≤ b) && decide (G a b = 1)))) H := k
      refine ite2 (fun c => ?_) (fun c => ?_)
      ·have c' : a < 0 := of_decide_eq_true c
       rw [decide_eq_false (show ¬ 0 ≤ a by omega), Bool.false_and] at kk
       exact kk
      ·have c' : 0 ≤ a := by
        have : ¬ a < 0 := fun z => c (decide_eq_true z)
        omega
       rw [decide_eq_true c', Bool.true_and] at kk
       refine ⟨_, rfl, _, _, rfl, rfl, _, rfl, ?_⟩
       refine ite2 (fun d => ?_) (fun d => ?_)
       ·have d' : b < 1 := of_decide_eq_true d
        rw [decide_eq_false (show ¬ 1 ≤ b by omega), Bool.false_and] at kk
        exact kk
       ·have d' : 1 ≤ b := by
         have : ¬ b < 1 := fun z => d (decide_eq_true z)
         omega
        rw [decide_eq_true d', Bool.true_and] at kk
        refine ⟨_, rfl, _, rfl, a, b, rfl, c', by omega, rfl, ?_⟩
        have e : decide (V.int (G a b) = V.int 1) = decide (G a b = 1) := decide_eq_decide.mpr ⟨fun z => V.int.inj z, fun z => by rw [z]⟩
        rw [e]
        exact kk
end
end FQ
namespace FQ
open PySem L2 FK
def fstT : Tr → Tr
 | .tup (x :: _) => x
 | _ => .non
def sndT : Tr → Tr
 | .tup (_ :: y :: _) => y
 | _ => .non
def rOk (r : Option Tr) (t : Tr) : Bool := match r with
 | none => true
 | some e => ltT e (fstT t)
def spansOk : Option Tr → List Tr → Bool
 | _, [] => true
 | r, t :: l => isSp t && (rOk r t && spansOk (some (sndT t)) l)
def pieceOk : Tr → Bool
 | .lst l => spansOk none l
 | _ => false
def denT : Tr → Int
 | .tup [_, .int b] => b
 | _ => 0
def valI : Tr → Int
 | .int i => i
 | _ => 0
def stepOk : Tr → Bool
 | .tup [e, w] => isFr e && (decide (denT e ≤ 1000) && (isWh w && (decide (1 ≤ valI w) && decide (valI w ≤ 1000))))
 | _ => false
def isOne : Tr → Bool
 | .tup [.int a, .int b] => decide (a = 1) && decide (b = 1)
 | _ => false
def stepsUp : Tr → List Tr → Bool
 | r, [] => isOne r
 | r, t :: l => stepOk t && (ltT r (fstT t) && stepsUp (fstT t) l)
def stepsOk : Tr → Bool
 | .lst l => decide (1 ≤ l.length) && (decide (l.length ≤ 8) && stepsUp (.tup [.int 0, .int 1]) l)
 | _ => false
theorem stepOk_len {l : List Tr} (h : l.length ≠ 2) : stepOk (.tup l) = false := by
 unfold stepOk
 split
 ·rename_i e
  cases e
  exact absurd rfl h
 ·rfl
theorem isSp_two {t : Tr} (h : isSp t = true) : ∃ a b c d : Int, t = .tup [.tup [.int a, .int b], .tup [.int c, .int d]] ∧ isFr (.tup [.int c, .int d]) = true := by
 unfold isSp at h
 split at h
 ·rename_i x y
  simp only [Bool.and_eq_true] at h
  obtain ⟨a, b, rfl, _⟩ := isFr_two h.1
  obtain ⟨c, d, rfl, _⟩ := isFr_two h.2.1
  exact ⟨a, b, c, d, rfl, h.2.1⟩
 ·cases h
theorem rd_pair {K : PySem.W.Frag} {H : Hp} {a b : Int} {v : V} (h : Rd K H (.tup [.int a, .int b]) v) : ∃ p, v = .ref p ∧ SqT K H p [.int a, .int b] := by
 obtain ⟨p, xs, e, q, v1, r1, e1, h1, v2, r2, e2, h2, e3⟩ := h
 cases (show v1 = .int a from h1)
 cases (show v2 = .int b from h2)
 cases (show r2 = [] from e3)
 subst e2 e1
 exact ⟨p, e, q⟩
theorem rd_two {K : PySem.W.Frag} {H : Hp} {x y : Tr} {v : V} (h : Rd K H (.tup [x, y]) v) : ∃ p vx vy, v = .ref p ∧ SqT K H p [vx, vy] ∧ Rd K H x vx ∧ Rd K H y vy := by
 obtain ⟨p, xs, e, q, v1, r1, e1, h1, v2, r2, e2, h2, e3⟩ := h
 cases (show r2 = [] from e3)
 subst e2 e1
 exact ⟨p, v1, v2, e, q, h1, h2⟩
theorem sm_pair {a b : Int} (h : Smt (.tup [.int a, .int b])) : Sm a ∧ Sm b := ⟨h.1, h.2.1⟩
theorem ltT_two (a b c d : Int) : ltT (.tup [.int a, .int b]) (.tup [.int c, .int d]) = decide (a * d < c * b) := rfl
def spPieceT (K : PySem.W.Frag) (BP : Addr) : Sp := fun vs H Q E => ∃ (x : V) (t : Tr), vs = [x] ∧ Rd K H t x ∧ Smt t ∧ (pieceOk t = true → Q .non H) ∧ (pieceOk t = false → E (.ref BP) none H)
def spStepT (K : PySem.W.Frag) (BT : Addr) : Sp := fun vs H Q E => ∃ (x : V) (t : Tr), vs = [x] ∧ Rd K H t x ∧ (stepOk t = true → Q .non H) ∧ (stepOk t = false → E (.ref BT) none H)
def spStepsT (K : PySem.W.Frag) (BT : Addr) : Sp := fun vs H Q E => ∃ (x : V) (t : Tr), vs = [x] ∧ Rd K H t x ∧ Smt t ∧ (stepsOk t = true → Q .non H) ∧ (stepsOk t = false → E (.ref BT) none H)
section
variable {P : Program} {w : World} {K : PySem.W.Frag} {mg : Str → Option Value} {base : Heap} {aL aR BP BT : Addr}
theorem ok_spanT {f : Addr} {fd : FuncData} (D : DefAt K mg "is_span" s_is_span ["thing"] f fd) (CF : Cl P w K mg base "is_fraction" 2 ["thing"] (spFracT K)) (CB : Cl P w K mg base "below" 1 ["one", "other"] (spBelowT K)) (T : Txt K mg aL aR) :
  FnOk P w K mg base CX0 3 f fd ["thing"] (spSpanT K) := by
 refine D.fn.ok scSpan (fun vs H Q E h => ?_) (fun cdv A outer s H vs Q E hr h => ?_)
 ·obtain ⟨x, t, rfl, _⟩ := h
  rfl
 ·obtain ⟨x, t, rfl, hx, sm, k⟩ := h
  have hr1 : Room 1 _ := hr.mono (by decide)
  refine ⟨_, pss_cons (ps_if (PW.pt (pw_or (pt_not (pt_val (pe_isi (pv 0) rfl T.isi rfl T.tuple PyProof.Rows.boot_tuple))) (pw_or1 (pt_cmpR op_ne (pe_callB call_len_seq (by rfl) T.len PySem.boot_len (pa_cons (pv 0) pa_nil)) pe_int (nomark _))))) (pss_one (ps_ret pe_bl)) pss_nil)
   (pss_cons (ps_if (PW.pt (pw_or (pt_not (pt_val (pe_cl CF hr rfl (pa_cons (pe_ix ix_tup (pv 0) pe_int (fun _ _ => rfl)) pa_nil)))) (pw_or1 (pt_not (pt_val (pe_cl CF hr rfl (pa_cons (pe_ix ix_tup (pv 0) pe_int (fun _ _ => rfl)) pa_nil))))))) (pss_one (ps_ret pe_bl)) pss_nil)
   (pss_one (ps_ret (pe_and (pe_cl CB hr1 rfl (pa_cons (pe_ix ix_tup (pv 0) pe_int (fun _ _ => rfl)) (pa_cons (pe_ix ix_tup (pv 0) pe_int (fun _ _ => rfl)) pa_nil)))
    (pe_one (pe_not (pe_cl CB hr1 rfl (pa_cons (pe_glob (v := .ref aR) rfl T.right rfl) (pa_cons (pe_ix ix_tup (pv 0) pe_int (fun _ _ => rfl)) pa_nil))))))))), ?_⟩
  refine ⟨_, rfl, _, _, tyo hx, kitTp K t, _, rfl, ?_⟩
  cases t with
  | non => exact iteT k
  | bl _ => exact iteT k
  | int _ => exact iteT k
  | str _ => exact iteT k
  | lst _ => exact iteT k
  | tup l =>
   refine iteF ?_
   by_cases ln : l.length = 2
   ·match l, ln with
    | [u, v], _ =>
     obtain ⟨p, vx, vy, rfl, hp, hu, hv⟩ := rd_two hx
     refine ⟨_, rfl, p, _, rfl, .inr hp, rfl, _, rfl, iteNS rfl ?_⟩
     have kk : Q (.bl (isFr u && (isFr v && (ltT u v && !(ltT (.tup [.int 1, .int 1]) v))))) H := k
     refine ⟨_, rfl, p, _, _, _, rfl, rfl, hp, rfl, vx, u, rfl, hu, _, rfl, ?_⟩
     cases f1 : isFr u with
     | false =>
      rw [f1, Bool.false_and] at kk
      exact iteT kk
     | true =>
      rw [f1, Bool.true_and] at kk
      refine iteF ⟨_, rfl, p, _, _, _, rfl, rfl, hp, rfl, vy, v, rfl, hv, _, rfl, ?_⟩
      cases f2 : isFr v with
      | false =>
       rw [f2, Bool.false_and] at kk
       exact iteT kk
      | true =>
       rw [f2, Bool.true_and] at kk
       refine iteF ?_
       obtain ⟨a, b, rfl, _⟩ := isFr_two f1
       obtain ⟨c, d, rfl, _⟩ := isFr_two f2
       obtain ⟨p1, rfl, h1⟩ := rd_pair hu
       obtain ⟨p2, rfl, h2⟩ := rd_pair hv
       obtain ⟨sa, sb⟩ := sm_pair sm.1
       obtain ⟨sc, sd⟩ := sm_pair sm.2.1
       rw [ltT_two, ltT_two] at kk
       refine ⟨_, rfl, p, _, _, _, rfl, rfl, hp, rfl, _, rfl, p, _, _, _, rfl, rfl, hp, rfl, p1, p2, a, b, c, d, rfl, h1, h2, ⟨sa, sb, sc, sd⟩, _, rfl, ?_⟩
       cases g : decide (a * d < c * b) with
       | false =>
        rw [g, Bool.false_and] at kk
        exact iteF kk
       | true =>
        rw [g, Bool.true_and] at kk
        refine iteT ⟨_, rfl, p, _, _, _, rfl, rfl, hp, rfl, aR, p2, 1, 1, c, d, rfl, T.rightT H, h2, ⟨.of_bits (n := 10) (by decide) (by decide), .of_bits (n := 10) (by decide) (by decide), sc, sd⟩, _, rfl, kk⟩
   ·obtain ⟨p, xs, rfl, hp, rl⟩ := hx
    have lx := rdL_len rl
    rw [isSp_len ln] at k
    exact ⟨_, rfl, p, _, rfl, .inr hp, rfl, _, rfl, iteNN (by rw [lx]; intro z; have := V.int.inj z; omega) k⟩
theorem ok_checkT {f : Addr} {fd : FuncData} (D : DefAt K mg "check_piece" s_check_piece ["piece"] f fd) (CS : Cl P w K mg base "is_span" 3 ["thing"] (spSpanT K)) (CB : Cl P w K mg base "below" 1 ["one", "other"] (spBelowT K)) (T : Txt K mg aL aR) (cX : ExcC K mg "BadPiece" BP) :
  FnOk P w K mg base (CX1 P w BP) 4 f fd ["piece"] (spPieceT K BP) := by
 refine D.fn.okX scCheck (fun vs H Q E h => ?_) (fun cdv A outer s H vs Q E hr h => ?_)
 ·obtain ⟨x, t, rfl, _⟩ := h
  rfl
 ·obtain ⟨x, t, rfl, hx, sm, kQ, kE⟩ := h
  have hr1 : Room 1 _ := hr.mono (by decide)
  refine ⟨_, pss_cons (ps_if (pt_not (pt_val (pe_isi (pv 0) rfl T.isi rfl T.list PyProof.Rows.boot_list))) (pss_one (ps_raise cX rfl)) pss_nil)
   (pss_cons (ps_set (i := 1) scCheck.nd rfl (Or.inl rfl) pe_non)
   (pss_one (ps_for PassesOwn.leaving rfl (pi_list (pv 0)) (pg_name (i := 2) scCheck.nd rfl (Or.inl rfl))
    (pss_cons (ps_if (pt_not (pt_val (pe_cl CS hr rfl (pa_cons (pv 2) pa_nil)))) (pss_one (ps_raise cX rfl)) pss_nil)
    (pss_cons (ps_if (PW.pt (pw_and (pt_cmpR op_notN (pv 1) pe_non (nomark _)) (pw_and1 (pt_not (pt_val (pe_cl CB hr1 rfl (pa_cons (pv 1) (pa_cons (pe_ix ix_tup (pv 2) pe_int (fun _ _ => rfl)) pa_nil)))))))) (pss_one (ps_raise cX rfl)) pss_nil)
    (pss_one (ps_set (i := 1) scCheck.nd rfl (Or.inl rfl) (pe_ix ix_tup (pv 2) pe_int (fun _ _ => rfl))))))))), ?_⟩
  refine ⟨_, rfl, _, _, tyo hx, kitLs K t, _, rfl, ?_⟩
  cases t with
  | non => exact iteT (kE rfl)
  | bl _ => exact iteT (kE rfl)
  | int _ => exact iteT (kE rfl)
  | str _ => exact iteT (kE rfl)
  | tup _ => exact iteT (kE rfl)
  | lst l =>
   refine iteF ?_
   obtain ⟨p, xs, rfl, hp, rl⟩ := hx
   have lx := rdL_len rl
   refine ⟨_, rfl, p, rfl, ⟨_, hp⟩, ?_⟩
   refine for_list (K := K) (a := p) (xs := xs) (fun i σ H' => H' = H ∧ ∃ (ro : Option Tr) (rv : V) (sp : Option V), σ = [some (.ref p), some rv, sp] ∧ ((ro = none ∧ rv = .non) ∨ ∃ a b : Int, ro = some (.tup [.int a, .int b]) ∧ (∃ p2, rv = .ref p2 ∧ SqT K H p2 [.int a, .int b]) ∧ Sm a ∧ Sm b) ∧ spansOk ro (l.drop i) = spansOk none l)
    ⟨rfl, none, _, _, rfl, .inl ⟨rfl, rfl⟩, rfl⟩ (fun i σ H' _ h => by rw [h.1]; exact hp) ?_ ?_
   ·rintro i x σ H' hx ⟨rfl, ro, rv, sp, rfl, hro, hb⟩
    obtain ⟨t, ht, hs⟩ := rdL_get rl hx
    have smt := smL_get sm ht
    have dr : l.drop i = t :: l.drop (i + 1) := by
     obtain ⟨il, e⟩ := List.getElem?_eq_some_iff.mp ht
     rw [List.drop_eq_getElem_cons il, e]
    rw [dr] at hb
    have hb' : (isSp t && (rOk ro t && spansOk (some (sndT t)) (l.drop (i + 1)))) = spansOk none l := hb
    refine ⟨_, rfl, x, t, rfl, hs, smt, _, rfl, ?_⟩
    cases g : isSp t with
    | false =>
     rw [g, Bool.false_and] at hb'
     exact iteT (kE hb'.symm)
    | true =>
     rw [g, Bool.true_and] at hb'
     refine iteF ?_
     obtain ⟨a, b, c, d, rfl, _⟩ := isSp_two g
     obtain ⟨p0, vx, vy, rfl, hp0, hu, hv⟩ := rd_two hs
     obtain ⟨q1, rfl, h1⟩ := rd_pair hu
     obtain ⟨q2, rfl, h2⟩ := rd_pair hv
     obtain ⟨sa, sb⟩ := sm_pair smt.1
     obtain ⟨sc, sd⟩ := sm_pair smt.2.1
     refine ⟨_, rfl, rfl, _, rfl, ?_⟩
     rcases hro with ⟨rfl, rfl⟩ | ⟨a', b', rfl, ⟨p2, rfl, h0⟩, sa', sb'⟩
     ·have hb2 : spansOk (some (.tup [.int c, .int d])) (l.drop (i + 1)) = spansOk none l := hb'
      refine iteNS rfl (iteF ?_)
      exact ⟨_, rfl, p0, _, _, _, rfl, rfl, hp0, rfl, rfl, _, _, _, rfl, .inr ⟨c, d, rfl, ⟨q2, rfl, h2⟩, sc, sd⟩, hb2⟩
     ·have hb2 : (decide (a' * b < a * b') && spansOk (some (.tup [.int c, .int d])) (l.drop (i + 1))) = spansOk none l := hb'
      refine iteNN (fun z => nomatch z) ?_
      refine ⟨_, rfl, _, rfl, p0, _, _, _, rfl, rfl, hp0, rfl, p2, q1, a', b', a, b, rfl, h0, h1, ⟨sa', sb', sa, sb⟩, _, rfl, ?_⟩
      cases e : decide (a' * b < a * b') with
      | false =>
       rw [e, Bool.false_and] at hb2
       exact iteT (kE hb2.symm)
      | true =>
       rw [e, Bool.true_and] at hb2
       refine iteF ?_
       exact ⟨_, rfl, p0, _, _, _, rfl, rfl, hp0, rfl, rfl, _, _, _, rfl, .inr ⟨c, d, rfl, ⟨q2, rfl, h2⟩, sc, sd⟩, hb2⟩
   ·rintro σ H' ⟨rfl, ro, rv, sp, rfl, _, hb⟩
    rw [List.drop_of_length_le (by omega)] at hb
    exact kQ hb.symm
theorem ok_stepT {f : Addr} {fd : FuncData} (D : DefAt K mg "check_step" s_check_step ["step"] f fd) (CF : Cl P w K mg base "is_fraction" 2 ["thing"] (spFracT K)) (CW : Cl P w K mg base "is_whole" 1 ["thing"] (spWholeT K)) (T : Txt K mg aL aR) (TT : TxtT mg) (cX : ExcC K mg "BadTaste" BT) :
  FnOk P w K mg base (CX1 P w BT) 3 f fd ["step"] (spStepT K BT) := by
 obtain ⟨t2, e2⟩ := TT.second
 obtain ⟨t3, e3⟩ := TT.weight
 refine D.fn.okX scStep (fun vs H Q E h => ?_) (fun cdv A outer s H vs Q E hr h => ?_)
 ·obtain ⟨x, t, rfl, _⟩ := h
  rfl
 ·obtain ⟨x, t, rfl, hx, kQ, kE⟩ := h
  have hr1 : Room 1 _ := hr.mono (by decide)
  refine ⟨_, pss_cons (ps_if (PW.pt (pw_or (pt_not (pt_val (pe_isi (pv 0) rfl T.isi rfl T.tuple PyProof.Rows.boot_tuple))) (pw_or1 (pt_cmpR op_ne (pe_callB call_len_seq (by rfl) T.len PySem.boot_len (pa_cons (pv 0) pa_nil)) pe_int (nomark _))))) (pss_one (ps_raise cX rfl)) pss_nil)
   (pss_cons (ps_if (PW.pt (pw_or (pt_not (pt_val (pe_cl CF hr rfl (pa_cons (pe_ix ix_tup (pv 0) pe_int (fun _ _ => rfl)) pa_nil)))) (pw_or1 (pt_cmpR op_gt (pe_ix ix_tup (pe_ix ix_tup (pv 0) pe_int (fun _ _ => rfl)) pe_int (fun _ _ => rfl)) (pe_glob (v := .int 1000) rfl e2 ⟨_, rfl⟩) (nomark _))))) (pss_one (ps_raise cX rfl)) pss_nil)
   (pss_one (ps_if (PW.pt (pw_or (pt_not (pt_val (pe_cl CW hr1 rfl (pa_cons (pe_ix ix_tup (pv 0) pe_int (fun _ _ => rfl)) pa_nil)))) (pw_or (pt_cmpR op_lt (pe_ix ix_tup (pv 0) pe_int (fun _ _ => rfl)) pe_int (nomark _)) (pw_or1 (pt_cmpR op_gt (pe_ix ix_tup (pv 0) pe_int (fun _ _ => rfl)) (pe_glob (v := .int 1000) rfl e3 ⟨_, rfl⟩) (nomark _)))))) (pss_one (ps_raise cX rfl)) pss_nil))), ?_⟩
  refine ⟨_, rfl, _, _, tyo hx, kitTp K t, _, rfl, ?_⟩
  cases t with
  | non => exact iteT (kE rfl)
  | bl _ => exact iteT (kE rfl)
  | int _ => exact iteT (kE rfl)
  | str _ => exact iteT (kE rfl)
  | lst _ => exact iteT (kE rfl)
  | tup l =>
   refine iteF ?_
   by_cases ln : l.length = 2
   ·match l, ln with
    | [u, v], _ =>
     obtain ⟨p, vx, vy, rfl, hp, hu, hv⟩ := rd_two hx
     refine ⟨_, rfl, p, _, rfl, .inr hp, rfl, _, rfl, iteNS rfl ?_⟩
     have kQ' : (isFr u && (decide (denT u ≤ 1000) && (isWh v && (decide (1 ≤ valI v) && decide (valI v ≤ 1000))))) = true → Q .non H := kQ
     have kE' : (isFr u && (decide (denT u ≤ 1000) && (isWh v && (decide (1 ≤ valI v) && decide (valI v ≤ 1000))))) = false → E (.ref BT) none H := kE
     refine ⟨_, rfl, p, _, _, _, rfl, rfl, hp, rfl, vx, u, rfl, hu, _, rfl, ?_⟩
     cases f1 : isFr u with
     | false => exact iteT (kE' (by rw [f1, Bool.false_and]))
     | true =>
      rw [f1, Bool.true_and] at kQ' kE'
      refine iteF ?_
      obtain ⟨a, b, rfl, _⟩ := isFr_two f1
      obtain ⟨p1, rfl, h1⟩ := rd_pair hu
      have ed : denT (.tup [.int a, .int b]) = b := rfl
      rw [ed] at kQ' kE'
      refine ⟨_, rfl, p, _, _, _, rfl, rfl, hp, rfl, p1, _, _, _, rfl, rfl, h1, rfl, _, _, rfl, rfl, _, rfl, ?_⟩
      refine ite2 (fun c => ?_) (fun c => ?_)
      ·have c' : 1000 < b := of_decide_eq_true c
       exact kE' (by rw [decide_eq_false (show ¬ b ≤ 1000 by omega), Bool.false_and])
      ·have c' : b ≤ 1000 := by
        have : ¬ 1000 < b := fun z => c (decide_eq_true z)
        omega
       rw [decide_eq_true c', Bool.true_and] at kQ' kE'
       refine ⟨_, rfl, p, _, _, _, rfl, rfl, hp, rfl, vy, v, rfl, hv, _, rfl, ?_⟩
       cases f2 : isWh v with
       | false => exact iteT (kE' (by rw [f2, Bool.false_and]))
       | true =>
        rw [f2, Bool.true_and] at kQ' kE'
        obtain ⟨i, rfl⟩ := isWh_int f2
        cases (show vy = .int i from hv)
        have ev : valI (.int i) = i := rfl
        rw [ev] at kQ' kE'
        refine iteF ⟨_, rfl, p, _, _, _, rfl, rfl, hp, rfl, _, _, rfl, rfl, _, rfl, ?_⟩
        refine ite2 (fun d => ?_) (fun d => ?_)
        ·have d' : i < 1 := of_decide_eq_true d
         exact kE' (by rw [decide_eq_false (show ¬ 1 ≤ i by omega), Bool.false_and])
        ·have d' : 1 ≤ i := by
          have : ¬ i < 1 := fun z => d (decide_eq_true z)
          omega
         rw [decide_eq_true d', Bool.true_and] at kQ' kE'
         refine ⟨_, rfl, p, _, _, _, rfl, rfl, hp, rfl, _, _, rfl, rfl, _, rfl, ?_⟩
         refine ite2 (fun e => ?_) (fun e => ?_)
         ·have e' : 1000 < i := of_decide_eq_true e
          exact kE' (decide_eq_false (by omega))
         ·have e' : ¬ 1000 < i := fun z => e (decide_eq_true z)
          exact kQ' (decide_eq_true (by omega))
   ·obtain ⟨p, xs, rfl, hp, rl⟩ := hx
    have lx := rdL_len rl
    exact ⟨_, rfl, p, _, rfl, .inr hp, rfl, _, rfl, iteNN (by rw [lx]; intro z; have := V.int.inj z; omega) (kE (stepOk_len ln))⟩
theorem stepOk_two {t : Tr} (h : stepOk t = true) : ∃ (a b : Int) (w : Tr), t = .tup [.tup [.int a, .int b], w] := by
 unfold stepOk at h
 split at h
 ·rename_i x y
  simp only [Bool.and_eq_true] at h
  obtain ⟨a, b, rfl, _⟩ := isFr_two h.1
  exact ⟨a, b, y, rfl⟩
 ·cases h
theorem ok_stepsT {f : Addr} {fd : FuncData} (D : DefAt K mg "check_steps" s_check_steps ["steps"] f fd) (CT : ClX P w K mg base BT "check_step" 3 ["step"] (spStepT K BT)) (CB : Cl P w K mg base "below" 1 ["one", "other"] (spBelowT K)) (T : Txt K mg aL aR) (TT : TxtT mg) (cX : ExcC K mg "BadTaste" BT) :
  FnOk P w K mg base (CX1 P w BT) 4 f fd ["steps"] (spStepsT K BT) := by
 obtain ⟨t1, e1⟩ := TT.most
 refine D.fn.okX scSteps (fun vs H Q E h => ?_) (fun cdv A outer s H vs Q E hr h => ?_)
 ·obtain ⟨x, t, rfl, _⟩ := h
  rfl
 ·obtain ⟨x, t, rfl, hx, sm, kQ, kE⟩ := h
  have hr1 : Room 1 _ := hr.mono (by decide)
  have hu : _ + (0 + 1) < cLine := hu_of hr
  refine ⟨_, pss_cons (ps_if (pt_not (pt_val (pe_isi (pv 0) rfl T.isi rfl T.list PyProof.Rows.boot_list))) (pss_one (ps_raise cX rfl)) pss_nil)
   (pss_cons (ps_if (PW.pt (pw_or (pt_cmpR op_lt (pe_callB call_len_seq (by rfl) T.len PySem.boot_len (pa_cons (pv 0) pa_nil)) pe_int (nomark _)) (pw_or1 (pt_cmpR op_gt (pe_callB call_len_seq (by rfl) T.len PySem.boot_len (pa_cons (pv 0) pa_nil)) (pe_glob (v := .int 8) rfl e1 ⟨_, rfl⟩) (nomark _))))) (pss_one (ps_raise cX rfl)) pss_nil)
   (pss_cons (ps_set (i := 1) scSteps.nd rfl (Or.inl rfl) (pe_glob (v := .ref aL) rfl T.left rfl))
   (pss_cons (ps_for PassesOwn.leaving rfl (pi_list (pv 0)) (pg_name (i := 2) scSteps.nd rfl (Or.inl rfl))
    (pss_cons (ps_expr (pe_clX CT hr rfl (pa_cons (pv 2) pa_nil)))
    (pss_cons (ps_if (pt_not (pt_val (pe_cl CB hr1 rfl (pa_cons (pv 1) (pa_cons (pe_ix ix_tup (pv 2) pe_int (fun _ _ => rfl)) pa_nil))))) (pss_one (ps_raise cX rfl)) pss_nil)
    (pss_one (ps_set (i := 1) scSteps.nd rfl (Or.inl rfl) (pe_ix ix_tup (pv 2) pe_int (fun _ _ => rfl)))))))
   (pss_one (ps_if (pt_cmpR (op_neP rpe_int rpe_int hu) (pv 1) (pe_glob (v := .ref aR) rfl T.right rfl) (nomark _)) (pss_one (ps_raise cX rfl)) pss_nil))))), ?_⟩
  refine ⟨_, rfl, _, _, tyo hx, kitLs K t, _, rfl, ?_⟩
  cases t with
  | non => exact iteT (kE rfl)
  | bl _ => exact iteT (kE rfl)
  | int _ => exact iteT (kE rfl)
  | str _ => exact iteT (kE rfl)
  | tup _ => exact iteT (kE rfl)
  | lst l =>
   refine iteF ?_
   obtain ⟨p, xs, rfl, hp, rl⟩ := hx
   have lx := rdL_len rl
   have kQ' : (decide (1 ≤ l.length) && (decide (l.length ≤ 8) && stepsUp (.tup [.int 0, .int 1]) l)) = true → Q .non H := kQ
   have kE' : (decide (1 ≤ l.length) && (decide (l.length ≤ 8) && stepsUp (.tup [.int 0, .int 1]) l)) = false → E (.ref BT) none H := kE
   refine ⟨_, rfl, p, _, rfl, .inl hp, _, _, rfl, rfl, _, rfl, ?_⟩
   refine ite2 (fun c => ?_) (fun c => ?_)
   ·have c' : (xs.length : Int) < 1 := of_decide_eq_true c
    exact kE' (by rw [decide_eq_false (show ¬ 1 ≤ l.length by omega), Bool.false_and])
   ·have c' : 1 ≤ l.length := by
     have : ¬ (xs.length : Int) < 1 := fun z => c (decide_eq_true z)
     omega
    rw [decide_eq_true c', Bool.true_and] at kQ' kE'
    refine ⟨_, rfl, p, _, rfl, .inl hp, _, _, rfl, rfl, _, rfl, ?_⟩
    refine ite2 (fun d => ?_) (fun d => ?_)
    ·have d' : (8 : Int) < xs.length := of_decide_eq_true d
     exact kE' (by rw [decide_eq_false (show ¬ l.length ≤ 8 by omega), Bool.false_and])
    ·have d' : l.length ≤ 8 := by
      have : ¬ (8 : Int) < xs.length := fun z => d (decide_eq_true z)
      omega
     rw [decide_eq_true d', Bool.true_and] at kQ' kE'
     refine ⟨_, rfl, p, rfl, ⟨_, hp⟩, ?_⟩
     refine for_list (K := K) (a := p) (xs := xs) (fun i σ H' => H' = H ∧ ∃ (a b : Int) (p2 : Addr) (x2 : Option V), σ = [some (.ref p), some (.ref p2), x2] ∧ SqT K H p2 [.int a, .int b] ∧ Sm a ∧ Sm b ∧ stepsUp (.tup [.int a, .int b]) (l.drop i) = stepsUp (.tup [.int 0, .int 1]) l)
      ⟨rfl, 0, 1, aL, _, rfl, T.leftT H, .of_bits (n := 10) (by decide) (by decide), .of_bits (n := 10) (by decide) (by decide), rfl⟩ (fun i σ H' _ h => by rw [h.1]; exact hp) ?_ ?_
     ·rintro i x σ H' hx ⟨rfl, a, b, p2, x2, rfl, h2, sa, sb, hb⟩
      obtain ⟨t, ht, hs⟩ := rdL_get rl hx
      have smt := smL_get sm ht
      have dr : l.drop i = t :: l.drop (i + 1) := by
       obtain ⟨il, e⟩ := List.getElem?_eq_some_iff.mp ht
       rw [List.drop_eq_getElem_cons il, e]
      rw [dr] at hb
      have hb' : (stepOk t && (ltT (.tup [.int a, .int b]) (fstT t) && stepsUp (fstT t) (l.drop (i + 1)))) = stepsUp (.tup [.int 0, .int 1]) l := hb
      refine ⟨_, rfl, x, t, rfl, hs, fun g => ?_, fun g => ?_⟩
      ·rw [g, Bool.true_and] at hb'
       obtain ⟨c, d, w, rfl⟩ := stepOk_two g
       obtain ⟨p0, vx, vy, rfl, hp0, hu', hv⟩ := rd_two hs
       obtain ⟨q1, rfl, h1⟩ := rd_pair hu'
       obtain ⟨sc, sd⟩ := sm_pair smt.1
       have hb2 : (decide (a * d < c * b) && stepsUp (.tup [.int c, .int d]) (l.drop (i + 1))) = stepsUp (.tup [.int 0, .int 1]) l := hb'
       refine ⟨_, rfl, _, rfl, p0, _, _, _, rfl, rfl, hp0, rfl, p2, q1, a, b, c, d, rfl, h2, h1, ⟨sa, sb, sc, sd⟩, _, rfl, ?_⟩
       cases e : decide (a * d < c * b) with
       | false =>
        rw [e, Bool.false_and] at hb2
        exact iteT (kE' hb2.symm)
       | true =>
        rw [e, Bool.true_and] at hb2
        refine iteF ?_
        exact ⟨_, rfl, p0, _, _, _, rfl, rfl, hp0, rfl, rfl, c, d, q1, _, rfl, h1, sc, sd, hb2⟩
      ·rw [g, Bool.false_and] at hb'
       exact kE' hb'.symm
     ·rintro σ H' ⟨rfl, a, b, p2, x2, rfl, h2, sa, sb, hb⟩
      rw [List.drop_of_length_le (by omega)] at hb
      have hb2 : (decide (a = 1) && decide (b = 1)) = stepsUp (.tup [.int 0, .int 1]) l := hb
      refine ⟨_, rfl, (a, b), (1, 1), ⟨p2, _, _, rfl, h2, rfl, rfl⟩, ⟨aR, _, _, rfl, T.rightT H', rfl, rfl⟩, _, rfl, ?_⟩
      by_cases e : (a, b) = ((1 : Int), (1 : Int))
      ·refine iteNS e ?_
       cases e
       exact kQ' hb2.symm
      ·refine iteNN e ?_
       refine kE' ?_
       rw [← hb2]
       by_cases e1 : a = 1
       ·rw [decide_eq_true e1, Bool.true_and]
        exact decide_eq_false fun z => e (by rw [e1, z])
       ·rw [decide_eq_false e1, Bool.false_and]
end
end FQ
namespace FT
open PySem
theorem val_digits (l : List Nat) : PySem.NumText.digitsVal l = val l := by
 unfold PySem.NumText.digitsVal val
 congr 1
 funext a d
 omega
theorem text_val {x : PySem.Str} {n : Nat} (h : numP (tl x) = some n) : PySem.intText? x = some (n : Int) ∧ x.length ≤ 640 := by
 have f := numP_fig h
 have hn : n = val (tl x) ∧ 1 ≤ (tl x).length ∧ (tl x).length ≤ 300 := by
  unfold numP at h
  split at h
  ·cases h
  ·rename_i h1
   split at h
   ·cases h
   ·split at h
    ·cases h
    ·cases h
     exact ⟨rfl, by omega, by omega⟩
 have el : (tl x).length = x.length := Array.length_toList
 refine ⟨?_, by omega⟩
 have e := PySem.intText_digits (x := x) (fun c hc => by
  have := f c hc
  unfold isFig at this
  simp only [Bool.and_eq_true, decide_eq_true_eq] at this
  exact this) (fun z => by
   have z' : tl x = [] := z
   rw [z'] at hn
   exact absurd hn.2.1 (by decide)) (by omega)
 rw [e, val_digits, hn.1]
def FIG : PySem.Str := "0123456789"
theorem fig_mem (c : Nat) : decide (c ∈ tl FIG) = isFig c := by
 have e : tl FIG = [48, 49, 50, 51, 52, 53, 54, 55, 56, 57] := by decide +kernel
 rw [e]
 unfold isFig
 by_cases h : 48 ≤ c ∧ c ≤ 57
 ·rw [decide_eq_true h.1, decide_eq_true h.2]
  refine decide_eq_true ?_
  simp only [List.mem_cons, List.not_mem_nil, or_false]
  omega
 ·have : ¬ c ∈ [48, 49, 50, 51, 52, 53, 54, 55, 56, 57] := by
   simp only [List.mem_cons, List.not_mem_nil, or_false]
   omega
  rw [decide_eq_false this]
  by_cases h1 : 48 ≤ c
  ·rw [decide_eq_false (show ¬ c ≤ 57 by omega), Bool.and_false]
  ·rw [decide_eq_false h1, Bool.false_and]
end FT
namespace FQ
open PySem L2 FK FT
structure TxtX (mg : Str → Option Value) : Prop where
 figs : ∃ t, mg "FIGURES" = some (.str FIG t)
 most : ∃ t, mg "MOST_FIGURES" = some (.int 300 t)
def spNumOf (BX : Addr) : Sp := fun vs H Q E => ∃ x : PySem.Str, vs = [.str x] ∧ x.length ≤ 5000 ∧ (∀ n : Nat, numP (tl x) = some n → ∀ H', Same H H' → Q (.int n) H') ∧ (numP (tl x) = none → ∀ H', Same H H' → E (.ref BX) none H')
section
variable {P : Program} {w : World} {K : PySem.W.Frag} {mg : Str → Option Value} {base : Heap} {aL aR BX : Addr}
theorem scNumOf : FnScope ["text"] ["text"] (defScope s_number_of) := ⟨rfl, rfl, rfl, by decide +kernel, rfl, by decide +kernel, by decide +kernel⟩
theorem ok_numOf {f : Addr} {fd : FuncData} (D : DefAt K mg "number_of" s_number_of ["text"] f fd) (T : Txt K mg aL aR) (TX : TxtX mg) (cX : ExcC K mg "BadText" BX) : FnOk P w K mg base (CX1 P w BX) 1 f fd ["text"] (spNumOf BX) := by
 refine D.fn.okX (k := 0) scNumOf (fun vs H Q E h => ?_) (fun cdv A outer s H vs Q E hr h => ?_)
 ·obtain ⟨x, rfl, _⟩ := h
  rfl
 ·obtain ⟨x, rfl, lx, ok, no⟩ := h
  obtain ⟨t1, e1⟩ := TX.figs
  obtain ⟨t2, e2⟩ := TX.most
  have big : 5000 ≤ sizeLine := by decide
  have el : (tl x).length = x.length := Array.length_toList
  refine ⟨_, pss_cons (ps_if (PW.pt (pw_or (pt_cmpR op_lt (pe_callB call_len_str (by rfl) T.len PySem.boot_len (pa_cons (pv 0) pa_nil)) pe_int (nomark _)) (pw_or1 (pt_cmpR op_gt (pe_callB call_len_str (by rfl) T.len PySem.boot_len (pa_cons (pv 0) pa_nil)) (pe_glob (v := .int 300) rfl e2 ⟨_, rfl⟩) (nomark _))))) (pss_one (ps_raise cX rfl)) pss_nil)
   (pss_cons (ps_if (pt_val (pe_callB (call_any rfl) (by rfl) T.any PyProof.Rows.boot_any (pa_cons (pe_comp ["sign"] rfl (CompOk.plain rfl (by decide +kernel) (by decide +kernel) (by decide +kernel)) (pi_str (pv 0)) (fun _ => pg_name (i := 0) (show [Str.ofString "sign"].Nodup by decide +kernel) rfl (Or.inl rfl)) (fun _ => pifs_nil)
    (fun _ => pe_cmpR op_notIn_str (pv 0) (pe_glob (v := .str FIG) rfl e1 ⟨_, rfl⟩) rfl)) pa_nil))) (pss_one (ps_raise cX rfl)) pss_nil)
   (pss_cons (ps_if (PW.pt (pw_and (pt_cmpR op_eq (pe_item_str (pv 0) pe_int (fun _ _ => rfl)) pe_str (nomark _)) (pw_and1 (pt_cmpR op_ne (pv 0) pe_str (nomark _))))) (pss_one (ps_raise cX rfl)) pss_nil)
   (pss_one (ps_ret (pe_callTy call_int_text (by rfl) T.int PyProof.Rows.boot_int (pa_cons (pv 0) pa_nil)))))), ?_⟩
  have none1 : (tl x).length < 1 ∨ 300 < (tl x).length → numP (tl x) = none := fun z => by
   unfold numP
   rw [if_pos z]
  refine ⟨_, rfl, x, rfl, by omega, _, _, rfl, rfl, _, rfl, ?_⟩
  refine ite2 (fun c => ?_) (fun c => ?_)
  ·have c' : (x.length : Int) < 1 := of_decide_eq_true c
   exact no (none1 (.inl (by omega))) H (Same.refl H)
  ·have c' : ¬ (x.length : Int) < 1 := fun z => c (decide_eq_true z)
   refine ⟨_, rfl, x, rfl, by omega, _, _, rfl, rfl, _, rfl, ?_⟩
   refine ite2 (fun d => ?_) (fun d => ?_)
   ·have d' : (300 : Int) < (x.length : Int) := of_decide_eq_true d
    exact no (none1 (.inr (by omega))) H (Same.refl H)
   ·have d' : ¬ (300 : Int) < (x.length : Int) := fun z => d (decide_eq_true z)
    refine ⟨_, rfl, x, rfl, fun D1 hD1 => ?_⟩
    refine comp_str (x := x) (D := D1) (fun i ys σ H2 => Same H H2 ∧ H2 D1 = some (.lst ys) ∧ ys = (((tl x).take i).map fun d => !isFig d).map V.bl ∧ i ≤ (tl x).length ∧ ∃ v, σ = [v]) (by omega) ⟨Same.upd hD1, upd_same, rfl, Nat.zero_le _, _, rfl⟩ ?_ ?_ ?_
    ·rintro i ys σ H2 _ ⟨_, h2, rfl, _⟩
     refine ⟨h2, ?_⟩
     rw [List.length_map, List.length_map, List.length_take]
     omega
    ·rintro i ch ys σ H2 hch ⟨s2, h2, rfl, il, v, rfl⟩ cc
     refine ⟨_, rfl, _, _, rfl, rfl, h2, s2.updN hD1, upd_same, ?_, by have := (List.getElem?_eq_some_iff.mp hch).1; omega, _, rfl⟩
     have fo := PySem.StrLaws.found_one FIG ch
     rw [fo, fig_mem, take_snoc hch, List.map_append, List.map_append]
     rfl
    ·rintro ys σ H2 ⟨s2, h2, rfl, _, v, rfl⟩
     refine ⟨D1, ((tl x).take (tl x).length).map fun d => !isFig d, rfl, .of h2, _, rfl, ?_⟩
     rw [List.take_length, List.any_map]
     refine ite2 (fun b0 => ?_) (fun b0 => ?_)
     ·have b : ((tl x).any fun d => !isFig d) = true := b0
      refine no ?_ H2 s2
      unfold numP
      rw [if_neg (by omega), if_pos b]
     ·have b : ¬ ((tl x).any fun d => !isFig d) = true := b0
      have f := any_fig b
      cases ex : tl x with
      | nil =>
       rw [ex] at el
       exact absurd el (by simp; omega)
      | cons c0 r0 =>
       have hc0 : x.cps[(0 : Int).toNat]? = some c0 := by
        rw [← tl_get, ex]
        rfl
       refine ⟨_, rfl, x, 0, c0, rfl, rfl, by decide, by decide, by omega, hc0, rfl, _, rfl, ?_⟩
       have z0 : (V.str ⟨#[c0]⟩ = V.str (Str.ofString "0")) ↔ c0 = 48 := by
        have e0 : Str.ofString "0" = (⟨#[48]⟩ : PySem.Str) := by decide +kernel
        rw [e0]
        refine ⟨fun z => ?_, fun z => by rw [z]⟩
        injection z with z
        injection z with z
        have := congrArg (fun a : Array Nat => a.toList) z
        simpa using this
       have zx : (V.str x = V.str (Str.ofString "0")) ↔ tl x = [48] := by
        have e0 : Str.ofString "0" = mkS [48] := by decide +kernel
        rw [e0]
        refine ⟨fun z => ?_, fun z => ?_⟩
        ·injection z with z
         rw [z]
         rfl
        ·rw [← mk_tl x, z]
       have pl : FT.plain (tl x) = (!decide (c0 = 48) || decide (tl x = [48])) := by
        unfold FT.plain
        rw [ex]
        by_cases q : c0 = 48
        ·subst q
         by_cases r : r0 = []
         ·subst r
          rfl
         ·simp [r]
        ·simp [q]
       have fin : FT.plain (tl x) = true → ∀ H', Same H2 H' → Q (.int (val (tl x) : Nat)) H' := fun p H' s' => ok _ (by unfold numP; rw [if_neg (by omega), if_neg b, if_neg (by rw [p]; decide)]) H' (s2.trans s')
       have bad : FT.plain (tl x) = false → E (.ref BX) none H2 := fun p => no (by unfold numP; rw [if_neg (by omega), if_neg b, if_pos p]) H2 s2
       refine ite2 (fun q => ?_) (fun q => ?_)
       ·have q' : c0 = 48 := z0.mp (of_decide_eq_true q)
        refine ⟨_, rfl, rfl, _, rfl, ?_⟩
        by_cases r : tl x = [48]
        ·refine iteNS (zx.mpr r) ?_
         have p : FT.plain (tl x) = true := by rw [pl, decide_eq_true r, Bool.or_true]
         have tv := text_val (x := x) (n := val (tl x)) (by unfold numP; rw [if_neg (by omega), if_neg b, if_neg (by rw [p]; decide)])
         exact ⟨_, rfl, x, _, rfl, tv.1, tv.2, fin p H2 (Same.refl H2)⟩
        ·refine iteNN (fun z => r (zx.mp z)) ?_
         exact bad (by rw [pl, decide_eq_true q', decide_eq_false r]; rfl)
       ·have q' : ¬ c0 = 48 := fun z => q (decide_eq_true (z0.mpr z))
        have p : FT.plain (tl x) = true := by rw [pl, decide_eq_false q']; rfl
        have tv := text_val (x := x) (n := val (tl x)) (by unfold numP; rw [if_neg (by omega), if_neg b, if_neg (by rw [p]; decide)])
        exact ⟨_, rfl, x, _, rfl, tv.1, tv.2, fin p H2 (Same.refl H2)⟩
end
end FQ
namespace FT
open PySem L2
theorem sp_le {c : Nat} : ∀ {l w : List Nat}, w ∈ sp c l → w.length ≤ l.length
 | [], w, h => by
  rw [List.mem_singleton.mp h]
  exact Nat.le_refl _
 | x :: r, w, h => by
  unfold sp at h
  split at h
  ·rcases List.mem_cons.mp h with z | z
   ·rw [z]; exact Nat.zero_le _
   ·exact Nat.le_succ_of_le (sp_le z)
  ·split at h
   ·rw [List.mem_singleton.mp h]
    exact Nat.succ_le_succ (Nat.zero_le _)
   ·rename_i e
    rcases List.mem_cons.mp h with z | z
    ·rw [z]
     exact Nat.succ_le_succ (sp_le (by rw [e]; exact List.mem_cons_self ..))
    ·exact Nat.le_succ_of_le (sp_le (by rw [e]; exact List.mem_cons_of_mem _ z))
theorem sp_one {c : Nat} {l w : List Nat} (h : sp c l = [w]) : w = l := by
 by_cases g : c ∈ l
 ·rw [sp_yes g] at h
  injection h with _ h2
  exact absurd h2 (sp_ne _)
 ·rw [sp_no g] at h
  injection h with h1 _
  exact h1.symm
theorem mk_len (l : List Nat) : (mkS l).length = l.length := by
 show l.toArray.size = l.length
 simp
theorem str_one {w : List Nat} : (V.str (mkS w) = V.str (Str.ofString "1")) ↔ w = [49] := by
 have e0 : Str.ofString "1" = mkS [49] := by decide +kernel
 rw [e0]
 refine ⟨fun z => ?_, fun z => by rw [z]⟩
 injection z with z
 have := congrArg tl z
 exact this
end FT
namespace L2
theorem iteEq {c A B : Prop} [Decidable c] (hc : c) (h : A) : if decide c = true then A else B := by
 rw [decide_eq_true hc]
 exact iteT h
theorem iteEqN {c A B : Prop} [Decidable c] (hc : ¬ c) (h : B) : if decide c = true then A else B := by
 rw [decide_eq_false hc]
 exact iteF h
end L2
namespace FQ
open PySem L2 FK FT
def spFrOf (K : PySem.W.Frag) (BX : Addr) : Sp := fun vs H Q E => ∃ x : PySem.Str, vs = [.str x] ∧ x.length ≤ 5000 ∧ (∀ p : Nat × Nat, frP (tl x) = some p → ∀ (t : Addr) H', Same H H' → SqT K H' t [.int p.1, .int p.2] → Q (.ref t) H') ∧ (frP (tl x) = none → ∀ H', Same H H' → E (.ref BX) none H')
section
variable {P : Program} {w : World} {K : PySem.W.Frag} {mg : Str → Option Value} {base : Heap} {aL aR BX : Addr}
theorem scFrOf : FnScope ["text", "parts"] ["text"] (defScope s_fraction_of) := ⟨rfl, rfl, rfl, by decide +kernel, rfl, by decide +kernel, by decide +kernel⟩
theorem ok_frOf {f : Addr} {fd : FuncData} (D : DefAt K mg "fraction_of" s_fraction_of ["text"] f fd) (CN : ClX P w K mg base BX "number_of" 1 ["text"] (spNumOf BX)) (T : Txt K mg aL aR) (cX : ExcC K mg "BadText" BX) : FnOk P w K mg base (CX1 P w BX) 2 f fd ["text"] (spFrOf K BX) := by
 refine D.fn.okX scFrOf (fun vs H Q E h => ?_) (fun cdv A outer s H vs Q E hr h => ?_)
 ·obtain ⟨x, rfl, _⟩ := h
  rfl
 ·obtain ⟨x, rfl, lx, ok, no⟩ := h
  have el : (tl x).length = x.length := Array.length_toList
  have c7 : Str.ofString "/" = (⟨#[47]⟩ : PySem.Str) := by decide +kernel
  refine ⟨_, pss_cons (ps_set (i := 1) scFrOf.nd rfl (Or.inl rfl) (pe_bm PySem.F.plainAttrs_str PySem.F.slot_str_split PySem.F.type_str_split mt_split (pv 0) (pa_cons pe_str pa_nil)))
   (pss_cons (ps_if (pt_cmpR op_eq (pe_callB call_len_seq (by rfl) T.len PySem.boot_len (pa_cons (pv 1) pa_nil)) pe_int (nomark _)) (pss_one (ps_ret (pe_tup (pa_cons (pe_clX CN hr rfl (pa_cons (pv 0) pa_nil)) (pa_cons pe_int pa_nil))))) pss_nil)
   (pss_cons (ps_if (PW.pt (pw_or (pt_cmpR op_ne (pe_callB call_len_seq (by rfl) T.len PySem.boot_len (pa_cons (pv 1) pa_nil)) pe_int (nomark _)) (pw_or1 (pt_cmpR op_eq (pe_ix ix_list (pv 1) pe_int (fun _ _ => rfl)) pe_str (nomark _))))) (pss_one (ps_raise cX rfl)) pss_nil)
   (pss_one (ps_ret (pe_tup (pa_cons (pe_clX CN hr rfl (pa_cons (pe_ix ix_list (pv 1) pe_int (fun _ _ => rfl)) pa_nil)) (pa_cons (pe_clX CN hr rfl (pa_cons (pe_ix ix_list (pv 1) pe_int (fun _ _ => rfl)) pa_nil)) pa_nil))))))), ?_⟩
  refine ⟨_, rfl, rfl, x, 47, rfl, by rw [c7], by omega, fun q hq => ?_⟩
  have s1 := Same.upd (o := .lst ((sp 47 (tl x)).map fun w => .str (mkS w))) hq
  have hl : SqL K (upd H q (.lst ((sp 47 (tl x)).map fun w => .str (mkS w)))) q ((sp 47 (tl x)).map fun w => .str (mkS w)) := sqL_new
  generalize upd H q (.lst ((sp 47 (tl x)).map fun w => .str (mkS w))) = H1 at s1 hl
  have lw : ∀ w ∈ sp 47 (tl x), (mkS w).length ≤ 5000 := fun w hw => by
   rw [mk_len]
   have := sp_le hw
   omega
  have ef : frP (tl x) = match sp 47 (tl x) with
   | [_] => (numP (tl x)).map (·, 1)
   | [p, q] => if q = [49] then none else (numP p).bind fun a => (numP q).map fun b => (a, b)
   | _ => none := rfl
  refine ⟨_, rfl, q, _, rfl, .inl hl, rfl, _, rfl, ?_⟩
  rw [List.length_map]
  match hs : sp 47 (tl x), ef, lw, hl with
  | [], _, _, _ => exact absurd hs (sp_ne _)
  | [v], ef, lw, hl =>
   refine iteT ?_
   have e1 := sp_one hs
   refine ⟨_, rfl, x, rfl, lx, fun n hn H2 s2 => ⟨Nat.le_trans (Nat.le_of_ble_eq_true rfl : _ ≤ 1000) (by decide), fun r hr' => ?_⟩, fun hn H2 s2 => no (by rw [ef]; show (numP (tl x)).map _ = none; rw [hn]; rfl) H2 (s1.trans s2)⟩
   exact ok (n, 1) (by rw [ef]; show (numP (tl x)).map _ = _; rw [hn]; rfl) r _ ((s1.trans s2).trans (Same.upd hr')) sqT_new
  | [u, v], ef, lw, hl =>
   refine iteF ?_
   refine ⟨_, rfl, q, _, rfl, .inl hl, rfl, _, rfl, iteF ?_⟩
   refine ⟨_, rfl, q, _, _, _, rfl, rfl, hl, rfl, rfl, _, rfl, ?_⟩
   have ef : frP (tl x) = if v = [49] then none else (numP u).bind fun a => (numP v).map fun b => (a, b) := ef
   by_cases c : v = [49]
   ·refine iteEq (str_one.mpr c) ?_
    exact no (by rw [ef, if_pos c]) H1 s1
   ·refine iteEqN (fun z => c (str_one.mp z)) ?_
    rw [if_neg c] at ef
    refine ⟨_, rfl, q, _, _, _, rfl, rfl, hl, rfl, mkS u, rfl, lw u (List.mem_cons_self ..), fun n hn H2 s2 => ?_, fun hn H2 s2 => no (by rw [ef]; show (numP u).bind _ = none; rw [show numP u = none from hn]; rfl) H2 (s1.trans s2)⟩
    refine ⟨_, rfl, q, _, _, _, rfl, rfl, s2.seq hl, rfl, mkS v, rfl, lw v (List.mem_cons_of_mem _ (List.mem_cons_self ..)), fun m hm H3 s3 => ⟨Nat.le_trans (Nat.le_of_ble_eq_true rfl : _ ≤ 1000) (by decide), fun r hr' => ?_⟩, fun hm H3 s3 => no (by rw [ef, show numP u = some n from hn, show numP v = none from hm]; rfl) H3 ((s1.trans s2).trans s3)⟩
    exact ok (n, m) (by rw [ef, show numP u = some n from hn, show numP v = some m from hm]; rfl) r _ (((s1.trans s2).trans s3).trans (Same.upd hr')) sqT_new
  | u :: v :: z :: r, ef, lw, hl =>
   refine iteF ?_
   refine ⟨_, rfl, q, _, rfl, .inl hl, rfl, _, rfl, iteT ?_⟩
   exact no ef H1 s1
end
end FQ
namespace FQ
open PySem L2 FK FT
def stTr (s : Stp) : Tr := .tup [.tup [.int s.1.1, .int s.1.2], .int s.2]
def snTr (s : Spn) : Tr := .tup [.tup [.int s.1.1, .int s.1.2], .tup [.int s.2.1, .int s.2.2]]
def spTwoP (BX : Addr) : Sp := fun vs H Q E => ∃ (x : PySem.Str) (c : Nat), vs = [.str x, .str ⟨#[c]⟩] ∧ x.length ≤ 5000 ∧ (∀ u v, sp c (tl x) = [u, v] → ∀ (p : Addr) H', Same H H' → H' p = some (.lst [.str (mkS u), .str (mkS v)]) → Q (.ref p) H') ∧ ((∀ u v, sp c (tl x) ≠ [u, v]) → ∀ H', Same H H' → E (.ref BX) none H')
def spStOf (K : PySem.W.Frag) (BX : Addr) : Sp := fun vs H Q E => ∃ x : PySem.Str, vs = [.str x] ∧ x.length ≤ 5000 ∧ (∀ s : Stp, stP (tl x) = some s → ∀ v H', Same H H' → Rd K H' (stTr s) v → Q v H') ∧ (stP (tl x) = none → ∀ H', Same H H' → E (.ref BX) none H')
def spSnOf (K : PySem.W.Frag) (BX : Addr) : Sp := fun vs H Q E => ∃ x : PySem.Str, vs = [.str x] ∧ x.length ≤ 5000 ∧ (∀ s : Spn, snP (tl x) = some s → ∀ v H', Same H H' → Rd K H' (snTr s) v → Q v H') ∧ (snP (tl x) = none → ∀ H', Same H H' → E (.ref BX) none H')
theorem stP_two {l u v : List Nat} (h : sp 64 l = [u, v]) : stP l = (frP v).bind fun f => (numP u).map fun n => (f, n) := by
 unfold stP
 rw [h]
theorem stP_not {l : List Nat} (h : ∀ u v, sp 64 l ≠ [u, v]) : stP l = none := by
 unfold stP
 split
 ·rename_i e
  exact absurd e (h _ _)
 ·rfl
theorem snP_two {l u v : List Nat} (h : sp 45 l = [u, v]) : snP l = (frP u).bind fun a => (frP v).map fun b => (a, b) := by
 unfold snP
 rw [h]
theorem snP_not {l : List Nat} (h : ∀ u v, sp 45 l ≠ [u, v]) : snP l = none := by
 unfold snP
 split
 ·rename_i e
  exact absurd e (h _ _)
 ·rfl
section
variable {P : Program} {w : World} {K : PySem.W.Frag} {mg : Str → Option Value} {base : Heap} {aL aR BX : Addr}
theorem scTwo : FnScope ["text", "sign", "parts"] ["text", "sign"] (defScope s_two_parts) := ⟨rfl, rfl, rfl, by decide +kernel, rfl, by decide +kernel, by decide +kernel⟩
theorem ok_two {f : Addr} {fd : FuncData} (D : DefAt K mg "two_parts" s_two_parts ["text", "sign"] f fd) (T : Txt K mg aL aR) (cX : ExcC K mg "BadText" BX) : FnOk P w K mg base (CX1 P w BX) 1 f fd ["text", "sign"] (spTwoP BX) := by
 refine D.fn.okX (k := 0) scTwo (fun vs H Q E h => ?_) (fun cdv A outer s H vs Q E hr h => ?_)
 ·obtain ⟨x, c, rfl, _⟩ := h
  rfl
 ·obtain ⟨x, c, rfl, lx, ok, no⟩ := h
  refine ⟨_, pss_cons (ps_set (i := 2) scTwo.nd rfl (Or.inl rfl) (pe_bm PySem.F.plainAttrs_str PySem.F.slot_str_split PySem.F.type_str_split mt_split (pv 0) (pa_cons (pv 1) pa_nil)))
   (pss_cons (ps_if (pt_cmpR op_ne (pe_callB call_len_seq (by rfl) T.len PySem.boot_len (pa_cons (pv 2) pa_nil)) pe_int (nomark _)) (pss_one (ps_raise cX rfl)) pss_nil)
   (pss_one (ps_ret (pv 2)))), ?_⟩
  refine ⟨_, rfl, rfl, _, rfl, x, c, rfl, rfl, by omega, fun q hq => ?_⟩
  have s1 := Same.upd (o := .lst ((sp c (tl x)).map fun w => .str (mkS w))) hq
  have hl : upd H q (.lst ((sp c (tl x)).map fun w => .str (mkS w))) q = some (.lst ((sp c (tl x)).map fun w => .str (mkS w))) := upd_same
  generalize upd H q (.lst ((sp c (tl x)).map fun w => .str (mkS w))) = H1 at s1 hl
  refine ⟨_, rfl, q, _, rfl, .inl (.of hl), rfl, _, rfl, ?_⟩
  rw [List.length_map]
  match hs : sp c (tl x), hl with
  | [], _ => exact absurd hs (sp_ne _)
  | [v], hl => exact iteT (no (fun u v' z => by rw [hs] at z; cases z) H1 s1)
  | [u, v], hl => exact iteF ⟨_, rfl, ok u v hs q H1 s1 hl⟩
  | u :: v :: z :: r, hl => exact iteNN (fun y => by have := V.int.inj y; simp only [List.length_cons] at this; omega) (no (fun u' v' y => by rw [hs] at y; cases y) H1 s1)
theorem scStOf : FnScope ["text", "parts"] ["text"] (defScope s_step_of) := ⟨rfl, rfl, rfl, by decide +kernel, rfl, by decide +kernel, by decide +kernel⟩
theorem ok_stOf {f : Addr} {fd : FuncData} (D : DefAt K mg "step_of" s_step_of ["text"] f fd) (C2 : ClX P w K mg base BX "two_parts" 1 ["text", "sign"] (spTwoP BX)) (CN : ClX P w K mg base BX "number_of" 1 ["text"] (spNumOf BX)) (CF : ClX P w K mg base BX "fraction_of" 2 ["text"] (spFrOf K BX)) : FnOk P w K mg base (CX1 P w BX) 3 f fd ["text"] (spStOf K BX) := by
 refine D.fn.okX scStOf (fun vs H Q E h => ?_) (fun cdv A outer s H vs Q E hr h => ?_)
 ·obtain ⟨x, rfl, _⟩ := h
  rfl
 ·obtain ⟨x, rfl, lx, ok, no⟩ := h
  have hr1 : Room 1 _ := hr.mono (by decide)
  have el : (tl x).length = x.length := Array.length_toList
  have c64 : Str.ofString "@" = (⟨#[64]⟩ : PySem.Str) := by decide +kernel
  refine ⟨_, pss_cons (ps_set (i := 1) scStOf.nd rfl (Or.inl rfl) (pe_clX C2 hr1 rfl (pa_cons (pv 0) (pa_cons pe_str pa_nil))))
   (pss_one (ps_ret (pe_tup (pa_cons (pe_clX CF hr rfl (pa_cons (pe_ix ix_list (pv 1) pe_int (fun _ _ => rfl)) pa_nil)) (pa_cons (pe_clX CN hr1 rfl (pa_cons (pe_ix ix_list (pv 1) pe_int (fun _ _ => rfl)) pa_nil)) pa_nil))))), ?_⟩
  refine ⟨_, rfl, x, 64, by rw [c64]; rfl, lx, fun u v hs p H1 s1 hp => ?_, fun n2 H1 s1 => no (stP_not n2) H1 s1⟩
  have lw : ∀ w ∈ sp 64 (tl x), (mkS w).length ≤ 5000 := fun w hw => by
   rw [mk_len]
   have := sp_le hw
   omega
  rw [hs] at lw
  have e2 := stP_two hs
  refine ⟨_, rfl, p, _, _, _, rfl, rfl, .of hp, rfl, mkS v, rfl, lw v (List.mem_cons_of_mem _ (List.mem_cons_self ..)), fun fr hf t H2 s2 ht => ?_, fun hf H2 s2 => no (by rw [e2, show frP v = none from hf]; rfl) H2 (s1.trans s2)⟩
  refine ⟨_, rfl, p, _, _, _, rfl, rfl, .of (s2 _ _ hp), rfl, mkS u, rfl, lw u (List.mem_cons_self ..), fun n hn H3 s3 => ⟨Nat.le_trans (Nat.le_of_ble_eq_true rfl : _ ≤ 1000) (by decide), fun r hr' => ?_⟩, fun hn H3 s3 => no (by rw [e2, show frP v = some fr from hf, show numP u = none from hn]; rfl) H3 ((s1.trans s2).trans s3)⟩
  have s4 := Same.upd (o := .tup [.ref t, .int n]) hr'
  exact ok (fr, n) (by rw [e2, show frP v = some fr from hf, show numP u = some n from hn]; rfl) _ _ (((s1.trans s2).trans s3).trans s4) ⟨r, _, rfl, sqT_new, _, _, rfl, ⟨t, _, rfl, (s3.trans s4).sqT ht, _, _, rfl, rfl, _, _, rfl, rfl, rfl⟩, _, _, rfl, rfl, rfl⟩
theorem scSnOf : FnScope ["text", "parts"] ["text"] (defScope s_span_of) := ⟨rfl, rfl, rfl, by decide +kernel, rfl, by decide +kernel, by decide +kernel⟩
theorem ok_snOf {f : Addr} {fd : FuncData} (D : DefAt K mg "span_of" s_span_of ["text"] f fd) (C2 : ClX P w K mg base BX "two_parts" 1 ["text", "sign"] (spTwoP BX)) (CF : ClX P w K mg base BX "fraction_of" 2 ["text"] (spFrOf K BX)) : FnOk P w K mg base (CX1 P w BX) 3 f fd ["text"] (spSnOf K BX) := by
 refine D.fn.okX scSnOf (fun vs H Q E h => ?_) (fun cdv A outer s H vs Q E hr h => ?_)
 ·obtain ⟨x, rfl, _⟩ := h
  rfl
 ·obtain ⟨x, rfl, lx, ok, no⟩ := h
  have hr1 : Room 1 _ := hr.mono (by decide)
  have el : (tl x).length = x.length := Array.length_toList
  have c45 : Str.ofString "-" = (⟨#[45]⟩ : PySem.Str) := by decide +kernel
  refine ⟨_, pss_cons (ps_set (i := 1) scSnOf.nd rfl (Or.inl rfl) (pe_clX C2 hr1 rfl (pa_cons (pv 0) (pa_cons pe_str pa_nil))))
   (pss_one (ps_ret (pe_tup (pa_cons (pe_clX CF hr rfl (pa_cons (pe_ix ix_list (pv 1) pe_int (fun _ _ => rfl)) pa_nil)) (pa_cons (pe_clX CF hr rfl (pa_cons (pe_ix ix_list (pv 1) pe_int (fun _ _ => rfl)) pa_nil)) pa_nil))))), ?_⟩
  refine ⟨_, rfl, x, 45, by rw [c45]; rfl, lx, fun u v hs p H1 s1 hp => ?_, fun n2 H1 s1 => no (snP_not n2) H1 s1⟩
  have lw : ∀ w ∈ sp 45 (tl x), (mkS w).length ≤ 5000 := fun w hw => by
   rw [mk_len]
   have := sp_le hw
   omega
  rw [hs] at lw
  have e2 := snP_two hs
  refine ⟨_, rfl, p, _, _, _, rfl, rfl, .of hp, rfl, mkS u, rfl, lw u (List.mem_cons_self ..), fun fa hf t H2 s2 ht => ?_, fun hf H2 s2 => no (by rw [e2, show frP u = none from hf]; rfl) H2 (s1.trans s2)⟩
  refine ⟨_, rfl, p, _, _, _, rfl, rfl, .of (s2 _ _ hp), rfl, mkS v, rfl, lw v (List.mem_cons_of_mem _ (List.mem_cons_self ..)), fun fb hn t2 H3 s3 ht2 => ⟨Nat.le_trans (Nat.le_of_ble_eq_true rfl : _ ≤ 1000) (by decide), fun r hr' => ?_⟩, fun hn H3 s3 => no (by rw [e2, show frP u = some fa from hf, show frP v = none from hn]; rfl) H3 ((s1.trans s2).trans s3)⟩
  have s4 := Same.upd (o := .tup [.ref t, .ref t2]) hr'
  exact ok (fa, fb) (by rw [e2, show frP u = some fa from hf, show frP v = some fb from hn]; rfl) _ _ (((s1.trans s2).trans s3).trans s4) ⟨r, _, rfl, sqT_new, _, _, rfl, ⟨t, _, rfl, (s3.trans s4).sqT ht, _, _, rfl, rfl, _, _, rfl, rfl, rfl⟩, _, _, rfl, ⟨t2, _, rfl, s4.sqT ht2, _, _, rfl, rfl, _, _, rfl, rfl, rfl⟩, rfl⟩
end
end FQ
namespace FQ
open PySem L2 FK FT
def prT (p : Nat × Nat) : Tr := .tup [.int p.1, .int p.2]
theorem fr_tree (p : Nat × Nat) : isFr (prT p) = okF p := by
 show (decide ((0 : Int) ≤ p.1) && (decide ((1 : Int) ≤ p.2) && decide (G p.1 p.2 = 1))) = (decide (1 ≤ p.2) && decide (Nat.gcd p.1 p.2 = 1))
 have e1 : decide ((0 : Int) ≤ (p.1 : Int)) = true := decide_eq_true (by omega)
 have e2 : decide ((1 : Int) ≤ (p.2 : Int)) = decide (1 ≤ p.2) := decide_eq_decide.mpr (by omega)
 have e3 : decide (G (p.1 : Int) (p.2 : Int) = 1) = decide (Nat.gcd p.1 p.2 = 1) := by
  refine decide_eq_decide.mpr ?_
  unfold G
  rw [Int.gcd_natCast_natCast]
  omega
 rw [e1, e2, e3, Bool.true_and]
theorem lt_tree (p q : Nat × Nat) : ltT (prT p) (prT q) = lessN p q := by
 show decide ((p.1 : Int) * (q.2 : Int) < (q.1 : Int) * (p.2 : Int)) = decide (p.1 * q.2 < q.1 * p.2)
 refine decide_eq_decide.mpr ?_
 rw [← Int.natCast_mul, ← Int.natCast_mul]
 omega
theorem st_tree (s : Stp) : stepOk (stTr s) = okSt s := by
 show (isFr (prT s.1) && (decide ((s.1.2 : Int) ≤ 1000) && (true && (decide ((1 : Int) ≤ s.2) && decide ((s.2 : Int) ≤ 1000))))) = (okF s.1 && decide (s.1.2 ≤ 1000) && (decide (1 ≤ s.2) && decide (s.2 ≤ 1000)))
 have e1 : decide ((s.1.2 : Int) ≤ 1000) = decide (s.1.2 ≤ 1000) := decide_eq_decide.mpr (by omega)
 have e2 : decide ((1 : Int) ≤ (s.2 : Int)) = decide (1 ≤ s.2) := decide_eq_decide.mpr (by omega)
 have e3 : decide ((s.2 : Int) ≤ 1000) = decide (s.2 ≤ 1000) := decide_eq_decide.mpr (by omega)
 rw [fr_tree, e1, e2, e3, Bool.true_and, Bool.and_assoc]
theorem up_tree : ∀ (S : List Stp) (p : Nat × Nat), stepsUp (prT p) (S.map stTr) = okS p S
 | [], p => by
  show (decide ((p.1 : Int) = 1) && decide ((p.2 : Int) = 1)) = decide (p = (1, 1))
  obtain ⟨a, b⟩ := p
  by_cases h : a = 1 ∧ b = 1
  ·obtain ⟨rfl, rfl⟩ := h
   rfl
  ·rw [decide_eq_false (show ¬ (a, b) = (1, 1) from fun z => h (by injection z with z1 z2; exact ⟨z1, z2⟩))]
   rw [Bool.and_eq_false_iff]
   by_cases h1 : a = 1
   ·exact .inr (decide_eq_false fun z => h ⟨h1, by have : (b : Int) = 1 := z; omega⟩)
   ·exact .inl (decide_eq_false fun z => h1 (by have : (a : Int) = 1 := z; omega))
 | s :: S, p => by
  show (stepOk (stTr s) && (ltT (prT p) (prT s.1) && stepsUp (prT s.1) (S.map stTr))) = ((okSt s && lessN p s.1) && okS s.1 S)
  rw [st_tree, lt_tree, up_tree S s.1, Bool.and_assoc]
theorem steps_tree (S : List Stp) : stepsOk (.lst (S.map stTr)) = (decide (1 ≤ S.length ∧ S.length ≤ 8) && okS (0, 1) S) := by
 show (decide (1 ≤ (S.map stTr).length) && (decide ((S.map stTr).length ≤ 8) && stepsUp (prT (0, 1)) (S.map stTr))) = _
 rw [List.length_map, up_tree, ← Bool.and_assoc, ← Bool.decide_and]
theorem sn_tree (s : Spn) : isSp (snTr s) = okSn s := by
 show (isFr (prT s.1) && (isFr (prT s.2) && (ltT (prT s.1) (prT s.2) && !(ltT (prT (1, 1)) (prT s.2))))) = ((okF s.1 && okF s.2) && (lessN s.1 s.2 && !lessN (1, 1) s.2))
 rw [fr_tree, fr_tree, lt_tree, lt_tree, Bool.and_assoc]
theorem pc_tree : ∀ (L : List Spn) (r : Option (Nat × Nat)), spansOk (r.map prT) (L.map snTr) = okC r L
 | [], r => by
  cases r <;> rfl
 | s :: L, r => by
  have e : rOk (r.map prT) (snTr s) = behind r s.1 := by
   cases r with
   | none => rfl
   | some p => exact lt_tree p s.1
  show (isSp (snTr s) && (rOk (r.map prT) (snTr s) && spansOk ((some s.2).map prT) (L.map snTr))) = ((okSn s && behind r s.1) && okC (some s.2) L)
  rw [sn_tree, e, pc_tree L (some s.2), Bool.and_assoc]
theorem piece_tree (L : List Spn) : pieceOk (.lst (L.map snTr)) = okC none L := pc_tree L none
def toQ (p : Nat × Nat) : Rat := mkRat p.1 p.2
theorem toQ_of {p : Nat × Nat} (h : okF p = true) : (toQ p).num = p.1 ∧ (toQ p).den = p.2 := by
 unfold okF at h
 simp only [Bool.and_eq_true, decide_eq_true_eq] at h
 have e := Rat.mk_eq_mkRat (p.1 : Int) p.2 (by omega) (by show Nat.Coprime (p.1 : Int).natAbs p.2; rw [Int.natAbs_natCast]; exact h.2)
 unfold toQ
 rw [← e]
 exact ⟨rfl, rfl⟩
theorem toQ_lt {p q : Nat × Nat} (hp : okF p = true) (hq : okF q = true) : toQ p < toQ q ↔ lessN p q = true := by
 rw [Rat.lt_iff, (toQ_of hp).1, (toQ_of hp).2, (toQ_of hq).1, (toQ_of hq).2]
 unfold lessN
 rw [decide_eq_true_eq, ← Int.natCast_mul, ← Int.natCast_mul]
 omega
def toS (S : List Stp) : Steps := S.map fun s => (toQ s.1, (s.2 : Int))
def prodD : List Stp → Nat
 | [] => 1
 | s :: S => s.1.2 * prodD S
theorem okS_all : ∀ {S : List Stp} {p : Nat × Nat}, okS p S = true → ∀ s ∈ S, okSt s = true
 | [], _, _, s, h => nomatch h
 | x :: S, p, h, s, hs => by
  unfold okS at h
  simp only [Bool.and_eq_true] at h
  rcases List.mem_cons.mp hs with z | z
  ·rw [z]; exact h.1.1
  ·exact okS_all h.2 s z
theorem okSt_f {s : Stp} (h : okSt s = true) : okF s.1 = true ∧ 1 ≤ s.1.2 ∧ s.1.2 ≤ 1000 ∧ 1 ≤ s.2 ∧ s.2 ≤ 1000 := by
 unfold okSt at h
 simp only [Bool.and_eq_true, decide_eq_true_eq] at h
 have f := h.1.1
 unfold okF at f
 simp only [Bool.and_eq_true, decide_eq_true_eq] at f
 exact ⟨h.1.1, f.1, h.1.2, h.2.1, h.2.2⟩
theorem prodD_le : ∀ {S : List Stp}, (∀ s ∈ S, okSt s = true) → 0 < prodD S ∧ prodD S ≤ 1000 ^ S.length
 | [], _ => ⟨by decide, Nat.le_refl _⟩
 | x :: S, h => by
  have a := okSt_f (h x (List.mem_cons_self ..))
  have b := prodD_le (S := S) fun s hs => h s (List.mem_cons_of_mem _ hs)
  refine ⟨Nat.mul_pos (by omega) b.1, ?_⟩
  show x.1.2 * prodD S ≤ 1000 ^ (S.length + 1)
  rw [Nat.pow_succ, Nat.mul_comm (1000 ^ S.length)]
  exact Nat.mul_le_mul a.2.2.1 b.2
theorem prodD_dvd : ∀ {S : List Stp} {s : Stp}, s ∈ S → s.1.2 ∣ prodD S
 | [], _, h => nomatch h
 | x :: S, s, h => by
  rcases List.mem_cons.mp h with z | z
  ·rw [z]; exact Nat.dvd_mul_right _ _
  ·exact Nat.dvd_trans (prodD_dvd z) (Nat.dvd_mul_left _ _)
theorem toS_rise : ∀ {S : List Stp} {p : Nat × Nat}, okF p = true → okS p S = true → Rise (toQ p) (toS S)
 | [], _, _, _ => trivial
 | x :: S, p, hp, h => by
  unfold okS at h
  simp only [Bool.and_eq_true] at h
  have a := okSt_f h.1.1
  exact ⟨(toQ_lt hp a.1).mpr h.1.2, by show (0 : Int) < (x.2 : Int); omega, toS_rise a.1 h.2⟩
theorem toS_end : ∀ {S : List Stp} {p : Nat × Nat}, okS p S = true → endOf (toQ p) (toS S) = 1
 | [], p, h => by
  have : p = (1, 1) := of_decide_eq_true h
  rw [this]
  show toQ (1, 1) = 1
  decide +kernel
 | x :: S, p, h => by
  unfold okS at h
  simp only [Bool.and_eq_true] at h
  show endOf (toQ x.1) (toS S) = 1
  exact toS_end h.2
theorem gr_of {q : Rat} {d p : Nat} (hd : q.den = d) (h : d ∣ p) : Gr p q := by
 obtain ⟨k, rfl⟩ := h
 refine ⟨q.num * k, ?_⟩
 have e : q * (q.den : Rat) = (q.num : Rat) := by
  have a := q_eq q
  have b := den_ne q
  have c : ((q.den : Int) : Rat) = (q.den : Rat) := rfl
  rw [c] at a b
  grind
 rw [← hd, Rat.natCast_mul, Rat.intCast_mul, ← e]
 show q * ((q.den : Rat) * (k : Rat)) = q * (q.den : Rat) * ((k : Int) : Rat)
 rw [show ((k : Int) : Rat) = (k : Rat) from rfl]
 grind
theorem toS_ts {S : List Stp} (l1 : 1 ≤ S.length) (l8 : S.length ≤ 8) (h : okS (0, 1) S = true) : TsOk (prodD S) (toS S) := by
 have al := okS_all h
 have pd := prodD_le al
 have z0 : toQ (0, 1) = 0 := by decide +kernel
 have up := toS_rise (p := (0, 1)) (by decide) h
 have en := toS_end (p := (0, 1)) h
 rw [z0] at up en
 refine ⟨pd.1, Nat.le_trans pd.2 (Nat.pow_le_pow_right (by decide) l8), fun z => ?_, ?_, up, en, fun z hz => ?_, fun z hz => ?_, fun z hz => ?_⟩
 ·rw [show S = [] from List.map_eq_nil_iff.mp z] at l1
  exact absurd l1 (by decide)
 ·show (S.map _).length ≤ 8
  rw [List.length_map]
  exact l8
 ·obtain ⟨s, hs, rfl⟩ := List.mem_map.mp hz
  exact gr_of (toQ_of (okSt_f (al s hs)).1).2 (prodD_dvd hs)
 ·obtain ⟨s, hs, rfl⟩ := List.mem_map.mp hz
  have := okSt_f (al s hs)
  show (s.2 : Int) ≤ 1000
  omega
 ·obtain ⟨s, hs, rfl⟩ := List.mem_map.mp hz
  have a := okSt_f (al s hs)
  show (toQ s.1).den ≤ 1000
  rw [(toQ_of a.1).2]
  exact a.2.2.1
end FQ
namespace FT
theorem allP_snoc {α : Type} {f : List Nat → Option α} {w : List Nat} {a : α} : ∀ {ws : List (List Nat)} {S : List α}, allP f ws = some S → f w = some a → allP f (ws ++ [w]) = some (S ++ [a])
 | [], S, h, e => by
  cases h
  show (f w).bind _ = _
  rw [e]
  rfl
 | v :: ws, S, h, e => by
  obtain ⟨b, h1, h2⟩ := Option.bind_eq_some_iff.mp h
  obtain ⟨S', h3, rfl⟩ := Option.map_eq_some_iff.mp h2
  show ((f v).bind fun a => (allP f (ws ++ [w])).map (a :: ·)) = _
  rw [h1, allP_snoc h3 e]
  rfl
theorem allP_none {α : Type} {f : List Nat → Option α} {w : List Nat} (e : f w = none) : ∀ {ws : List (List Nat)}, w ∈ ws → allP f ws = none
 | [], h => nomatch h
 | v :: ws, h => by
  show ((f v).bind fun a => (allP f ws).map (a :: ·)) = none
  rcases List.mem_cons.mp h with z | z
  ·rw [← z, e]
   rfl
  ·rw [allP_none e z]
   cases f v <;> rfl
end FT
namespace L2
open PySem PySem.Spec PyProof.Rows
theorem FnOk.or {P : Program} {w : World} {K : PySem.W.Frag} {mg : Str → Option Value} {base : Heap} {CX : CXT} {k : Nat} {f : Addr} {fd : FuncData} {ps : List Str} {sp sp' : Sp} (F : FnOk P w K mg base CX k f fd ps sp) (F' : FnOk P w K mg base CX k f fd ps sp') : FnOk P w K mg base CX k f fd ps (fun vs H Q E => sp vs H Q E ∨ sp' vs H Q E) :=
 ⟨fun vs H Q E h => h.elim (F.len vs H Q E) (F'.len vs H Q E), fun A outer s H args us vs Q E hr e0 hb r h => h.elim (F.run A outer s H args us vs Q E hr e0 hb r) (F'.run A outer s H args us vs Q E hr e0 hb r)⟩
theorem FnOk.lift {P : Program} {w : World} {K : PySem.W.Frag} {mg : Str → Option Value} {base : Heap} {CX : CXT} {k : Nat} {f : Addr} {fd : FuncData} {ps : List Str} {sp : Sp} (F : FnOk P w K mg base CX0 k f fd ps sp) : FnOk P w K mg base CX k f fd ps sp :=
 ⟨F.len, fun A outer s H args us vs Q E hr e0 hb r h => codeAny_mono (F.run A outer s H args us vs Q E hr e0 hb r h) fun r s' q => by
  cases r with
  | ok fl => cases fl <;> exact q
  | error e => exact False.elim q⟩
end L2
namespace FQ
open PySem L2 FK FT
def isStr : Tr → Bool
 | .str _ => true
 | _ => false
theorem kitStr (K : PySem.W.Frag) (t : Tr) : PySem.W.kitOne K (.type (tyN t)) (.type "str") = some (isStr t) := by cases t <;> (show PySem.W.kitOne K (.type _) _ = some _; kernel_rfl)
def spChk (K : PySem.W.Frag) (BX : Addr) : Sp := fun vs H Q E => ∃ (x : V) (t : Tr), vs = [x] ∧ Rd K H t x ∧ (isStr t = true → Q .non H) ∧ (isStr t = false → E (.ref BX) none H)
def spInitR (K : PySem.W.Frag) (C BT : Addr) : Sp := fun vs H Q E => (∃ (x y : V) (t : Tr), vs = [x, y] ∧ Rd K H t y ∧ Smt t ∧ stepsOk t = false ∧ E (.ref BT) none H) ∨ spInit K C vs H Q E
def spTsOf (K : PySem.W.Frag) (C BX : Addr) : Sp := fun vs H Q E => ∃ (v : V) (t : Tr), vs = [v] ∧ Rd K H t v ∧ (∀ x, t = .str x → x.length ≤ 5000) ∧
 (∀ x S, t = .str x → tsP (tl x) = some S → ∀ (y lt ll : Addr) H', Same H H' → TasteAt K C H' y lt ll (toS S) → Q (.ref y) H') ∧
 ((∀ x, t = .str x → tsP (tl x) = none) → ∀ H', Same H H' → E (.ref BX) none H')
section
variable {P : Program} {w : World} {K : PySem.W.Frag} {mg : Str → Option Value} {base : Heap} {aL aR C BX BT : Addr}
theorem scChk : FnScope ["text"] ["text"] (defScope s_check_text) := ⟨rfl, rfl, rfl, by decide +kernel, rfl, by decide +kernel, by decide +kernel⟩
theorem ok_chk {f : Addr} {fd : FuncData} (D : DefAt K mg "check_text" s_check_text ["text"] f fd) (T : Txt K mg aL aR) (hs : mg "str" = none) (cX : ExcC K mg "BadText" BX) : FnOk P w K mg base (CX1 P w BX) 1 f fd ["text"] (spChk K BX) := by
 refine D.fn.okX (k := 0) scChk (fun vs H Q E h => ?_) (fun cdv A outer s H vs Q E hr h => ?_)
 ·obtain ⟨x, t, rfl, _⟩ := h
  rfl
 ·obtain ⟨x, t, rfl, hx, ok, no⟩ := h
  refine ⟨_, pss_one (ps_if (pt_not (pt_val (pe_isi (pv 0) rfl T.isi rfl hs PyProof.Rows.boot_str))) (pss_one (ps_raise cX rfl)) pss_nil), ?_⟩
  refine ⟨_, rfl, _, _, tyo hx, kitStr K t, _, rfl, ?_⟩
  cases e : isStr t with
  | true => exact iteF (ok e)
  | false => exact iteT (no e)
def StT (K : PySem.W.Frag) (H : Hp) (v : V) (s : Stp) : Prop := ∃ r p, v = .ref r ∧ SqT K H r [.ref p, .int s.2] ∧ SqT K H p [.int s.1.1, .int s.1.2]
def SnT (K : PySem.W.Frag) (H : Hp) (v : V) (s : Spn) : Prop := ∃ r p q, v = .ref r ∧ SqT K H r [.ref p, .ref q] ∧ SqT K H p [.int s.1.1, .int s.1.2] ∧ SqT K H q [.int s.2.1, .int s.2.2]
theorem StT.same {H H' : Hp} {v : V} {s : Stp} (k : Same H H') (h : StT K H v s) : StT K H' v s := by
 obtain ⟨r, p, e, h1, h2⟩ := h
 exact ⟨r, p, e, k.sqT h1, k.sqT h2⟩
theorem StT.keep {H H' : Hp} {v : V} {s : Stp} (k : Keep H H') (h : StT K H v s) : StT K H' v s := by
 obtain ⟨r, p, e, h1, h2⟩ := h
 exact ⟨r, p, e, k.sqT h1, k.sqT h2⟩
theorem SnT.same {H H' : Hp} {v : V} {s : Spn} (k : Same H H') (h : SnT K H v s) : SnT K H' v s := by
 obtain ⟨r, p, q, e, h1, h2, h3⟩ := h
 exact ⟨r, p, q, e, k.sqT h1, k.sqT h2, k.sqT h3⟩
theorem SnT.keep {H H' : Hp} {v : V} {s : Spn} (k : Keep H H') (h : SnT K H v s) : SnT K H' v s := by
 obtain ⟨r, p, q, e, h1, h2, h3⟩ := h
 exact ⟨r, p, q, e, k.sqT h1, k.sqT h2, k.sqT h3⟩
theorem StT.of {H : Hp} {v : V} {s : Stp} (h : Rd K H (stTr s) v) : StT K H v s := by
 obtain ⟨r, xs, rfl, h1, v1, r1, rfl, ⟨p, ys, rfl, h2, a, ra, rfl, ea, b, rb, rfl, eb, er⟩, v2, r2, rfl, e2, e3⟩ := h
 cases (show a = .int _ from ea)
 cases (show b = .int _ from eb)
 cases (show rb = [] from er)
 cases (show v2 = .int _ from e2)
 cases (show r2 = [] from e3)
 exact ⟨r, p, rfl, h1, h2⟩
theorem SnT.of {H : Hp} {v : V} {s : Spn} (h : Rd K H (snTr s) v) : SnT K H v s := by
 obtain ⟨r, xs, rfl, h1, v1, r1, rfl, ⟨p, ys, rfl, h2, a, ra, rfl, ea, b, rb, rfl, eb, er⟩, v2, r2, rfl, ⟨q, zs, rfl, h3, c, rc, rfl, ec, d, rd, rfl, ed, er2⟩, e3⟩ := h
 cases (show a = .int _ from ea)
 cases (show b = .int _ from eb)
 cases (show rb = [] from er)
 cases (show c = .int _ from ec)
 cases (show d = .int _ from ed)
 cases (show rd = [] from er2)
 cases (show r2 = [] from e3)
 exact ⟨r, p, q, rfl, h1, h2, h3⟩
theorem StT.rd {H : Hp} {v : V} {s : Stp} (h : StT K H v s) : Rd K H (stTr s) v := by
 obtain ⟨r, p, rfl, h1, h2⟩ := h
 exact ⟨r, _, rfl, h1, _, _, rfl, ⟨p, _, rfl, h2, _, _, rfl, rfl, _, _, rfl, rfl, rfl⟩, _, _, rfl, rfl, rfl⟩
theorem SnT.rd {H : Hp} {v : V} {s : Spn} (h : SnT K H v s) : Rd K H (snTr s) v := by
 obtain ⟨r, p, q, rfl, h1, h2, h3⟩ := h
 exact ⟨r, _, rfl, h1, _, _, rfl, ⟨p, _, rfl, h2, _, _, rfl, rfl, _, _, rfl, rfl, rfl⟩, _, _, rfl, ⟨q, _, rfl, h3, _, _, rfl, rfl, _, _, rfl, rfl, rfl⟩, rfl⟩
theorem rdL_of {α : Type} {H : Hp} {R : V → α → Prop} {g : α → Tr} (h : ∀ v a, R v a → Rd K H (g a) v) : ∀ {xs : List V} {S : List α}, Paired R xs S → RdL K H (S.map g) xs
 | _, _, .nil => rfl
 | _, _, .cons r p => ⟨_, _, rfl, h _ _ r, rdL_of h p⟩
theorem smL_all : ∀ {l : List Tr}, (∀ t ∈ l, Smt t) → SmL l
 | [], _ => trivial
 | t :: l, h => ⟨h t (List.mem_cons_self ..), smL_all fun x hx => h x (List.mem_cons_of_mem _ hx)⟩
theorem sm_300 {n : Nat} (h : n < 10 ^ 300) : Sm (n : Int) := Sm.of_bits (n := 1000) (by
 rw [Int.natAbs_natCast]
 exact Nat.lt_trans h (by decide +kernel)) (by decide)
end
end FQ
namespace FQ
open PySem L2 FK FT
section
variable {P : Program} {w : World} {K : PySem.W.Frag} {mg : Str → Option Value} {base : Heap} {aL aR C BX BT : Addr}
theorem st_sm {l : List Nat} {s : Stp} (h : stP l = some s) : Smt (stTr s) := by
 unfold stP at h
 split at h
 ·obtain ⟨f, hf, h2⟩ := Option.bind_eq_some_iff.mp h
  obtain ⟨n, hn, rfl⟩ := Option.map_eq_some_iff.mp h2
  have a := frP_lt hf
  exact ⟨⟨sm_300 a.1, sm_300 a.2, trivial⟩, sm_300 (numP_lt hn), trivial⟩
 ·cases h
theorem all_sm {ws : List (List Nat)} : ∀ {S : List Stp}, allP stP ws = some S → ∀ s ∈ S, Smt (stTr s) := by
 induction ws with
 | nil =>
  intro S h s hs
  cases h
  cases hs
 | cons w ws ih =>
  intro S h s hs
  obtain ⟨a, h1, h2⟩ := Option.bind_eq_some_iff.mp h
  obtain ⟨S', h3, rfl⟩ := Option.map_eq_some_iff.mp h2
  rcases List.mem_cons.mp hs with z | z
  ·rw [z]; exact st_sm h1
  ·exact ih h3 s z
theorem StT.q {H : Hp} {v : V} {s : Stp} (h : StT K H v s) (ok : okSt s = true) : StQ K H v (toQ s.1, (s.2 : Int)) := by
 obtain ⟨r, p, rfl, h1, h2⟩ := h
 have a := toQ_of (okSt_f ok).1
 exact ⟨r, _, _, rfl, h1, .of h2 a.1.symm (by rw [a.2]), rfl⟩
theorem scTsOf : FnScope ["text", "steps"] ["text"] (defScope s_taste_of) := ⟨rfl, rfl, rfl, by decide +kernel, rfl, by decide +kernel, by decide +kernel⟩
theorem ok_tsOf {f : Addr} {fd : FuncData} (D : DefAt K mg "taste_of" s_taste_of ["text"] f fd) (CC : ClX P w K mg base BX "check_text" 1 ["text"] (spChk K BX)) (CS : ClX P w K mg base BX "step_of" 3 ["text"] (spStOf K BX)) (MC : McX P w K mg base BT "Taste" C 5 ["self", "steps"] (spInitR K C BT)) (cX : ExcC K mg "BadText" BX) (cT : ExcC K mg "BadTaste" BT) :
  FnOk P w K mg base (CXg false P w BX) 7 f fd ["text"] (spTsOf K C BX) := by
 refine D.fn.okG scTsOf (fun vs H Q E h => ?_) (fun cdv A outer s H vs Q E hr h => ?_)
 ·obtain ⟨v, t, rfl, _⟩ := h
  rfl
 ·obtain ⟨v, t, rfl, hv, l5, ok, no⟩ := h
  have hr1 : Room 1 _ := hr.mono (by decide)
  have hr3 : Room 3 _ := hr.mono (by decide)
  have c32 : Str.ofString " " = (⟨#[32]⟩ : PySem.Str) := by decide +kernel
  refine ⟨_, pss_cons (ps_expr (pe_clG CC hr1 rfl (pa_cons (pv 0) pa_nil)))
   (pss_cons (ps_compX ["part"] (i := 1) scTsOf.nd rfl (Or.inl rfl) (CompOk.plain rfl (by decide +kernel) (by decide +kernel) (by decide +kernel)) (pi_list (pe_bm PySem.F.plainAttrs_str PySem.F.slot_str_split PySem.F.type_str_split mt_split (pv 0) (pa_cons pe_str pa_nil)))
    (fun _ => pg_name (i := 0) (show [Str.ofString "part"].Nodup by decide +kernel) rfl (Or.inl rfl)) (fun _ => pifs_nil) (fun _ => pe_clT (Wh := fun H' => E (.ref BX) none H') CS hr3 rfl (pa_cons (pv 0) pa_nil)))
   (pss_one (ps_tryR cT rfl cX rfl (fun W pins => pss_one (ps_ret (pe_mkT (Wh := W) MC hr rfl (pa_cons (pv 1) pa_nil))))))), ?_⟩
  cases t with
  | str x =>
   cases (show v = .str x from hv)
   have lx := l5 x rfl
   have el : (tl x).length = x.length := Array.length_toList
   refine ⟨_, rfl, _, .str x, rfl, rfl, fun _ => ?_, (fun z => nomatch z)⟩
   refine ⟨_, rfl, rfl, x, 32, rfl, by rw [c32], by omega, fun q hq => ⟨q, rfl, ⟨_, sqL_new⟩, fun D1 hD1 => ?_⟩⟩
   have s1 := Same.upd (o := .lst ((sp 32 (tl x)).map fun w => .str (mkS w))) hq
   have hl : upd H q (.lst ((sp 32 (tl x)).map fun w => .str (mkS w))) q = some (.lst ((sp 32 (tl x)).map fun w => .str (mkS w))) := upd_same
   generalize upd H q (.lst ((sp 32 (tl x)).map fun w => .str (mkS w))) = H1 at s1 hl hD1
   have lw : ∀ w ∈ sp 32 (tl x), (mkS w).length ≤ 5000 := fun w hw => by
    rw [mk_len]
    have := sp_le hw
    omega
   have len1 := sp_len 32 (tl x)
   have big : 6000 ≤ sizeLine := by decide
   refine comp_list (K := K) (a := q) (D := D1) (xs := (sp 32 (tl x)).map fun w => .str (mkS w)) (fun j ys σ H2 => Same H1 H2 ∧ H2 D1 = some (.lst ys) ∧ (∃ S, allP stP ((sp 32 (tl x)).take j) = some S ∧ Paired (StT K H2) ys S) ∧ j ≤ (sp 32 (tl x)).length ∧ ∃ x0, σ = [x0])
    (by rw [List.length_map]; omega) ⟨Same.upd hD1, upd_same, ⟨[], rfl, .nil⟩, Nat.zero_le _, _, rfl⟩ ?_ ?_ ?_
   ·rintro j ys σ H2 _ ⟨u1, u2, ⟨S, u3, u4⟩, u5, _⟩
    refine ⟨.of (u1 _ _ hl), u2, ?_⟩
    rw [u4.length, allP_len u3, List.length_take]
    omega
   ·rintro j y ys σ H2 hy ⟨u1, u2, ⟨S, u3, u4⟩, u5, x0, rfl⟩ cc
    rw [List.getElem?_map] at hy
    obtain ⟨wd, hw, rfl⟩ := Option.map_eq_some_iff.mp hy
    have mw := List.mem_of_getElem? hw
    refine ⟨_, rfl, mkS wd, rfl, lw wd mw, fun sv hs v' H3 s3 rd => ?_, fun hs H3 s3 => ?_⟩
    ·have u23 := s3 _ _ u2
     have k1 := Keep.updL (o := .lst (ys ++ [v'])) u23
     refine ⟨u23, (u1.trans s3).updN hD1, upd_same, ⟨S ++ [sv], ?_, Paired.app (Paired.mapP u4 fun _ _ z => (z.same s3).keep k1) (.cons ((StT.of rd).keep k1) .nil)⟩, by have := (List.getElem?_eq_some_iff.mp hw).1; omega, _, rfl⟩
     rw [take_snoc hw]
     exact allP_snoc u3 hs
    ·refine no (fun x' z => ?_) H3 ((s1.trans u1).trans s3)
     cases z
     unfold tsP
     rw [allP_none (show stP wd = none from hs) mw]
     rfl
   ·rintro ys σ H2 ⟨u1, u2, ⟨S, u3, u4⟩, u5, x0, rfl⟩
    rw [List.length_map, List.take_length] at u3
    refine ⟨fun H' => E (.ref BX) none H', ?_, fun H' z => z⟩
    have sH := s1.trans u1
    by_cases c : (decide (1 ≤ S.length ∧ S.length ≤ 8) && okS (0, 1) S) = true
    ·have c' := c
     simp only [Bool.and_eq_true, decide_eq_true_eq] at c'
     have al := okS_all c'.2
     refine ⟨_, rfl, fun y dy hy hdy ne => ?_⟩
     have sq : Paired (StQ K H2) ys (toS S) := by
      clear u2 u3 c c'
      induction u4 with
      | nil => exact .nil
      | cons r p ih => exact .cons (r.q (al _ (List.mem_cons_self ..))) (ih fun s hs => al s (List.mem_cons_of_mem _ hs))
     have mt := mk_taste (C := C) (E := fun _ _ H' => E (.ref BX) none H') (R := fun y H' => Q (.ref y) H') (.of u2) sq (toS_ts c'.1.1 c'.1.2 c'.2) (fun y lt ll H' s' _ _ _ ta => ok x S rfl (by unfold tsP; rw [u3, filter_some, if_pos c]) y lt ll H' (sH.trans s') ta) y dy hy hdy ne
     exact .inr mt
    ·have c' : (decide (1 ≤ S.length ∧ S.length ≤ 8) && okS (0, 1) S) = false := by simpa using c
     refine ⟨_, rfl, fun y dy hy hdy ne => .inl ⟨_, _, .lst (S.map stTr), rfl, ?_, ?_, ?_, ?_⟩⟩
     ·have s0 : Same H2 (upd (upd H2 dy (.own y)) y (.ins C dy [])) := fun b o e => by
       rw [upd_ne (ne_of_none e hy), upd_ne (ne_of_none e hdy)]
       exact e
      exact ⟨D1, _, rfl, s0.seq (.of u2), rdL_of (fun v a r => (r.same s0).rd) u4⟩
     ·exact smL_all fun t ht => by
       obtain ⟨s, hs, rfl⟩ := List.mem_map.mp ht
       exact all_sm u3 s hs
     ·rw [steps_tree]
      exact c'
     ·refine no (fun x' z => ?_) _ ?_
      ·cases z
       unfold tsP
       rw [u3, filter_some, if_neg c]
      ·refine sH.trans fun b o e => ?_
       rw [upd_ne (ne_of_none e hy), upd_ne (ne_of_none e hdy)]
       exact e
  | _ => exact ⟨_, rfl, v, _, rfl, hv, (fun z => nomatch z), fun _ => no (fun x z => nomatch z) H (Same.refl H)⟩
end
end FQ
namespace FQ
open PySem L2 FK FT
def spPcOf (K : PySem.W.Frag) (BX : Addr) : Sp := fun vs H Q E => ∃ (v : V) (t : Tr), vs = [v] ∧ Rd K H t v ∧ (∀ x, t = .str x → x.length ≤ 5000) ∧
 (∀ x L, t = .str x → pcP (tl x) = some L → ∀ (q : Addr) (ys : List V) H', Same H H' → H' q = some (.lst ys) → Paired (SnT K H') ys L → Q (.ref q) H') ∧
 ((∀ x, t = .str x → pcP (tl x) = none) → ∀ H', Same H H' → E (.ref BX) none H')
section
variable {P : Program} {w : World} {K : PySem.W.Frag} {mg : Str → Option Value} {base : Heap} {aL aR C BX BP : Addr}
theorem sn_sm {l : List Nat} {s : Spn} (h : snP l = some s) : Smt (snTr s) := by
 unfold snP at h
 split at h
 ·obtain ⟨f, hf, h2⟩ := Option.bind_eq_some_iff.mp h
  obtain ⟨n, hn, rfl⟩ := Option.map_eq_some_iff.mp h2
  have a := frP_lt hf
  have b := frP_lt hn
  exact ⟨⟨sm_300 a.1, sm_300 a.2, trivial⟩, ⟨sm_300 b.1, sm_300 b.2, trivial⟩, trivial⟩
 ·cases h
theorem allC_sm {ws : List (List Nat)} : ∀ {S : List Spn}, allP snP ws = some S → ∀ s ∈ S, Smt (snTr s) := by
 induction ws with
 | nil =>
  intro S h s hs
  cases h
  cases hs
 | cons w ws ih =>
  intro S h s hs
  obtain ⟨a, h1, h2⟩ := Option.bind_eq_some_iff.mp h
  obtain ⟨S', h3, rfl⟩ := Option.map_eq_some_iff.mp h2
  rcases List.mem_cons.mp hs with z | z
  ·rw [z]; exact sn_sm h1
  ·exact ih h3 s z
theorem str_nil {x : PySem.Str} : (V.str x = V.str (Str.ofString "")) ↔ tl x = [] := by
 have e0 : Str.ofString "" = mkS [] := by decide +kernel
 rw [e0]
 refine ⟨fun z => ?_, fun z => by rw [← mk_tl x, z]⟩
 injection z with z
 rw [z]
 rfl
theorem scPcOf : FnScope ["text", "piece"] ["text"] (defScope s_piece_of) := ⟨rfl, rfl, rfl, by decide +kernel, rfl, by decide +kernel, by decide +kernel⟩
theorem ok_pcOf {f : Addr} {fd : FuncData} (D : DefAt K mg "piece_of" s_piece_of ["text"] f fd) (CC : ClX P w K mg base BX "check_text" 1 ["text"] (spChk K BX)) (CS : ClX P w K mg base BX "span_of" 3 ["text"] (spSnOf K BX)) (CK : ClX P w K mg base BP "check_piece" 4 ["piece"] (spPieceT K BP)) (cX : ExcC K mg "BadText" BX) (cP : ExcC K mg "BadPiece" BP) :
  FnOk P w K mg base (CXg false P w BX) 5 f fd ["text"] (spPcOf K BX) := by
 refine D.fn.okG scPcOf (fun vs H Q E h => ?_) (fun cdv A outer s H vs Q E hr h => ?_)
 ·obtain ⟨v, t, rfl, _⟩ := h
  rfl
 ·obtain ⟨v, t, rfl, hv, l5, ok, no⟩ := h
  have hr1 : Room 1 _ := hr.mono (by decide)
  have hr3 : Room 3 _ := hr.mono (by decide)
  have c32 : Str.ofString " " = (⟨#[32]⟩ : PySem.Str) := by decide +kernel
  refine ⟨_, pss_cons (ps_expr (pe_clG CC hr1 rfl (pa_cons (pv 0) pa_nil)))
   (pss_cons (ps_if (pt_cmpR op_eq (pv 0) pe_str (nomark _)) (pss_one (ps_ret (pe_lst pa_nil))) pss_nil)
   (pss_cons (ps_compX ["part"] (i := 1) scPcOf.nd rfl (Or.inl rfl) (CompOk.plain rfl (by decide +kernel) (by decide +kernel) (by decide +kernel)) (pi_list (pe_bm PySem.F.plainAttrs_str PySem.F.slot_str_split PySem.F.type_str_split mt_split (pv 0) (pa_cons pe_str pa_nil)))
    (fun _ => pg_name (i := 0) (show [Str.ofString "part"].Nodup by decide +kernel) rfl (Or.inl rfl)) (fun _ => pifs_nil) (fun _ => pe_clT (Wh := fun H' => E (.ref BX) none H') CS hr3 rfl (pa_cons (pv 0) pa_nil)))
   (pss_cons (ps_tryR cP rfl cX rfl (fun W pins => pss_one (ps_expr (pe_clT (Wh := W) CK hr rfl (pa_cons (pv 1) pa_nil)))))
   (pss_one (ps_ret (pv 1)))))), ?_⟩
  cases t with
  | str x =>
   cases (show v = .str x from hv)
   have lx := l5 x rfl
   have el : (tl x).length = x.length := Array.length_toList
   refine ⟨_, rfl, _, .str x, rfl, rfl, fun _ => ?_, (fun z => nomatch z)⟩
   refine ⟨_, rfl, rfl, _, rfl, ?_⟩
   by_cases e : tl x = []
   ·refine iteEq (str_nil.mpr e) ?_
    refine ⟨Nat.zero_le _, fun r hr' => ?_⟩
    exact ok x [] rfl (by unfold pcP; rw [if_pos e]) r [] _ (Same.upd hr') upd_same .nil
   refine iteEqN (fun z => e (str_nil.mp z)) ?_
   refine ⟨_, rfl, rfl, x, 32, rfl, by rw [c32], by omega, fun q hq => ⟨q, rfl, ⟨_, sqL_new⟩, fun D1 hD1 => ?_⟩⟩
   have s1 := Same.upd (o := .lst ((sp 32 (tl x)).map fun w => .str (mkS w))) hq
   have hl : upd H q (.lst ((sp 32 (tl x)).map fun w => .str (mkS w))) q = some (.lst ((sp 32 (tl x)).map fun w => .str (mkS w))) := upd_same
   generalize upd H q (.lst ((sp 32 (tl x)).map fun w => .str (mkS w))) = H1 at s1 hl hD1
   have lw : ∀ w ∈ sp 32 (tl x), (mkS w).length ≤ 5000 := fun w hw => by
    rw [mk_len]
    have := sp_le hw
    omega
   have len1 := sp_len 32 (tl x)
   have big : 6000 ≤ sizeLine := by decide
   refine comp_list (K := K) (a := q) (D := D1) (xs := (sp 32 (tl x)).map fun w => .str (mkS w)) (fun j ys σ H2 => Same H1 H2 ∧ H2 D1 = some (.lst ys) ∧ (∃ S, allP snP ((sp 32 (tl x)).take j) = some S ∧ Paired (SnT K H2) ys S) ∧ j ≤ (sp 32 (tl x)).length ∧ ∃ x0, σ = [x0])
    (by rw [List.length_map]; omega) ⟨Same.upd hD1, upd_same, ⟨[], rfl, .nil⟩, Nat.zero_le _, _, rfl⟩ ?_ ?_ ?_
   ·rintro j ys σ H2 _ ⟨u1, u2, ⟨S, u3, u4⟩, u5, _⟩
    refine ⟨.of (u1 _ _ hl), u2, ?_⟩
    rw [u4.length, allP_len u3, List.length_take]
    omega
   ·rintro j y ys σ H2 hy ⟨u1, u2, ⟨S, u3, u4⟩, u5, x0, rfl⟩ cc
    rw [List.getElem?_map] at hy
    obtain ⟨wd, hw, rfl⟩ := Option.map_eq_some_iff.mp hy
    have mw := List.mem_of_getElem? hw
    refine ⟨_, rfl, mkS wd, rfl, lw wd mw, fun sv hs v' H3 s3 rd => ?_, fun hs H3 s3 => ?_⟩
    ·have u23 := s3 _ _ u2
     have k1 := Keep.updL (o := .lst (ys ++ [v'])) u23
     refine ⟨u23, (u1.trans s3).updN hD1, upd_same, ⟨S ++ [sv], ?_, Paired.app (Paired.mapP u4 fun _ _ z => (z.same s3).keep k1) (.cons ((SnT.of rd).keep k1) .nil)⟩, by have := (List.getElem?_eq_some_iff.mp hw).1; omega, _, rfl⟩
     rw [take_snoc hw]
     exact allP_snoc u3 hs
    ·refine no (fun x' z => ?_) H3 ((s1.trans u1).trans s3)
     cases z
     unfold pcP
     rw [if_neg e, allP_none (show snP wd = none from hs) mw]
     rfl
   ·rintro ys σ H2 ⟨u1, u2, ⟨S, u3, u4⟩, u5, x0, rfl⟩
    rw [List.length_map, List.take_length] at u3
    have sH := s1.trans u1
    refine ⟨fun H' => E (.ref BX) none H', ⟨_, rfl, _, .lst (S.map snTr), rfl, ⟨D1, _, rfl, .of u2, rdL_of (fun v a r => r.rd) u4⟩, smL_all fun t ht => ?_, fun c => ?_, fun c => ?_⟩, fun H' z => z⟩
    ·obtain ⟨s, hs, rfl⟩ := List.mem_map.mp ht
     exact allC_sm u3 s hs
    ·rw [piece_tree] at c
     exact ⟨_, rfl, ok x S rfl (by unfold pcP; rw [if_neg e, u3, filter_some, if_pos c]) D1 ys H2 sH u2 u4⟩
    ·rw [piece_tree] at c
     refine no (fun x' z => ?_) H2 sH
     cases z
     unfold pcP
     rw [if_neg e, u3, filter_some, if_neg (by rw [c]; decide)]
  | _ => exact ⟨_, rfl, v, _, rfl, hv, (fun z => nomatch z), fun _ => no (fun x z => nomatch z) H (Same.refl H)⟩
end
end FQ
namespace FT
open PySem L2
theorem fig_val {x : PySem.Str} (f : ∀ d ∈ tl x, isFig d = true) (h1 : 1 ≤ (tl x).length) (h2 : (tl x).length ≤ 300) : PySem.intText? x = some (val (tl x) : Int) ∧ x.length ≤ 640 := by
 have el : (tl x).length = x.length := Array.length_toList
 refine ⟨?_, by omega⟩
 have e := PySem.intText_digits (x := x) (fun c hc => by
  have := f c hc
  unfold isFig at this
  simp only [Bool.and_eq_true, decide_eq_true_eq] at this
  exact this) (fun z => by
   have z' : tl x = [] := z
   rw [z'] at h1
   exact absurd h1 (by decide)) (by omega)
 rw [e, val_digits]
theorem val_lt : ∀ (l : List Nat), (∀ d ∈ l, isFig d = true) → val l < 10 ^ l.length := by
 intro l
 have key : ∀ (l : List Nat) (a k : Nat), a < 10 ^ k → (∀ d ∈ l, isFig d = true) → l.foldl (fun a d => 10 * a + (d - 48)) a < 10 ^ (k + l.length) := by
  intro l
  induction l with
  | nil => intro a k h _; exact h
  | cons x l ih =>
   intro a k h f
   have fx := f x (List.mem_cons_self ..)
   unfold isFig at fx
   simp only [Bool.and_eq_true, decide_eq_true_eq] at fx
   have := ih (10 * a + (x - 48)) (k + 1) (by rw [Nat.pow_succ]; omega) fun d hd => f d (List.mem_cons_of_mem _ hd)
   rw [List.foldl_cons, List.length_cons, show k + (l.length + 1) = k + 1 + l.length by omega]
   exact this
 intro f
 have := key l 0 0 (by decide) f
 rw [Nat.zero_add] at this
 exact this
theorem str_dig (n : Nat) : tl (Str.ofString (toString ((n : Nat) : Int))) = dig n := PySem.W.KIN.signs_num n
theorem log_lt {n : Nat} (h : n < 10 ^ 300) : ((n : Nat) : Int).natAbs.log2 < 1920 := by
 rw [Int.natAbs_natCast]
 by_cases z : n = 0
 ·rw [z]
  decide
 ·exact (Nat.log2_lt z).mpr (Nat.lt_trans h (by decide +kernel))
end FT
namespace FQ
open PySem L2 FK FT
def optV : Option Nat → V
 | some n => .int n
 | none => .non
def spLNum : Sp := fun vs H Q _ => ∃ x : PySem.Str, vs = [.str x] ∧ x.length ≤ 5000 ∧ ∀ H', Same H H' → Q (optV (numP (tl x))) H'
section
variable {P : Program} {w : World} {K : PySem.W.Frag} {mg : Str → Option Value} {base : Heap} {aL aR : Addr}
theorem scLNum : FnScope ["_law_text_here"] ["_law_text_here"] (defScope s__law_number) := ⟨rfl, rfl, rfl, by decide +kernel, rfl, by decide +kernel, by decide +kernel⟩
theorem ok_lnum {f : Addr} {fd : FuncData} (D : DefAt K mg "_law_number" s__law_number ["_law_text_here"] f fd) (T : Txt K mg aL aR) (hstr : mg "str" = none) : FnOk P w K mg base CX0 1 f fd ["_law_text_here"] spLNum := by
 refine D.fn.ok (k := 0) scLNum (fun vs H Q E h => ?_) (fun cdv A outer s H vs Q E hr h => ?_)
 ·obtain ⟨x, rfl, _⟩ := h
  rfl
 ·obtain ⟨x, rfl, lx, ok⟩ := h
  have big : 5000 ≤ sizeLine := by decide
  have el : (tl x).length = x.length := Array.length_toList
  have efig : FIG = Str.ofString "0123456789" := rfl
  refine ⟨_, pss_cons (ps_if (PW.pt (pw_or (pt_cmpR op_eq (pv 0) pe_str (nomark _)) (pw_or (pt_cmpR op_gt (pe_callB call_len_str (by rfl) T.len PySem.boot_len (pa_cons (pv 0) pa_nil)) pe_int (nomark _))
    (pw_or1 (pt_val (pe_callB (call_any rfl) (by rfl) T.any PyProof.Rows.boot_any (pa_cons (pe_comp ["_law_sign"] rfl (CompOk.plain rfl (by decide +kernel) (by decide +kernel) (by decide +kernel)) (pi_str (pv 0)) (fun _ => pg_name (i := 0) (show [Str.ofString "_law_sign"].Nodup by decide +kernel) rfl (Or.inl rfl)) (fun _ => pifs_nil)
    (fun _ => pe_cmpR op_notIn_str (pv 0) pe_str rfl)) pa_nil))))))) (pss_one (ps_ret pe_non)) pss_nil)
   (pss_one (ps_ret (pe_ifExp (pt_cmpR op_ne (pe_callTy call_str_int (by rfl) hstr PyProof.Rows.boot_str (pa_cons (pe_callTy call_int_text (by rfl) T.int PyProof.Rows.boot_int (pa_cons (pv 0) pa_nil)) pa_nil)) (pv 0) (nomark _)) pe_non (pe_callTy call_int_text (by rfl) T.int PyProof.Rows.boot_int (pa_cons (pv 0) pa_nil))))), ?_⟩
  have none1 : (tl x).length < 1 ∨ 300 < (tl x).length → numP (tl x) = none := fun z => by
   unfold numP
   rw [if_pos z]
  refine ⟨_, rfl, rfl, _, rfl, ?_⟩
  by_cases e : tl x = []
  ·refine iteEq (str_nil.mpr e) ?_
   have n1 := none1 (.inl (by rw [e]; decide))
   have := ok H (Same.refl H)
   rw [n1] at this
   exact this
  refine iteEqN (fun z => e (str_nil.mp z)) ?_
  have l1 : 1 ≤ (tl x).length := List.length_pos_iff.mpr e
  refine ⟨_, rfl, x, rfl, by omega, _, _, rfl, rfl, _, rfl, ?_⟩
  refine ite2 (fun d => ?_) (fun d => ?_)
  ·have d' : (300 : Int) < (x.length : Int) := of_decide_eq_true d
   have n1 := none1 (.inr (by omega))
   have := ok H (Same.refl H)
   rw [n1] at this
   exact this
  ·have d' : ¬ (300 : Int) < (x.length : Int) := fun z => d (decide_eq_true z)
   refine ⟨_, rfl, x, rfl, fun D1 hD1 => ?_⟩
   refine comp_str (x := x) (D := D1) (fun i ys σ H2 => Same H H2 ∧ H2 D1 = some (.lst ys) ∧ ys = (((tl x).take i).map fun d => !isFig d).map V.bl ∧ i ≤ (tl x).length ∧ ∃ v, σ = [v]) (by omega) ⟨Same.upd hD1, upd_same, rfl, Nat.zero_le _, _, rfl⟩ ?_ ?_ ?_
   ·rintro i ys σ H2 _ ⟨_, h2, rfl, _⟩
    refine ⟨h2, ?_⟩
    rw [List.length_map, List.length_map, List.length_take]
    omega
   ·rintro i ch ys σ H2 hch ⟨s2, h2, rfl, il, v, rfl⟩ cc
    refine ⟨_, rfl, _, _, rfl, rfl, h2, s2.updN hD1, upd_same, ?_, by have := (List.getElem?_eq_some_iff.mp hch).1; omega, _, rfl⟩
    have fo := PySem.StrLaws.found_one FIG ch
    rw [← efig, fo, fig_mem, take_snoc hch, List.map_append, List.map_append]
    rfl
   ·rintro ys σ H2 ⟨s2, h2, rfl, _, v, rfl⟩
    refine ⟨D1, ((tl x).take (tl x).length).map fun d => !isFig d, rfl, .of h2, _, rfl, ?_⟩
    rw [List.take_length, List.any_map]
    refine ite2 (fun b0 => ?_) (fun b0 => ?_)
    ·have b : ((tl x).any fun d => !isFig d) = true := b0
     have n1 : numP (tl x) = none := by
      unfold numP
      rw [if_neg (by omega), if_pos b]
     have := ok H2 s2
     rw [n1] at this
     exact this
    ·have b : ¬ ((tl x).any fun d => !isFig d) = true := b0
     have f := any_fig b
     have fv := fig_val f l1 (by omega)
     have vl := Nat.lt_of_lt_of_le (val_lt (tl x) f) (Nat.pow_le_pow_right (by decide) (show (tl x).length ≤ 300 by omega))
     have nl : numL (tl x) = if dig (val (tl x)) = tl x then some (val (tl x)) else none := by
      unfold numL
      rw [if_neg (by omega), if_neg b]
     rw [num_eq] at nl
     refine ⟨_, rfl, x, _, rfl, fv.1, fv.2, _, rfl, log_lt vl, _, rfl, rfl, _, rfl, ?_⟩
     have q : (V.str (Str.ofString (toString ((val (tl x) : Nat) : Int))) = V.str x) ↔ dig (val (tl x)) = tl x := by
      refine ⟨fun z => ?_, fun z => ?_⟩
      ·injection z with z
       rw [← str_dig, z]
      ·exact congrArg V.str (tl_inj (by rw [str_dig, z]))
     by_cases c : dig (val (tl x)) = tl x
     ·refine iteNS (q.mpr c) ?_
      rw [if_pos c] at nl
      refine ⟨_, rfl, x, _, rfl, fv.1, fv.2, ?_⟩
      have := ok H2 s2
      rw [nl] at this
      exact this
     ·refine iteNN (fun z => c (q.mp z)) ?_
      rw [if_neg c] at nl
      have := ok H2 s2
      rw [nl] at this
      exact this
end
end FQ
namespace FQ
open PySem L2 FK FT
def spCell (K : PySem.W.Frag) : Sp := fun vs H Q _ => ∃ (p : Addr) (ns : List Int) (k : Nat), vs = [.ref p, .int k] ∧ SqL K H p (ns.map V.int) ∧ Q (.int (ns.getD k 0)) H
def spMixed : Sp := fun vs H Q _ => ∃ a b : Int, vs = [.int a, .int b] ∧ ∀ r : Int, Q (.int r) H
section
variable {P : Program} {w : World} {K : PySem.W.Frag} {mg : Str → Option Value} {base : Heap} {aL aR : Addr}
theorem scCell : FnScope ["_law_script", "_law_k"] ["_law_script", "_law_k"] (defScope s__law_cell_at) := ⟨rfl, rfl, rfl, by decide +kernel, rfl, by decide +kernel, by decide +kernel⟩
theorem ok_cell {f : Addr} {fd : FuncData} (D : DefAt K mg "_law_cell_at" s__law_cell_at ["_law_script", "_law_k"] f fd) (T : Txt K mg aL aR) : FnOk P w K mg base CX0 1 f fd ["_law_script", "_law_k"] (spCell K) := by
 refine D.fn.ok scCell (fun vs H Q E h => ?_) (fun cdv A outer s H vs Q E hr h => ?_)
 ·obtain ⟨p, ns, n, rfl, _⟩ := h
  rfl
 ·obtain ⟨p, ns, n, rfl, hp, k⟩ := h
  refine ⟨_, pss_cons (ps_if (pt_cmpR op_lt (pv 1) (pe_callB call_len_seq (by rfl) T.len PySem.boot_len (pa_cons (pv 0) pa_nil)) (nomark _)) (pss_one (ps_ret (pe_ix ix_list (pv 0) (pv 1) (fun _ _ => rfl)))) pss_nil) (pss_one (ps_ret pe_int)), ?_⟩
  refine ⟨_, rfl, _, rfl, p, _, rfl, .inl hp, _, _, rfl, rfl, _, rfl, ?_⟩
  refine ite2 (fun h => ?_) (fun h => ?_)
  ·have h' : (n : Int) < ((ns.map V.int).length : Nat) := of_decide_eq_true h
   rw [List.length_map] at h'
   have hn : n < ns.length := by omega
   refine ⟨_, rfl, _, rfl, p, _, _, _, rfl, rfl, hp, atI_nat (v := V.int (ns.getD n 0)) ?_, k⟩
   rw [List.getElem?_map, List.getD_eq_getElem?_getD, List.getElem?_eq_getElem hn]
   rfl
  ·have h' : ¬ (n : Int) < ((ns.map V.int).length : Nat) := fun z => h (decide_eq_true z)
   rw [List.length_map] at h'
   have e : ns.getD n 0 = 0 := by rw [List.getD_eq_getElem?_getD, List.getElem?_eq_none (by omega)]; rfl
   rw [e] at k
   exact k
theorem scMixed : FnScope ["_law_cell", "_law_k", "_law_found"] ["_law_cell", "_law_k"] (defScope s__law_mixed) := ⟨rfl, rfl, rfl, by decide +kernel, rfl, by decide +kernel, by decide +kernel⟩
theorem ok_mixed {f : Addr} {fd : FuncData} (D : DefAt K mg "_law_mixed" s__law_mixed ["_law_cell", "_law_k"] f fd) : FnOk P w K mg base CX0 1 f fd ["_law_cell", "_law_k"] spMixed := by
 refine D.fn.ok scMixed (fun vs H Q E h => ?_) (fun cdv A outer s H vs Q E hr h => ?_)
 ·obtain ⟨a, b, rfl, _⟩ := h
  rfl
 ·obtain ⟨a, b, rfl, k⟩ := h
  refine ⟨_, pss_cons (ps_set (i := 2) scMixed.nd rfl (Or.inl rfl) (pe_op op_mod (pe_op op_mul (pe_op op_add (pe_op op_add (pv 0) (pe_op op_mul pe_int (pv 1))) pe_int) pe_int) pe_int))
   (pss_one (ps_ret (pe_op op_mod (pe_op op_mul (pv 2) (pv 2)) pe_int))), ?_⟩
  refine ⟨_, rfl, _, rfl, _, _, rfl, rfl, .inl ⟨by decide, by decide⟩, _, _, rfl, rfl, _, _, rfl, rfl, _, _, rfl, rfl, .inr ⟨by decide, by decide⟩, _, _, rfl, rfl, (by show (0 : Int) < 2147483647; decide), ?_⟩
  have h0 := Int.emod_nonneg ((a + 977 * b + 31) * 48271) (show (2147483647 : Int) ≠ 0 by decide)
  have h1 := Int.emod_lt_of_pos ((a + 977 * b + 31) * 48271) (show (0 : Int) < 2147483647 by decide)
  refine ⟨_, rfl, _, rfl, _, _, rfl, rfl, .inl ⟨?_, ?_⟩, _, _, rfl, rfl, (by show (0 : Int) < 2147483629; decide), k _⟩
  ·show -(2 ^ 64) < (a + 977 * b + 31) * 48271 % 2147483647
   omega
  ·show (a + 977 * b + 31) * 48271 % 2147483647 < 2 ^ 64
   omega
theorem scLow : FnScope ["_law_a", "_law_b", "_law_one", "_law_other_here"] ["_law_a", "_law_b"] (defScope s__law_low) := ⟨rfl, rfl, rfl, by decide +kernel, rfl, by decide +kernel, by decide +kernel⟩
def mu2 (σ : St) : Nat := match σ with
 | [_, _, _, some (.int b)] => b.toNat
 | _ => 0
theorem ok_low {f : Addr} {fd : FuncData} (D : DefAt K mg "_law_low" s__law_low ["_law_a", "_law_b"] f fd) : FnOk P w K mg base CX0 1 f fd ["_law_a", "_law_b"] spMade := by
 refine D.fn.ok scLow (fun vs H Q E h => ?_) (fun cdv A outer s H vs Q E hr h => ?_)
 ·obtain ⟨a, b, rfl, _⟩ := h
  rfl
 ·obtain ⟨a0, b0, rfl, ha, hb, hS, k⟩ := h
  have gp := G_pos (a := a0) hb
  have gS : Sm (G a0 b0) := hS.mono (by have := G_le (a := a0) hb; omega)
  refine ⟨_, pss_cons (ps_set (i := 2) scLow.nd rfl (Or.inl rfl) (pv 0))
   (pss_cons (ps_set (i := 3) scLow.nd rfl (Or.inl rfl) (pv 1))
   (pss_cons (ps_while PassesOwn.never (pt_cmpR op_gt (pv 3) pe_int (nomark _))
    (pss_one (ps_par (i := 2) (j := 3) rfl scLow.nd rfl rfl (by decide) rfl rfl (pa_cons (pv 3) (pa_cons (pe_op op_mod (pv 2) (pv 3)) pa_nil)) rfl)))
   (pss_one (ps_ret (pe_tup (pa_cons (pe_op op_fdivS (pv 0) (pv 2)) (pa_cons (pe_op op_fdivS (pv 1) (pv 2)) pa_nil))))))), ?_⟩
  refine ⟨_, rfl, _, rfl, ?_⟩
  refine while_by (fun σ H' => H' = H ∧ ∃ (a b : Int), σ = [some (.int a0), some (.int b0), some (.int a), some (.int b)] ∧ 0 ≤ a ∧ 0 ≤ b ∧ G a b = G a0 b0) (fun σ _ => mu2 σ) ⟨rfl, a0, b0, rfl, ha, Int.le_of_lt hb, rfl⟩ ?_ ?_
  ·rintro σ H' ⟨rfl, a, b, rfl, ha, hb, e⟩
   refine ⟨_, rfl, _, _, rfl, rfl, _, rfl, ?_⟩
   refine ite2 (fun h => ?_) (fun h => ?_)
   ·have hb' : 0 < b := of_decide_eq_true h
    refine ⟨_, rfl, _, rfl, _, rfl, _, _, rfl, rfl, hb', _, _, rfl, ?_⟩
    refine ⟨⟨rfl, b, a % b, rfl, hb, Int.emod_nonneg _ (by omega), (G_step ha hb').trans e⟩, ?_⟩
    show (a % b).toNat < b.toNat
    have := Int.emod_lt_of_pos a hb'
    omega
   ·have hb' : b = 0 := by
     have : ¬ 0 < b := fun z => h (decide_eq_true z)
     omega
    have e' : a = G a0 b0 := by rw [← e, hb', G_zero ha]
    subst e'
    exact ⟨_, rfl, _, rfl, _, _, rfl, rfl, ⟨gp, gS⟩, _, rfl, _, rfl, _, _, rfl, rfl, ⟨gp, gS⟩, (by show 2 ≤ sizeLine; decide), fun p hp => k p hp⟩
  ·rintro σ H Q Q' hq ⟨v, e, i, j, e1, e2, z, e3, q⟩
   exact ⟨v, e, i, j, e1, e2, z, e3, hq _ _ q⟩
theorem scLess : FnScope ["_law_one", "_law_other_here"] ["_law_one", "_law_other_here"] (defScope s__law_less) := ⟨rfl, rfl, rfl, by decide +kernel, rfl, by decide +kernel, by decide +kernel⟩
theorem ok_less {f : Addr} {fd : FuncData} (D : DefAt K mg "_law_less" s__law_less ["_law_one", "_law_other_here"] f fd) : FnOk P w K mg base CX0 1 f fd ["_law_one", "_law_other_here"] (spBelowT K) := by
 refine D.fn.ok scLess (fun vs H Q E h => ?_) (fun cdv A outer s H vs Q E hr h => ?_)
 ·obtain ⟨p, q, a, b, c, d, rfl, _⟩ := h
  rfl
 ·obtain ⟨p, q, a, b, c, d, rfl, hp, hq, ⟨sa, sb, sc, sd⟩, k⟩ := h
  refine ⟨_, pss_one (ps_ret (pe_cmpR op_lt (pe_op op_mulS (pe_ix ix_tup (pv 0) pe_int (fun _ _ => rfl)) (pe_ix ix_tup (pv 1) pe_int (fun _ _ => rfl))) (pe_op op_mulS (pe_ix ix_tup (pv 1) pe_int (fun _ _ => rfl)) (pe_ix ix_tup (pv 0) pe_int (fun _ _ => rfl))) (nomark _))), ?_⟩
  refine ⟨_, rfl, p, _, _, _, rfl, rfl, hp, rfl, _, rfl, q, _, _, _, rfl, rfl, hq, rfl, _, _, rfl, rfl, ⟨sa, sd⟩, ?_⟩
  exact ⟨_, rfl, q, _, _, _, rfl, rfl, hq, rfl, _, rfl, p, _, _, _, rfl, rfl, hp, rfl, _, _, rfl, rfl, ⟨sc, sb⟩, _, _, rfl, rfl, k⟩
end
end FQ
namespace FT
theorem pt_le (c : Nat) : ∀ (l : List Nat), (pt c l).1.length ≤ l.length ∧ (pt c l).2.2.length ≤ l.length
 | [] => ⟨Nat.le_refl _, Nat.le_refl _⟩
 | x :: r => by
  have ih := pt_le c r
  unfold pt
  split
  ·exact ⟨Nat.zero_le _, Nat.le_succ _⟩
  ·exact ⟨Nat.succ_le_succ ih.1, Nat.le_succ_of_le ih.2⟩
end FT
namespace FQ
open PySem L2 FK FT
def spLFr (K : PySem.W.Frag) : Sp := fun vs H Q _ => ∃ x : PySem.Str, vs = [.str x] ∧ x.length ≤ 5000 ∧ (frL (tl x) = none → ∀ H', Same H H' → Q .non H') ∧ ∀ p, frL (tl x) = some p → ∀ (t : Addr) H', Same H H' → SqT K H' t [.int p.1, .int p.2] → Q (.ref t) H'
theorem mark_eq {b : Bool} : (V.str (mrk 47 b) = V.str (Str.ofString "/")) ↔ b = true := by
 have e0 : Str.ofString "/" = (⟨#[47]⟩ : PySem.Str) := by decide +kernel
 rw [e0]
 cases b with
 | true => exact ⟨fun _ => rfl, fun _ => rfl⟩
 | false =>
  refine ⟨fun z => ?_, fun z => nomatch z⟩
  injection z with z
  have := congrArg tl z
  cases this
theorem low_pair (a b : Nat) (hb : 1 ≤ b) : ((lo (a : Int) (b : Int), hi (a : Int) (b : Int)) = ((a : Int), (b : Int))) ↔ Nat.gcd a b = 1 := by
 have g : G (a : Int) (b : Int) = (Nat.gcd a b : Nat) := by
  unfold G
  rw [Int.gcd_natCast_natCast]
 have gp : 0 < Nat.gcd a b := Nat.gcd_pos_of_pos_right _ hb
 unfold lo hi
 rw [g]
 refine ⟨fun z => ?_, fun z => by rw [z]; simp⟩
 injection z with z1 z2
 have d := Nat.gcd_dvd_right a b
 obtain ⟨k, hk⟩ := d
 have e : (b : Int) / ((Nat.gcd a b : Nat) : Int) = ((b / Nat.gcd a b : Nat) : Int) := by rw [Int.natCast_ediv]
 rw [e] at z2
 have z3 : b / Nat.gcd a b = b := by omega
 rcases Nat.lt_or_ge 1 (Nat.gcd a b) with h | h
 ·have := Nat.div_lt_self (show 0 < b by omega) h
  omega
 ·omega
section
variable {P : Program} {w : World} {K : PySem.W.Frag} {mg : Str → Option Value} {base : Heap} {aL aR : Addr}
theorem scLFr : FnScope ["_law_text_here", "_law_above", "_law_mark", "_law_under", "_law_a", "_law_b"] ["_law_text_here"] (defScope s__law_fraction_of) := ⟨rfl, rfl, rfl, by decide +kernel, rfl, by decide +kernel, by decide +kernel⟩
theorem tail_lfr (CL : Cl P w K mg base "_law_low" 1 ["_law_a", "_law_b"] spMade) {f : Addr} {cdv : Value} {A : Around} {outer : List Env} {s : Shared} {H : Hp} {E : XK} (hr : Room 1 (cx P w K mg base ["_law_text_here", "_law_above", "_law_mark", "_law_under", "_law_a", "_law_b"] "_law_fraction_of" s__law_fraction_of f cdv A outer s H E).A) :
  ∃ t, PSs (cx P w K mg base ["_law_text_here", "_law_above", "_law_mark", "_law_under", "_law_a", "_law_b"] "_law_fraction_of" s__law_fraction_of f cdv A outer s H E) (List.drop 4 (defBody s__law_fraction_of)) t ∧ ∀ (D : Ends) (H1 : Hp) (x0 x1 x3 : Option V) (mb : Bool) (oa ob : Option Nat) (R : Option (Nat × Nat)), R = (oa.bind fun a => ob.bind fun b => if b < 1 ∨ (mb = true ∧ b = 1) ∨ Nat.gcd a b ≠ 1 then none else some (a, b)) → (∀ b, ob = some b → b < 10 ^ 300) →
   (R = none → ∀ H', Same H1 H' → D.rt .non H') → (∀ p, R = some p → ∀ (t : Addr) H', Same H1 H' → SqT K H' t [.int p.1, .int p.2] → D.rt (.ref t) H') → t D [x0, x1, some (.str (mrk 47 mb)), x3, some (optV oa), some (optV ob)] H1 := by
 have hu : _ + (0 + 1) < cLine := hu_of hr
 refine ⟨_, pss_cons (ps_if (PW.pt (pw_or (pt_cmpR op_isN (pv 4) pe_non (nomark _)) (pw_or (pt_cmpR op_isN (pv 5) pe_non (nomark _)) (pw_or (pt_cmpR op_lt (pv 5) pe_int (nomark _)) (pw_or (PW.pt (pw_and (pt_cmpR op_eq (pv 2) pe_str (nomark _)) (pw_and1 (pt_cmpR op_eq (pv 5) pe_int (nomark _)))))
    (pw_or1 (pt_cmpR (op_neP rpe_int rpe_int hu) (pe_cl CL hr rfl (pa_cons (pv 4) (pa_cons (pv 5) pa_nil))) (pe_tup (pa_cons (pv 4) (pa_cons (pv 5) pa_nil))) (nomark _)))))))) (pss_one (ps_ret pe_non)) pss_nil)
   (pss_one (ps_ret (pe_tup (pa_cons (pv 4) (pa_cons (pv 5) pa_nil))))), ?_⟩
 intro D H1 x0 x1 x3 mb oa ob R hR lb no ok
 cases oa with
 | none => exact ⟨_, rfl, rfl, _, rfl, iteEq rfl (no hR H1 (Same.refl H1))⟩
 | some a =>
  refine ⟨_, rfl, rfl, _, rfl, iteEqN (fun z => nomatch z) ?_⟩
  cases ob with
  | none => exact ⟨_, rfl, rfl, _, rfl, iteEq rfl (no hR H1 (Same.refl H1))⟩
  | some b =>
   have hR : R = if b < 1 ∨ (mb = true ∧ b = 1) ∨ Nat.gcd a b ≠ 1 then none else some (a, b) := hR
   refine ⟨_, rfl, rfl, _, rfl, iteEqN (fun z => nomatch z) ?_⟩
   refine ⟨_, rfl, _, _, rfl, rfl, _, rfl, ?_⟩
   refine ite2 (fun c => ?_) (fun c => ?_)
   ·have c' : (b : Int) < 1 := of_decide_eq_true c
    exact no (by rw [hR, if_pos (.inl (by omega))]) H1 (Same.refl H1)
   ·have c' : ¬ (b : Int) < 1 := fun z => c (decide_eq_true z)
    have b1 : 1 ≤ b := by omega
    refine ⟨_, rfl, rfl, _, rfl, ?_⟩
    by_cases m : mb = true
    ·refine iteEq (mark_eq.mpr m) ?_
     refine ⟨_, rfl, rfl, _, rfl, ?_⟩
     by_cases e : b = 1
     ·refine iteEq (by rw [e]; rfl) ?_
      exact no (by rw [hR, if_pos (.inr (.inl ⟨m, e⟩))]) H1 (Same.refl H1)
     ·refine iteEqN (fun z => e (by have : (b : Int) = 1 := V.int.inj z; omega)) ?_
      refine ⟨_, rfl, _, rfl, a, b, rfl, by omega, by omega, sm_300 (lb b rfl), fun p hp => ?_⟩
      have s1 := Same.upd (o := .tup [.int (lo (a : Int) (b : Int)), .int (hi (a : Int) (b : Int))]) hp
      refine ⟨_, rfl, _, rfl, Nat.le_trans (Nat.le_of_ble_eq_true rfl : _ ≤ 1000) (by decide), fun p2 hp2 => ?_⟩
      have s2 := Same.upd (o := .tup [.int (a : Int), .int (b : Int)]) hp2
      refine ⟨(lo (a : Int) (b : Int), hi (a : Int) (b : Int)), ((a : Int), (b : Int)), ⟨p, _, _, rfl, s2.sqT sqT_new, rfl, rfl⟩, ⟨p2, _, _, rfl, sqT_new, rfl, rfl⟩, _, rfl, ?_⟩
      by_cases g : Nat.gcd a b = 1
      ·refine iteNS ((low_pair a b b1).mpr g) ?_
       refine ⟨_, rfl, _, rfl, Nat.le_trans (Nat.le_of_ble_eq_true rfl : _ ≤ 1000) (by decide), fun p3 hp3 => ?_⟩
       exact ok (a, b) (by rw [hR, if_neg (by simp only [not_or]; exact ⟨by omega, (fun z => e z.2), fun z => z g⟩)]) p3 _ ((s1.trans s2).trans (Same.upd hp3)) sqT_new
      ·refine iteNN (fun z => g ((low_pair a b b1).mp z)) ?_
       exact no (by rw [hR, if_pos (.inr (.inr g))]) _ (s1.trans s2)
    ·refine iteEqN (fun z => m (mark_eq.mp z)) ?_
     refine ⟨_, rfl, _, rfl, a, b, rfl, by omega, by omega, sm_300 (lb b rfl), fun p hp => ?_⟩
     have s1 := Same.upd (o := .tup [.int (lo (a : Int) (b : Int)), .int (hi (a : Int) (b : Int))]) hp
     refine ⟨_, rfl, _, rfl, Nat.le_trans (Nat.le_of_ble_eq_true rfl : _ ≤ 1000) (by decide), fun p2 hp2 => ?_⟩
     have s2 := Same.upd (o := .tup [.int (a : Int), .int (b : Int)]) hp2
     refine ⟨(lo (a : Int) (b : Int), hi (a : Int) (b : Int)), ((a : Int), (b : Int)), ⟨p, _, _, rfl, s2.sqT sqT_new, rfl, rfl⟩, ⟨p2, _, _, rfl, sqT_new, rfl, rfl⟩, _, rfl, ?_⟩
     by_cases g : Nat.gcd a b = 1
     ·refine iteNS ((low_pair a b b1).mpr g) ?_
      refine ⟨_, rfl, _, rfl, Nat.le_trans (Nat.le_of_ble_eq_true rfl : _ ≤ 1000) (by decide), fun p3 hp3 => ?_⟩
      exact ok (a, b) (by rw [hR, if_neg (by simp only [not_or]; exact ⟨by omega, (fun z => m z.1), fun z => z g⟩)]) p3 _ ((s1.trans s2).trans (Same.upd hp3)) sqT_new
     ·refine iteNN (fun z => g ((low_pair a b b1).mp z)) ?_
      exact no (by rw [hR, if_pos (.inr (.inr g))]) _ (s1.trans s2)
theorem ok_lfr {f : Addr} {fd : FuncData} (D : DefAt K mg "_law_fraction_of" s__law_fraction_of ["_law_text_here"] f fd) (CN : Cl P w K mg base "_law_number" 1 ["_law_text_here"] spLNum) (CL : Cl P w K mg base "_law_low" 1 ["_law_a", "_law_b"] spMade) : FnOk P w K mg base CX0 2 f fd ["_law_text_here"] (spLFr K) := by
 refine D.fn.ok scLFr (fun vs H Q E h => ?_) (fun cdv A outer s H vs Q E hr h => ?_)
 ·obtain ⟨x, rfl, _⟩ := h
  rfl
 ·obtain ⟨x, rfl, lx, no, ok⟩ := h
  obtain ⟨t1, h1, r1⟩ := tail_lfr (P := P) (w := w) (K := K) (mg := mg) (base := base) (f := f) (cdv := cdv) (A := A) (outer := outer) (s := s) (H := H) (E := E) CL hr
  have el : (tl x).length = x.length := Array.length_toList
  have c7 : Str.ofString "/" = (⟨#[47]⟩ : PySem.Str) := by decide +kernel
  refine ⟨_, pss_cons (ps_asg (pe_bm PySem.F.plainAttrs_str PySem.F.slot_str_partition PySem.F.type_str_partition mt_part (pv 0) (pa_cons pe_str pa_nil)) (pg_tup rfl (pgs_cons (pg_name (i := 1) scLFr.nd rfl (Or.inl rfl)) (pgs_cons (pg_name (i := 2) scLFr.nd rfl (Or.inl rfl)) (pgs_cons (pg_name (i := 3) scLFr.nd rfl (Or.inl rfl)) pgs_nil)))))
   (pss_cons (ps_set (i := 4) scLFr.nd rfl (Or.inl rfl) (pe_cl CN hr rfl (pa_cons (pv 1) pa_nil)))
   (pss_cons (ps_set (i := 5) scLFr.nd rfl (Or.inl rfl) pe_int)
   (pss_cons (ps_if (pt_cmpR op_eq (pv 2) pe_str (nomark _)) (pss_one (ps_set (i := 5) scLFr.nd rfl (Or.inl rfl) (pe_cl CN hr rfl (pa_cons (pv 3) pa_nil)))) pss_nil)
   h1))), ?_⟩
  have lp := pt_le 47 (tl x)
  refine ⟨_, rfl, rfl, x, 47, rfl, by rw [c7], by omega, fun q hq => ?_⟩
  have s1 := Same.upd (o := .tup [.str (mkS (pt 47 (tl x)).1), .str (mrk 47 (pt 47 (tl x)).2.1), .str (mkS (pt 47 (tl x)).2.2)]) hq
  refine ⟨q, _, rfl, sqT_new, rfl, _, _, rfl, _, _, rfl, _, _, rfl, rfl, ?_⟩
  generalize upd H q (.tup [.str (mkS (pt 47 (tl x)).1), .str (mrk 47 (pt 47 (tl x)).2.1), .str (mkS (pt 47 (tl x)).2.2)]) = H1 at s1
  have fl : frL (tl x) = (numP (pt 47 (tl x)).1).bind fun a => (if (pt 47 (tl x)).2.1 = true then numP (pt 47 (tl x)).2.2 else some 1).bind fun b => if b < 1 ∨ ((pt 47 (tl x)).2.1 = true ∧ b = 1) ∨ Nat.gcd a b ≠ 1 then none else some (a, b) := rfl
  refine ⟨_, rfl, mkS (pt 47 (tl x)).1, rfl, by rw [mk_len]; omega, fun H2 s2 => ?_⟩
  have s12 := s1.trans s2
  refine ⟨_, rfl, rfl, _, rfl, ?_⟩
  by_cases m : (pt 47 (tl x)).2.1 = true
  ·refine iteEq (mark_eq.mpr m) ?_
   refine ⟨_, rfl, mkS (pt 47 (tl x)).2.2, rfl, by rw [mk_len]; omega, fun H3 s3 => ?_⟩
   refine r1 _ H3 _ _ _ (pt 47 (tl x)).2.1 (numP (pt 47 (tl x)).1) (numP (pt 47 (tl x)).2.2) (frL (tl x)) (by rw [fl, if_pos m]) (fun b hb => numP_lt hb) (fun z H' s' => no z H' ((s12.trans s3).trans s')) (fun p z t' H' s' ht => ok p z t' H' ((s12.trans s3).trans s') ht)
  ·refine iteEqN (fun z => m (mark_eq.mp z)) ?_
   exact r1 _ H2 _ _ _ (pt 47 (tl x)).2.1 (numP (pt 47 (tl x)).1) (some 1) (frL (tl x)) (by rw [fl, if_neg m]) (fun b hb => by cases hb; exact Nat.one_lt_pow (by decide) (by decide)) (fun z H' s' => no z H' (s12.trans s')) (fun p z t' H' s' ht => ok p z t' H' (s12.trans s') ht)
end
end FQ
namespace FQ
open PySem L2 FK FT
def spLSt (K : PySem.W.Frag) : Sp := fun vs H Q _ => ∃ x : PySem.Str, vs = [.str x] ∧ x.length ≤ 5000 ∧ (tsL (tl x) = none → ∀ H', Same H H' → Q .non H') ∧ ∀ S, tsL (tl x) = some S → ∀ (q : Addr) (ys : List V) H', Same H H' → H q = none → H' q = some (.lst ys) → Paired (StT K H') ys S → Q (.ref q) H'
abbrev NLS : List Str := ["_law_text_here", "_law_steps", "_law_last", "_law_word", "_law_weight", "_law_mark", "_law_end", "_law_spot"]
theorem mark_no {c : Nat} {b : Bool} : (V.str (mrk c b) = V.str (Str.ofString "")) ↔ b = false := by
 rw [str_nil]
 cases b with
 | true => exact ⟨fun z => (by cases z), fun z => nomatch z⟩
 | false => exact ⟨fun _ => rfl, fun _ => rfl⟩
theorem frL_P {l : List Nat} {p : Nat × Nat} (h : frL l = some p) : frP l = some p := by
 rw [fr_eq] at h
 cases e : frP l with
 | none => rw [e] at h; cases h
 | some q =>
  rw [e, filter_some] at h
  split at h
  ·exact h
  ·cases h
section
variable {P : Program} {w : World} {K : PySem.W.Frag} {mg : Str → Option Value} {base : Heap} {aL aR : Addr}
theorem scLSt : FnScope NLS ["_law_text_here"] (defScope s__law_steps_of) := ⟨rfl, rfl, rfl, by decide +kernel, rfl, by decide +kernel, by decide +kernel⟩
theorem ok_lst {f : Addr} {fd : FuncData} (D : DefAt K mg "_law_steps_of" s__law_steps_of ["_law_text_here"] f fd) (CN : Cl P w K mg base "_law_number" 1 ["_law_text_here"] spLNum) (CF : Cl P w K mg base "_law_fraction_of" 2 ["_law_text_here"] (spLFr K)) (CL : Cl P w K mg base "_law_less" 1 ["_law_one", "_law_other_here"] (spBelowT K)) (T : Txt K mg aL aR) : FnOk P w K mg base CX0 3 f fd ["_law_text_here"] (spLSt K) := by
 refine D.fn.ok scLSt (fun vs H Q E h => ?_) (fun cdv A outer s H vs Q E hr h => ?_)
 ·obtain ⟨x, rfl, _⟩ := h
  rfl
 ·obtain ⟨x, rfl, lx, no, ok⟩ := h
  have hu : _ + (0 + 1) < cLine := hu_of hr
  have hr1 : Room 1 _ := hr.mono (by decide)
  have el : (tl x).length = x.length := Array.length_toList
  have c32 : Str.ofString " " = (⟨#[32]⟩ : PySem.Str) := by decide +kernel
  have c64 : Str.ofString "@" = (⟨#[64]⟩ : PySem.Str) := by decide +kernel
  have big : 6000 ≤ sizeLine := by decide
  refine ⟨_, pss_cons (ps_set (i := 1) scLSt.nd rfl (Or.inl rfl) (pe_lst pa_nil))
   (pss_cons (ps_set (i := 2) scLSt.nd rfl (Or.inl rfl) (pe_tup (pa_cons pe_int (pa_cons pe_int pa_nil))))
   (pss_cons (ps_for PassesOwn.never rfl (pi_list (pe_bm PySem.F.plainAttrs_str PySem.F.slot_str_split PySem.F.type_str_split mt_split (pv 0) (pa_cons pe_str pa_nil))) (pg_name (i := 3) scLSt.nd rfl (Or.inl rfl))
    (pss_cons (ps_asg (pe_bm PySem.F.plainAttrs_str PySem.F.slot_str_partition PySem.F.type_str_partition mt_part (pv 3) (pa_cons pe_str pa_nil)) (pg_tup rfl (pgs_cons (pg_name (i := 4) scLSt.nd rfl (Or.inl rfl)) (pgs_cons (pg_name (i := 5) scLSt.nd rfl (Or.inl rfl)) (pgs_cons (pg_name (i := 6) scLSt.nd rfl (Or.inl rfl)) pgs_nil)))))
    (pss_cons (ps_set (i := 7) scLSt.nd rfl (Or.inl rfl) (pe_cl CF hr rfl (pa_cons (pv 6) pa_nil)))
    (pss_cons (ps_if (PW.pt (pw_or (pt_cmpR op_eq (pv 5) pe_str (nomark _)) (pw_or (pt_cmpR op_isN (pe_cl CN hr1 rfl (pa_cons (pv 4) pa_nil)) pe_non (nomark _)) (pw_or (pt_not (pt_chain op_le op_le pe_int (pe_cl CN hr1 rfl (pa_cons (pv 4) pa_nil)) pe_int)) (pw_or1 (pt_cmpR op_isN (pv 7) pe_non (nomark _))))))) (pss_one (ps_ret pe_non)) pss_nil)
    (pss_cons (ps_if (PW.pt (pw_or (pt_cmpR op_gt (pe_ix ix_tup (pv 7) pe_int (fun _ _ => rfl)) pe_int (nomark _)) (pw_or1 (pt_not (pt_val (pe_cl CL hr1 rfl (pa_cons (pv 2) (pa_cons (pv 7) pa_nil)))))))) (pss_one (ps_ret pe_non)) pss_nil)
    (pss_cons (ps_expr (pe_bm PySem.F.plainAttrs_list PySem.F.slot_list_append PySem.F.type_list_append mt_append (pv 1) (pa_cons (pe_tup (pa_cons (pv 7) (pa_cons (pe_cl CN hr1 rfl (pa_cons (pv 4) pa_nil)) pa_nil))) pa_nil)))
    (pss_one (ps_set (i := 2) scLSt.nd rfl (Or.inl rfl) (pv 7)))))))))
   (pss_one (ps_ret (pe_ifExp (PW.pt (pw_and (pt_cmpR (op_eqP rpe_int rpe_int hu) (pv 2) (pe_tup (pa_cons pe_int (pa_cons pe_int pa_nil))) (nomark _)) (pw_and1 (pt_cmpR op_lt (pe_callB call_len_seq (by rfl) T.len PySem.boot_len (pa_cons (pv 1) pa_nil)) pe_int (nomark _))))) (pv 1) pe_non))))), ?_⟩
  refine ⟨Nat.zero_le _, fun st hst => ⟨Nat.le_trans (Nat.le_of_ble_eq_true rfl : _ ≤ 1000) (by decide), fun l0 hl0 => ?_⟩⟩
  have s1 := Same.upd (o := .lst []) hst
  have s2 := Same.upd (o := .tup [.int 0, .int 1]) hl0
  have s12 := s1.trans s2
  refine ⟨_, rfl, rfl, x, 32, rfl, by rw [c32], by omega, fun q hq => ⟨q, rfl, ⟨_, sqL_new⟩, ?_⟩⟩
  have s3 := Same.upd (o := .lst ((sp 32 (tl x)).map fun w => .str (mkS w))) hq
  have s13 := s12.trans s3
  have len1 := sp_len 32 (tl x)
  have lw : ∀ w ∈ sp 32 (tl x), w.length ≤ 5000 := fun w hw => by
   have := sp_le hw
   omega
  have hq3 : upd (upd (upd H st (.lst [])) l0 (.tup [.int 0, .int 1])) q (.lst ((sp 32 (tl x)).map fun w => .str (mkS w))) q = some (.lst ((sp 32 (tl x)).map fun w => .str (mkS w))) := upd_same
  have hst3 := s3 _ _ (s2 _ _ (show upd H st (.lst []) st = some (.lst []) from upd_same))
  have hl03 : SqT K (upd (upd (upd H st (.lst [])) l0 (.tup [.int 0, .int 1])) q (.lst ((sp 32 (tl x)).map fun w => .str (mkS w)))) l0 [.int 0, .int 1] := s3.sqT sqT_new
  have nqs : q ≠ st := (ne_of_none (s2 _ _ (show upd H st (.lst []) st = some (.lst []) from upd_same)) hq).symm
  generalize upd (upd (upd H st (.lst [])) l0 (.tup [.int 0, .int 1])) q (.lst ((sp 32 (tl x)).map fun w => .str (mkS w))) = H0 at s13 hq3 hst3 hl03
  have bad : lpL (0, 1) (sp 32 (tl x)) = none → ∀ H', Same H H' → Q .non H' := fun z H' s' => no (by unfold tsL; rw [z]; rfl) H' s'
  refine for_list (K := K) (a := q) (xs := (sp 32 (tl x)).map fun w => .str (mkS w)) (fun i σ H' => i ≤ (sp 32 (tl x)).length ∧ Same H H' ∧ H' q = some (.lst ((sp 32 (tl x)).map fun w => .str (mkS w))) ∧ ∃ (ys : List V) (S : List Stp) (last : Nat × Nat) (lr : Addr) (x3 x4 x5 x6 x7 : Option V), σ = [some (.str x), some (.ref st), some (.ref lr), x3, x4, x5, x6, x7] ∧ H' st = some (.lst ys) ∧ Paired (StT K H') ys S ∧ S.length = i ∧ SqT K H' lr [.int last.1, .int last.2] ∧ (last.1 < 10 ^ 300 ∧ last.2 < 10 ^ 300) ∧ lpL (0, 1) (sp 32 (tl x)) = (lpL last ((sp 32 (tl x)).drop i)).map (S ++ ·))
   ⟨Nat.zero_le _, s13, hq3, [], [], (0, 1), l0, _, _, _, _, _, rfl, hst3, .nil, rfl, hl03, ⟨Nat.pow_pos (by decide), Nat.one_lt_pow (by decide) (by decide)⟩, by rw [List.drop_zero]; show _ = (lpL (0, 1) (sp 32 (tl x))).map fun y => y; cases lpL (0, 1) (sp 32 (tl x)) <;> rfl⟩ (fun i σ H' _ h => .of h.2.2.1) ?_ ?_
  ·rintro i y σ H' hy ⟨il, u1, uq, ys, S, last, lr, x3, x4, x5, x6, x7, rfl, ust, uS, uSl, ulr, ⟨ll1, ll2⟩, ulp⟩
   rw [List.getElem?_map] at hy
   obtain ⟨wd, hw, rfl⟩ := Option.map_eq_some_iff.mp hy
   have mw := lw wd (List.mem_of_getElem? hw)
   have iw : i < (sp 32 (tl x)).length := (List.getElem?_eq_some_iff.mp hw).1
   have dw : (sp 32 (tl x)).drop i = wd :: (sp 32 (tl x)).drop (i + 1) := by
    rw [List.drop_eq_getElem_cons iw]
    congr 1
    exact (List.getElem?_eq_some_iff.mp hw).2
   rw [dw] at ulp
   have ulp : lpL (0, 1) (sp 32 (tl x)) = ((wdL last wd).bind fun s => (lpL s.1 ((sp 32 (tl x)).drop (i + 1))).map (s :: ·)).map (S ++ ·) := ulp
   have fail : wdL last wd = none → ∀ H'', Same H' H'' → Q .non H'' := fun z H'' s' => bad (by rw [ulp, z]; rfl) H'' (u1.trans s')
   have lp := pt_le 64 wd
   refine ⟨_, rfl, rfl, mkS wd, 64, rfl, by rw [c64], by rw [mk_len]; omega, fun q2 hq2 => ?_⟩
   rw [tl_mk]
   have t1 := Same.upd (o := .tup [.str (mkS (pt 64 wd).1), .str (mrk 64 (pt 64 wd).2.1), .str (mkS (pt 64 wd).2.2)]) hq2
   refine ⟨q2, _, rfl, sqT_new, rfl, _, _, rfl, _, _, rfl, _, _, rfl, rfl, ?_⟩
   generalize upd H' q2 (.tup [.str (mkS (pt 64 wd).1), .str (mrk 64 (pt 64 wd).2.1), .str (mkS (pt 64 wd).2.2)]) = H2 at t1
   have wdE : wdL last wd = (frL (pt 64 wd).2.2).bind fun f => (numP (pt 64 wd).1).bind fun n => if (pt 64 wd).2.1 = true ∧ (1 ≤ n ∧ n ≤ 1000) ∧ f.2 ≤ 1000 ∧ lessN last f = true then some (f, n) else none := rfl
   have wnone : ((pt 64 wd).2.1 = false ∨ numP (pt 64 wd).1 = none ∨ (∀ n, numP (pt 64 wd).1 = some n → ¬ (1 ≤ n ∧ n ≤ 1000)) ∨ frL (pt 64 wd).2.2 = none) → wdL last wd = none := fun z => by
    rw [wdE]
    cases ef : frL (pt 64 wd).2.2 with
    | none => rfl
    | some f =>
     cases en : numP (pt 64 wd).1 with
     | none => rfl
     | some n =>
      show (if _ then _ else _) = none
      rw [if_neg]
      rintro ⟨z1, z2, _⟩
      rcases z with z | z | z | z
      ·rw [z] at z1; cases z1
      ·rw [z] at en; cases en
      ·exact z n en z2
      ·rw [z] at ef; cases ef
   have lu : (mkS (pt 64 wd).1).length ≤ 5000 := by rw [mk_len]; omega
   refine ⟨_, rfl, mkS (pt 64 wd).2.2, rfl, by rw [mk_len]; omega, fun ef H3 t3 => ?_, fun fr ef t H3 t3 ht => ?_⟩
   ·have fl := wnone (.inr (.inr (.inr ef)))
    refine ⟨_, rfl, rfl, _, rfl, ?_⟩
    by_cases m : (pt 64 wd).2.1 = false
    ·exact iteEq (mark_no.mpr m) (fail fl H3 (t1.trans t3))
    refine iteEqN (fun z => m (mark_no.mp z)) ?_
    refine ⟨_, rfl, _, rfl, lu, fun H4 t4 => ⟨rfl, _, rfl, ?_⟩⟩
    rw [tl_mk]
    cases en : numP (pt 64 wd).1 with
    | none => exact iteEq rfl (fail fl H4 ((t1.trans t3).trans t4))
    | some n =>
     refine iteEqN (fun z => nomatch z) ?_
     refine ⟨_, rfl, _, rfl, lu, fun H5 t5 => ?_⟩
     rw [tl_mk, en]
     refine ⟨_, _, rfl, rfl, _, rfl, ?_⟩
     refine ite2 (fun a1 => ?_) (fun a1 => ?_)
     ·refine ⟨_, _, rfl, rfl, _, rfl, ?_⟩
      by_cases a2 : (n : Int) ≤ 1000
      ·refine iteNS a2 ?_
       exact ⟨_, rfl, rfl, _, rfl, iteEq rfl (fail fl H5 (((t1.trans t3).trans t4).trans t5))⟩
      ·exact iteNN a2 (fail fl H5 (((t1.trans t3).trans t4).trans t5))
     ·exact ⟨_, rfl, iteT (fail fl H5 (((t1.trans t3).trans t4).trans t5))⟩
   ·refine ⟨_, rfl, rfl, _, rfl, ?_⟩
    by_cases m : (pt 64 wd).2.1 = false
    ·exact iteEq (mark_no.mpr m) (fail (wnone (.inl m)) H3 (t1.trans t3))
    have m' : (pt 64 wd).2.1 = true := by cases h : (pt 64 wd).2.1 with | true => rfl | false => exact absurd h m
    refine iteEqN (fun z => m (mark_no.mp z)) ?_
    refine ⟨_, rfl, _, rfl, lu, fun H4 t4 => ⟨rfl, _, rfl, ?_⟩⟩
    rw [tl_mk]
    cases en : numP (pt 64 wd).1 with
    | none => exact iteEq rfl (fail (wnone (.inr (.inl en))) H4 ((t1.trans t3).trans t4))
    | some n =>
     refine iteEqN (fun z => nomatch z) ?_
     refine ⟨_, rfl, _, rfl, lu, fun H5 t5 => ?_⟩
     rw [tl_mk, en]
     refine ⟨_, _, rfl, rfl, _, rfl, ?_⟩
     have t15 := ((t1.trans t3).trans t4).trans t5
     refine ite2 (fun a1 => ?_) (fun a1 => ?_)
     ·have a1' : (1 : Int) ≤ (n : Int) := of_decide_eq_true a1
      refine ⟨_, _, rfl, rfl, _, rfl, ?_⟩
      by_cases a2 : (n : Int) ≤ 1000
      ·refine iteNS a2 ?_
       refine ⟨_, rfl, rfl, _, rfl, iteEqN (fun z => nomatch z) ?_⟩
       have ef' : frL (pt 64 wd).2.2 = some fr := ef
       have wv : wdL last wd = if fr.2 ≤ 1000 ∧ lessN last fr = true then some (fr, n) else none := by
        rw [wdE, ef', en]
        show (if (pt 64 wd).2.1 = true ∧ (1 ≤ n ∧ n ≤ 1000) ∧ fr.2 ≤ 1000 ∧ lessN last fr = true then some (fr, n) else none) = _
        by_cases z : fr.2 ≤ 1000 ∧ lessN last fr = true
        ·rw [if_pos z, if_pos ⟨m', ⟨by omega, by omega⟩, z⟩]
        ·rw [if_neg z, if_neg (fun y => z y.2.2)]
       have fb := frP_lt (frL_P ef')
       have ht5 := (t4.trans t5).sqT ht
       refine ⟨_, rfl, t, _, _, _, rfl, rfl, ht5, rfl, _, _, rfl, rfl, _, rfl, ?_⟩
       refine ite2 (fun b1 => ?_) (fun b1 => ?_)
       ·have b1' : (1000 : Int) < (fr.2 : Int) := of_decide_eq_true b1
        exact fail (by rw [wv, if_neg (fun z => by omega)]) H5 t15
       ·have b1' : ¬ (1000 : Int) < (fr.2 : Int) := fun z => b1 (decide_eq_true z)
        refine ⟨_, rfl, _, rfl, lr, t, _, _, _, _, rfl, t15.sqT ulr, ht5, ⟨sm_300 ll1, sm_300 ll2, sm_300 fb.1, sm_300 fb.2⟩, _, rfl, ?_⟩
        have lq : decide ((last.1 : Int) * (fr.2 : Int) < (fr.1 : Int) * (last.2 : Int)) = lessN last fr := lt_tree last fr
        rw [lq]
        cases lc : lessN last fr with
        | false => exact iteT (fail (by rw [wv, if_neg (fun z => by rw [lc] at z; cases z.2)]) H5 t15)
        | true =>
         refine iteF ?_
         have wv' : wdL last wd = some (fr, n) := by rw [wv, if_pos ⟨by omega, lc⟩]
         refine ⟨_, rfl, .inl ⟨rfl, _, .of (t15 _ _ ust)⟩, _, rfl, _, rfl, _, rfl, lu, fun H6 t6 => ⟨Nat.le_trans (Nat.le_of_ble_eq_true rfl : _ ≤ 1000) (by decide), fun r hr' => ?_⟩⟩
         have t16 := t15.trans t6
         have s7 := Same.upd (o := .tup [.ref t, optV (numP (tl (mkS (pt 64 wd).1)))]) hr'
         have hr7 : SqT K (upd H6 r (.tup [.ref t, optV (numP (tl (mkS (pt 64 wd).1)))])) r [.ref t, .int (n : Int)] := by
          have e7 : optV (numP (tl (mkS (pt 64 wd).1))) = V.int (n : Int) := by rw [tl_mk, en]; rfl
          rw [e7]
          exact sqT_new
         generalize upd H6 r (.tup [.ref t, optV (numP (tl (mkS (pt 64 wd).1)))]) = H7 at s7 hr7
         have t17 := t16.trans s7
         have hst7 := t17 _ _ ust
         have k7 : Keep H7 (upd H7 st (.lst (ys ++ [.ref r]))) := Keep.updL hst7
         have lys : ys.length = S.length := uS.length
         refine ⟨st, ys, .ref r, rfl, rfl, hst7, by omega, _, rfl, by omega, (u1.trans t17).updN hst, ?_, ys ++ [.ref r], S ++ [(fr, n)], fr, t, _, _, _, _, _, rfl, upd_same, ?_, ?_, k7.sqT (s7.sqT (t6.sqT ht5)), fb, ?_⟩
         ·rw [upd_ne nqs]
          exact t17 _ _ uq
         ·exact Paired.app (Paired.mapP uS fun _ _ z => (z.same t17).keep k7) (.cons ⟨r, t, rfl, k7.sqT hr7, k7.sqT (s7.sqT (t6.sqT ht5))⟩ .nil)
         ·rw [List.length_append]; show S.length + 1 = i + 1; omega
         ·rw [ulp, wv']
          show ((lpL fr ((sp 32 (tl x)).drop (i + 1))).map ((fr, n) :: ·)).map (S ++ ·) = _
          cases lpL fr ((sp 32 (tl x)).drop (i + 1)) with
          | none => rfl
          | some z => show some (S ++ ((fr, n) :: z)) = some ((S ++ [(fr, n)]) ++ z); rw [List.append_assoc]; rfl
      ·exact iteNN a2 (fail (wnone (.inr (.inr (.inl fun n' z => by rw [en] at z; cases z; omega)))) H5 t15)
     ·have a1' : ¬ (1 : Int) ≤ (n : Int) := fun z => a1 (decide_eq_true z)
      exact ⟨_, rfl, iteT (fail (wnone (.inr (.inr (.inl fun n' z => by rw [en] at z; cases z; omega)))) H5 t15)⟩
  ·rintro σ H' ⟨_, u1, uq, ys, S, last, lr, x3, x4, x5, x6, x7, rfl, ust, uS, uSl, ulr, ⟨ll1, ll2⟩, ulp⟩
   rw [List.length_map, List.drop_length] at ulp
   have ulp : lpL (0, 1) (sp 32 (tl x)) = (if last = (1, 1) then some [] else none : Option (List Stp)).map (S ++ ·) := ulp
   refine ⟨_, rfl, Nat.le_trans (Nat.le_of_ble_eq_true rfl : _ ≤ 1000) (by decide), fun p2 hp2 => ?_⟩
   have s2' := Same.upd (o := .tup [.int 1, .int 1]) hp2
   refine ⟨((last.1 : Int), (last.2 : Int)), ((1 : Int), (1 : Int)), ⟨lr, _, _, rfl, s2'.sqT ulr, rfl, rfl⟩, ⟨p2, _, _, rfl, sqT_new, rfl, rfl⟩, _, rfl, ?_⟩
   have hst8 := s2' _ _ ust
   have s8 := u1.trans s2'
   have lys : ys.length = S.length := uS.length
   have uS8 := Paired.mapP uS fun _ _ z => StT.same s2' z
   generalize upd H' p2 (.tup [.int 1, .int 1]) = H8 at *
   by_cases e1 : last = (1, 1)
   ·refine iteEq (by rw [e1]; rfl) ?_
    rw [if_pos e1] at ulp
    have ulp : lpL (0, 1) (sp 32 (tl x)) = some (S ++ []) := ulp
    rw [List.append_nil] at ulp
    refine ⟨_, rfl, st, ys, rfl, .inl (.of hst8), _, _, rfl, rfl, _, rfl, ?_⟩
    by_cases e9 : S.length < 9
    ·refine iteEq (by omega) ?_
     exact ⟨_, rfl, ok S (by unfold tsL; rw [ulp]; exact if_pos (decide_eq_true e9)) st ys _ s8 hst hst8 uS8⟩
    ·refine iteEqN (by omega) ?_
     exact no (by unfold tsL; rw [ulp]; exact if_neg (fun z => e9 (of_decide_eq_true z))) _ s8
   ·refine iteEqN (fun z => e1 ?_) ?_
    ·injection z with z1 z2
     exact Prod.ext (by show last.1 = 1; omega) (by show last.2 = 1; omega)
    ·rw [if_neg e1] at ulp
     exact bad ulp _ s8
end
end FQ
namespace FQ
open PySem L2 FK FT
def OptF (K : PySem.W.Frag) (H : Hp) : Option (Nat × Nat) → V → Prop
 | none, v => v = .non
 | some p, v => ∃ t, v = .ref t ∧ SqT K H t [.int p.1, .int p.2]
theorem OptF.same {K : PySem.W.Frag} {H H' : Hp} {o : Option (Nat × Nat)} {v : V} (s : Same H H') (h : OptF K H o v) : OptF K H' o v := by
 cases o with
 | none => exact h
 | some p => obtain ⟨t, rfl, h⟩ := h; exact ⟨t, rfl, s.sqT h⟩
theorem tn_go {σ : St} {H : Hp} {k : List V → Hp → Prop} (h : k [] H) : tNil σ H k := h
theorem spLFr.go {K : PySem.W.Frag} {x : PySem.Str} {H : Hp} {Q : VK} {E : XK} (lx : x.length ≤ 5000) (h : ∀ v H', Same H H' → OptF K H' (frL (tl x)) v → Q v H') : spLFr K [.str x] H Q E :=
 ⟨x, rfl, lx, fun z H' s => h _ H' s (by rw [z]; rfl), fun p z t H' s ht => h _ H' s (by rw [z]; exact ⟨t, rfl, ht⟩)⟩
def spLSn (K : PySem.W.Frag) : Sp := fun vs H Q _ => ∃ x : PySem.Str, vs = [.str x] ∧ x.length ≤ 5000 ∧ (pcL (tl x) = none → ∀ H', Same H H' → Q .non H') ∧ ∀ S, pcL (tl x) = some S → ∀ (q : Addr) (ys : List V) H', Same H H' → H q = none → H' q = some (.lst ys) → Paired (SnT K H') ys S → Q (.ref q) H'
abbrev NLP : List Str := ["_law_text_here", "_law_piece", "_law_last", "_law_word", "_law_start", "_law_mark", "_law_end", "_law_one", "_law_other_here"]
def spIter : Expr := match defBody s__law_spans_of with
 | _ :: _ :: (.For _ e _ _ _) :: _ => e
 | _ => default
def wordsC (l : List Nat) : List (List Nat) := if l = [] then [] else sp 32 l
theorem pcL_words (l : List Nat) : pcL l = lpC none (wordsC l) := by
 unfold pcL wordsC
 split
 ·rfl
 ·rfl
section
variable {P : Program} {w : World} {K : PySem.W.Frag} {mg : Str → Option Value} {base : Heap} {aL aR : Addr}
theorem scLSn : FnScope NLP ["_law_text_here"] (defScope s__law_spans_of) := ⟨rfl, rfl, rfl, by decide +kernel, rfl, by decide +kernel, by decide +kernel⟩
theorem words_pe {f : Addr} {cdv : Value} {A : Around} {outer : List Env} {s : Shared} {H : Hp} {E : XK} :
  ∃ t, PE (cx P w K mg base NLP "_law_spans_of" s__law_spans_of f cdv A outer s H E) spIter t ∧ ∀ (x : PySem.Str) (σ : List (Option V)) (H1 : Hp) (Q : VK), σ[0]? = some (some (.str x)) → x.length ≤ 5000 → (∀ q H2, Same H1 H2 → H1 q = none → H2 q = some (.lst ((wordsC (tl x)).map fun w => .str (mkS w))) → Q (.ref q) H2) → t σ H1 Q := by
 refine ⟨_, pe_ifExp (pt_cmpR op_ne (pv 0) pe_str (nomark _)) (pe_bm PySem.F.plainAttrs_str PySem.F.slot_str_split PySem.F.type_str_split mt_split (pv 0) (pa_cons pe_str pa_nil)) (pe_lst pa_nil), ?_⟩
 intro x σ H1 Q h0 lx h
 have el : (tl x).length = x.length := Array.length_toList
 have c32 : Str.ofString " " = (⟨#[32]⟩ : PySem.Str) := by decide +kernel
 have big : 6000 ≤ sizeLine := by decide
 refine ⟨_, h0, rfl, _, rfl, ?_⟩
 by_cases e : tl x = []
 ·refine iteNS (str_nil.mpr e) ?_
  refine ⟨Nat.zero_le _, fun q hq => ?_⟩
  exact h q _ (Same.upd hq) hq (by rw [show wordsC (tl x) = [] from if_pos e]; exact upd_same)
 ·refine iteNN (fun z => e (str_nil.mp z)) ?_
  refine ⟨_, h0, rfl, x, 32, rfl, by rw [c32], by omega, fun q hq => ?_⟩
  exact h q _ (Same.upd hq) hq (by rw [show wordsC (tl x) = sp 32 (tl x) from if_neg e]; exact upd_same)
theorem ok_lsn {f : Addr} {fd : FuncData} (D : DefAt K mg "_law_spans_of" s__law_spans_of ["_law_text_here"] f fd) (CF : Cl P w K mg base "_law_fraction_of" 2 ["_law_text_here"] (spLFr K)) (CL : Cl P w K mg base "_law_less" 1 ["_law_one", "_law_other_here"] (spBelowT K)) : FnOk P w K mg base CX0 3 f fd ["_law_text_here"] (spLSn K) := by
 refine D.fn.ok scLSn (fun vs H Q E h => ?_) (fun cdv A outer s H vs Q E hr h => ?_)
 ·obtain ⟨x, rfl, _⟩ := h
  rfl
 ·obtain ⟨x, rfl, lx, no, ok⟩ := h
  have hr1 : Room 1 _ := hr.mono (by decide)
  have el : (tl x).length = x.length := Array.length_toList
  have c45 : Str.ofString "-" = (⟨#[45]⟩ : PySem.Str) := by decide +kernel
  have big : 6000 ≤ sizeLine := by decide
  obtain ⟨tw, hw, rw'⟩ := words_pe (P := P) (w := w) (K := K) (mg := mg) (base := base) (f := f) (cdv := cdv) (A := A) (outer := outer) (s := s) (H := H) (E := E)
  refine ⟨_, pss_cons (ps_set (i := 1) scLSn.nd rfl (Or.inl rfl) (pe_lst pa_nil))
   (pss_cons (ps_set (i := 2) scLSn.nd rfl (Or.inl rfl) pe_non)
   (pss_cons (ps_for PassesOwn.never rfl (pi_list hw) (pg_name (i := 3) scLSn.nd rfl (Or.inl rfl))
    (pss_cons (ps_asg (pe_bm PySem.F.plainAttrs_str PySem.F.slot_str_partition PySem.F.type_str_partition mt_part (pv 3) (pa_cons pe_str pa_nil)) (pg_tup rfl (pgs_cons (pg_name (i := 4) scLSn.nd rfl (Or.inl rfl)) (pgs_cons (pg_name (i := 5) scLSn.nd rfl (Or.inl rfl)) (pgs_cons (pg_name (i := 6) scLSn.nd rfl (Or.inl rfl)) pgs_nil)))))
    (pss_cons (ps_set (i := 7) scLSn.nd rfl (Or.inl rfl) (pe_cl CF hr rfl (pa_cons (pv 4) pa_nil)))
    (pss_cons (ps_set (i := 8) scLSn.nd rfl (Or.inl rfl) (pe_cl CF hr rfl (pa_cons (pv 6) pa_nil)))
    (pss_cons (ps_if (PW.pt (pw_or (pt_cmpR op_eq (pv 5) pe_str (nomark _)) (pw_or (pt_cmpR op_isN (pv 7) pe_non (nomark _)) (pw_or (pt_cmpR op_isN (pv 8) pe_non (nomark _)) (pw_or (pt_not (pt_val (pe_cl CL hr1 rfl (pa_cons (pv 7) (pa_cons (pv 8) pa_nil))))) (pw_or1 (pt_val (pe_cl CL hr1 rfl (pa_cons (pe_tup (pa_cons pe_int (pa_cons pe_int pa_nil))) (pa_cons (pv 8) pa_nil)))))))))) (pss_one (ps_ret pe_non)) pss_nil)
    (pss_cons (ps_if (PW.pt (pw_and (pt_cmpR op_notN (pv 2) pe_non (nomark _)) (pw_and1 (pt_not (pt_val (pe_cl CL hr1 rfl (pa_cons (pv 2) (pa_cons (pv 7) pa_nil)))))))) (pss_one (ps_ret pe_non)) pss_nil)
    (pss_cons (ps_expr (pe_bm PySem.F.plainAttrs_list PySem.F.slot_list_append PySem.F.type_list_append mt_append (pv 1) (pa_cons (pe_tup (pa_cons (pv 7) (pa_cons (pv 8) pa_nil))) pa_nil)))
    (pss_one (ps_set (i := 2) scLSn.nd rfl (Or.inl rfl) (pv 8))))))))))
   (pss_one (ps_ret (pv 1))))), ?_⟩
  refine ⟨Nat.zero_le _, fun st hst => ?_⟩
  have s1 := Same.upd (o := .lst []) hst
  have hst1 : upd H st (.lst []) st = some (.lst []) := upd_same
  generalize upd H st (.lst []) = H1 at s1 hst1
  refine rw' x _ H1 _ rfl lx fun q H0 s2 hq hq0 => ?_
  refine ⟨q, rfl, ⟨_, .of hq0⟩, ?_⟩
  have s13 := s1.trans s2
  have hst3 := s2 _ _ hst1
  have nqs : q ≠ st := (ne_of_none hst1 hq).symm
  have bad : lpC none (wordsC (tl x)) = none → ∀ H', Same H H' → Q .non H' := fun z H' s' => no (by rw [pcL_words]; exact z) H' s'
  have lw : ∀ w ∈ wordsC (tl x), w.length ≤ 5000 := fun w hw => by
   unfold wordsC at hw
   split at hw
   ·cases hw
   ·have := sp_le hw
    omega
  have lW : (wordsC (tl x)).length ≤ 5001 := by
   unfold wordsC
   split
   ·exact Nat.zero_le _
   ·have := sp_len 32 (tl x)
    omega
  have ok : ∀ S, lpC none (wordsC (tl x)) = some S → ∀ (q : Addr) (ys : List V) H', Same H H' → H q = none → H' q = some (.lst ys) → Paired (SnT K H') ys S → Q (.ref q) H' := fun S z => ok S (by rw [pcL_words]; exact z)
  generalize wordsC (tl x) = W at *
  refine for_list (K := K) (a := q) (xs := W.map fun w => .str (mkS w)) (fun i σ H' => i ≤ W.length ∧ Same H H' ∧ H' q = some (.lst (W.map fun w => .str (mkS w))) ∧ ∃ (ys : List V) (S : List Spn) (last : Option (Nat × Nat)) (lv : V) (x3 x4 x5 x6 x7 x8 : Option V), σ = [some (.str x), some (.ref st), some lv, x3, x4, x5, x6, x7, x8] ∧ H' st = some (.lst ys) ∧ Paired (SnT K H') ys S ∧ S.length = i ∧ OptF K H' last lv ∧ (∀ p, last = some p → p.1 < 10 ^ 300 ∧ p.2 < 10 ^ 300) ∧ lpC none W = (lpC last (W.drop i)).map (S ++ ·))
   ⟨Nat.zero_le _, s13, hq0, [], [], none, .non, _, _, _, _, _, _, rfl, hst3, .nil, rfl, rfl, (fun p z => nomatch z), by rw [List.drop_zero]; show _ = (lpC none W).map fun y => y; cases lpC none W <;> rfl⟩ (fun i σ H' _ h => .of h.2.2.1) ?_ ?_
  ·rintro i y σ H' hy ⟨il, u1, uq, ys, S, last, lv, x3, x4, x5, x6, x7, x8, rfl, ust, uS, uSl, ulv, ull, ulp⟩
   rw [List.getElem?_map] at hy
   obtain ⟨wd, hw, rfl⟩ := Option.map_eq_some_iff.mp hy
   have mw := lw wd (List.mem_of_getElem? hw)
   have iw : i < W.length := (List.getElem?_eq_some_iff.mp hw).1
   have dw : W.drop i = wd :: W.drop (i + 1) := by
    rw [List.drop_eq_getElem_cons iw]
    congr 1
    exact (List.getElem?_eq_some_iff.mp hw).2
   rw [dw] at ulp
   have ulp : lpC none W = ((wnL last wd).bind fun s => (lpC (some s.2) (W.drop (i + 1))).map (s :: ·)).map (S ++ ·) := ulp
   have fail : wnL last wd = none → ∀ H'', Same H' H'' → Q .non H'' := fun z H'' s' => bad (by rw [ulp, z]; rfl) H'' (u1.trans s')
   have lp := pt_le 45 wd
   refine ⟨_, rfl, rfl, mkS wd, 45, rfl, by rw [c45], by rw [mk_len]; omega, fun q2 hq2 => ?_⟩
   rw [tl_mk]
   have t1 := Same.upd (o := .tup [.str (mkS (pt 45 wd).1), .str (mrk 45 (pt 45 wd).2.1), .str (mkS (pt 45 wd).2.2)]) hq2
   refine ⟨q2, _, rfl, sqT_new, rfl, _, _, rfl, _, _, rfl, _, _, rfl, rfl, ?_⟩
   generalize upd H' q2 (.tup [.str (mkS (pt 45 wd).1), .str (mrk 45 (pt 45 wd).2.1), .str (mkS (pt 45 wd).2.2)]) = H2 at t1
   have wdE : wnL last wd = (frL (pt 45 wd).1).bind fun a => (frL (pt 45 wd).2.2).bind fun b => if (pt 45 wd).2.1 = true ∧ (lessN a b = true ∧ lessN (1, 1) b = false) ∧ behind last a = true then some (a, b) else none := rfl
   refine ⟨_, rfl, ?_⟩
   refine tn_go ?_
   show spLFr K [.str (mkS (pt 45 wd).1)] _ _ _
   refine spLFr.go (by rw [mk_len]; omega) fun v1 H3 t3 o1 => ?_
   refine ⟨_, rfl, ?_⟩
   refine tn_go ?_
   show spLFr K [.str (mkS (pt 45 wd).2.2)] _ _ _
   refine spLFr.go (by rw [mk_len]; omega) fun v2 H4 t4 o2 => ?_
   have t14 := (t1.trans t3).trans t4
   have o1 := o1.same t4
   rw [tl_mk] at o1 o2
   generalize g1 : frL (pt 45 wd).1 = F1 at *
   generalize g2 : frL (pt 45 wd).2.2 = F2 at *
   generalize (pt 45 wd).2.1 = mk at *
   have b1 : ∀ p, F1 = some p → p.1 < 10 ^ 300 ∧ p.2 < 10 ^ 300 := fun p z => frP_lt (frL_P (g1.trans z))
   have b2 : ∀ p, F2 = some p → p.1 < 10 ^ 300 ∧ p.2 < 10 ^ 300 := fun p z => frP_lt (frL_P (g2.trans z))
   have wnone : (mk = false ∨ F1 = none ∨ F2 = none) → wnL last wd = none := fun z => by
    rw [wdE]
    cases F1 with
    | none => rfl
    | some a =>
     cases F2 with
     | none => rfl
     | some b =>
      show (if _ then _ else _) = none
      rw [if_neg]
      rintro ⟨z1, _⟩
      rcases z with z | z | z
      ·rw [z] at z1; cases z1
      ·cases z
      ·cases z
   refine ⟨_, rfl, rfl, _, rfl, ?_⟩
   by_cases m : mk = false
   ·exact iteEq (mark_no.mpr m) (fail (wnone (.inl m)) H4 t14)
   refine iteEqN (fun z => m (mark_no.mp z)) ?_
   have m' : mk = true := by cases mk with | true => rfl | false => exact absurd rfl m
   cases F1 with
   | none =>
    have e1 : v1 = .non := o1
    rw [e1]
    exact ⟨_, rfl, rfl, _, rfl, iteEq rfl (fail (wnone (.inr (.inl rfl))) H4 t14)⟩
   | some a =>
    obtain ⟨p1, rfl, h1⟩ := o1
    refine ⟨_, rfl, rfl, _, rfl, iteEqN (fun z => nomatch z) ?_⟩
    cases F2 with
    | none =>
     have e2 : v2 = .non := o2
     rw [e2]
     exact ⟨_, rfl, rfl, _, rfl, iteEq rfl (fail (wnone (.inr (.inr rfl))) H4 t14)⟩
    | some b =>
     obtain ⟨p2, rfl, h2⟩ := o2
     refine ⟨_, rfl, rfl, _, rfl, iteEqN (fun z => nomatch z) ?_⟩
     have fb1 := b1 a rfl
     have fb2 := b2 b rfl
     have wv : wnL last wd = if (lessN a b = true ∧ lessN (1, 1) b = false) ∧ behind last a = true then some (a, b) else none := by
      rw [wdE]
      show (if mk = true ∧ (lessN a b = true ∧ lessN (1, 1) b = false) ∧ behind last a = true then some (a, b) else none) = _
      by_cases z : (lessN a b = true ∧ lessN (1, 1) b = false) ∧ behind last a = true
      ·rw [if_pos z, if_pos ⟨m', z⟩]
      ·rw [if_neg z, if_neg (fun y => z y.2)]
     refine ⟨_, rfl, _, rfl, p1, p2, _, _, _, _, rfl, h1, h2, ⟨sm_300 fb1.1, sm_300 fb1.2, sm_300 fb2.1, sm_300 fb2.2⟩, _, rfl, ?_⟩
     have lq : decide ((a.1 : Int) * (b.2 : Int) < (b.1 : Int) * (a.2 : Int)) = lessN a b := lt_tree a b
     rw [lq]
     cases lc : lessN a b with
     | false => exact iteT (fail (by rw [wv, if_neg (fun z => by rw [lc] at z; cases z.1.1)]) H4 t14)
     | true =>
      refine iteF ?_
      refine ⟨Nat.le_trans (Nat.le_of_ble_eq_true rfl : _ ≤ 1000) (by decide), fun p3 hp3 => ?_⟩
      have s5 := Same.upd (o := .tup [.int 1, .int 1]) hp3
      have h3 : SqT K (upd H4 p3 (.tup [.int 1, .int 1])) p3 [.int 1, .int 1] := sqT_new
      generalize upd H4 p3 (.tup [.int 1, .int 1]) = H5 at s5 h3
      have tt := t14.trans s5
      have h1 := s5.sqT h1
      have h2 := s5.sqT h2
      refine ⟨_, rfl, p3, p2, _, _, _, _, rfl, h3, h2, ⟨sm_300 (n := 1) (Nat.one_lt_pow (by decide) (by decide)), sm_300 (n := 1) (Nat.one_lt_pow (by decide) (by decide)), sm_300 fb2.1, sm_300 fb2.2⟩, _, rfl, ?_⟩
      have l1 : decide ((1 : Int) * (b.2 : Int) < (b.1 : Int) * (1 : Int)) = lessN (1, 1) b := lt_tree (1, 1) b
      rw [l1]
      cases ld : lessN (1, 1) b with
      | true => exact iteT (fail (by rw [wv, if_neg (fun z => by rw [ld] at z; cases z.1.2)]) H5 tt)
      | false =>
       refine iteF ?_
       cases last with
       | none =>
        have el : lv = .non := ulv
        rw [el]
        have wv : wnL none wd = some (a, b) := by rw [wv, if_pos ⟨⟨lc, ld⟩, rfl⟩]
        refine ⟨_, rfl, rfl, _, rfl, iteNS rfl ?_⟩
        refine ⟨_, rfl, .inl ⟨rfl, _, .of (tt _ _ ust)⟩, _, rfl, _, rfl, Nat.le_trans (Nat.le_of_ble_eq_true rfl : _ ≤ 1000) (by decide), fun r hr' => ?_⟩
        have s7 := Same.upd (o := .tup [.ref p1, .ref p2]) hr'
        have hr7 : SqT K (upd H5 r (.tup [.ref p1, .ref p2])) r [.ref p1, .ref p2] := sqT_new
        generalize upd H5 r (.tup [.ref p1, .ref p2]) = H7 at s7 hr7
        have t17 := tt.trans s7
        have hst7 := t17 _ _ ust
        have k7 : Keep H7 (upd H7 st (.lst (ys ++ [.ref r]))) := Keep.updL hst7
        have lys : ys.length = S.length := uS.length
        refine ⟨st, ys, .ref r, rfl, rfl, hst7, by omega, _, rfl, by omega, (u1.trans t17).updN hst, ?_, ys ++ [.ref r], S ++ [(a, b)], some b, .ref p2, _, _, _, _, _, _, rfl, upd_same, ?_, ?_, ⟨p2, rfl, k7.sqT (s7.sqT h2)⟩, (fun p z => by cases z; exact fb2), ?_⟩
        ·rw [upd_ne nqs]
         exact t17 _ _ uq
        ·exact Paired.app (Paired.mapP uS fun _ _ z => (z.same t17).keep k7) (.cons ⟨r, p1, p2, rfl, k7.sqT hr7, k7.sqT (s7.sqT h1), k7.sqT (s7.sqT h2)⟩ .nil)
        ·rw [List.length_append]; show S.length + 1 = i + 1; omega
        ·rw [ulp, wv]
         show ((lpC (some b) (W.drop (i + 1))).map ((a, b) :: ·)).map (S ++ ·) = _
         cases lpC (some b) (W.drop (i + 1)) with
         | none => rfl
         | some z => show some (S ++ ((a, b) :: z)) = some ((S ++ [(a, b)]) ++ z); rw [List.append_assoc]; rfl
       | some l =>
        obtain ⟨pl, rfl, hl⟩ := ulv
        have fl := ull l rfl
        refine ⟨_, rfl, rfl, _, rfl, iteNN (fun z => nomatch z) ?_⟩
        refine ⟨_, rfl, _, rfl, pl, p1, _, _, _, _, rfl, tt.sqT hl, h1, ⟨sm_300 fl.1, sm_300 fl.2, sm_300 fb1.1, sm_300 fb1.2⟩, _, rfl, ?_⟩
        have l2 : decide ((l.1 : Int) * (a.2 : Int) < (a.1 : Int) * (l.2 : Int)) = lessN l a := lt_tree l a
        rw [l2]
        cases le : lessN l a with
        | false => exact iteT (fail (by rw [wv, if_neg (fun z => by have := z.2; rw [show behind (some l) a = lessN l a from rfl, le] at this; cases this)]) H5 tt)
        | true =>
         refine iteF ?_
         have wv : wnL (some l) wd = some (a, b) := by rw [wv, if_pos ⟨⟨lc, ld⟩, le⟩]
         refine ⟨_, rfl, .inl ⟨rfl, _, .of (tt _ _ ust)⟩, _, rfl, _, rfl, Nat.le_trans (Nat.le_of_ble_eq_true rfl : _ ≤ 1000) (by decide), fun r hr' => ?_⟩
         have s7 := Same.upd (o := .tup [.ref p1, .ref p2]) hr'
         have hr7 : SqT K (upd H5 r (.tup [.ref p1, .ref p2])) r [.ref p1, .ref p2] := sqT_new
         generalize upd H5 r (.tup [.ref p1, .ref p2]) = H7 at s7 hr7
         have t17 := tt.trans s7
         have hst7 := t17 _ _ ust
         have k7 : Keep H7 (upd H7 st (.lst (ys ++ [.ref r]))) := Keep.updL hst7
         have lys : ys.length = S.length := uS.length
         refine ⟨st, ys, .ref r, rfl, rfl, hst7, by omega, _, rfl, by omega, (u1.trans t17).updN hst, ?_, ys ++ [.ref r], S ++ [(a, b)], some b, .ref p2, _, _, _, _, _, _, rfl, upd_same, ?_, ?_, ⟨p2, rfl, k7.sqT (s7.sqT h2)⟩, (fun p z => by cases z; exact fb2), ?_⟩
         ·rw [upd_ne nqs]
          exact t17 _ _ uq
         ·exact Paired.app (Paired.mapP uS fun _ _ z => (z.same t17).keep k7) (.cons ⟨r, p1, p2, rfl, k7.sqT hr7, k7.sqT (s7.sqT h1), k7.sqT (s7.sqT h2)⟩ .nil)
         ·rw [List.length_append]; show S.length + 1 = i + 1; omega
         ·rw [ulp, wv]
          show ((lpC (some b) (W.drop (i + 1))).map ((a, b) :: ·)).map (S ++ ·) = _
          cases lpC (some b) (W.drop (i + 1)) with
          | none => rfl
          | some z => show some (S ++ ((a, b) :: z)) = some ((S ++ [(a, b)]) ++ z); rw [List.append_assoc]; rfl
  ·rintro σ H' ⟨_, u1, uq, ys, S, last, lv, x3, x4, x5, x6, x7, x8, rfl, ust, uS, uSl, ulv, ull, ulp⟩
   rw [List.length_map, List.drop_length] at ulp
   have ulp : lpC none W = some (S ++ []) := ulp
   rw [List.append_nil] at ulp
   exact ⟨_, rfl, ok S ulp st ys _ u1 hst ust uS⟩
end
end FQ
namespace L2
open PySem PySem.Spec PyProof.Rows
section
variable {X : Cx} {pos : Pos}
theorem ps_while0 {c : Expr} {body : List Stmt} {tc : TT} (hp : PassesOwn (model X.prog X.w) X.A X.env X.xe) (hc : PT X c tc) : PS X (.While c body [] pos) (fun D σ H => tc σ H fun b H1 => b = false ∧ D.nx σ H1) := by
 intro pins s σ H D I h
 refine wpAny_While (codeAny_whileLoop (fun _ s' => s' = s) ?_ 0 rfl)
 rintro n s1 rfl
 refine wpAny_passesOwn hp (thn (hc pins s1 σ H _ I h) fun b s2 ⟨H2, I2, q2⟩ => ?_)
 obtain ⟨rfl, q2⟩ := q2
 rw [if_neg Bool.false_ne_true]
 exact wpAny_execs_nil ⟨σ, H2, I2, q2⟩
end
end L2
namespace FQ
open PySem L2 FK FT
def spNT : Sp := fun vs H Q _ => ∃ n : Nat, vs = [.int (n : Int)] ∧ n < 10 ^ 64 ∧ ∀ H', Same H H' → Q (.str (mkS (dig n))) H'
theorem str_mk (n : Nat) : Str.ofString (toString ((n : Nat) : Int)) = mkS (dig n) := tl_inj (by rw [str_dig, tl_mk])
theorem dig_len {n k : Nat} (h : n < 10 ^ k) (hk : 0 < k := by decide) : (dig n).length ≤ k := by
 unfold dig
 rw [List.length_map]
 exact (Nat.length_toDigits_le_iff (by decide) hk).mpr h
section
variable {P : Program} {w : World} {K : PySem.W.Frag} {mg : Str → Option Value} {base : Heap}
theorem scNT : FnScope ["number", "chunk", "chunks"] ["number"] (defScope s_number_text) := ⟨rfl, rfl, rfl, by decide +kernel, rfl, by decide +kernel, by decide +kernel⟩
theorem ok_nt {f : Addr} {fd : FuncData} (D : DefAt K mg "number_text" s_number_text ["number"] f fd) (hstr : mg "str" = none) (hrev : mg "reversed" = none) : FnOk P w K mg base CX0 1 f fd ["number"] spNT := by
 refine D.fn.ok scNT (fun vs H Q E h => ?_) (fun cdv A outer s H vs Q E hr h => ?_)
 ·obtain ⟨n, rfl, _⟩ := h
  rfl
 ·obtain ⟨n, rfl, ln, q⟩ := h
  refine ⟨_, pss_cons (ps_set (i := 1) scNT.nd rfl (Or.inl rfl) (pe_op op_pow pe_int pe_int))
   (pss_cons (ps_set (i := 2) scNT.nd rfl (Or.inl rfl) (pe_lst pa_nil))
   (pss_cons (ps_while0 PassesOwn.never (pt_cmpR op_ge (pv 0) (pv 1) (nomark _)))
   (pss_cons (ps_expr (pe_bm PySem.F.plainAttrs_list PySem.F.slot_list_append PySem.F.type_list_append mt_append (pv 2) (pa_cons (pe_callTy call_str_int (by rfl) hstr PyProof.Rows.boot_str (pa_cons (pv 0) pa_nil)) pa_nil)))
   (pss_one (ps_ret (pe_joinrev rfl pe_str (by rfl) hrev (pa_cons (pv 2) pa_nil))))))), ?_⟩
  have big : 6000 ≤ sizeLine := by decide
  have c1 : CPow 10 64 := ⟨by decide, by decide, by decide⟩
  refine ⟨_, _, rfl, rfl, c1, Nat.zero_le _, fun q1 hq1 => ?_⟩
  have s1 := Same.upd (o := .lst []) hq1
  have h1 : upd H q1 (.lst []) q1 = some (.lst []) := upd_same
  generalize upd H q1 (.lst []) = H1 at s1 h1
  refine ⟨_, rfl, _, rfl, _, _, rfl, rfl, _, rfl, ?_, ?_⟩
  ·refine decide_eq_false (fun z => ?_)
   have e : ((10 : Int) ^ Int.toNat 64) = ((10 ^ 64 : Nat) : Int) := by decide
   have z : ((10 : Int) ^ Int.toNat 64) ≤ (n : Int) := z
   rw [e] at z
   exact absurd (Int.ofNat_le.mp z) (Nat.not_le_of_lt ln)
  ·have lg : ((n : Nat) : Int).natAbs.log2 < 1920 := by
    rw [Int.natAbs_natCast]
    by_cases n0 : n = 0
    ·rw [n0]; decide
    ·exact (Nat.log2_lt n0).mpr (Nat.lt_trans ln (by decide))
   refine ⟨_, rfl, .inl ⟨rfl, _, .of h1⟩, _, rfl, _, rfl, lg, q1, [], _, rfl, rfl, h1, by show 0 < _; omega, _, rfl, _, rfl, q1, [mkS (dig n)], rfl, ?_, ?_, ?_⟩
   ·rw [str_mk]
    exact .of upd_same
   ·have ld : (dig n).length ≤ 64 := dig_len ln
    have : ¬ (0 + (mkS (dig n)).length + 0) > sizeLine := by rw [mk_len]; omega
    show (!decide (0 + (mkS (dig n)).length + 0 > sizeLine)) = true
    rw [decide_eq_false this]
    rfl
   ·exact q _ (s1.updN hq1)
end
end FQ
namespace FQ
open PySem L2 FK FT
def spFT (K : PySem.W.Frag) : Sp := fun vs H Q _ => ∃ (t : Addr) (p : Nat × Nat), vs = [.ref t] ∧ SqT K H t [.int p.1, .int p.2] ∧ p.1 < 10 ^ 64 ∧ p.2 < 10 ^ 64 ∧ ∀ H', Same H H' → Q (.str (mkS (frT p))) H'
theorem slash : Str.ofString "/" = mkS [47] := by decide +kernel
theorem mk_app (a b : List Nat) : mkS a ++ mkS b = mkS (a ++ b) := tl_inj (by rw [tl_app, tl_mk, tl_mk, tl_mk])
section
variable {P : Program} {w : World} {K : PySem.W.Frag} {mg : Str → Option Value} {base : Heap}
theorem scFT : FnScope ["fraction"] ["fraction"] (defScope s_fraction_text) := ⟨rfl, rfl, rfl, by decide +kernel, rfl, by decide +kernel, by decide +kernel⟩
theorem ok_ft {f : Addr} {fd : FuncData} (D : DefAt K mg "fraction_text" s_fraction_text ["fraction"] f fd) (CN : Cl P w K mg base "number_text" 1 ["number"] spNT) : FnOk P w K mg base CX0 2 f fd ["fraction"] (spFT K) := by
 refine D.fn.ok scFT (fun vs H Q E h => ?_) (fun cdv A outer s H vs Q E hr h => ?_)
 ·obtain ⟨t, p, rfl, _⟩ := h
  rfl
 ·obtain ⟨t, p, rfl, ht, l1, l2, q⟩ := h
  refine ⟨_, pss_cons (ps_if (pt_cmpR op_eq (pe_ix ix_tup (pv 0) pe_int (fun _ _ => rfl)) pe_int (nomark _)) (pss_one (ps_ret (pe_cl CN hr rfl (pa_cons (pe_ix ix_tup (pv 0) pe_int (fun _ _ => rfl)) pa_nil)))) pss_nil)
   (pss_one (ps_ret (pe_op op_add_str (pe_op op_add_str (pe_cl CN hr rfl (pa_cons (pe_ix ix_tup (pv 0) pe_int (fun _ _ => rfl)) pa_nil)) pe_str) (pe_cl CN hr rfl (pa_cons (pe_ix ix_tup (pv 0) pe_int (fun _ _ => rfl)) pa_nil))))), ?_⟩
  have big : 6000 ≤ sizeLine := by decide
  have d1 := dig_len l1
  have d2 := dig_len l2
  refine ⟨_, rfl, t, _, _, _, rfl, rfl, ht, rfl, rfl, _, rfl, ?_⟩
  by_cases e : p.2 = 1
  ·refine iteEq (by rw [e]; rfl) ?_
   refine ⟨_, rfl, t, _, _, _, rfl, rfl, ht, rfl, p.1, rfl, l1, fun H1 s1 => ?_⟩
   have := q H1 s1
   rw [show frT p = dig p.1 from if_pos e] at this
   exact this
  ·refine iteEqN (fun z => e (by have : (p.2 : Int) = 1 := V.int.inj z; omega)) ?_
   refine ⟨_, rfl, t, _, _, _, rfl, rfl, ht, rfl, p.1, rfl, l1, fun H1 s1 => ?_⟩
   refine ⟨_, _, rfl, rfl, by rw [slash, mk_len, mk_len]; show _ + 1 ≤ _; omega, ?_⟩
   rw [slash, mk_app]
   refine ⟨_, rfl, t, _, _, _, rfl, rfl, s1.sqT ht, rfl, p.2, rfl, l2, fun H2 s2 => ?_⟩
   refine ⟨_, _, rfl, rfl, by rw [mk_len, mk_len, List.length_append]; show _ + 1 + _ ≤ _; omega, ?_⟩
   rw [mk_app, List.append_assoc]
   have := q H2 (s1.trans s2)
   rw [show frT p = dig p.1 ++ 47 :: dig p.2 from if_neg e] at this
   exact this
theorem scLT : FnScope ["_law_one"] ["_law_one"] (defScope s__law_text) := ⟨rfl, rfl, rfl, by decide +kernel, rfl, by decide +kernel, by decide +kernel⟩
theorem ok_lt {f : Addr} {fd : FuncData} (D : DefAt K mg "_law_text" s__law_text ["_law_one"] f fd) (hstr : mg "str" = none) : FnOk P w K mg base CX0 1 f fd ["_law_one"] (spFT K) := by
 refine D.fn.ok scLT (fun vs H Q E h => ?_) (fun cdv A outer s H vs Q E hr h => ?_)
 ·obtain ⟨t, p, rfl, _⟩ := h
  rfl
 ·obtain ⟨t, p, rfl, ht, l1, l2, q⟩ := h
  refine ⟨_, pss_one (ps_ret (pe_ifExp (pt_cmpR op_eq (pe_ix ix_tup (pv 0) pe_int (fun _ _ => rfl)) pe_int (nomark _)) (pe_callTy call_str_int (by rfl) hstr PyProof.Rows.boot_str (pa_cons (pe_ix ix_tup (pv 0) pe_int (fun _ _ => rfl)) pa_nil))
   (pe_op op_add_str (pe_op op_add_str (pe_callTy call_str_int (by rfl) hstr PyProof.Rows.boot_str (pa_cons (pe_ix ix_tup (pv 0) pe_int (fun _ _ => rfl)) pa_nil)) pe_str) (pe_callTy call_str_int (by rfl) hstr PyProof.Rows.boot_str (pa_cons (pe_ix ix_tup (pv 0) pe_int (fun _ _ => rfl)) pa_nil))))), ?_⟩
  have big : 6000 ≤ sizeLine := by decide
  have d1 := dig_len l1
  have d2 := dig_len l2
  have up : ∀ n : Nat, n < 10 ^ 64 → n < 10 ^ 300 := fun n h => Nat.lt_of_lt_of_le h (Nat.pow_le_pow_right (by decide) (by decide))
  refine ⟨_, rfl, t, _, _, _, rfl, rfl, ht, rfl, rfl, _, rfl, ?_⟩
  by_cases e : p.2 = 1
  ·refine iteEq (by rw [e]; rfl) ?_
   refine ⟨_, rfl, t, _, _, _, rfl, rfl, ht, rfl, _, rfl, log_lt (up _ l1), ?_⟩
   have := q H (Same.refl H)
   rw [show frT p = dig p.1 from if_pos e] at this
   rw [str_mk]
   exact this
  ·refine iteEqN (fun z => e (by have : (p.2 : Int) = 1 := V.int.inj z; omega)) ?_
   refine ⟨_, rfl, t, _, _, _, rfl, rfl, ht, rfl, _, rfl, log_lt (up _ l1), ?_⟩
   rw [str_mk]
   refine ⟨_, _, rfl, rfl, by rw [slash, mk_len, mk_len]; show _ + 1 ≤ _; omega, ?_⟩
   rw [slash, mk_app]
   refine ⟨_, rfl, t, _, _, _, rfl, rfl, ht, rfl, _, rfl, log_lt (up _ l2), ?_⟩
   rw [str_mk]
   refine ⟨_, _, rfl, rfl, by rw [mk_len, mk_len, List.length_append]; show _ + 1 + _ ≤ _; omega, ?_⟩
   rw [mk_app, List.append_assoc]
   have := q H (Same.refl H)
   rw [show frT p = dig p.1 ++ 47 :: dig p.2 from if_neg e] at this
   exact this
end
end FQ
namespace FQ
open PySem L2 FK FT
def ofQ (q : Rat) : Nat × Nat := (q.num.toNat, q.den)
def stQ (s : Rat × Int) : List Nat := stT (ofQ s.1, s.2.toNat)
def Wr (q : Rat) : Prop := 0 ≤ q.num ∧ q.num.toNat < 10 ^ 64 ∧ q.den < 10 ^ 64
def spTT (K : PySem.W.Frag) (C : Addr) : Sp := fun vs H Q _ => ∃ (x lt ll : Addr) (S : Steps), vs = [.ref x] ∧ TasteAt K C H x lt ll S ∧ S.length ≤ 8 ∧ (∀ s ∈ S, Wr s.1 ∧ 0 ≤ s.2 ∧ s.2.toNat < 10 ^ 64) ∧ ∀ H', Same H H' → Q (.str (mkS (jn 32 (S.map stQ)))) H'
theorem join_len (y : PySem.Str) (b : Nat) : ∀ (ws : List PySem.Str) (a : Nat), (∀ w ∈ ws, w.length + y.length ≤ b) → ws.foldl (fun n w => n + w.length + y.length) a ≤ a + ws.length * b
 | [], a, _ => by simp
 | w :: ws, a, h => by
  have h1 := h w (List.mem_cons_self ..)
  have := join_len y b ws (a + w.length + y.length) fun v hv => h v (List.mem_cons_of_mem _ hv)
  rw [List.foldl_cons, List.length_cons, Nat.succ_mul]
  omega
theorem join_ok {y : PySem.Str} {ws : List PySem.Str} (b : Nat) (h : ∀ w ∈ ws, w.length + y.length ≤ b) (l : ws.length * b ≤ sizeLine) : JoinOk y ws = true := by
 have := join_len y b ws 0 h
 show (!decide (ws.toArray.foldl (fun n w => n + w.length + y.length) 0 > sizeLine)) = true
 rw [List.foldl_toArray, decide_eq_false (by omega)]
 rfl
theorem wr_len {q : Rat} (h : Wr q) : (frT (ofQ q)).length ≤ 129 := by
 have d1 := dig_len h.2.1
 have d2 := dig_len h.2.2
 unfold frT ofQ
 split
 ·show (dig q.num.toNat).length ≤ 129
  omega
 ·rw [List.length_append, List.length_cons]
  show (dig q.num.toNat).length + ((dig q.den).length + 1) ≤ 129
  omega
theorem fr_sq {K : PySem.W.Frag} {H : Hp} {x : V} {q : Rat} (h : FrQ K H x q) (hw : Wr q) : ∃ p, x = .ref p ∧ SqT K H p [.int (ofQ q).1, .int (ofQ q).2] := by
 obtain ⟨p, e, hp⟩ := h.sq
 refine ⟨p, e, ?_⟩
 have : ((ofQ q).1 : Int) = q.num := Int.toNat_of_nonneg hw.1
 rw [this]
 exact hp
section
variable {P : Program} {w : World} {K : PySem.W.Frag} {mg : Str → Option Value} {base : Heap} {C : Addr}
theorem scTT : FnScope ["taste"] ["taste"] (defScope s_taste_text) := ⟨rfl, rfl, rfl, by decide +kernel, rfl, by decide +kernel, by decide +kernel⟩
theorem ok_tt {f : Addr} {fd : FuncData} (D : DefAt K mg "taste_text" s_taste_text ["taste"] f fd) (CN : Cl P w K mg base "number_text" 1 ["number"] spNT) (CF : Cl P w K mg base "fraction_text" 2 ["fraction"] (spFT K)) (MC : Ml P w K mg base C "steps" 1 ["self"] (spTold K C)) (TC : TxtC K C) : FnOk P w K mg base CX0 3 f fd ["taste"] (spTT K C) := by
 refine D.fn.ok scTT (fun vs H Q E h => ?_) (fun cdv A outer s H vs Q E hr h => ?_)
 ·obtain ⟨x, lt, ll, S, rfl, _⟩ := h
  rfl
 ·obtain ⟨x, lt, ll, S, rfl, ht, l8, hw, q⟩ := h
  have hr1 : Room 1 _ := hr.mono (by decide)
  refine ⟨_, pss_one (ps_ret (pe_bm PySem.F.plainAttrs_str PySem.F.slot_str_join PySem.F.type_str_join mt_join pe_str (pa_cons (pe_comp ["step"] rfl (CompOk.plain rfl (by decide +kernel) (by decide +kernel) (by decide +kernel)) (pi_list (pe_ml0 MC TC.cl hr1 (pv 0)))
   (fun _ => pg_name (i := 0) (show [Str.ofString "step"].Nodup by decide +kernel) rfl (Or.inl rfl)) (fun _ => pifs_nil)
   (fun _ => pe_op op_add_str (pe_op op_add_str (pe_cl CN hr1 rfl (pa_cons (pe_ix ix_tup (pv 0) pe_int (fun _ _ => rfl)) pa_nil)) pe_str) (pe_cl CF hr rfl (pa_cons (pe_ix ix_tup (pv 0) pe_int (fun _ _ => rfl)) pa_nil)))) pa_nil))), ?_⟩
  have c32 : Str.ofString " " = (⟨#[32]⟩ : PySem.Str) := by decide +kernel
  have c64 : Str.ofString "@" = mkS [64] := by decide +kernel
  have big : 6000 ≤ sizeLine := by decide
  obtain ⟨dx, hx⟩ := ht.ins
  refine ⟨rfl, _, rfl, x, dx, _, rfl, hx, rfl, x, lt, ll, S, rfl, ht, fun l ts hl hts => ?_⟩
  have s1 := Same.upd (o := .lst ts) hl
  have h1 : upd H l (.lst ts) l = some (.lst ts) := upd_same
  have hts := Paired.mapP hts fun _ _ z => StQ.same s1 z
  refine ⟨l, rfl, ⟨_, sqL_new⟩, fun D1 hD1 => ?_⟩
  generalize upd H l (.lst ts) = H1 at s1 h1 hts hD1
  have ls : ts.length = S.length := hts.length
  refine comp_list (K := K) (a := l) (D := D1) (xs := ts) (fun j ys σ H2 => Same H1 H2 ∧ H2 D1 = some (.lst ys) ∧ ys = (S.take j).map (fun s => V.str (mkS (stQ s))) ∧ j ≤ S.length ∧ ∃ x0, σ = [x0])
   (by omega) ⟨Same.upd hD1, upd_same, rfl, Nat.zero_le _, _, rfl⟩ ?_ ?_ ?_
  ·rintro j ys σ H2 _ ⟨u1, u2, u3, u4, _⟩
   refine ⟨.of (u1 _ _ h1), u2, ?_⟩
   rw [u3, List.length_map, List.length_take]
   omega
  ·rintro j y ys σ H2 hy ⟨u1, u2, u3, u4, x0, rfl⟩ cc
   have jl : j < S.length := by have := (List.getElem?_eq_some_iff.mp hy).1; omega
   have hs : S[j]? = some S[j] := List.getElem?_eq_getElem jl
   obtain ⟨p, a, b, rfl, hp, ha, hb⟩ := StQ.same u1 (Paired.get hts _ _ _ hy hs)
   generalize S[j] = sv at hs ha hb
   obtain ⟨w1, w2, w3⟩ := hw sv (List.mem_of_getElem? hs)
   have hb : b = .int sv.2 := hb
   have e2 : (sv.2.toNat : Int) = sv.2 := Int.toNat_of_nonneg w2
   subst hb
   obtain ⟨r, rfl, hr'⟩ := fr_sq ha w1
   have d2 := dig_len w3
   have d1 := wr_len w1
   refine ⟨_, rfl, p, _, _, _, rfl, rfl, hp, rfl, sv.2.toNat, by rw [e2]; rfl, w3, fun H3 t3 => ?_⟩
   refine ⟨_, _, rfl, rfl, by rw [c64, mk_len, mk_len]; show _ + 1 ≤ _; omega, ?_⟩
   rw [c64, mk_app]
   refine ⟨_, rfl, p, _, _, _, rfl, rfl, t3.sqT hp, rfl, r, ofQ sv.1, rfl, t3.sqT hr', w1.2.1, w1.2.2, fun H4 t4 => ?_⟩
   refine ⟨_, _, rfl, rfl, by rw [mk_len, mk_len, List.length_append]; show _ + 1 + _ ≤ _; omega, ?_⟩
   rw [mk_app, List.append_assoc]
   have t34 := t3.trans t4
   refine ⟨t34 _ _ u2, (u1.trans t34).updN hD1, upd_same, ?_, by omega, _, rfl⟩
   rw [u3, take_snoc hs, List.map_append]
   rfl
  ·rintro ys σ H2 ⟨u1, u2, u3, u4, x0, rfl⟩
   rw [ls, List.take_length] at u3
   have e : ys = (S.map fun s => mkS (stQ s)).map V.str := by rw [u3, List.map_map]; rfl
   refine ⟨_, D1, S.map (fun s => mkS (stQ s)), rfl, rfl, .of (by rw [u2, e]), ?_, ?_⟩
   ·refine join_ok 200 (fun w hw' => ?_) (by rw [List.length_map]; omega)
    obtain ⟨s, hs, rfl⟩ := List.mem_map.mp hw'
    obtain ⟨w1, w2, w3⟩ := hw s hs
    have d2 := dig_len w3
    have d1 := wr_len w1
    rw [mk_len, c32]
    show (dig s.2.toNat ++ 64 :: frT (ofQ s.1)).length + 1 ≤ 200
    rw [List.length_append, List.length_cons]
    omega
   ·have := q H2 (s1.trans u1)
    rw [show Txt.join (Str.ofString " ") (S.map fun s => mkS (stQ s)) = mkS (jn 32 (S.map stQ)) from tl_inj (by
     rw [c32, glued_jn, List.map_map, tl_mk]
     rfl)]
    exact this
end
end FQ
namespace FQ
open PySem L2 FK FT
def snQ (s : Rat × Rat) : List Nat := snT (ofQ s.1, ofQ s.2)
def spPT (K : PySem.W.Frag) : Sp := fun vs H Q _ => ∃ (a : Addr) (xs : List V) (D : Nat) (L : List (Rat × Rat)), vs = [.ref a] ∧ SqL K H a xs ∧ Paired (CoQ K H) xs L ∧ PcOk D L ∧ L.length ≤ 20 ∧ (∀ s ∈ L, Wr s.1 ∧ Wr s.2) ∧ ∀ H', Same H H' → Q (.str (mkS (jn 32 (L.map snQ)))) H'
section
variable {P : Program} {w : World} {K : PySem.W.Frag} {mg : Str → Option Value} {base : Heap} {C : Addr}
theorem scPT : FnScope ["piece"] ["piece"] (defScope s_piece_text) := ⟨rfl, rfl, rfl, by decide +kernel, rfl, by decide +kernel, by decide +kernel⟩
theorem ok_pt {f : Addr} {fd : FuncData} (D : DefAt K mg "piece_text" s_piece_text ["piece"] f fd) (CF : Cl P w K mg base "fraction_text" 2 ["fraction"] (spFT K)) (CK : Cl P w K mg base "check_piece" 4 ["piece"] (spCheck K)) : FnOk P w K mg base CX0 5 f fd ["piece"] (spPT K) := by
 refine D.fn.ok scPT (fun vs H Q E h => ?_) (fun cdv A outer s H vs Q E hr h => ?_)
 ·obtain ⟨a, xs, Dn, L, rfl, _⟩ := h
  rfl
 ·obtain ⟨l, ts, Dn, L, rfl, h1, hts, ok, l8, hw, q⟩ := h
  have hr2 : Room 2 _ := hr.mono (by decide)
  refine ⟨_, pss_cons (ps_expr (pe_cl CK hr rfl (pa_cons (pv 0) pa_nil))) (pss_one (ps_ret (pe_bm PySem.F.plainAttrs_str PySem.F.slot_str_join PySem.F.type_str_join mt_join pe_str (pa_cons (pe_comp ["span"] rfl (CompOk.plain rfl (by decide +kernel) (by decide +kernel) (by decide +kernel)) (pi_list (pv 0))
   (fun _ => pg_name (i := 0) (show [Str.ofString "span"].Nodup by decide +kernel) rfl (Or.inl rfl)) (fun _ => pifs_nil)
   (fun _ => pe_op op_add_str (pe_op op_add_str (pe_cl CF hr2 rfl (pa_cons (pe_ix ix_tup (pv 0) pe_int (fun _ _ => rfl)) pa_nil)) pe_str) (pe_cl CF hr2 rfl (pa_cons (pe_ix ix_tup (pv 0) pe_int (fun _ _ => rfl)) pa_nil)))) pa_nil)))), ?_⟩
  have c32 : Str.ofString " " = (⟨#[32]⟩ : PySem.Str) := by decide +kernel
  have c45 : Str.ofString "-" = mkS [45] := by decide +kernel
  have big : 6000 ≤ sizeLine := by decide
  refine ⟨_, rfl, l, ts, Dn, L, rfl, h1, hts, ok, rfl, _, rfl, l, rfl, ⟨_, h1⟩, fun D1 hD1 => ?_⟩
  have ls : ts.length = L.length := hts.length
  refine comp_list (K := K) (a := l) (D := D1) (xs := ts) (fun j ys σ H2 => Same H H2 ∧ H2 D1 = some (.lst ys) ∧ ys = (L.take j).map (fun s => V.str (mkS (snQ s))) ∧ j ≤ L.length ∧ ∃ x0, σ = [x0])
   (by omega) ⟨Same.upd hD1, upd_same, rfl, Nat.zero_le _, _, rfl⟩ ?_ ?_ ?_
  ·rintro j ys σ H2 _ ⟨u1, u2, u3, u4, _⟩
   refine ⟨Same.seq u1 h1, u2, ?_⟩
   rw [u3, List.length_map, List.length_take]
   omega
  ·rintro j y ys σ H2 hy ⟨u1, u2, u3, u4, x0, rfl⟩ cc
   have jl : j < L.length := by have := (List.getElem?_eq_some_iff.mp hy).1; omega
   have hs : L[j]? = some L[j] := List.getElem?_eq_getElem jl
   obtain ⟨p, a, b, rfl, hp, ha, hb⟩ := CoQ.same u1 (Paired.get hts _ _ _ hy hs)
   generalize L[j] = sv at hs ha hb
   obtain ⟨w1, w2⟩ := hw sv (List.mem_of_getElem? hs)
   obtain ⟨r, rfl, hr'⟩ := fr_sq ha w1
   obtain ⟨r2, rfl, hr2'⟩ := fr_sq hb w2
   have d1 := wr_len w1
   have d2 := wr_len w2
   refine ⟨_, rfl, p, _, _, _, rfl, rfl, hp, rfl, r, ofQ sv.1, rfl, hr', w1.2.1, w1.2.2, fun H3 t3 => ?_⟩
   refine ⟨_, _, rfl, rfl, by rw [c45, mk_len, mk_len]; show _ + 1 ≤ _; omega, ?_⟩
   rw [c45, mk_app]
   refine ⟨_, rfl, p, _, _, _, rfl, rfl, t3.sqT hp, rfl, r2, ofQ sv.2, rfl, t3.sqT hr2', w2.2.1, w2.2.2, fun H4 t4 => ?_⟩
   refine ⟨_, _, rfl, rfl, by rw [mk_len, mk_len, List.length_append]; show _ + 1 + _ ≤ _; omega, ?_⟩
   rw [mk_app, List.append_assoc]
   have t34 := t3.trans t4
   refine ⟨t34 _ _ u2, (u1.trans t34).updN hD1, upd_same, ?_, by omega, _, rfl⟩
   rw [u3, take_snoc hs, List.map_append]
   rfl
  ·rintro ys σ H2 ⟨u1, u2, u3, u4, x0, rfl⟩
   rw [ls, List.take_length] at u3
   have e : ys = (L.map fun s => mkS (snQ s)).map V.str := by rw [u3, List.map_map]; rfl
   refine ⟨_, D1, L.map (fun s => mkS (snQ s)), rfl, rfl, .of (by rw [u2, e]), ?_, ?_⟩
   ·refine join_ok 260 (fun w hw' => ?_) (by rw [List.length_map]; omega)
    obtain ⟨s, hs, rfl⟩ := List.mem_map.mp hw'
    obtain ⟨w1, w2⟩ := hw s hs
    have d1 := wr_len w1
    have d2 := wr_len w2
    rw [mk_len, c32]
    show (frT (ofQ s.1) ++ 45 :: frT (ofQ s.2)).length + 1 ≤ 260
    rw [List.length_append, List.length_cons]
    omega
   ·have := q H2 u1
    rw [show Txt.join (Str.ofString " ") (L.map fun s => mkS (snQ s)) = mkS (jn 32 (L.map snQ)) from tl_inj (by
     rw [c32, glued_jn, List.map_map, tl_mk]
     rfl)]
    exact this
end
end FQ
namespace FQ
open PySem L2 FK FT
def spOther : Sp := fun vs H Q _ => ∃ (x : PySem.Str) (c k : Int), vs = [.str x, .int c, .int k] ∧ x.length ≤ 2400 ∧ ∀ (y : PySem.Str) H', y.length ≤ 2 * x.length + 1 → Same H H' → Q (.str y) H'
abbrev NOt : List Str := ["_law_text_here", "_law_cell", "_law_k", "_law_at", "_law_sign", "_law_kind"]
theorem str_len (a b : PySem.Str) : (a ++ b).length = a.length + b.length := by
 have h (z : PySem.Str) : z.length = (tl z).length := Array.length_toList.symm
 rw [h, h, h, tl_app, List.length_append]
section
variable {P : Program} {w : World} {K : PySem.W.Frag} {mg : Str → Option Value} {base : Heap} {aL aR : Addr}
theorem scOt : FnScope NOt ["_law_text_here", "_law_cell", "_law_k"] (defScope s__law_other) := ⟨rfl, rfl, rfl, by decide +kernel, rfl, by decide +kernel, by decide +kernel⟩
theorem ok_ot {f : Addr} {fd : FuncData} (D : DefAt K mg "_law_other" s__law_other ["_law_text_here", "_law_cell", "_law_k"] f fd) (CM : Cl P w K mg base "_law_mixed" 1 ["_law_cell", "_law_k"] spMixed) (T : Txt K mg aL aR) : FnOk P w K mg base CX0 2 f fd ["_law_text_here", "_law_cell", "_law_k"] spOther := by
 refine D.fn.ok scOt (fun vs H Q E h => ?_) (fun cdv A outer s H vs Q E hr h => ?_)
 ·obtain ⟨x, c, k, rfl, _⟩ := h
  rfl
 ·obtain ⟨x, c, k, rfl, lx, q⟩ := h
  refine ⟨_, pss_cons (ps_set (i := 3) scOt.nd rfl (Or.inl rfl) (pe_op op_mod (pe_cl CM hr rfl (pa_cons (pv 1) (pa_cons (pv 2) pa_nil))) (pe_op op_add (pe_callB call_len_str (by rfl) T.len PySem.boot_len (pa_cons (pv 0) pa_nil)) pe_int)))
   (pss_cons (ps_set (i := 4) scOt.nd rfl (Or.inl rfl) (pe_ix ix_str pe_str (pe_op op_mod (pe_cl CM hr rfl (pa_cons (pv 1) (pa_cons (pe_op op_add (pv 2) pe_int) pa_nil))) pe_int) (fun _ _ => rfl)))
   (pss_cons (ps_set (i := 5) scOt.nd rfl (Or.inl rfl) (pe_op op_mod (pe_cl CM hr rfl (pa_cons (pv 1) (pa_cons (pe_op op_add (pv 2) pe_int) pa_nil))) pe_int))
   (pss_cons (ps_if (pt_cmpR op_eq (pv 5) pe_int (nomark _)) (pss_one (ps_ret (pe_op op_add_str (pe_op op_add_str (pe_slice sl_str (pv 0) po_none (po_some (pv 3))) (pv 4)) (pe_slice sl_str (pv 0) (po_some (pv 3)) po_none)))) pss_nil)
   (pss_one (ps_ret (pe_op op_add_str (pe_op op_add_str (pe_slice sl_str (pv 0) po_none (po_some (pv 3))) (pe_ix ix_list (pe_lst (pa_cons pe_str (pa_cons (pv 4) pa_nil))) (pe_op op_sub (pv 5) pe_int) (fun _ _ => rfl))) (pe_slice sl_str (pv 0) (po_some (pe_op op_add (pv 3) pe_int)) po_none))))))), ?_⟩
  have big : 100000 ≤ sizeLine := by decide
  refine ⟨_, rfl, _, rfl, _, _, rfl, fun r1 => ?_⟩
  refine ⟨_, rfl, x, rfl, by omega, _, _, rfl, rfl, _, _, rfl, rfl, by show (0 : Int) < (x.length : Int) + 1; omega, ?_⟩
  refine ⟨_, rfl, _, rfl, _, _, rfl, rfl, _, _, rfl, fun r2 => ?_⟩
  have m17 : 0 ≤ r2 % 17 ∧ r2 % 17 < 17 := ⟨Int.emod_nonneg _ (by decide), Int.emod_lt_of_pos _ (by decide)⟩
  have len17 : (Str.ofString "0123456789/@- .+x").length = 17 := by decide +kernel
  have ll17 : (Str.ofString "0123456789/@- .+x").cps.toList.length = 17 := by decide +kernel
  obtain ⟨j, hj⟩ := Int.eq_ofNat_of_zero_le m17.1
  have jl : j < (Str.ofString "0123456789/@- .+x").cps.toList.length := by rw [ll17]; omega
  refine ⟨_, _, rfl, rfl, (by decide : (0 : Int) < 17), _, _, _, rfl, rfl, by rw [len17]; omega, by rw [hj]; exact atI_nat (List.getElem?_eq_getElem jl), ?_⟩
  generalize (Str.ofString "0123456789/@- .+x").cps.toList[j] = cs
  refine ⟨_, rfl, _, rfl, _, _, rfl, rfl, _, _, rfl, fun r3 => ?_⟩
  have m3 : 0 ≤ r3 % 3 ∧ r3 % 3 < 3 := ⟨Int.emod_nonneg _ (by decide), Int.emod_lt_of_pos _ (by decide)⟩
  refine ⟨_, _, rfl, rfl, (by decide : (0 : Int) < 3), ?_⟩
  refine ⟨_, rfl, rfl, _, rfl, ?_⟩
  have l1 : (⟨#[cs]⟩ : PySem.Str).length = 1 := rfl
  by_cases k0 : r3 % 3 = 0
  ·refine iteEq (congrArg V.int k0) ?_
   refine ⟨_, rfl, _, rfl, _, rfl, x, rfl, by omega, fun z1 hz1 => ?_⟩
   refine ⟨_, rfl, _, _, rfl, rfl, by rw [l1]; omega, ?_⟩
   refine ⟨_, rfl, _, rfl, _, rfl, x, rfl, by omega, fun z2 hz2 => ?_⟩
   refine ⟨_, _, rfl, rfl, by rw [str_len, l1]; omega, ?_⟩
   exact q _ _ (by rw [str_len, str_len, l1]; omega) (Same.refl H)
  ·refine iteEqN (fun z => k0 (V.int.inj z)) ?_
   obtain ⟨v, hv, lv⟩ : ∃ v : PySem.Str, atI [V.str (Str.ofString ""), V.str ⟨#[cs]⟩] (r3 % 3 - 1) = some (.str v) ∧ v.length ≤ 1 := by
    rcases (by omega : r3 % 3 = 1 ∨ r3 % 3 = 2) with e | e
    ·rw [e]
     exact ⟨_, rfl, by decide +kernel⟩
    ·rw [e]
     exact ⟨_, rfl, Nat.le_of_eq l1⟩
   refine ⟨_, rfl, _, rfl, _, rfl, x, rfl, by omega, fun z1 hz1 => ?_⟩
   refine ⟨_, rfl, Nat.le_trans (Nat.le_of_ble_eq_true rfl : _ ≤ 1000) (by decide), fun p hp => ?_⟩
   have s1 := Same.upd (o := .lst [V.str (Str.ofString ""), V.str ⟨#[cs]⟩]) hp
   refine ⟨_, rfl, _, _, rfl, rfl, p, _, _, _, rfl, rfl, sqL_new, hv, ?_⟩
   refine ⟨_, _, rfl, rfl, by omega, ?_⟩
   refine ⟨_, rfl, _, rfl, _, _, rfl, rfl, _, rfl, x, rfl, by omega, fun z2 hz2 => ?_⟩
   refine ⟨_, _, rfl, rfl, by rw [str_len]; omega, ?_⟩
   exact q _ _ (by rw [str_len, str_len]; omega) s1
end
end FQ
namespace L2
open PySem PySem.Spec PyProof.Rows
section
variable {X : Cx}
theorem reps_size (c : Array Nat) (n : Nat) (a : Array Nat) : ((List.replicate n c).foldl (· ++ ·) a).size = a.size + n * c.size := by
 induction n generalizing a with
 | zero => simp
 | succ n ih =>
  rw [List.replicate_succ, List.foldl_cons, ih, Array.size_append, Nat.succ_mul]
  omega
def rMulS : R2 := fun x y H Q => ∃ (c : Nat) (n : Nat), x = .str ⟨#[c]⟩ ∧ y = .int n ∧ 2 ≤ n ∧ n ≤ 5000 ∧ ∀ z : PySem.Str, z.length = n → Q (.str z) H
theorem op_mul_str : OpR X (binaryOp .Mult) rMulS := by
 intro pins s σ H x y v u Q I rx ry h
 obtain ⟨c, n, rfl, rfl, h2, h5, q⟩ := h
 obtain ⟨t, rfl⟩ := rx
 obtain ⟨t', rfl⟩ := ry
 have l1 : (⟨#[c]⟩ : PySem.Str).length = 1 := rfl
 have big : 5000 ≤ sizeLine := by decide
 have hok : MulOk ⟨#[c]⟩ (n : Int) := by
  refine ⟨?_, fun _ _ => ?_, fun _ _ => ?_⟩
  ·rw [decide_eq_false (by omega), decide_eq_false (by omega)]
   rfl
  ·rw [l1]
   have : (2 ^ 63 - 1 : Int) / (n : Int) ≥ 1 := (Int.le_ediv_iff_mul_le (by omega)).mpr (by omega)
   show ¬ ((1 : Nat) : Int) > (2 ^ 63 - 1) / (n : Int)
   omega
  ·rw [l1]
   show decide (1 * ((n : Nat) : Int).toNat > sizeLine) = false
   exact decide_eq_false (by rw [Int.toNat_natCast]; omega)
 refine SB.mul hok fun t' k => ⟨.str (Txt.mul ⟨#[c]⟩ (n : Int)), H, I.tok _, ⟨_, rfl⟩, q _ ?_⟩
 unfold Txt.mul
 rw [if_neg (by omega), if_neg]
 ·show ((List.replicate ((n : Nat) : Int).toNat #[c]).foldl (· ++ ·) #[]).size = n
  rw [reps_size, Int.toNat_natCast]
  show 0 + n * 1 = n
  omega
 ·rw [l1]
  have : ((n : Int) == 1) = false := by
   rw [beq_eq_false_iff_ne]
   omega
  rw [this]
  decide
end
end L2
namespace FQ
open PySem L2 FK FT
def appArg : Stmt → Expr
 | .Expr (.Call _ (e :: _) _ _) _ => e
 | _ => default
def fewE (i : Nat) : Expr := match (defBody s__law_few)[i]? with
 | some s => appArg s
 | none => default
theorem jn_len (c b : Nat) : ∀ (ws : List (List Nat)), (∀ w ∈ ws, w.length ≤ b) → (jn c ws).length ≤ ws.length * (b + 1)
 | [], _ => Nat.zero_le _
 | [w], h => by
  have := h w (List.mem_cons_self ..)
  show w.length ≤ 1 * (b + 1)
  omega
 | w :: v :: r, h => by
  have h1 := h w (List.mem_cons_self ..)
  have := jn_len c b (v :: r) fun z hz => h z (List.mem_cons_of_mem _ hz)
  show (w ++ c :: jn c (v :: r)).length ≤ _
  rw [List.length_append, List.length_cons, List.length_cons, Nat.succ_mul]
  omega
section
variable {P : Program} {w : World} {K : PySem.W.Frag} {mg : Str → Option Value} {base : Heap} {aL aR : Addr}
theorem scFew : FnScope ["_law_some"] [] (defScope s__law_few) := ⟨rfl, rfl, rfl, by decide +kernel, rfl, by decide +kernel, by decide +kernel⟩
theorem few_join (i : Nat) (hi : i = 4 ∨ i = 5) (T : Txt K mg aL aR) (hstr : mg "str" = none) {f : Addr} {cdv : Value} {A : Around} {outer : List Env} {s : Shared} {H : Hp} {E : XK} :
  ∃ t, PE (cx P w K mg base ["_law_some"] "_law_few" s__law_few f cdv A outer s H E) (fewE i) t ∧ ∀ (σ : St) (H1 : Hp) (Q : VK), (∀ (z : PySem.Str) H2, z.length ≤ 5000 → Same H1 H2 → Q (.str z) H2) → t σ H1 Q := by
 have c32 : Str.ofString " " = (⟨#[32]⟩ : PySem.Str) := by decide +kernel
 have k1 : (Str.ofString "1@").length = 2 := by decide +kernel
 have k2 : (Str.ofString "/11").length = 3 := by decide +kernel
 have k3 : (Str.ofString "1@1").length = 3 := by decide +kernel
 have big : 100000 ≤ sizeLine := by decide
 rcases hi with rfl | rfl
 ·refine ⟨_, pe_bm PySem.F.plainAttrs_str PySem.F.slot_str_join PySem.F.type_str_join mt_join pe_str (pa_cons (pe_op op_cat (pe_comp ["_law_k"] rfl (CompOk.plain rfl (by decide +kernel) (by decide +kernel) (by decide +kernel)) (pi_range2 rfl T.range (pa_cons pe_int (pa_cons pe_int pa_nil)))
   (fun _ => pg_name (i := 0) (show [Str.ofString "_law_k"].Nodup by decide +kernel) rfl (Or.inl rfl)) (fun _ => pifs_nil)
   (fun _ => pe_op op_add_str (pe_op op_add_str pe_str (pe_callTy call_str_int (by rfl) hstr PyProof.Rows.boot_str (pa_cons (pv 0) pa_nil))) pe_str)) (pe_lst (pa_cons pe_str pa_nil))) pa_nil), ?_⟩
  intro σ H1 Q q
  refine ⟨rfl, 1, 9, rfl, ⟨by decide, by decide, by decide, by decide⟩, fun D1 hD1 => ?_⟩
  refine comp_range (lo := 1) (n := 8) (fun i ys σ H2 => Same H1 H2 ∧ H2 D1 = some (.lst ys) ∧ (∃ ws : List PySem.Str, ys = ws.map V.str ∧ ws.length = i ∧ ∀ w ∈ ws, w.length ≤ 100) ∧ i ≤ 8 ∧ ∃ x0, σ = [x0])
   (by omega) ⟨Same.upd hD1, upd_same, ⟨[], rfl, rfl, fun w hw => nomatch hw⟩, Nat.zero_le _, _, rfl⟩ ?_ ?_ ?_
  ·rintro i ys σ H2 _ ⟨u1, u2, ⟨ws, u3, u4, u5⟩, u6, _⟩
   exact ⟨u2, by rw [u3, List.length_map]; omega⟩
  ·rintro i ys σ H2 il ⟨u1, u2, ⟨ws, u3, u4, u5⟩, u6, x0, rfl⟩ cc
   have ei : (1 : Int) + (i : Int) = ((1 + i : Nat) : Int) := by omega
   have l64 : 1 + i < 10 ^ 64 := Nat.lt_of_le_of_lt (by omega : 1 + i ≤ 100) (by decide)
   have l300 : 1 + i < 10 ^ 300 := Nat.lt_of_lt_of_le l64 (Nat.pow_le_pow_right (by decide) (by decide))
   have d1 := dig_len l64
   refine ⟨_, rfl, _, rfl, by rw [ei]; exact log_lt l300, ?_⟩
   rw [ei, str_mk]
   refine ⟨_, _, rfl, rfl, by rw [k1, mk_len]; omega, _, _, rfl, rfl, by rw [str_len, k1, k2, mk_len]; omega, u2, u1.updN hD1, upd_same, ⟨ws ++ [Str.ofString "1@" ++ mkS (dig (1 + i)) ++ Str.ofString "/11"], by rw [u3, List.map_append]; rfl, by rw [List.length_append, u4]; rfl, fun w hw => ?_⟩, by omega, _, rfl⟩
   rcases List.mem_append.mp hw with z | z
   ·exact u5 w z
   ·rw [List.mem_singleton.mp z, str_len, str_len, k1, k2, mk_len]
    omega
  ·rintro ys σ H2 ⟨u1, u2, ⟨ws, u3, u4, u5⟩, u6, x0, rfl⟩
   refine ⟨Nat.le_trans (Nat.le_of_ble_eq_true rfl : _ ≤ 1000) (by decide), fun p hp => ?_⟩
   have s3 := Same.upd (o := .lst [V.str (Str.ofString "1@1")]) hp
   refine ⟨D1, p, ys, _, rfl, rfl, s3 _ _ u2, upd_same, by rw [u3, List.length_map, u4]; show 8 + 1 ≤ _; omega, fun p2 hp2 => ?_⟩
   have s4 := Same.upd (o := .lst (ys ++ [V.str (Str.ofString "1@1")])) hp2
   have all : ∀ w ∈ ws ++ [Str.ofString "1@1"], w.length ≤ 100 := fun w hw => by
    rcases List.mem_append.mp hw with z | z
    ·exact u5 w z
    ·rw [List.mem_singleton.mp z, k3]; omega
   have ln : (ws ++ [Str.ofString "1@1"]).length = 8 + 1 := by rw [List.length_append, u4]; rfl
   refine ⟨_, p2, ws ++ [Str.ofString "1@1"], rfl, rfl, .of (by rw [u3, List.map_append]; exact upd_same), ?_, q _ _ ?_ ((u1.trans s3).trans s4)⟩
   ·refine join_ok 101 (fun w hw => ?_) (by rw [ln]; omega)
    have := all w hw
    rw [c32]
    show w.length + 1 ≤ 101
    omega
   ·have h (z : PySem.Str) : z.length = (tl z).length := Array.length_toList.symm
    rw [h, c32, glued_jn]
    have := jn_len 32 100 ((ws ++ [Str.ofString "1@1"]).map tl) (fun w hw => by
     obtain ⟨y, hy, rfl⟩ := List.mem_map.mp hw
     rw [← h]
     exact all y hy)
    rw [List.length_map, ln] at this
    omega
 ·refine ⟨_, pe_bm PySem.F.plainAttrs_str PySem.F.slot_str_join PySem.F.type_str_join mt_join pe_str (pa_cons (pe_op op_cat (pe_comp ["_law_k"] rfl (CompOk.plain rfl (by decide +kernel) (by decide +kernel) (by decide +kernel)) (pi_range2 rfl T.range (pa_cons pe_int (pa_cons pe_int pa_nil)))
   (fun _ => pg_name (i := 0) (show [Str.ofString "_law_k"].Nodup by decide +kernel) rfl (Or.inl rfl)) (fun _ => pifs_nil)
   (fun _ => pe_op op_add_str (pe_op op_add_str pe_str (pe_callTy call_str_int (by rfl) hstr PyProof.Rows.boot_str (pa_cons (pv 0) pa_nil))) pe_str)) (pe_lst (pa_cons pe_str pa_nil))) pa_nil), ?_⟩
  intro σ H1 Q q
  refine ⟨rfl, 1, 8, rfl, ⟨by decide, by decide, by decide, by decide⟩, fun D1 hD1 => ?_⟩
  refine comp_range (lo := 1) (n := 7) (fun i ys σ H2 => Same H1 H2 ∧ H2 D1 = some (.lst ys) ∧ (∃ ws : List PySem.Str, ys = ws.map V.str ∧ ws.length = i ∧ ∀ w ∈ ws, w.length ≤ 100) ∧ i ≤ 7 ∧ ∃ x0, σ = [x0])
   (by omega) ⟨Same.upd hD1, upd_same, ⟨[], rfl, rfl, fun w hw => nomatch hw⟩, Nat.zero_le _, _, rfl⟩ ?_ ?_ ?_
  ·rintro i ys σ H2 _ ⟨u1, u2, ⟨ws, u3, u4, u5⟩, u6, _⟩
   exact ⟨u2, by rw [u3, List.length_map]; omega⟩
  ·rintro i ys σ H2 il ⟨u1, u2, ⟨ws, u3, u4, u5⟩, u6, x0, rfl⟩ cc
   have ei : (1 : Int) + (i : Int) = ((1 + i : Nat) : Int) := by omega
   have l64 : 1 + i < 10 ^ 64 := Nat.lt_of_le_of_lt (by omega : 1 + i ≤ 100) (by decide)
   have l300 : 1 + i < 10 ^ 300 := Nat.lt_of_lt_of_le l64 (Nat.pow_le_pow_right (by decide) (by decide))
   have d1 := dig_len l64
   refine ⟨_, rfl, _, rfl, by rw [ei]; exact log_lt l300, ?_⟩
   rw [ei, str_mk]
   refine ⟨_, _, rfl, rfl, by rw [k1, mk_len]; omega, _, _, rfl, rfl, by rw [str_len, k1, k2, mk_len]; omega, u2, u1.updN hD1, upd_same, ⟨ws ++ [Str.ofString "1@" ++ mkS (dig (1 + i)) ++ Str.ofString "/11"], by rw [u3, List.map_append]; rfl, by rw [List.length_append, u4]; rfl, fun w hw => ?_⟩, by omega, _, rfl⟩
   rcases List.mem_append.mp hw with z | z
   ·exact u5 w z
   ·rw [List.mem_singleton.mp z, str_len, str_len, k1, k2, mk_len]
    omega
  ·rintro ys σ H2 ⟨u1, u2, ⟨ws, u3, u4, u5⟩, u6, x0, rfl⟩
   refine ⟨Nat.le_trans (Nat.le_of_ble_eq_true rfl : _ ≤ 1000) (by decide), fun p hp => ?_⟩
   have s3 := Same.upd (o := .lst [V.str (Str.ofString "1@1")]) hp
   refine ⟨D1, p, ys, _, rfl, rfl, s3 _ _ u2, upd_same, by rw [u3, List.length_map, u4]; show 7 + 1 ≤ _; omega, fun p2 hp2 => ?_⟩
   have s4 := Same.upd (o := .lst (ys ++ [V.str (Str.ofString "1@1")])) hp2
   have all : ∀ w ∈ ws ++ [Str.ofString "1@1"], w.length ≤ 100 := fun w hw => by
    rcases List.mem_append.mp hw with z | z
    ·exact u5 w z
    ·rw [List.mem_singleton.mp z, k3]; omega
   have ln : (ws ++ [Str.ofString "1@1"]).length = 7 + 1 := by rw [List.length_append, u4]; rfl
   refine ⟨_, p2, ws ++ [Str.ofString "1@1"], rfl, rfl, .of (by rw [u3, List.map_append]; exact upd_same), ?_, q _ _ ?_ ((u1.trans s3).trans s4)⟩
   ·refine join_ok 101 (fun w hw => ?_) (by rw [ln]; omega)
    have := all w hw
    rw [c32]
    show w.length + 1 ≤ 101
    omega
   ·have h (z : PySem.Str) : z.length = (tl z).length := Array.length_toList.symm
    rw [h, c32, glued_jn]
    have := jn_len 32 100 ((ws ++ [Str.ofString "1@1"]).map tl) (fun w hw => by
     obtain ⟨y, hy, rfl⟩ := List.mem_map.mp hw
     rw [← h]
     exact all y hy)
    rw [List.length_map, ln] at this
    omega
end
end FQ
namespace L2
open PySem PySem.Spec PyProof.Rows
@[irreducible] def PEi (X : Cx) (e : Expr) (t : TE) : Prop := PE X e t
@[irreducible] def PAi (X : Cx) (es : List Expr) (t : TA) : Prop := PA X es t
@[irreducible] def PSi (X : Cx) (st : Stmt) (t : TS) : Prop := PS X st t
@[irreducible] def PSsi (X : Cx) (sts : List Stmt) (t : TS) : Prop := PSs X sts t
section
variable {X : Cx} {e a b : Expr} {es : List Expr} {st : Stmt} {sts : List Stmt} {te ta tb : TE} {t : TA} {ts us : TS} {pos : Pos}
theorem PEi.mk (h : PE X e te) : PEi X e te := by unfold PEi; exact h
theorem PEi.get (h : PEi X e te) : PE X e te := by unfold PEi at h; exact h
theorem PAi.mk (h : PA X es t) : PAi X es t := by unfold PAi; exact h
theorem PAi.get (h : PAi X es t) : PA X es t := by unfold PAi at h; exact h
theorem PSi.mk (h : PS X st ts) : PSi X st ts := by unfold PSi; exact h
theorem PSi.get (h : PSi X st ts) : PS X st ts := by unfold PSi at h; exact h
theorem PSsi.mk (h : PSs X sts ts) : PSsi X sts ts := by unfold PSsi; exact h
theorem PSsi.get (h : PSsi X sts ts) : PSs X sts ts := by unfold PSsi at h; exact h
theorem PSsi.wit {R : TS → Prop} (h : PSsi X sts ts) (k : R ts) : ∃ t, PSs X sts t ∧ R t := ⟨ts, h.get, k⟩
theorem i_cons (h : PSi X st ts) (k : PSsi X sts us) : PSsi X (st :: sts) (tSeq ts us) := .mk (pss_cons h.get k.get)
theorem i_one (h : PSi X st ts) : PSsi X [st] ts := .mk (pss_one h.get)
theorem i_set {i : Nat} {x : Str} {pos' : Pos} (hN : X.N.Nodup) (hi : X.N[i]? = some x) (hx : Loc X.env.scope x) (he : PEi X e te) (hs : swapsWith e (some (.Name x pos')) pos.line X.env = pure false := by rfl) (hf : X.fn x = true ∨ X.env.scope.names.lookup x = some .local := by first | exact .inl rfl | exact .inr rfl | assumption) :
  PSi X (.Assign [.Name x pos'] e pos) (tAsg te (gName i)) := .mk (ps_set hN hi hx he.get hs hf)
theorem i_ret (he : PEi X e te) : PSi X (.Return (some e) pos) (tRet te) := .mk (ps_ret he.get)
theorem i_expr (he : PEi X e te) (hs : swapsWith e none pos.line X.env = pure false := by rfl) : PSi X (.Expr e pos) (tDrop te) := .mk (ps_expr he.get hs)
theorem i_op {op : Operator} {r : R2} (ho : OpR X (binaryOp op) r) (ha : PEi X a ta) (hb : PEi X b tb) : PEi X (.BinOp a op b pos) (tOp r ta tb) := .mk (pe_op ho ha.get hb.get)
theorem i_lst (h : PAi X es t) : PEi X (.List es pos) (tLst t) := .mk (pe_lst h.get)
theorem i_app {o : Expr} {to : TE} {apos cpos : Pos} (ho : PEi X o to) (ha : PEi X e te) (hs1 : starEach [e] X.env = [(false, eval e X.env)] := by rfl) (hbase : attributeBase o "append" X.env (eval o X.env) = eval o X.env := by rfl) (hline : (apos.endLine == cpos.line) = true := by rfl) :
  PEi X (.Call (.Attribute o "append" apos) [e] [] cpos) (tBM X.K "list" rAppend to (tCons te tNil)) := by
 refine .mk (pe_bm PySem.F.plainAttrs_list PySem.F.slot_list_append PySem.F.type_list_append mt_append ho.get (pa_cons ha.get pa_nil hs1) hbase ?_ hline hs1 ?_)
 ·rw [hs1]
  rfl
 ·rfl
end
end L2
namespace L2
open PySem PySem.Spec PyProof.Rows
theorem i_pcons {X : Cx} {e : Expr} {es : List Expr} {te : TE} {t : TA} (ha : PEi X e te) (hr : PAi X es t) (hs : starEach (e :: es) X.env = (false, eval e X.env) :: starEach es X.env := by rfl) : PAi X (e :: es) (tCons te t) := .mk (pa_cons ha.get hr.get hs)
theorem i_sub {X : Cx} {e : Expr} {te ue : TE} (h : PEi X e te) (k : ∀ σ H Q, ue σ H Q → te σ H Q) : PEi X e ue := .mk fun pins s σ H Q I q => h.get pins s σ H Q I (k σ H Q q)
theorem i_asub {X : Cx} {es : List Expr} {te ue : TA} (h : PAi X es te) (k : ∀ σ H Q, ue σ H Q → te σ H Q) : PAi X es ue := .mk fun p pins s σ H Q I q => h.get p pins s σ H Q I (k σ H Q q)
end L2
namespace FQ
open PySem L2 FK FT
def shortV : V → Bool
 | .str x => decide (x.length ≤ 5000)
 | _ => false
def spFew : Sp := fun vs H Q _ => vs = [] ∧ ∀ (p : Addr) (ys : List V) H', Same H H' → H p = none → H' p = some (.lst ys) → (∀ y ∈ ys, shortV y = true) → ys.length ≤ 40 → Q (.ref p) H'
def wsOk : List Expr → Bool
 | [] => true
 | .Constant (.str x) _ _ :: es => decide (x.length ≤ 5000) && wsOk es
 | _ => false
def tShort (n : Nat) : TA := fun _ H Q => ∀ ws : List V, (∀ y ∈ ws, shortV y = true) → ws.length = n → Q ws H
def tText : TE := fun _ H Q => ∀ z, shortV z = true → Q z H
def tTextS : TE := fun _ H Q => ∀ z H2, shortV z = true → Same H H2 → Q z H2
theorem i_shc {X : Cx} {n : Nat} {e : Expr} {es : List Expr} (h : PEi X e tText) (k : PAi X es (tShort n)) (hs : starEach (e :: es) X.env = (false, eval e X.env) :: starEach es X.env) : PAi X (e :: es) (tShort (n + 1)) :=
 i_asub (i_pcons h k hs) fun σ H Q q z hz ws hw hl => q (z :: ws) (fun y hy => by
  rcases List.mem_cons.mp hy with r | r
  ·rw [r]; exact hz
  ·exact hw y r) (by rw [List.length_cons, hl])
theorem i_sh0 {X : Cx} : PAi X [] (tShort 0) := i_asub (.mk pa_nil) fun σ H Q q => q [] (fun _ h => nomatch h) rfl
theorem i_strs {X : Cx} : ∀ {es : List Expr}, wsOk es = true → PAi X es (tShort es.length)
 | [], _ => i_sh0
 | e :: es, h => by
  unfold wsOk at h
  split at h
  ·rename_i z; cases z
  ·rename_i x a b es' z
   cases z
   obtain ⟨h1, h2⟩ := Bool.and_eq_true_iff.mp h
   exact i_shc (i_sub (.mk pe_str) fun σ H Q q => q _ h1) (i_strs h2) rfl
  ·cases h
theorem i_strsN {X : Cx} {es : List Expr} {n : Nat} (h : wsOk es = true) (hn : es.length = n) : PAi X es (tShort n) := by
 subst hn
 exact i_strs h
theorem short_z {z : PySem.Str} (h : z.length ≤ 5000) : shortV (.str z) = true := decide_eq_true h
structure FewC (H0 H : Hp) (p : Addr) (n : Nat) : Prop where
 is : ∃ ys, H p = some (.lst ys) ∧ (∀ y ∈ ys, shortV y = true) ∧ ys.length = n
 free : H0 p = none
 old : Same H0 H
theorem few_new {H0 H1 : Hp} {p : Addr} {n : Nat} {ws : List V} (s : Same H0 H1) (hp : H1 p = none) (hw : ∀ y ∈ ws, shortV y = true) (hn : ws.length = n) : FewC H0 (upd H1 p (.lst ws)) p n :=
 ⟨⟨ws, upd_same, hw, hn⟩, s.free hp, s.trans (Same.upd hp)⟩
theorem short_app {xs ys : List V} (h : ∀ y ∈ xs, shortV y = true) (k : ∀ y ∈ ys, shortV y = true) : ∀ y ∈ xs ++ ys, shortV y = true := fun y hy => (List.mem_append.mp hy).elim (h y) (k y)
theorem few_app {H0 H H2 : Hp} {p : Addr} {n : Nat} {ys : List V} {z : V} (c4 : H0 p = none) (c5 : Same H0 H) (s : Same H H2) (c2 : ∀ y ∈ ys, shortV y = true) (c3 : ys.length = n) (hz : shortV z = true) : FewC H0 (upd H2 p (.lst (ys ++ [z]))) p (n + 1) :=
 ⟨⟨_, upd_same, short_app c2 fun y hy => by rw [List.mem_singleton.mp hy]; exact hz, by rw [List.length_append, c3]; rfl⟩, c4, (c5.trans s).updN c4⟩
def rAddS : R2 := fun x y H Q => ∃ i j, x = .str i ∧ y = .str j ∧ i.length + j.length ≤ sizeLine ∧ Q (.str (i ++ j)) H
theorem mul_1 {y c : PySem.Str} {n : Nat} {σ : St} {H : Hp} {Q : VK} (hc : c = ⟨#[48]⟩) (h2 : 2 ≤ n) (h5 : n ≤ 4900) (hy : y.length ≤ 50) (q : tText σ H Q) : tOp rAddS (tC (.str y)) (tOp rMulS (tC (.str c)) (tC (.int n))) σ H Q := by
 subst hc
 have big : 6000 ≤ sizeLine := by decide
 exact ⟨48, n, rfl, rfl, h2, by omega, fun z hz => ⟨y, z, rfl, rfl, by omega, q _ (short_z (by rw [str_len]; omega))⟩⟩
theorem mul_2 {y c x : PySem.Str} {n : Nat} {σ : St} {H : Hp} {Q : VK} (hc : c = ⟨#[48]⟩) (h2 : 2 ≤ n) (h5 : n ≤ 4900) (hy : y.length ≤ 50) (hx : x.length ≤ 50) (q : tText σ H Q) : tOp rAddS (tOp rAddS (tC (.str y)) (tOp rMulS (tC (.str c)) (tC (.int n)))) (tC (.str x)) σ H Q := by
 subst hc
 have big : 6000 ≤ sizeLine := by decide
 exact ⟨48, n, rfl, rfl, h2, by omega, fun z hz => ⟨y, z, rfl, rfl, by omega, _, x, rfl, rfl, by rw [str_len]; omega, q _ (short_z (by rw [str_len, str_len]; omega))⟩⟩
section
variable {P : Program} {w : World} {K : PySem.W.Frag} {mg : Str → Option Value} {base : Heap} {aL aR : Addr}
def lsAt (l : List Stmt) (k : Nat) : Stmt := l.getD k (.Pass ⟨0, 0, 0, 0⟩)
section
variable {f : Addr} {cdv : Value} {A : Around} {outer : List Env} {s : Shared} {H : Hp} {E : XK}
theorem fw0 : PSi (cx P w K mg base ["_law_some"] "_law_few" s__law_few f cdv A outer s H E) (lsAt (defBody s__law_few) 0) (tAsg (tLst (tShort 12)) (gName 0)) := i_set (i := 0) (x := "_law_some") scFew.nd rfl (Or.inl rfl) (i_lst (i_strsN (by decide +kernel) rfl))
theorem fw1 : PSi (cx P w K mg base ["_law_some"] "_law_few" s__law_few f cdv A outer s H E) (lsAt (defBody s__law_few) 1) (tAsg (tOp rCat (tVar 0) (tLst (tShort 10))) (gName 0)) := i_set (i := 0) (x := "_law_some") scFew.nd rfl (Or.inl rfl) (i_op op_cat (.mk (pv 0)) (i_lst (i_strsN (by decide +kernel) rfl)))
theorem fw2 : PSi (cx P w K mg base ["_law_some"] "_law_few" s__law_few f cdv A outer s H E) (lsAt (defBody s__law_few) 2) (tDrop (tBM K "list" rAppend (tVar 0) (tCons tText tNil))) := i_expr (i_app (.mk (pv 0)) (i_sub (.mk pe_str) fun σ H Q q => q _ (by decide +kernel)))
theorem fw3 : PSi (cx P w K mg base ["_law_some"] "_law_few" s__law_few f cdv A outer s H E) (lsAt (defBody s__law_few) 3) (tAsg (tOp rCat (tVar 0) (tLst (tShort 4))) (gName 0)) := i_set (i := 0) (x := "_law_some") scFew.nd rfl (Or.inl rfl) (i_op op_cat (.mk (pv 0)) (i_lst (i_shc (i_sub (i_op (r := rAddS) op_add_str (.mk pe_str) (i_op op_mul_str (.mk pe_str) (.mk pe_int))) fun σ H Q q => mul_1 (n := 299) (by decide +kernel) (by decide) (by decide) (by decide +kernel) q) (i_shc (i_sub (i_op (r := rAddS) op_add_str (.mk pe_str) (i_op op_mul_str (.mk pe_str) (.mk pe_int))) fun σ H Q q => mul_1 (n := 300) (by decide +kernel) (by decide) (by decide) (by decide +kernel) q) (i_shc (i_sub (i_op (r := rAddS) op_add_str (i_op (r := rAddS) op_add_str (.mk pe_str) (i_op op_mul_str (.mk pe_str) (.mk pe_int))) (.mk pe_str)) fun σ H Q q => mul_2 (n := 300) (by decide +kernel) (by decide) (by decide) (by decide +kernel) (by decide +kernel) q) (i_shc (i_sub (i_op (r := rAddS) op_add_str (i_op (r := rAddS) op_add_str (.mk pe_str) (i_op op_mul_str (.mk pe_str) (.mk pe_int))) (.mk pe_str)) fun σ H Q q => mul_2 (n := 4400) (by decide +kernel) (by decide) (by decide) (by decide +kernel) (by decide +kernel) q) i_sh0 rfl) rfl) rfl) rfl)))
theorem fw4 (T : Txt K mg aL aR) (hstr : mg "str" = none) : PSi (cx P w K mg base ["_law_some"] "_law_few" s__law_few f cdv A outer s H E) (lsAt (defBody s__law_few) 4) (tDrop (tBM K "list" rAppend (tVar 0) (tCons tTextS tNil))) := by
 obtain ⟨t, h, r⟩ := few_join (P := P) (w := w) (K := K) (mg := mg) (base := base) (f := f) (cdv := cdv) (A := A) (outer := outer) (s := s) (H := H) (E := E) 4 (.inl rfl) T hstr
 exact i_expr (i_app (.mk (pv 0)) (i_sub (.mk h) fun σ H Q q => r σ H Q fun z H2 l s => q _ _ (short_z l) s))
theorem fw5 (T : Txt K mg aL aR) (hstr : mg "str" = none) : PSi (cx P w K mg base ["_law_some"] "_law_few" s__law_few f cdv A outer s H E) (lsAt (defBody s__law_few) 5) (tDrop (tBM K "list" rAppend (tVar 0) (tCons tTextS tNil))) := by
 obtain ⟨t, h, r⟩ := few_join (P := P) (w := w) (K := K) (mg := mg) (base := base) (f := f) (cdv := cdv) (A := A) (outer := outer) (s := s) (H := H) (E := E) 5 (.inr rfl) T hstr
 exact i_expr (i_app (.mk (pv 0)) (i_sub (.mk h) fun σ H Q q => r σ H Q fun z H2 l s => q _ _ (short_z l) s))
theorem fw6 : PSi (cx P w K mg base ["_law_some"] "_law_few" s__law_few f cdv A outer s H E) (lsAt (defBody s__law_few) 6) (tRet (tOp rCat (tVar 0) (tLst (tShort 6)))) := i_ret (i_op op_cat (.mk (pv 0)) (i_lst (i_strsN (by decide +kernel) rfl)))
end
theorem ok_few {f : Addr} {fd : FuncData} (D : DefAt K mg "_law_few" s__law_few [] f fd) (T : Txt K mg aL aR) (hstr : mg "str" = none) : FnOk P w K mg base CX0 1 f fd [] spFew := by
 refine D.fn.ok scFew (fun vs H Q E h => ?_) (fun cdv A outer s H vs Q E hr h => ?_)
 ·obtain ⟨rfl, _⟩ := h
  rfl
 ·obtain ⟨rfl, q⟩ := h
  have big : 1000 ≤ sizeLine := by decide
  have b := i_cons (fw0 (P := P) (w := w) (K := K) (mg := mg) (base := base) (f := f) (cdv := cdv) (A := A) (outer := outer) (s := s) (H := H) (E := E)) (i_cons fw1 (i_cons fw2 (i_cons fw3 (i_cons (fw4 T hstr) (i_cons (fw5 T hstr) (i_one fw6))))))
  rw [show [lsAt (defBody s__law_few) 0, lsAt (defBody s__law_few) 1, lsAt (defBody s__law_few) 2, lsAt (defBody s__law_few) 3, lsAt (defBody s__law_few) 4, lsAt (defBody s__law_few) 5, lsAt (defBody s__law_few) 6] = defBody s__law_few from by kernel_rfl] at b
  refine PSsi.wit b ?_
  intro ws hw hl
  refine ⟨by omega, fun p hp => ?_⟩
  obtain ⟨⟨ys, c1, c2, c3⟩, c4, c5⟩ := few_new (.refl _) hp hw hl
  clear hw hl hp
  refine ⟨_, rfl, fun us hu hl => ⟨by omega, fun b hb => ⟨_, b, _, us, rfl, rfl, (Same.upd hb) _ _ c1, upd_same, by omega, fun p hp => ?_⟩⟩⟩
  obtain ⟨⟨ys, c1, c2, c3⟩, c4, c5⟩ := few_new (n := 22) (c5.trans (Same.upd hb)) hp (short_app c2 hu) (by rw [List.length_append, c3, hl])
  clear hu hl hb hp
  refine ⟨_, rfl, .inl ⟨rfl, _, .of c1⟩, fun z hz => ⟨_, _, z, rfl, rfl, c1, by omega, ?_⟩⟩
  obtain ⟨⟨ys, c1, c2, c3⟩, c4, c5⟩ := few_app c4 c5 (.refl _) c2 c3 hz
  clear hz
  refine ⟨_, rfl, fun us hu hl => ⟨by omega, fun b hb => ⟨_, b, _, us, rfl, rfl, (Same.upd hb) _ _ c1, upd_same, by omega, fun p hp => ?_⟩⟩⟩
  obtain ⟨⟨ys, c1, c2, c3⟩, c4, c5⟩ := few_new (n := 27) (c5.trans (Same.upd hb)) hp (short_app c2 hu) (by rw [List.length_append, c3, hl])
  clear hu hl hb hp
  refine ⟨_, rfl, .inl ⟨rfl, _, .of c1⟩, fun z H2 hz s2 => ⟨_, _, z, rfl, rfl, s2 _ _ c1, by omega, ?_⟩⟩
  obtain ⟨⟨ys, c1, c2, c3⟩, c4, c5⟩ := few_app c4 c5 s2 c2 c3 hz
  clear hz
  refine ⟨_, rfl, .inl ⟨rfl, _, .of c1⟩, fun z H2 hz s2 => ⟨_, _, z, rfl, rfl, s2 _ _ c1, by omega, ?_⟩⟩
  obtain ⟨⟨ys, c1, c2, c3⟩, c4, c5⟩ := few_app c4 c5 s2 c2 c3 hz
  clear hz
  refine ⟨_, rfl, fun us hu hl => ⟨by omega, fun b hb => ⟨_, b, _, us, rfl, rfl, (Same.upd hb) _ _ c1, upd_same, by omega, fun p hp => ?_⟩⟩⟩
  obtain ⟨⟨ys, c1, c2, c3⟩, c4, c5⟩ := few_new (n := 35) (c5.trans (Same.upd hb)) hp (short_app c2 hu) (by rw [List.length_append, c3, hl])
  exact q _ _ _ c5 c4 c1 c2 (by omega)
end
end FQ
namespace L2
open PySem PySem.Spec PyProof.Rows PySem.W
theorem ps_tryAsN {X : Cx} {XC B : Addr} {x n : Str} {i : Nat} {np hpos pos : Pos} {body suite : List Stmt} {b0 : Stmt} {tb : (Hp → Prop) → TS} {ts : TS} (hx : X.mg x = some (.ref B)) (bB : BaseK X.K B) (hm : mroIn X.K XC (.ref B) = some true) (hg : Gl X x) (hs : X.stack = X.env :: X.outer) (hf : X.env.frame = some X.env.locals)
  (hN : X.N.Nodup) (hi : X.N[i]? = some n) (hl : Loc X.env.scope n) (hk : X.env.kindOf n = some .local) (hcl : (X.env.scope.kind == .class || (X.env.scope.kind == .module && X.env.locals != X.env.globals)) = false)
  (hb : ∀ (Wh : Hp → Prop) pins, PSs ((X.pin pins).tryL XC (fun σ' H' => σ'.length = X.N.length ∧ Wh H')) body (tb Wh)) (hh : ∀ ea, PSs (X.caught ea) (b0 :: suite) ts) (hdb : (x == ("__debug__" : Str)) = false := by decide) (hfn : X.fn n = true ∨ X.env.scope.names.lookup n = some .local := by first | exact .inl rfl | exact .inr rfl | assumption) :
  PS X (.Try body [.ExceptHandler (some (.Name x np)) (some n) (b0 :: suite) hpos] [] [] pos) (fun D σ H => ∃ Wh : Hp → Prop, tb Wh D σ H ∧ ∀ (σ' : St) (H' : Hp), σ'.length = X.N.length → Wh H' → ∀ ea, H' ea = none → ts { nx := fun _ _ => False, rt := D.rt } (σ'.set i (some (.ref ea))) (upd H' ea (excO ea XC))) := by
 have key := ps_tryAs (X := X) (XC := XC) (pos := pos) (hpos := hpos) (np := np) (tb := fun W D σ H => ∃ Wh : Hp → Prop, W = (fun σ' H' => σ'.length = X.N.length ∧ Wh H') ∧ tb Wh D σ H) hx bB hm hg hs hf hN hi hl hk hcl (fun W pins => fun pins' s σ H D I ⟨Wh, e, h⟩ => by
  subst e
  exact hb Wh pins pins' s σ H D I h) hh hdb hfn
 intro pins s σ H D I ⟨Wh, h, k⟩
 exact key pins s σ H D I ⟨_, ⟨Wh, rfl, h⟩, fun σ' H' ⟨l, wh⟩ ea he => k σ' H' l wh ea he⟩
def rIsX (K : Frag) : List V → Hp → VK → Prop := fun xs H Q => ∃ a C c b, xs = [.ref a, c] ∧ H a = some (excO a C) ∧ ExcK K C ∧ (∀ u, RelV c u → u = valT c) ∧ kitOne K (.ref C) (valT c) = some b ∧ Q (.bl b) H
def rIsXT (K : Frag) : List V → Hp → VK → Prop := fun xs H Q => ∃ (a C tp : Addr) (cs : List Addr) (b : Bool), xs = [.ref a, .ref tp] ∧ H a = some (excO a C) ∧ ExcK K C ∧ H tp = some (.tup (cs.map V.ref)) ∧ kitAny K (.ref C) (cs.map Value.ref) = some b ∧ Q (.bl b) H
theorem call_isXTK {X : Cx} {K : Frag} (e : X.K = K) : CallR X (.builtin "isinstance") (rIsXT K) := by
 subst e
 exact call_isXT
theorem call_isXK {X : Cx} {K : Frag} (e : X.K = K) : CallR X (.builtin "isinstance") (rIsX K) := by
 subst e
 exact call_isX
end L2
namespace FQ
open PySem L2 FK FT
structure KindX (K : PySem.W.Frag) (mg : Str → Option Value) (cF cT cP cK cL BX cB : Addr) : Prop where
 isi : mg "isinstance" = none
 kF : mg "BadFraction" = some (.ref cF)
 kT : mg "BadTaste" = some (.ref cT)
 kP : mg "BadPiece" = some (.ref cP)
 kK : mg "BadTakers" = some (.ref cK)
 kL : mg "TooLittle" = some (.ref cL)
 kX : mg "BadText" = some (.ref BX)
 kB : mg "CakeError" = some (.ref cB)
 kV : mg "ValueError" = none
 base : BaseK K cB
 ex : ExcK K BX
 no : PySem.W.kitAny K (.ref BX) ([cF, cP, cK, cT, cL].map Value.ref) = some false
 xX : PySem.W.kitOne K (.ref BX) (.ref BX) = some true
 xV : PySem.W.kitOne K (.ref BX) (.type "ValueError") = some true
 xB : PySem.W.mroIn K BX (.ref cB) = some true
def spRf (K : PySem.W.Frag) : Sp := fun vs H Q _ => ∃ (i : Int) (v : V) (t : Tr), vs = [.int i, v] ∧ Rd K H t v ∧ (∀ x, t = .str x → x.length ≤ 5000) ∧ (i = 0 ∧ (∀ x, t = .str x → tsP (tl x) = none) ∨ i = 1 ∧ (∀ x, t = .str x → pcP (tl x) = none)) ∧ ∀ H', Same H H' → Q (.bl true) H'
section
variable {P : Program} {w : World} {K : PySem.W.Frag} {mg : Str → Option Value} {base : Heap} {C cF cT cP cK cL BX cB : Addr}
theorem scRf : FnScope ["_law_which", "_law_text_here", "error", "_law_others"] ["_law_which", "_law_text_here"] (defScope s__law_refused) := ⟨rfl, rfl, rfl, by decide +kernel, rfl, by decide +kernel, by decide +kernel⟩
theorem ok_rf {f : Addr} {fd : FuncData} (D : DefAt K mg "_law_refused" s__law_refused ["_law_which", "_law_text_here"] f fd) (Ks : KindX K mg cF cT cP cK cL BX cB) (CT : ClW P w K mg base BX "taste_of" 7 ["text"] (spTsOf K C BX)) (CP : ClW P w K mg base BX "piece_of" 5 ["text"] (spPcOf K BX)) : FnOk P w K mg base CX0 8 f fd ["_law_which", "_law_text_here"] (spRf K) := by
 refine D.fn.ok scRf (fun vs H Q E h => ?_) (fun cdv A outer s H vs Q E hr h => ?_)
 ·obtain ⟨i, v, t, rfl, _⟩ := h
  rfl
 ·obtain ⟨i, v, t, rfl, hv, l5, no, q⟩ := h
  have hr5 : Room 5 _ := hr.mono (by decide)
  refine ⟨_, pss_cons (ps_tryAsN (XC := BX) (B := cB) (i := 2) Ks.kB Ks.base Ks.xB rfl rfl rfl scRf.nd rfl (Or.inl rfl) rfl rfl
    (fun Wh pins => pss_one (ps_if (pt_cmpR op_eq (pv 0) pe_int (nomark _)) (pss_one (ps_expr (pe_clL CT hr rfl (pa_cons (pv 1) pa_nil)))) (pss_one (ps_expr (pe_clL CP hr5 rfl (pa_cons (pv 1) pa_nil))))))
    (fun ea => pss_cons (ps_set (i := 3) scRf.nd rfl (Or.inl rfl) (pe_callB (call_isXTK (K := K) rfl) (by rfl) Ks.isi PyProof.Rows.boot_isinstance (pa_cons (pv 2) (pa_cons (pe_tup (pa_cons (pe_glob (v := .ref cF) rfl Ks.kF rfl) (pa_cons (pe_glob (v := .ref cP) rfl Ks.kP rfl) (pa_cons (pe_glob (v := .ref cK) rfl Ks.kK rfl) (pa_cons (pe_glob (v := .ref cT) rfl Ks.kT rfl) (pa_cons (pe_glob (v := .ref cL) rfl Ks.kL rfl) pa_nil)))))) pa_nil))))
     (pss_one (ps_ret (pe_and (pe_callB (call_isXK (K := K) rfl) (by rfl) Ks.isi PyProof.Rows.boot_isinstance (pa_cons (pv 2) (pa_cons (pe_glob (v := .ref BX) rfl Ks.kX rfl) pa_nil))) (pe_and (pe_callB (call_isXK (K := K) rfl) (by rfl) Ks.isi PyProof.Rows.boot_isinstance (pa_cons (pv 2) (pa_cons (pe_bltn (v := .ty "ValueError") rfl Ks.kV (by rfl) rfl) pa_nil))) (pe_one (pe_not (pv 3)))))))))
   (pss_one (ps_ret pe_bl)), ?_⟩
  refine ⟨fun H' => Same H H', ?_, ?_⟩
  ·refine ⟨_, rfl, rfl, _, rfl, ?_⟩
   rcases no with ⟨rfl, no⟩ | ⟨rfl, no⟩
   ·refine iteEq rfl ?_
    exact ⟨_, rfl, v, t, rfl, hv, l5, (fun x S z e => by rw [no x z] at e; cases e), fun _ H' s' => s'⟩
   ·refine iteEqN (fun z => by cases z) ?_
    exact ⟨_, rfl, v, t, rfl, hv, l5, (fun x S z e => by rw [no x z] at e; cases e), fun _ H' s' => s'⟩
  ·intro σ' H' hl hs ea hea
   have hl : σ'.length = 4 := hl
   have h2 : (σ'.set 2 (some (.ref ea)))[2]? = some (some (.ref ea)) := by rw [List.getElem?_set_self (by omega)]
   have h2' : ∀ v, ((σ'.set 2 (some (.ref ea))).set 3 v)[2]? = some (some (.ref ea)) := fun v => by rw [List.getElem?_set_ne (by decide)]; exact h2
   have h3' : ∀ v, ((σ'.set 2 (some (.ref ea))).set 3 (some v))[3]? = some (some v) := fun v => by rw [List.getElem?_set_self (by rw [List.length_set]; omega)]
   have rr : ∀ a u, RelV (.ref a) u → u = valT (.ref a) := fun a u r => r
   have s1 := Same.upd (o := excO ea BX) hea
   refine ⟨_, h2, (by show 5 ≤ sizeLine; decide), fun tp htp => ?_⟩
   have s2 := Same.upd (o := .tup [.ref cF, .ref cP, .ref cK, .ref cT, .ref cL]) htp
   refine ⟨ea, BX, tp, [cF, cP, cK, cT, cL], false, rfl, s2 _ _ upd_same, Ks.ex, upd_same, Ks.no, ?_⟩
   refine ⟨_, h2' _, ea, BX, _, _, rfl, s2 _ _ upd_same, Ks.ex, rr _, Ks.xX, true, rfl, iteT ?_⟩
   refine ⟨_, h2' _, ea, BX, _, _, rfl, s2 _ _ upd_same, Ks.ex, (fun u r => r), Ks.xV, true, rfl, iteT ?_⟩
   exact ⟨_, h3' _, false, rfl, q _ ((hs.trans s1).trans s2)⟩
end
end FQ
namespace FQ
open PySem L2 FK FT
def st2 (s : Rat × Int) : Stp := (ofQ s.1, s.2.toNat)
def sn2 (s : Rat × Rat) : Spn := (ofQ s.1, ofQ s.2)
theorem toQ_ofQ {q : Rat} (h : 0 ≤ q) : toQ (ofQ q) = q := by
 have hn : 0 ≤ q.num := Rat.num_nonneg.mpr h
 unfold toQ ofQ
 show mkRat ((q.num.toNat : Nat) : Int) q.den = q
 rw [Int.toNat_of_nonneg hn, Rat.mkRat_self]
theorem okF_of {q : Rat} (h : 0 ≤ q) : okF (ofQ q) = true := by
 have hn : 0 ≤ q.num := Rat.num_nonneg.mpr h
 unfold okF ofQ
 have hd := q.den_pos
 have hc : Nat.gcd q.num.toNat q.den = 1 := by
  have := q.reduced
  rw [show q.num.natAbs = q.num.toNat by omega] at this
  exact this
 rw [decide_eq_true hc, decide_eq_true (show 1 ≤ q.den from hd)]
 rfl
theorem less_of {p q : Rat} (hp : 0 ≤ p) (hq : 0 ≤ q) (h : p < q) : lessN (ofQ p) (ofQ q) = true := (toQ_lt (okF_of hp) (okF_of hq)).mp (by rw [toQ_ofQ hp, toQ_ofQ hq]; exact h)
theorem less_not {p q : Rat} (hp : 0 ≤ p) (hq : 0 ≤ q) (h : q ≤ p) : lessN (ofQ p) (ofQ q) = false := by
 cases e : lessN (ofQ p) (ofQ q) with
 | false => rfl
 | true =>
  have := (toQ_lt (okF_of hp) (okF_of hq)).mpr e
  rw [toQ_ofQ hp, toQ_ofQ hq] at this
  grind
theorem of0 : ofQ 0 = (0, 1) := by decide +kernel
theorem of1 : ofQ 1 = (1, 1) := by decide +kernel
theorem okS_of : ∀ {S : Steps} {b : Rat}, 0 ≤ b → Rise b S → endOf b S = 1 → (∀ z ∈ S, z.2 ≤ 1000) → (∀ z ∈ S, z.1.den ≤ 1000) → okS (ofQ b) (S.map st2) = true
 | [], b, hb, _, h, _, _ => by
  have e : b = 1 := h
  show decide (ofQ b = (1, 1)) = true
  rw [e, of1]
  rfl
 | (e, w) :: S, b, hb, r, h, hw, hd => by
  have r1 : b < e := r.1
  have r2 : 0 < w := r.2.1
  have he : (0 : Rat) ≤ e := by grind
  have w1 : w ≤ 1000 := hw (e, w) List.mem_cons_self
  have d1 : e.den ≤ 1000 := hd (e, w) List.mem_cons_self
  have ih := okS_of he r.2.2 h (fun z hz => hw z (List.mem_cons_of_mem _ hz)) (fun z hz => hd z (List.mem_cons_of_mem _ hz))
  show ((okSt (st2 (e, w)) && lessN (ofQ b) (ofQ e)) && okS (ofQ e) (S.map st2)) = true
  rw [ih, less_of hb he r1]
  have : okSt (st2 (e, w)) = true := by
   unfold okSt st2
   show (okF (ofQ e) && decide (e.den ≤ 1000) && (decide (1 ≤ w.toNat) && decide (w.toNat ≤ 1000))) = true
   rw [okF_of he, decide_eq_true d1, decide_eq_true (show 1 ≤ w.toNat by omega), decide_eq_true (show w.toNat ≤ 1000 by omega)]
   rfl
  rw [this]
  rfl
theorem rise_pos : ∀ {S : Steps} {b : Rat}, 0 ≤ b → Rise b S → ∀ z ∈ S, 0 ≤ z.1 ∧ 0 < z.2
 | [], _, _, _, z, h => nomatch h
 | (e, w) :: S, b, hb, r, z, h => by
  have r1 : b < e := r.1
  have he : (0 : Rat) ≤ e := by grind
  rcases List.mem_cons.mp h with q | q
  ·rw [q]; exact ⟨he, r.2.1⟩
  ·exact rise_pos he r.2.2 z q
theorem rise_top : ∀ {S : Steps} {b : Rat}, Rise b S → ∀ z ∈ S, z.1 ≤ endOf b S
 | [], _, _, z, h => nomatch h
 | (e, w) :: S, b, r, z, h => by
  rcases List.mem_cons.mp h with q | q
  ·rw [q]; exact Rise.le r.2.2
  ·exact rise_top (b := e) r.2.2 z q
theorem wr_of {q : Rat} (h0 : 0 ≤ q) (h1 : q ≤ 1) (hd : q.den ≤ 1000) : Wr q ∧ q.num.toNat ≤ 1000 := by
 have hn : 0 ≤ q.num := Rat.num_nonneg.mpr h0
 have hl : q.num ≤ q.den := by
  have := (Rat.le_iff q 1).mp h1
  simpa using this
 have a : q.num.toNat ≤ 1000 := by omega
 exact ⟨⟨hn, Nat.lt_of_le_of_lt a (by decide), Nat.lt_of_le_of_lt hd (by decide)⟩, a⟩
theorem small_300 {n : Nat} (h : n ≤ 1000) : n < 10 ^ 300 := Nat.lt_of_le_of_lt h (by decide +kernel)
theorem toS_st2 : ∀ {S : Steps}, (∀ z ∈ S, 0 ≤ z.1 ∧ 0 < z.2) → toS (S.map st2) = S
 | [], _ => rfl
 | (e, w) :: S, h => by
  have a := h (e, w) List.mem_cons_self
  show (toQ (ofQ e), ((w.toNat : Nat) : Int)) :: toS (S.map st2) = (e, w) :: S
  rw [toQ_ofQ a.1, Int.toNat_of_nonneg (Int.le_of_lt a.2), toS_st2 fun z hz => h z (List.mem_cons_of_mem _ hz)]
theorem ts_all {p : Nat} {S : Steps} (ok : TsOk p S) : (∀ s ∈ S, Wr s.1 ∧ 0 ≤ s.2 ∧ s.2.toNat < 10 ^ 64) ∧ tsP (jn 32 (S.map stQ)) = some (S.map st2) ∧ toS (S.map st2) = S ∧ (jn 32 (S.map stQ)).length ≤ 2400 := by
 have h0 : (0 : Rat) ≤ 0 := Rat.le_refl
 have rp := rise_pos h0 ok.rise
 have rt := rise_top ok.rise
 rw [ok.top] at rt
 have wr : ∀ s ∈ S, Wr s.1 ∧ s.1.num.toNat ≤ 1000 := fun s hs => wr_of (rp s hs).1 (rt s hs) (ok.den s hs)
 have w1 : ∀ s ∈ S, Wr s.1 ∧ 0 ≤ s.2 ∧ s.2.toNat < 10 ^ 64 := fun s hs => by
  have a := (rp s hs).2
  have b := ok.w s hs
  exact ⟨(wr s hs).1, by omega, Nat.lt_of_le_of_lt (by omega : s.2.toNat ≤ 1000) (by decide)⟩
 refine ⟨w1, ?_, toS_st2 rp, ?_⟩
 ·have key := tsP_T (S := S.map st2) (fun s hs => by
   obtain ⟨z, hz, rfl⟩ := List.mem_map.mp hs
   have b := ok.w z hz
   exact ⟨small_300 (wr z hz).2, small_300 (ok.den z hz), small_300 (show z.2.toNat ≤ 1000 by omega)⟩) (by
    rw [List.length_map]
    cases S with
    | nil => exact absurd rfl ok.ne
    | cons a S => show 1 ≤ S.length + 1; omega) (by rw [List.length_map]; exact ok.len) (by
    have := okS_of h0 ok.rise ok.top ok.w ok.den
    rw [of0] at this
    exact this)
  rw [List.map_map] at key
  exact key
 ·have := jn_len 32 194 (S.map stQ) (fun w hw => by
   obtain ⟨s, hs, rfl⟩ := List.mem_map.mp hw
   have d := dig_len (w1 s hs).2.2
   have e := wr_len (w1 s hs).1
   show (dig s.2.toNat ++ 64 :: frT (ofQ s.1)).length ≤ 194
   rw [List.length_append, List.length_cons]
   omega)
  rw [List.length_map] at this
  have l8 := ok.len
  have t2 : S.length * (194 + 1) ≤ 8 * 195 := Nat.mul_le_mul_right _ l8
  omega
theorem okC_of : ∀ {L : List (Rat × Rat)} {r : Option Rat}, (∀ b, r = some b → 0 ≤ b ∧ ∀ p ∈ L, b < p.1) → (∀ p ∈ L, 0 ≤ p.1 ∧ p.1 < p.2 ∧ p.2 ≤ 1) → L.Pairwise (fun p q => p.2 < q.1) → okC (r.map ofQ) (L.map sn2) = true
 | [], r, _, _, _ => by cases r <;> rfl
 | (a, b) :: L, r, hr, h, hp => by
  have h1 : 0 ≤ a ∧ a < b ∧ b ≤ 1 := h (a, b) List.mem_cons_self
  have hb : (0 : Rat) ≤ b := by grind
  have hp' := List.pairwise_cons.mp hp
  have ih := okC_of (L := L) (r := some b) (fun c hc => by
   cases hc
   exact ⟨hb, hp'.1⟩) (fun p hp => h p (List.mem_cons_of_mem _ hp)) hp'.2
  show ((okSn (sn2 (a, b)) && behind (r.map ofQ) (ofQ a)) && okC (some (ofQ b)) (L.map sn2)) = true
  rw [show okC (some (ofQ b)) (L.map sn2) = true from ih]
  have e1 : okSn (sn2 (a, b)) = true := by
   show ((okF (ofQ a) && okF (ofQ b)) && (lessN (ofQ a) (ofQ b) && !lessN (1, 1) (ofQ b))) = true
   rw [okF_of h1.1, okF_of hb, less_of h1.1 hb h1.2.1, ← of1, less_not (by decide) hb h1.2.2]
   rfl
  have e2 : behind (r.map ofQ) (ofQ a) = true := by
   cases r with
   | none => rfl
   | some c =>
    have := hr c rfl
    exact less_of this.1 h1.1 (this.2 (a, b) List.mem_cons_self)
  rw [e1, e2]
  rfl
theorem pc_all {n : Nat} {L : List (Rat × Rat)} (ok : PcOk n L) (n1 : n ≤ 1000) (l8 : L.length ≤ 8) : (∀ s ∈ L, Wr s.1 ∧ Wr s.2) ∧ pcP (jn 32 (L.map snQ)) = some (L.map sn2) ∧ (jn 32 (L.map snQ)).length ≤ 2400 := by
 have n0 : 0 < n := ok.d.pos
 have dn : ∀ s ∈ L, s.1.den ≤ 1000 ∧ s.2.den ≤ 1000 := fun s hs => ⟨Nat.le_trans (gr_den (ok.gr s hs).1 n0) n1, Nat.le_trans (gr_den (ok.gr s hs).2 n0) n1⟩
 have wr : ∀ s ∈ L, (Wr s.1 ∧ s.1.num.toNat ≤ 1000) ∧ Wr s.2 ∧ s.2.num.toNat ≤ 1000 := fun s hs => by
  have a := ok.win s hs
  exact ⟨wr_of a.1 (by grind) (dn s hs).1, wr_of (by grind) a.2.2 (dn s hs).2⟩
 refine ⟨fun s hs => ⟨(wr s hs).1.1, (wr s hs).2.1⟩, ?_, ?_⟩
 ·have key := pcP_T (L := L.map sn2) (fun s hs => by
   obtain ⟨z, hz, rfl⟩ := List.mem_map.mp hs
   exact ⟨small_300 (wr z hz).1.2, small_300 (dn z hz).1, small_300 (wr z hz).2.2, small_300 (dn z hz).2⟩) (okC_of (r := none) (fun b z => nomatch z) ok.win ok.apart)
  rw [List.map_map] at key
  exact key
 ·have := jn_len 32 259 (L.map snQ) (fun w hw => by
   obtain ⟨s, hs, rfl⟩ := List.mem_map.mp hw
   have d := wr_len (wr s hs).1.1
   have e := wr_len (wr s hs).2.1
   show (frT (ofQ s.1) ++ 45 :: frT (ofQ s.2)).length ≤ 259
   rw [List.length_append, List.length_cons]
   omega)
  rw [List.length_map] at this
  have t2 : L.length * (259 + 1) ≤ 8 * 260 := Nat.mul_le_mul_right _ l8
  omega
end FQ
namespace FQ
open PySem L2 FK
def spStepsBy (K : PySem.W.Frag) : Sp := fun vs H Q _ => ∃ (cell : Int), vs = [.int cell] ∧ ∀ (l : Addr) (ts : List V) (p : Nat) (S : Steps) (H' : Hp), Same H H' → H l = none → H' l = some (.lst ts) → Paired (StQ K H') ts S → TsOk p S → Q (.ref l) H'
abbrev NS : List Str := ["_law_cell", "_law_parts", "_law_ends", "_law_many", "_law_k", "_law_end", "_law_steps", "_law_weight"]
theorem scStepsBy : FnScope NS ["_law_cell"] (defScope s__law_steps_by) := ⟨rfl, rfl, rfl, by decide +kernel, rfl, by decide +kernel, by decide +kernel⟩
section
variable {P : Program} {w : World} {K : PySem.W.Frag} {mg : Str → Option Value} {base : Heap} {aL aR : Addr}
theorem tail_sb6 (CM : Cl P w K mg base "_law_mixed" 1 ["_law_cell", "_law_k"] spMixed) (CL : Cl P w K mg base "_law_low" 1 ["_law_a", "_law_b"] (spMadeQ K)) (T : Txt K mg aL aR) {f : Addr} {cdv : Value} {A : Around} {outer : List Env} {s : Shared} {H : Hp} {E : XK} (hr : Room 1 (cx P w K mg base NS "_law_steps_by" s__law_steps_by f cdv A outer s H E).A) :
  ∃ t, PSs (cx P w K mg base NS "_law_steps_by" s__law_steps_by f cdv A outer s H E) (List.drop 6 (defBody s__law_steps_by)) t ∧ ∀ (Q : VK) (H1 : Hp) (cell : Int) (n : Nat) (le : Addr) (es : List Int) (x3 x4 x5 x6 x7 : Option V), Same H H1 → 2 ≤ n → n ≤ 1000 → H1 le = some (.lst (es.map V.int)) → es.length ≤ 8 → es.Nodup → (∀ e ∈ es, 1 ≤ e ∧ e < n) →
   (∀ (l : Addr) (ts : List V) (p : Nat) (S : Steps) (H' : Hp), Same H H' → H l = none → H' l = some (.lst ts) → Paired (StQ K H') ts S → TsOk p S → Q (.ref l) H') →
   t { nx := fun _ H' => Q .non H', rt := Q } [some (.int cell), some (.int n), some (.ref le), x3, x4, x5, x6, x7] H1 := by
 refine ⟨_, pss_cons (ps_set (i := 6) scStepsBy.nd rfl (Or.inl rfl) (pe_lst pa_nil))
  (pss_cons (ps_for PassesOwn.never rfl (pi_list (pe_op op_cat (pe_slice sl_list (pe_callB call_sortedI (by rfl) T.sorted PyProof.Rows.boot_sorted (pa_cons (pv 2) pa_nil)) po_none (po_some pe_int)) (pe_lst (pa_cons (pv 1) pa_nil)))) (pg_name (i := 5) scStepsBy.nd rfl (Or.inl rfl))
   (pss_cons (ps_set (i := 7) scStepsBy.nd rfl (Or.inl rfl) (pe_op op_add pe_int (pe_op op_mod (pe_cl CM hr rfl (pa_cons (pv 0) (pa_cons (pe_op op_add pe_int (pe_callB call_len_seq (by rfl) T.len PySem.boot_len (pa_cons (pv 6) pa_nil))) pa_nil))) pe_int)))
   (pss_cons (ps_if (pt_cmpR op_eq (pe_op op_mod (pe_op op_fdiv (pv 0) pe_int) pe_int) pe_int (nomark _)) (pss_one (ps_set (i := 7) scStepsBy.nd rfl (Or.inl rfl) (pe_op op_add pe_int (pe_op op_mod (pe_cl CM hr rfl (pa_cons (pv 0) (pa_cons (pe_op op_add pe_int (pe_callB call_len_seq (by rfl) T.len PySem.boot_len (pa_cons (pv 6) pa_nil))) pa_nil))) pe_int)))) pss_nil)
   (pss_one (ps_expr (pe_bm PySem.F.plainAttrs_list PySem.F.slot_list_append PySem.F.type_list_append mt_append (pv 6) (pa_cons (pe_tup (pa_cons (pe_cl CL hr rfl (pa_cons (pv 5) (pa_cons (pv 1) pa_nil))) (pa_cons (pv 7) pa_nil))) pa_nil)))))))
  (pss_one (ps_ret (pv 6)))), ?_⟩
 intro Q H1 cell n le es x3 x4 x5 x6 x7 s1 n2 n1000 hE hl hnd hb k
 refine ⟨Nat.zero_le _, fun ls hls => ?_⟩
 have t1 : Same H1 (upd H1 ls (.lst [])) := Same.upd hls
 have hls0 : H ls = none := s1.free hls
 have big : 1000 ≤ sizeLine := by decide
 refine ⟨_, rfl, le, es, rfl, .of (t1 _ _ hE), by omega, fun l2 es' hl2 hp hpw => ?_⟩
 have t2 := Same.upd (o := .lst (es'.map V.int)) hl2
 have nd' : es'.Nodup := hp.nodup_iff.mpr hnd
 have pl := hp.length_eq
 refine ⟨_, rfl, l2, _, rfl, sqL_new, fun l3 hl3 => ?_⟩
 have ec : cutV (es'.map V.int) none (some 7) = (es'.take 7).map V.int := by
  unfold cutV
  rw [HT.sIx_none, show (some (7 : Int)) = some ((7 : Nat) : Int) from rfl, HT.sIx_nat, List.drop_zero, List.length_map, Nat.sub_zero, ← List.map_take]
  by_cases z : 7 ≤ es'.length
  ·rw [Nat.min_eq_left z]
  ·rw [Nat.min_eq_right (by omega), List.take_of_length_le (Nat.le_refl _), List.take_of_length_le (by omega)]
 rw [ec]
 have t3 := Same.upd (o := .lst ((es'.take 7).map V.int)) hl3
 refine ⟨_, rfl, (by show 1 ≤ sizeLine; decide), fun l4 hl4 => ?_⟩
 have t4 := Same.upd (o := .lst [.int n]) hl4
 have lt7 : (es'.take 7).length ≤ 7 := by rw [List.length_take]; omega
 refine ⟨l3, l4, _, _, rfl, rfl, t4 _ _ upd_same, upd_same, by rw [List.length_map]; show _ + 1 ≤ sizeLine; omega, fun l5 hl5 => ?_⟩
 have exs : (es'.take 7).map V.int ++ [V.int n] = (es'.take 7 ++ [(n : Int)]).map V.int := by rw [List.map_append]; rfl
 rw [exs]
 have t5 := Same.upd (o := .lst ((es'.take 7 ++ [(n : Int)]).map V.int)) hl5
 have tt := t1.trans (t2.trans (t3.trans (t4.trans t5)))
 refine ⟨l5, rfl, ⟨_, sqL_new⟩, ?_⟩
 have hl50 : (upd H1 ls (.lst [])) l5 = none := (t2.trans (t3.trans t4)).free hl5
 have ne5 : l5 ≠ ls := fun z => by
  rw [z, upd_same] at hl50
  cases hl50
 have lst5 : (es'.take 7 ++ [(n : Int)]).length ≤ 8 := by rw [List.length_append]; show _ + 1 ≤ 8; omega
 refine for_list (K := K) (a := l5) (xs := (es'.take 7 ++ [(n : Int)]).map V.int) (fun i σ H' => Same H1 H' ∧ H' l5 = some (.lst ((es'.take 7 ++ [(n : Int)]).map V.int)) ∧ ∃ (ts : List V) (S : Steps) (x5 x7 : Option V), σ = [some (.int cell), some (.int n), some (.ref le), x3, x4, x5, some (.ref ls), x7] ∧ H' ls = some (.lst ts) ∧ Paired (StQ K H') ts S ∧ MadeOf n ((es'.take 7 ++ [(n : Int)]).take i) S)
  ⟨tt, upd_same, [], [], _, _, rfl, (t2.trans (t3.trans (t4.trans t5))) _ _ upd_same, .nil, MadeOf.nil n⟩ (fun i σ H' _ h => .of h.2.1) ?_ ?_
 ·rintro i x σ H' hx ⟨u1, u2, ts, S, x5, x7, rfl, hT, pT, md⟩
  have il : i < (es'.take 7 ++ [(n : Int)]).length := by
   have := (List.getElem?_eq_some_iff.mp hx).1
   rw [List.length_map] at this
   exact this
  obtain ⟨e, he⟩ : ∃ e, (es'.take 7 ++ [(n : Int)])[i]? = some e := ⟨_, List.getElem?_eq_getElem il⟩
  have ex : x = .int e := by
   rw [List.getElem?_map, he] at hx
   exact (Option.some.inj hx).symm
  subst ex
  have me := List.mem_of_getElem? he
  have eb : 1 ≤ e ∧ e ≤ n := by
   rcases List.mem_append.mp me with q | q
   ·have := hb e (hp.mem_iff.mp (List.mem_of_mem_take q))
    omega
   ·rw [List.mem_singleton.mp q]
    omega
  have lT : ts.length ≤ 8 := by
   have := congrArg List.length md.1
   rw [List.length_map, List.length_map, List.length_take] at this
   rw [pT.length]
   omega
  have step : ∀ (wt : Int) (t : Addr) (v1 : V) (H2 : Hp) (x5 x7 : Option V), 0 < wt → wt ≤ 1000 → Same H' H2 → H2 t = some (.tup [v1, .int wt]) → FrQ K H2 v1 ((e : Rat) / (n : Rat)) →
    (Same H1 (upd H2 ls (.lst (ts ++ [.ref t]))) ∧ (upd H2 ls (.lst (ts ++ [.ref t]))) l5 = some (.lst ((es'.take 7 ++ [(n : Int)]).map V.int)) ∧ ∃ (ts' : List V) (S : Steps) (y5 y7 : Option V), [some (V.int cell), some (.int n), some (.ref le), x3, x4, x5, some (.ref ls), x7] = [some (.int cell), some (.int n), some (.ref le), x3, x4, y5, some (.ref ls), y7] ∧ (upd H2 ls (.lst (ts ++ [.ref t]))) ls = some (.lst ts') ∧ Paired (StQ K (upd H2 ls (.lst (ts ++ [.ref t])))) ts' S ∧ MadeOf n ((es'.take 7 ++ [(n : Int)]).take (i + 1)) S) := by
   intro wt t v1 H2 x5 x7 w0 w1 u3 hH2 hv1
   have k1 := Keep.updL (o := .lst (ts ++ [.ref t])) (u3 _ _ hT)
   refine ⟨(u1.trans u3).updN hls, by rw [upd_ne ne5]; exact u3 _ _ u2, _, S ++ [((e : Rat) / (n : Rat), wt)], _, _, rfl, upd_same, ?_, ?_⟩
   ·exact Paired.app (Paired.mapP pT fun _ _ z => StQ.keep k1 (StQ.same u3 z)) (.cons ⟨t, v1, _, rfl, k1.sqT (.of hH2), hv1.keep k1, rfl⟩ .nil)
   ·rw [take_snoc he]
    exact md.snoc w0 w1
  have b9 : ∀ r : Int, 0 < 1 + r % 9 ∧ 1 + r % 9 ≤ 1000 := fun r => by omega
  have b1000 : ∀ r : Int, 0 < 1 + r % 1000 ∧ 1 + r % 1000 ≤ 1000 := fun r => by omega
  refine ⟨_, rfl, _, rfl, ls, _, rfl, .inl (.of hT), _, _, rfl, rfl, _, _, rfl, fun r => ?_⟩
  refine ⟨_, _, rfl, rfl, (by show (0 : Int) < 9; decide), _, _, rfl, rfl, ?_⟩
  refine ⟨_, rfl, _, _, rfl, rfl, ⟨by decide, by decide⟩, _, _, rfl, rfl, (by show (0 : Int) < 8; decide), rfl, _, rfl, ?_⟩
  refine ite2 (fun h => ?_) (fun h => ?_)
  ·refine ⟨_, rfl, _, rfl, ls, _, rfl, .inl (.of hT), _, _, rfl, rfl, _, _, rfl, fun r2 => ?_⟩
   refine ⟨_, _, rfl, rfl, (by show (0 : Int) < 1000; decide), _, _, rfl, rfl, ?_⟩
   refine ⟨_, rfl, .inl ⟨rfl, _, .of hT⟩, _, rfl, _, rfl, e, (n : Int), rfl, by omega, by omega, .of_bits (n := 20) (by omega) (by decide), fun v1 H2 u3 hv1 => ?_⟩
   rw [Rat.intCast_natCast] at hv1
   refine ⟨_, rfl, (by show 2 ≤ sizeLine; decide), fun t ht => ?_⟩
   have u4 := Same.upd (o := .tup [v1, .int (1 + r2 % 1000)]) ht
   exact ⟨ls, ts, _, rfl, rfl, (u3.trans u4) _ _ hT, by omega, step _ t v1 _ _ _ (b1000 r2).1 (b1000 r2).2 (u3.trans u4) upd_same (hv1.same u4)⟩
  ·refine ⟨_, rfl, .inl ⟨rfl, _, .of hT⟩, _, rfl, _, rfl, e, (n : Int), rfl, by omega, by omega, .of_bits (n := 20) (by omega) (by decide), fun v1 H2 u3 hv1 => ?_⟩
   rw [Rat.intCast_natCast] at hv1
   refine ⟨_, rfl, (by show 2 ≤ sizeLine; decide), fun t ht => ?_⟩
   have u4 := Same.upd (o := .tup [v1, .int (1 + r % 9)]) ht
   exact ⟨ls, ts, _, rfl, rfl, (u3.trans u4) _ _ hT, by omega, step _ t v1 _ _ _ (b9 r).1 (b9 r).2 (u3.trans u4) upd_same (hv1.same u4)⟩
 ·rintro σ H' ⟨u1, u2, ts, S, x5, x7, rfl, hT, pT, md⟩
  rw [List.take_of_length_le (by rw [List.length_map]; exact Nat.le_refl _)] at md
  refine ⟨_, rfl, k ls ts n S H' (s1.trans u1) hls0 hT pT (md.ts (by omega) n1000 lt7 ?_)⟩
  have r1 : es'.Pairwise (· < ·) := sorted_rise hpw nd'
  have bb : ∀ e ∈ es'.take 7, 1 ≤ e ∧ e < n := fun e he => hb e (hp.mem_iff.mp (List.mem_of_mem_take he))
  refine List.pairwise_cons.mpr ⟨fun e he => ?_, List.pairwise_append.mpr ⟨r1.sublist (List.take_sublist _ _), List.pairwise_singleton _ _, fun a ha b hb' => ?_⟩⟩
  ·rcases List.mem_append.mp he with q | q
   ·have := bb e q
    omega
   ·rw [List.mem_singleton.mp q]
    omega
  ·rw [List.mem_singleton.mp hb']
   exact (bb a ha).2
theorem tail_sb5 (CM : Cl P w K mg base "_law_mixed" 1 ["_law_cell", "_law_k"] spMixed) (CL : Cl P w K mg base "_law_low" 1 ["_law_a", "_law_b"] (spMadeQ K)) (T : Txt K mg aL aR) {f : Addr} {cdv : Value} {A : Around} {outer : List Env} {s : Shared} {H : Hp} {E : XK} (hr : Room 1 (cx P w K mg base NS "_law_steps_by" s__law_steps_by f cdv A outer s H E).A) :
  ∃ t, PSs (cx P w K mg base NS "_law_steps_by" s__law_steps_by f cdv A outer s H E) (List.drop 5 (defBody s__law_steps_by)) t ∧ ∀ (Q : VK) (H1 : Hp) (cell m : Int) (n : Nat) (le : Addr) (x4 x5 x6 x7 : Option V), Same H H1 → H le = none → 2 ≤ n → n ≤ 1000 → 0 ≤ m → m ≤ 8 → H1 le = some (.lst []) →
   (∀ (l : Addr) (ts : List V) (p : Nat) (S : Steps) (H' : Hp), Same H H' → H l = none → H' l = some (.lst ts) → Paired (StQ K H') ts S → TsOk p S → Q (.ref l) H') →
   t { nx := fun _ H' => Q .non H', rt := Q } [some (.int cell), some (.int n), some (.ref le), some (.int m), x4, x5, x6, x7] H1 := by
 obtain ⟨t6, h6, r6⟩ := tail_sb6 (P := P) (w := w) (mg := mg) (base := base) (f := f) (cdv := cdv) (A := A) (outer := outer) (s := s) (H := H) (E := E) CM CL T hr
 refine ⟨_, pss_cons (ps_for PassesOwn.never rfl (pi_range1 rfl T.range (pa_cons (pv 3) pa_nil)) (pg_name (i := 4) scStepsBy.nd rfl (Or.inl rfl))
   (pss_cons (ps_set (i := 5) scStepsBy.nd rfl (Or.inl rfl) (pe_op op_add pe_int (pe_op op_mod (pe_cl CM hr rfl (pa_cons (pv 0) (pa_cons (pv 4) pa_nil))) (pv 1))))
   (pss_one (ps_if (PW.pt (pw_and (pt_cmpR op_lt (pv 5) (pv 1) (nomark _)) (pw_and1 (pt_cmpR op_notIn_seq (pv 5) (pv 2) rfl)))) (pss_one (ps_expr (pe_bm PySem.F.plainAttrs_list PySem.F.slot_list_append PySem.F.type_list_append mt_append (pv 2) (pa_cons (pv 5) pa_nil)))) pss_nil)))) h6, ?_⟩
 intro Q H1 cell m n le x4 x5 x6 x7 s1 hle n2 n1000 m0 m8 hE k
 refine ⟨_, rfl, m, rfl, by omega, by omega, ?_⟩
 refine for_range (lo := 0) (n := m.toNat) (fun i σ H' => Same H H' ∧ ∃ (es : List Int) (x4 x5 : Option V), σ = [some (.int cell), some (.int n), some (.ref le), some (.int m), x4, x5, x6, x7] ∧ H' le = some (.lst (es.map V.int)) ∧ es.length ≤ i ∧ es.Nodup ∧ ∀ e ∈ es, 1 ≤ e ∧ e < (n : Int))
  ⟨s1, [], _, _, rfl, hE, Nat.le_refl _, List.nodup_nil, (fun _ z => nomatch z)⟩ ?_ ?_
 ·rintro i σ H' hi ⟨u1, es, y4, y5, rfl, he, hl, hnd, hb⟩
  refine ⟨_, rfl, _, rfl, _, _, rfl, fun r => ?_⟩
  refine ⟨_, rfl, _, _, rfl, rfl, (by show (0 : Int) < n; omega), _, _, rfl, rfl, ?_⟩
  have b0 := Int.emod_nonneg r (show (n : Int) ≠ 0 by omega)
  refine ⟨_, rfl, _, rfl, _, _, rfl, rfl, _, rfl, ?_⟩
  refine ite2 (fun h => ?_) (fun h => ?_)
  ·have h' : 1 + r % (n : Int) < n := of_decide_eq_true h
   refine ⟨_, rfl, _, rfl, le, _, rfl, .inl (.of he), rfl, flat_ints es, _, rfl, ?_⟩
   refine ite2 (fun h2 => ?_) (fun h2 => ?_)
   ·have nin : (1 + r % (n : Int)) ∉ es := fun z => by
     have h2' : (!inV (.int (1 + r % (n : Int))) (es.map V.int)) = true := h2
     rw [inV_int.mpr z] at h2'
     cases h2'
    refine ⟨_, rfl, .inl ⟨rfl, _, .of he⟩, _, rfl, le, _, _, rfl, rfl, he, ?_, ?_⟩
    ·rw [List.length_map]
     have : 100 < sizeLine := by decide
     omega
    ·refine ⟨u1.updN hle, es ++ [1 + r % (n : Int)], _, _, rfl, ?_, ?_, ?_, fun e he' => ?_⟩
     ·rw [upd_same, List.map_append]
      rfl
     ·rw [List.length_append]
      show es.length + 1 ≤ i + 1
      omega
     ·refine List.nodup_append.mpr ⟨hnd, List.pairwise_singleton _ _, fun a ha b hb' => ?_⟩
      rw [List.mem_singleton.mp hb']
      intro z
      rw [z] at ha
      exact nin ha
     ·rcases List.mem_append.mp he' with z | z
      ·exact hb e z
      ·rw [List.mem_singleton.mp z]
       omega
   ·exact ⟨u1, es, _, _, rfl, he, by omega, hnd, hb⟩
  ·exact iteF ⟨u1, es, _, _, rfl, he, by omega, hnd, hb⟩
 ·rintro σ H' ⟨u1, es, y4, y5, rfl, he, hl, hnd, hb⟩
  exact r6 Q H' cell n le es _ _ _ _ _ u1 n2 n1000 he (by omega) hnd hb k
theorem ok_stepsby {f : Addr} {fd : FuncData} (D : DefAt K mg "_law_steps_by" s__law_steps_by ["_law_cell"] f fd) (CM : Cl P w K mg base "_law_mixed" 1 ["_law_cell", "_law_k"] spMixed) (CL : Cl P w K mg base "_law_low" 1 ["_law_a", "_law_b"] (spMadeQ K)) (T : Txt K mg aL aR) : FnOk P w K mg base CX0 2 f fd ["_law_cell"] (spStepsBy K) := by
 refine D.fn.ok scStepsBy (fun vs H Q E h => ?_) (fun cdv A outer s H vs Q E hr h => ?_)
 ·obtain ⟨cell, rfl, _⟩ := h
  rfl
 ·obtain ⟨cell, rfl, k⟩ := h
  obtain ⟨t5, h5, r5⟩ := tail_sb5 (P := P) (w := w) (mg := mg) (base := base) (f := f) (cdv := cdv) (A := A) (outer := outer) (s := s) (H := H) (E := E) CM CL T hr
  obtain ⟨t2, h2, r2⟩ : ∃ t, PSs (cx P w K mg base NS "_law_steps_by" s__law_steps_by f cdv A outer s H E) (List.drop 2 (defBody s__law_steps_by)) t ∧ ∀ (n : Nat), 2 ≤ n → n ≤ 1000 → t { nx := fun _ H' => Q .non H', rt := Q } [some (.int cell), some (.int n), none, none, none, none, none, none] H := by
   refine ⟨_, pss_cons (ps_set (i := 2) scStepsBy.nd rfl (Or.inl rfl) (pe_lst pa_nil))
    (pss_cons (ps_set (i := 3) scStepsBy.nd rfl (Or.inl rfl) (pe_op op_mod (pe_op op_fdiv (pv 0) pe_int) pe_int))
    (pss_cons (ps_if (pt_cmpR op_eq (pe_op op_mod (pe_op op_fdiv (pv 0) pe_int) pe_int) pe_int (nomark _)) (pss_one (ps_set (i := 3) scStepsBy.nd rfl (Or.inl rfl) (pe_op op_mod (pe_op op_fdiv (pv 0) pe_int) pe_int))) pss_nil) h5)), ?_⟩
   intro n n2 n1000
   refine ⟨Nat.zero_le _, fun le hle => ?_⟩
   refine ⟨_, rfl, _, _, rfl, rfl, ⟨by decide, by decide⟩, _, _, rfl, rfl, (by show (0 : Int) < 4; decide), ?_⟩
   refine ⟨_, rfl, _, _, rfl, rfl, ⟨by decide, by decide⟩, _, _, rfl, rfl, (by show (0 : Int) < 4; decide), rfl, _, rfl, ?_⟩
   refine ite2 (fun h => ?_) (fun h => ?_)
   ·refine ⟨_, rfl, _, _, rfl, rfl, ⟨by decide, by decide⟩, _, _, rfl, rfl, (by show (0 : Int) < 9; decide), ?_⟩
    exact r5 Q _ cell _ n le _ _ _ _ (Same.upd hle) hle n2 n1000 (by show 0 ≤ cell / 5 % 9; omega) (by show cell / 5 % 9 ≤ 8; omega) upd_same k
   ·exact r5 Q _ cell _ n le _ _ _ _ (Same.upd hle) hle n2 n1000 (by show 0 ≤ cell / 5 % 4; omega) (by show cell / 5 % 4 ≤ 8; omega) upd_same k
  refine ⟨_, pss_cons (ps_set (i := 1) scStepsBy.nd rfl (Or.inl rfl) pe_int)
   (pss_cons (ps_if (pt_cmpR op_eq (pe_op op_mod (pv 0) pe_int) pe_int (nomark _)) (pss_one (ps_set (i := 1) scStepsBy.nd rfl (Or.inl rfl) (pe_op op_add pe_int (pe_op op_mod (pe_op op_fdiv (pv 0) pe_int) pe_int)))) pss_nil) h2), ?_⟩
  refine ⟨_, rfl, _, _, rfl, rfl, (by show (0 : Int) < 7; decide), rfl, _, rfl, ?_⟩
  refine ite2 (fun h => ?_) (fun h => ?_)
  ·refine ⟨_, rfl, _, _, rfl, rfl, ⟨by decide, by decide⟩, _, _, rfl, rfl, (by show (0 : Int) < 999; decide), _, _, rfl, rfl, ?_⟩
   have e : (2 + cell / 7 % 999 : Int) = ((2 + cell / 7 % 999).toNat : Int) := by omega
   have := r2 (2 + cell / 7 % 999).toNat (by omega) (by omega)
   rw [← e] at this
   exact this
  ·exact r2 12 (by decide) (by decide)
end
end FQ
namespace FQ
open PySem L2 FK
def spPieceBy (K : PySem.W.Frag) : Sp := fun vs H Q _ => ∃ (cell : Int), vs = [.int cell] ∧ ∀ (l : Addr) (zs : List V) (n : Nat) (L : List (Rat × Rat)) (H' : Hp), Same H H' → H l = none → H' l = some (.lst zs) → Paired (CoQ K H') zs L → PcOk n L → n ≤ 1000 → L.length ≤ 8 → Q (.ref l) H'
abbrev NPB : List Str := ["_law_cell", "_law_ends", "_law_k", "_law_end", "_law_piece"]
theorem scPieceBy : FnScope NPB ["_law_cell"] (defScope s__law_piece_by) := ⟨rfl, rfl, rfl, by decide +kernel, rfl, by decide +kernel, by decide +kernel⟩
def prs (n : Nat) (es : List Int) (i : Nat) : List (Rat × Rat) := (List.range i).map fun j => (((es.getD (2 * j) 0 : Int) : Rat) / (n : Rat), ((es.getD (2 * j + 1) 0 : Int) : Rat) / (n : Rat))
theorem prs_succ (n : Nat) (es : List Int) (i : Nat) : prs n es (i + 1) = prs n es i ++ [(((es.getD (2 * i) 0 : Int) : Rat) / (n : Rat), ((es.getD (2 * i + 1) 0 : Int) : Rat) / (n : Rat))] := by
 unfold prs
 rw [List.range_succ, List.map_append]
 rfl
theorem DOk.small {n : Nat} (n0 : 0 < n) (n1 : n ≤ 1000) : DOk n := ⟨n0, Nat.lt_of_le_of_lt n1 (by decide)⟩
theorem prs_ok {n : Nat} {es : List Int} {i : Nat} (n0 : 0 < n) (n1 : n ≤ 1000) (hr : es.Pairwise (· < ·)) (hb : ∀ e ∈ es, 0 ≤ e ∧ e ≤ n) (hi : 2 * i ≤ es.length) (h8 : i ≤ 8) : PcOk n (prs n es i) := by
 have lt : ∀ a b : Nat, a < b → b < es.length → es.getD a 0 < es.getD b 0 := fun a b h1 h2 => by
  rw [List.getD_eq_getElem?_getD, List.getD_eq_getElem?_getD, List.getElem?_eq_getElem (by omega), List.getElem?_eq_getElem h2]
  exact List.pairwise_iff_getElem.mp hr a b (by omega) h2 h1
 have bd : ∀ a : Nat, a < es.length → 0 ≤ es.getD a 0 ∧ es.getD a 0 ≤ n := fun a h => by
  rw [List.getD_eq_getElem?_getD, List.getElem?_eq_getElem h]
  exact hb _ (List.getElem_mem h)
 refine ⟨DOk.small n0 n1, fun p hp => ?_, ?_, fun p hp => ?_, ?_⟩
 ·obtain ⟨j, hj, rfl⟩ := List.mem_map.mp hp
  have hj := List.mem_range.mp hj
  have b1 := bd (2 * j) (by omega)
  have b2 := bd (2 * j + 1) (by omega)
  exact ⟨nfrac_nn n0 b1.1, nfrac_lt n0 (lt _ _ (by omega) (by omega)), nfrac_le n0 b2.2⟩
 ·refine List.pairwise_map.mpr ?_
  refine (List.pairwise_lt_range (n := i)).imp_of_mem fun {a b} ha hb' h => ?_
  have := List.mem_range.mp hb'
  exact nfrac_lt n0 (lt _ _ (by omega) (by omega))
 ·obtain ⟨j, hj, rfl⟩ := List.mem_map.mp hp
  exact ⟨nfrac_gr n0 _, nfrac_gr n0 _⟩
 ·unfold prs
  rw [List.length_map, List.length_range]
  omega
section
variable {P : Program} {w : World} {K : PySem.W.Frag} {mg : Str → Option Value} {base : Heap} {aL aR : Addr}
theorem ok_pieceby {f : Addr} {fd : FuncData} (D : DefAt K mg "_law_piece_by" s__law_piece_by ["_law_cell"] f fd) (CM : Cl P w K mg base "_law_mixed" 1 ["_law_cell", "_law_k"] spMixed) (CL : Cl P w K mg base "_law_low" 1 ["_law_a", "_law_b"] (spMadeQ K)) (T : Txt K mg aL aR) : FnOk P w K mg base CX0 2 f fd ["_law_cell"] (spPieceBy K) := by
 refine D.fn.ok scPieceBy (fun vs H Q E h => ?_) (fun cdv A outer s H vs Q E hr h => ?_)
 ·obtain ⟨cell, rfl, _⟩ := h
  rfl
 ·obtain ⟨cell, rfl, k⟩ := h
  refine ⟨_, pss_cons (ps_set (i := 1) scPieceBy.nd rfl (Or.inl rfl) (pe_lst pa_nil))
   (pss_cons (ps_for PassesOwn.never rfl (pi_range1 rfl T.range (pa_cons (pe_op op_mul pe_int (pe_op op_mod (pe_op op_fdiv (pv 0) pe_int) pe_int)) pa_nil)) (pg_name (i := 2) scPieceBy.nd rfl (Or.inl rfl))
    (pss_cons (ps_set (i := 3) scPieceBy.nd rfl (Or.inl rfl) (pe_op op_mod (pe_cl CM hr rfl (pa_cons (pv 0) (pa_cons (pe_op op_add pe_int (pv 2)) pa_nil))) pe_int))
    (pss_one (ps_if (pt_cmpR op_notIn_seq (pv 3) (pv 1) rfl) (pss_one (ps_expr (pe_bm PySem.F.plainAttrs_list PySem.F.slot_list_append PySem.F.type_list_append mt_append (pv 1) (pa_cons (pv 3) pa_nil)))) pss_nil))))
   (pss_cons (ps_set (i := 1) scPieceBy.nd rfl (Or.inl rfl) (pe_callB call_sortedI (by rfl) T.sorted PyProof.Rows.boot_sorted (pa_cons (pv 1) pa_nil)))
   (pss_cons (ps_set (i := 4) scPieceBy.nd rfl (Or.inl rfl) (pe_lst pa_nil))
   (pss_cons (ps_for PassesOwn.never rfl (pi_range3 rfl T.range (pa_cons pe_int (pa_cons (pe_op op_sub (pe_callB call_len_seq (by rfl) T.len PySem.boot_len (pa_cons (pv 1) pa_nil)) pe_int) (pa_cons pe_int pa_nil)))) (pg_name (i := 2) scPieceBy.nd rfl (Or.inl rfl))
    (pss_one (ps_expr (pe_bm PySem.F.plainAttrs_list PySem.F.slot_list_append PySem.F.type_list_append mt_append (pv 4) (pa_cons (pe_tup (pa_cons (pe_cl CL hr rfl (pa_cons (pe_ix ix_list (pv 1) (pv 2) (fun _ _ => rfl)) (pa_cons pe_int pa_nil)))
     (pa_cons (pe_cl CL hr rfl (pa_cons (pe_ix ix_list (pv 1) (pe_op op_add (pv 2) pe_int) (fun _ _ => rfl)) (pa_cons pe_int pa_nil))) pa_nil))) pa_nil)))))
   (pss_one (ps_ret (pv 4))))))), ?_⟩
  refine ⟨Nat.zero_le _, fun l hl => ?_⟩
  have c0 := Int.emod_nonneg (cell / 3) (show (9 : Int) ≠ 0 by decide)
  have c1 := Int.emod_lt_of_pos (cell / 3) (show (0 : Int) < 9 by decide)
  refine ⟨_, rfl, _, _, rfl, rfl, ⟨by decide, by decide⟩, _, _, rfl, rfl, (by show (0 : Int) < 9; decide), _, _, rfl, rfl, .inl ⟨by decide, by decide⟩, _, rfl, ?_, ?_, ?_⟩
  ·show -(2 ^ 62) ≤ 2 * (cell / 3 % 9)
   omega
  ·show 2 * (cell / 3 % 9) < 2 ^ 62
   omega
  have m1 : (2 * (cell / 3 % 9)).toNat ≤ 16 := by omega
  refine for_range (lo := 0) (n := (2 * (cell / 3 % 9)).toNat) (fun i σ H' => Same H H' ∧ ∃ (es : List Int) (x3 x4 : Option V), σ = [some (.int cell), some (.ref l), x3, x4, none] ∧ H' l = some (.lst (es.map V.int)) ∧ es.length ≤ i ∧ es.Nodup ∧ ∀ e ∈ es, 0 ≤ e ∧ e ≤ (48 : Int))
   ⟨Same.upd hl, [], _, _, rfl, upd_same, Nat.le_refl _, List.nodup_nil, (fun _ z => nomatch z)⟩ ?_ ?_
  ·rintro i σ H' hi ⟨s1, es, x3, x4, rfl, he, hle, hnd, hb⟩
   refine ⟨_, rfl, _, rfl, _, _, rfl, rfl, _, _, rfl, fun r => ?_⟩
   refine ⟨_, _, rfl, rfl, (by show (0 : Int) < 49; decide), ?_⟩
   have b0 := Int.emod_nonneg r (show (49 : Int) ≠ 0 by decide)
   have b1 := Int.emod_lt_of_pos r (show (0 : Int) < 49 by decide)
   refine ⟨_, rfl, _, rfl, l, _, rfl, .inl (.of he), rfl, flat_ints es, _, rfl, ?_⟩
   refine ite2 (fun h => ?_) (fun h => ?_)
   ·have nin : r % (49 : Int) ∉ es := fun z => by
     have h2' : (!inV (.int (r % (49 : Int))) (es.map V.int)) = true := h
     rw [inV_int.mpr z] at h2'
     cases h2'
    refine ⟨_, rfl, .inl ⟨rfl, _, .of he⟩, _, rfl, l, _, _, rfl, rfl, he, ?_, ?_⟩
    ·rw [List.length_map]
     have : 100 < sizeLine := by decide
     omega
    ·refine ⟨s1.updN hl, es ++ [r % (49)], _, _, rfl, ?_, ?_, ?_, fun e he' => ?_⟩
     ·rw [upd_same, List.map_append]
      rfl
     ·rw [List.length_append]
      show es.length + 1 ≤ i + 1
      omega
     ·refine List.nodup_append.mpr ⟨hnd, List.pairwise_singleton _ _, fun a ha b hb' => ?_⟩
      rw [List.mem_singleton.mp hb']
      intro z
      rw [z] at ha
      exact nin ha
     ·rcases List.mem_append.mp he' with z | z
      ·exact hb e z
      ·rw [List.mem_singleton.mp z]
       omega
   ·exact ⟨s1, es, _, _, rfl, he, by omega, hnd, hb⟩
  ·rintro σ H' ⟨s1, es, x3, x4, rfl, he, hle, hnd, hb⟩
   refine ⟨_, rfl, l, es, rfl, .of he, by omega, fun l2 es' hl2 hp hpw => ?_⟩
   have s2 := Same.upd (o := .lst (es'.map V.int)) hl2
   have pl := hp.length_eq
   have rise := sorted_rise hpw (hp.nodup_iff.mpr hnd)
   have hb' : ∀ e ∈ es', 0 ≤ e ∧ e ≤ (48 : Int) := fun e he' => hb e (hp.mem_iff.mp he')
   refine ⟨Nat.zero_le _, fun lp hlp => ?_⟩
   have s3 := Same.upd (o := .lst []) hlp
   have hlp0 : H lp = none := (s1.trans s2).free hlp
   have ne : l2 ≠ lp := ne_of_none upd_same hlp
   have hL2 := s3 _ _ (upd_same (H := H') (a := l2) (o := .lst (es'.map V.int)))
   refine ⟨_, rfl, l2, _, rfl, .inl (.of hL2), _, _, rfl, rfl, ?_⟩
   refine ⟨0, ((es'.map V.int).length : Int) - 1, 2, es'.length / 2, rfl, ⟨by decide, by decide, by decide, by decide, by rw [List.length_map]; omega, by rw [List.length_map]; omega⟩, ?_, ?_⟩
   ·rw [List.length_map]
    by_cases z : (0 : Int) < (es'.length : Nat) - 1
    ·rw [if_pos z]
     omega
    ·rw [if_neg z]
     omega
   refine for_rangeS (lo := 0) (st := 2) (n := es'.length / 2) (fun i σ H2 => Same H H2 ∧ H2 l2 = some (.lst (es'.map V.int)) ∧ ∃ (zs : List V) (x3 x4 : Option V), σ = [some (.int cell), some (.ref l2), x3, x4, some (.ref lp)] ∧ H2 lp = some (.lst zs) ∧ Paired (CoQ K H2) zs (prs 48 es' i))
    ⟨s1.trans (s2.trans s3), hL2, [], _, _, rfl, upd_same, .nil⟩ ?_ ?_
   ·rintro i σ H2 hi ⟨u1, u2, zs, y3, y4, rfl, hz, hZ⟩
    have i1 : 2 * i + 1 < es'.length := by omega
    have a1 : atI (es'.map V.int) (0 + (i : Int) * 2) = some (.int (es'.getD (2 * i) 0)) := atI_of (by omega) (by
     rw [show (0 + (i : Int) * 2).toNat = 2 * i by omega, List.getElem?_map, List.getD_eq_getElem?_getD, List.getElem?_eq_getElem (by omega)]
     rfl)
    have a2 : atI (es'.map V.int) (0 + (i : Int) * 2 + 1) = some (.int (es'.getD (2 * i + 1) 0)) := atI_of (by omega) (by
     rw [show (0 + (i : Int) * 2 + 1).toNat = 2 * i + 1 by omega, List.getElem?_map, List.getD_eq_getElem?_getD, List.getElem?_eq_getElem (by omega)]
     rfl)
    have bb : ∀ a : Nat, a < es'.length → 0 ≤ es'.getD a 0 ∧ es'.getD a 0 ≤ 48 := fun a h => by
     rw [List.getD_eq_getElem?_getD, List.getElem?_eq_getElem h]
     exact hb' _ (List.getElem_mem h)
    have b1 := bb (2 * i) (by omega)
    have b2 := bb (2 * i + 1) (by omega)
    refine ⟨_, rfl, .inl ⟨rfl, _, .of hz⟩, _, rfl, _, rfl, l2, _, _, _, rfl, rfl, .of u2, a1, _, (48 : Int), rfl, b1.1, by omega, .of_bits (n := 20) (by omega) (by decide), fun v1 H3 t1 d1 => ?_⟩
    refine ⟨_, rfl, _, rfl, _, _, rfl, rfl, l2, _, _, _, rfl, rfl, .of (t1 _ _ u2), a2, _, (48 : Int), rfl, b2.1, by omega, .of_bits (n := 20) (by omega) (by decide), fun v2 H4 t2 d2 => ?_⟩
    have e48 : (((48 : Int) : Int) : Rat) = ((48 : Nat) : Rat) := rfl
    rw [e48] at d1 d2
    refine ⟨(by show 2 ≤ sizeLine; decide), fun t ht => ?_⟩
    have t3 := Same.upd (o := .tup [v1, v2]) ht
    have t13 := t1.trans (t2.trans t3)
    have lz : zs.length ≤ 8 := by
     rw [hZ.length]
     unfold prs
     rw [List.length_map, List.length_range]
     omega
    have big : 1000 ≤ sizeLine := by decide
    have k1 := Keep.updL (o := .lst (zs ++ [.ref t])) (t13 _ _ hz)
    refine ⟨lp, zs, _, rfl, rfl, t13 _ _ hz, by omega, (u1.trans t13).updN hlp0, by rw [upd_ne ne]; exact t13 _ _ u2, _, _, _, rfl, upd_same, ?_⟩
    rw [prs_succ]
    exact Paired.app (Paired.mapP hZ fun _ _ z => CoQ.keep k1 (CoQ.same t13 z)) (.cons ⟨t, v1, v2, rfl, k1.sqT sqT_new, ((d1.same t2).same t3).keep k1, (d2.same t3).keep k1⟩ .nil)
   ·rintro σ H2 ⟨u1, u2, zs, y3, y4, rfl, hz, hZ⟩
    refine ⟨_, rfl, k lp zs 48 _ H2 u1 hlp0 hz hZ (prs_ok (by omega) (by decide) rise hb' (by omega) (by omega)) (by decide) ?_⟩
    unfold prs
    rw [List.length_map, List.length_range]
    omega
end
end FQ
namespace FQ
open PySem L2 FK FT
theorem RpE.mono {α : Type} [DecidableEq α] {K : PySem.W.Frag} {R : Hp → V → α → Prop} {d e : Nat} (h : RpE K R d) (le : d ≤ e) : RpE K R e :=
 ⟨fun hK I h1 h2 => h.inj hK I h1 h2, fun hK I hu h1 h2 r1 r2 => h.eq hK I (by omega) h1 h2 r1 r2⟩
theorem rpe_st {K : PySem.W.Frag} : RpE K (StQ K) 2 := rpe_pair rpe_fr (RpE.mono rpe_int (by decide))
abbrev SnI (K : PySem.W.Frag) := rpPair K (rpPair K rpInt rpInt) (rpPair K rpInt rpInt)
theorem rpe_sn {K : PySem.W.Frag} : RpE K (SnI K) 2 := rpe_pair (rpe_pair rpe_int rpe_int) (rpe_pair rpe_int rpe_int)
def snI (s : Spn) : (Int × Int) × (Int × Int) := ((s.1.1, s.1.2), (s.2.1, s.2.2))
theorem SnT.i {K : PySem.W.Frag} {H : Hp} {v : V} {s : Spn} (h : SnT K H v s) : SnI K H v (snI s) := by
 obtain ⟨r, p, q, rfl, h1, h2, h3⟩ := h
 exact ⟨r, _, _, rfl, h1, ⟨p, _, _, rfl, h2, rfl, rfl⟩, ⟨q, _, _, rfl, h3, rfl, rfl⟩⟩
theorem paired_map {α β γ : Type} {R : α → β → Prop} {R' : α → γ → Prop} {g : β → γ} (h : ∀ a b, R a b → R' a (g b)) : ∀ {xs : List α} {ys : List β}, Paired R xs ys → Paired R' xs (ys.map g)
 | _, _, .nil => .nil
 | _, _, .cons r p => .cons (h _ _ r) (paired_map h p)
theorem paired_mapM {α β γ : Type} {R : α → β → Prop} {R' : α → γ → Prop} {g : β → γ} : ∀ {xs : List α} {ys : List β}, (∀ a, ∀ b ∈ ys, R a b → R' a (g b)) → Paired R xs ys → Paired R' xs (ys.map g)
 | _, _, _, .nil => .nil
 | _, _, h, .cons r p => .cons (h _ _ (List.mem_cons_self ..) r) (paired_mapM (fun a b hb => h a b (List.mem_cons_of_mem _ hb)) p)
theorem tsP_ok {l : List Nat} {S : List Stp} (h : tsP l = some S) : okS (0, 1) S = true := by
 unfold tsP at h
 obtain ⟨_, h2⟩ := Option.filter_eq_some_iff.mp h
 exact (Bool.and_eq_true_iff.mp h2).2
theorem steps_q {K : PySem.W.Frag} {H : Hp} {ys : List V} {S : List Stp} (ok : okS (0, 1) S = true) (h : Paired (StT K H) ys S) : Paired (StQ K H) ys (toS S) :=
 paired_mapM (fun a b hb r => r.q (okS_all ok b hb)) h
def spRR : Sp := fun vs H Q _ => ∃ x : PySem.Str, vs = [.str x] ∧ x.length ≤ 5000 ∧ ∀ H', Same H H' → Q (.bl true) H'
section
variable {P : Program} {w : World} {K : PySem.W.Frag} {mg : Str → Option Value} {base : Heap} {C BX : Addr}
theorem scRR : FnScope ["_law_text_here", "_law_steps", "_law_piece"] ["_law_text_here"] (defScope s__law_read_right) := ⟨rfl, rfl, rfl, by decide +kernel, rfl, by decide +kernel, by decide +kernel⟩
def OptL (H : Hp) {α : Type} (R : V → α → Prop) : Option (List α) → V → Prop
 | none, v => v = .non
 | some S, v => ∃ q ys, v = .ref q ∧ H q = some (.lst ys) ∧ Paired R ys S
theorem OptL.same {α : Type} {H H' : Hp} {R R' : V → α → Prop} {o : Option (List α)} {v : V} (s : Same H H') (k : ∀ v a, R v a → R' v a) (h : OptL H R o v) : OptL H' R' o v := by
 cases o with
 | none => exact h
 | some S =>
  obtain ⟨q, ys, e, h1, h2⟩ := h
  exact ⟨q, ys, e, s _ _ h1, Paired.mapP h2 k⟩
theorem rr3 (CR : Cl P w K mg base "_law_refused" 8 ["_law_which", "_law_text_here"] (spRf K)) (CP : Cl P w K mg base "piece_of" 5 ["text"] (fun vs H Q _ => spPcOf K BX vs H Q E0)) {f : Addr} {cdv : Value} {A : Around} {outer : List Env} {s : Shared} {H : Hp} {E : XK} (hr : Room 8 (cx P w K mg base ["_law_text_here", "_law_steps", "_law_piece"] "_law_read_right" s__law_read_right f cdv A outer s H E).A) :
  ∃ t, PSs (cx P w K mg base ["_law_text_here", "_law_steps", "_law_piece"] "_law_read_right" s__law_read_right f cdv A outer s H E) (List.drop 3 (defBody s__law_read_right)) t ∧ ∀ (Q : VK) (x : PySem.Str) (H1 : Hp) (x1 : Option V) (vp : V), x.length ≤ 5000 → OptL H1 (SnT K H1) (pcP (tl x)) vp → (∀ H', Same H1 H' → Q (.bl true) H') → t { nx := fun _ H' => Q .non H', rt := Q } [some (.str x), x1, some vp] H1 := by
 have hr5 : Room 5 _ := hr.mono (by decide)
 have hu3' : _ + (2 + 1) < cLine := Nat.lt_of_le_of_lt (Nat.add_le_add_left (by decide : 3 ≤ 64) _) hr.units
 refine ⟨_, pss_one (ps_ret (pe_ifExp (pt_cmpR op_isN (pv 2) pe_non (nomark _)) (pe_cl CR hr rfl (pa_cons pe_int (pa_cons (pv 0) pa_nil))) (pe_cmpR (op_eqL rpe_sn hu3') (pe_cl CP hr5 rfl (pa_cons (pv 0) pa_nil)) (pv 2) (nomark _)))), ?_⟩
 intro Q x H1 x1 vp lx op q
 refine ⟨_, rfl, rfl, _, rfl, ?_⟩
 cases e : pcP (tl x) with
 | none =>
  rw [e] at op
  have ev : vp = .non := op
  subst ev
  refine iteEq rfl ?_
  exact ⟨_, rfl, 1, .str x, .str x, rfl, rfl, (fun y z => by cases z; exact lx), .inr ⟨rfl, fun y z => by cases z; exact e⟩, q⟩
 | some L =>
  rw [e] at op
  obtain ⟨p, zs, rfl, hp, hz⟩ := op
  refine iteEqN (fun z => nomatch z) ?_
  refine ⟨_, rfl, .str x, .str x, rfl, rfl, (fun y z => by cases z; exact lx), (fun y L' z e' p' ys H2 s2 hp' hy => ?_), fun no => ?_⟩
  ·cases z
   rw [e] at e'
   cases e'
   refine ⟨_, rfl, L.map snI, L.map snI, ⟨p', ys, rfl, .of hp', paired_map (fun _ _ z => SnT.i z) hy⟩, ⟨p, zs, rfl, .of (s2 _ _ hp), paired_map (fun _ _ z => SnT.i (SnT.same s2 z)) hz⟩, ?_⟩
   rw [decide_eq_true rfl]
   exact q H2 s2
  ·have := no x rfl
   rw [e] at this
   cases this
theorem rr2 (CR : Cl P w K mg base "_law_refused" 8 ["_law_which", "_law_text_here"] (spRf K)) (CT : Cl P w K mg base "taste_of" 7 ["text"] (fun vs H Q _ => spTsOf K C BX vs H Q E0)) (CP : Cl P w K mg base "piece_of" 5 ["text"] (fun vs H Q _ => spPcOf K BX vs H Q E0)) (MC : Ml P w K mg base C "steps" 1 ["self"] (spTold K C)) (TC : TxtC K C) {f : Addr} {cdv : Value} {A : Around} {outer : List Env} {s : Shared} {H : Hp} {E : XK} (hr : Room 8 (cx P w K mg base ["_law_text_here", "_law_steps", "_law_piece"] "_law_read_right" s__law_read_right f cdv A outer s H E).A) :
  ∃ t, PSs (cx P w K mg base ["_law_text_here", "_law_steps", "_law_piece"] "_law_read_right" s__law_read_right f cdv A outer s H E) (List.drop 2 (defBody s__law_read_right)) t ∧ ∀ (Q : VK) (x : PySem.Str) (H1 : Hp) (vs vp : V), x.length ≤ 5000 → OptL H1 (StT K H1) (tsP (tl x)) vs → OptL H1 (SnT K H1) (pcP (tl x)) vp → (∀ H', Same H1 H' → Q (.bl true) H') → t { nx := fun _ H' => Q .non H', rt := Q } [some (.str x), some vs, some vp] H1 := by
 have hr1 : Room 1 _ := hr.mono (by decide)
 have hr7 : Room 7 _ := hr.mono (by decide)
 have hu3' : _ + (2 + 1) < cLine := Nat.lt_of_le_of_lt (Nat.add_le_add_left (by decide : 3 ≤ 64) _) hr.units
 obtain ⟨t3, h3, r3⟩ := rr3 (P := P) (w := w) (mg := mg) (base := base) (f := f) (cdv := cdv) (A := A) (outer := outer) (s := s) (H := H) (E := E) CR CP hr
 refine ⟨_, pss_cons (ps_if (PW.pt (pw_or (PW.pt (pw_and (pt_cmpR op_isN (pv 1) pe_non (nomark _)) (pw_and1 (pt_not (pt_val (pe_cl CR hr rfl (pa_cons pe_int (pa_cons (pv 0) pa_nil)))))))) (pw_or1 (PW.pt (pw_and (pt_cmpR op_notN (pv 1) pe_non (nomark _)) (pw_and1 (pt_cmpR (op_neL rpe_st hu3') (pe_ml0 MC TC.cl hr1 (pe_cl CT hr7 rfl (pa_cons (pv 0) pa_nil))) (pv 1) (nomark _)))))))) (pss_one (ps_ret pe_bl)) pss_nil) h3, ?_⟩
 intro Q x H1 vs vp lx os op q
 refine ⟨_, rfl, rfl, _, rfl, ?_⟩
 cases e : tsP (tl x) with
 | none =>
  rw [e] at os
  have ev : vs = .non := os
  subst ev
  refine iteEq rfl ?_
  refine ⟨_, rfl, 0, .str x, .str x, rfl, rfl, (fun y z => by cases z; exact lx), .inl ⟨rfl, fun y z => by cases z; exact e⟩, fun H2 s2 => ⟨_, rfl, ?_⟩⟩
  refine iteF ?_
  refine ⟨_, rfl, rfl, _, rfl, iteNS rfl ?_⟩
  exact r3 Q x H2 _ vp lx (op.same s2 fun _ _ z => SnT.same s2 z) fun H3 s3 => q H3 (s2.trans s3)
 | some S =>
  rw [e] at os
  obtain ⟨p, ts, rfl, hp, hS⟩ := os
  have okS := tsP_ok e
  have hQ := steps_q okS hS
  refine iteEqN (fun z => nomatch z) ?_
  refine iteF ?_
  refine ⟨_, rfl, rfl, _, rfl, iteNN (fun z => nomatch z) ?_⟩
  refine ⟨_, rfl, .str x, .str x, rfl, rfl, (fun y z => by cases z; exact lx), (fun y S' z e' y' lt ll H2 s2 ta => ?_), fun no => ?_⟩
  ·cases z
   rw [e] at e'
   cases e'
   obtain ⟨dx, hx⟩ := ta.ins
   refine ⟨y', dx, _, rfl, hx, rfl, y', lt, ll, toS S, rfl, ta, fun l us hl hus => ?_⟩
   have s5 := Same.upd (o := .lst us) hl
   have s45 := s2.trans s5
   refine ⟨_, rfl, toS S, toS S, ⟨l, us, rfl, sqL_new, Paired.mapP hus fun _ _ z => StQ.same s5 z⟩, ⟨p, ts, rfl, .of (s45 _ _ hp), Paired.mapP hQ fun _ _ z => StQ.same s45 z⟩, _, rfl, iteNS rfl ?_⟩
   exact r3 Q x _ _ vp lx (op.same s45 fun _ _ z => SnT.same s45 z) fun H3 s3 => q H3 (s45.trans s3)
  ·have := no x rfl
   rw [e] at this
   cases this
theorem ok_rr {f : Addr} {fd : FuncData} (D : DefAt K mg "_law_read_right" s__law_read_right ["_law_text_here"] f fd) (CS : Cl P w K mg base "_law_steps_of" 3 ["_law_text_here"] (spLSt K)) (CN : Cl P w K mg base "_law_spans_of" 3 ["_law_text_here"] (spLSn K)) (CR : Cl P w K mg base "_law_refused" 8 ["_law_which", "_law_text_here"] (spRf K))
  (CT : Cl P w K mg base "taste_of" 7 ["text"] (fun vs H Q _ => spTsOf K C BX vs H Q E0)) (CP : Cl P w K mg base "piece_of" 5 ["text"] (fun vs H Q _ => spPcOf K BX vs H Q E0)) (MC : Ml P w K mg base C "steps" 1 ["self"] (spTold K C)) (TC : TxtC K C) : FnOk P w K mg base CX0 9 f fd ["_law_text_here"] spRR := by
 refine D.fn.ok scRR (fun vs H Q E h => ?_) (fun cdv A outer s H vs Q E hr h => ?_)
 ·obtain ⟨x, rfl, _⟩ := h
  rfl
 ·obtain ⟨x, rfl, lx, q⟩ := h
  have hr3 : Room 3 _ := hr.mono (by decide)
  obtain ⟨t2, h2, r2⟩ := rr2 (P := P) (w := w) (mg := mg) (base := base) (f := f) (cdv := cdv) (A := A) (outer := outer) (s := s) (H := H) (E := E) CR CT CP MC TC hr
  refine ⟨_, pss_cons (ps_set (i := 1) scRR.nd rfl (Or.inl rfl) (pe_cl CS hr3 rfl (pa_cons (pv 0) pa_nil)))
   (pss_cons (ps_set (i := 2) scRR.nd rfl (Or.inl rfl) (pe_cl CN hr3 rfl (pa_cons (pv 0) pa_nil))) h2), ?_⟩
  have en : tsL (tl x) = tsP (tl x) := ts_eq _
  have ep : pcL (tl x) = pcP (tl x) := pc_eq _
  have two : ∀ (H1 : Hp) (vs : V), Same H H1 → OptL H1 (StT K H1) (tsP (tl x)) vs → spLSn K [.str x] H1 (fun v H2 => t2 { nx := fun _ H' => Q .non H', rt := Q } [some (.str x), some vs, some v] H2) E0 := fun H1 vs s1 o1 =>
   ⟨x, rfl, lx, fun z H2 s2 => r2 Q x H2 vs _ lx (o1.same s2 fun _ _ z => StT.same s2 z) (by rw [← ep, z]; exact rfl) fun H3 s3 => q H3 (s1.trans (s2.trans s3)),
    fun L z p ys H2 s2 _ hp hy => r2 Q x H2 vs _ lx (o1.same s2 fun _ _ z => StT.same s2 z) (by rw [← ep, z]; exact ⟨p, ys, rfl, hp, hy⟩) fun H3 s3 => q H3 (s1.trans (s2.trans s3))⟩
  refine ⟨_, rfl, x, rfl, lx, fun z H1 s1 => ?_, fun S z p ys H1 s1 _ hp hy => ?_⟩
  ·exact ⟨_, rfl, two H1 _ s1 (by rw [← en, z]; exact rfl)⟩
  ·exact ⟨_, rfl, two H1 _ s1 (by rw [← en, z]; exact ⟨p, ys, rfl, hp, hy⟩)⟩
end
end FQ
namespace FQ
open PySem L2 FK FT
abbrev NLw : List Str := ["_law_script", "_law_steps", "_law_piece", "_law_first", "_law_second", "_law_cell", "_law_few_here", "_law_text_here"]
theorem scLaw : FnScope NLw ["_law_script"] (defScope s_law) := ⟨rfl, rfl, rfl, by decide +kernel, rfl, by decide +kernel, by decide +kernel⟩
def spLaw (K : PySem.W.Frag) : Sp := fun vs H Q _ => ∃ (a : Addr) (ns : List Int), vs = [.ref a] ∧ SqL K H a (ns.map V.int) ∧ ns.length ≤ 63 ∧ ∀ H', Q (.bl true) H'
structure LwC (P : Program) (w : World) (K : PySem.W.Frag) (mg : Str → Option Value) (base : Heap) (C BX : Addr) : Prop where
 cell : Cl P w K mg base "_law_cell_at" 1 ["_law_script", "_law_k"] (spCell K)
 steps : Cl P w K mg base "_law_steps_by" 2 ["_law_cell"] (spStepsBy K)
 piece : Cl P w K mg base "_law_piece_by" 2 ["_law_cell"] (spPieceBy K)
 make : Mc P w K mg base "Taste" C 5 ["self", "steps"] (spInit K C)
 tt : Cl P w K mg base "taste_text" 3 ["taste"] (spTT K C)
 pt : Cl P w K mg base "piece_text" 5 ["piece"] (spPT K)
 txt : Cl P w K mg base "_law_text" 1 ["_law_one"] (spFT K)
 tOf : Cl P w K mg base "taste_of" 7 ["text"] (fun vs H Q _ => spTsOf K C BX vs H Q E0)
 pOf : Cl P w K mg base "piece_of" 5 ["text"] (fun vs H Q _ => spPcOf K BX vs H Q E0)
 told : Ml P w K mg base C "steps" 1 ["self"] (spTold K C)
 other : Cl P w K mg base "_law_other" 2 ["_law_text_here", "_law_cell", "_law_k"] spOther
 few : Cl P w K mg base "_law_few" 1 [] spFew
 rr : Cl P w K mg base "_law_read_right" 9 ["_law_text_here"] spRR
 rf : Cl P w K mg base "_law_refused" 8 ["_law_which", "_law_text_here"] (spRf K)
 str : mg "str" = none
 all : mg "all" = none
section
variable {P : Program} {w : World} {K : PySem.W.Frag} {mg : Str → Option Value} {base : Heap} {aL aR C BX : Addr}
theorem rf_no {t : Tr} {H : Hp} {v : V} {Q : VK} {E : XK} (i : Int) (hi : i = 0 ∨ i = 1) (h : Rd K H t v) (n : isStr t = false) (q : ∀ H', Same H H' → Q (.bl true) H') : spRf K [.int i, v] H Q E := by
 have no : ∀ x, t ≠ .str x := fun x z => by
  rw [z] at n
  cases n
 refine ⟨i, v, t, rfl, h, fun x z => absurd z (no x), ?_, q⟩
 rcases hi with rfl | rfl
 ·exact .inl ⟨rfl, fun x z => absurd z (no x)⟩
 ·exact .inr ⟨rfl, fun x z => absurd z (no x)⟩
theorem law10 (CC : LwC P w K mg base C BX) {f : Addr} {cdv : Value} {A : Around} {outer : List Env} {s : Shared} {H : Hp} {E : XK} (hr : Room 9 (cx P w K mg base NLw "law" s_law f cdv A outer s H E).A) :
  ∃ t, PSs (cx P w K mg base NLw "law" s_law f cdv A outer s H E) (List.drop 10 (defBody s_law)) t ∧ ∀ (Q : VK) (H1 : Hp) (σ : St), (∀ H', Q (.bl true) H') → t { nx := fun _ H' => Q .non H', rt := Q } σ H1 := by
 have hr8 : Room 8 _ := hr.mono (by decide)
 refine ⟨_, pss_one (ps_ret (pe_callB (call_all rfl) (by rfl) CC.all PyProof.Rows.boot_all (pa_cons (pe_comp ["_law_thing"] rfl (CompOk.plain rfl (by decide +kernel) (by decide +kernel) (by decide +kernel))
  (pi_list (pe_lst (pa_cons pe_non (pa_cons pe_int (pa_cons (pe_lst (pa_cons pe_str pa_nil)) (pa_cons pe_bl pa_nil))))))
  (fun _ => pg_name (i := 0) (show [Str.ofString "_law_thing"].Nodup by decide +kernel) rfl (Or.inl rfl)) (fun _ => pifs_nil)
  (fun _ => pe_and (pe_cl CC.rf hr8 rfl (pa_cons pe_int (pa_cons (pv 0) pa_nil))) (pe_one (pe_cl CC.rf hr8 rfl (pa_cons pe_int (pa_cons (pv 0) pa_nil)))))) pa_nil))), ?_⟩
 intro Q H1 σ q
 have big : 1000 ≤ sizeLine := by decide
 refine ⟨(by show 1 ≤ sizeLine; omega), fun p1 h1 => ?_⟩
 refine ⟨(by show 4 ≤ sizeLine; omega), fun p2 h2 => ?_⟩
 have s2 := Same.upd (o := .lst [.non, .int 5, .ref p1, .bl true]) h2
 have e1 : (upd (upd H1 p1 (.lst [V.str (Str.ofString "1@1")])) p2 (.lst [.non, .int 5, .ref p1, .bl true])) p1 = some (.lst [V.str (Str.ofString "1@1")]) := s2 _ _ upd_same
 have e2 : (upd (upd H1 p1 (.lst [V.str (Str.ofString "1@1")])) p2 (.lst [.non, .int 5, .ref p1, .bl true])) p2 = some (.lst [.non, .int 5, .ref p1, .bl true]) := upd_same
 generalize (upd (upd H1 p1 (.lst [V.str (Str.ofString "1@1")])) p2 (.lst [.non, .int 5, .ref p1, .bl true])) = H2 at e1 e2
 refine ⟨p2, rfl, ⟨_, .of e2⟩, fun D hD => ?_⟩
 refine comp_list (K := K) (a := p2) (D := D) (xs := [.non, .int 5, .ref p1, .bl true]) (fun j ys σ H3 => Same H2 H3 ∧ H3 D = some (.lst ys) ∧ ys = List.replicate j (V.bl true) ∧ ∃ x0, σ = [x0])
  (by show 4 ≤ sizeLine; omega) ⟨Same.upd hD, upd_same, rfl, _, rfl⟩ ?_ ?_ ?_
 ·rintro j ys σ H3 _ ⟨u1, u2, u3, _⟩
  refine ⟨.of (u1 _ _ e2), u2, ?_⟩
  rw [u3, List.length_replicate]
  exact Nat.le_refl _
 ·rintro j y ys σ H3 hy ⟨u1, u2, u3, x0, rfl⟩ cc
  have rd : ∃ t, (∀ H4, Same H2 H4 → Rd K H4 t y) ∧ isStr t = false := by
   match j, hy with
   | 0, hy => cases hy; exact ⟨.non, fun _ _ => rfl, rfl⟩
   | 1, hy => cases hy; exact ⟨.int 5, fun _ _ => rfl, rfl⟩
   | 2, hy => cases hy; exact ⟨.lst [.str (Str.ofString "1@1")], fun H4 s4 => ⟨p1, _, rfl, .of (s4 _ _ e1), _, _, rfl, rfl, rfl⟩, rfl⟩
   | 3, hy => cases hy; exact ⟨.bl true, fun _ _ => rfl, rfl⟩
   | n + 4, hy => cases hy
  obtain ⟨t, rd, no⟩ := rd
  refine ⟨_, rfl, tn_go ?_⟩
  show spRf K [.int 0, y] _ _ _
  refine rf_no 0 (.inl rfl) (rd _ u1) no fun H4 s4 => ⟨true, rfl, iteT ⟨_, rfl, tn_go ?_⟩⟩
  show spRf K [.int 1, y] _ _ _
  refine rf_no 1 (.inr rfl) (rd _ (u1.trans s4)) no fun H5 s5 => ⟨(s4.trans s5) _ _ u2, ?_⟩
  refine ⟨((u1.trans s4).trans s5).updN hD, upd_same, ?_, _, rfl⟩
  rw [u3, List.replicate_succ']
 ·rintro ys σ H3 ⟨u1, u2, u3, _⟩
  refine ⟨D, List.replicate 4 true, rfl, .of (by rw [u2, u3]; rfl), q _⟩
end
end FQ
namespace FQ
open PySem L2 FK FT
section
variable {P : Program} {w : World} {K : PySem.W.Frag} {mg : Str → Option Value} {base : Heap} {aL aR C BX : Addr}
theorem short_of {x y : PySem.Str} (h : x.length ≤ 2400) (k : y.length ≤ 2 * x.length + 1) : shortV (.str y) = true := decide_eq_true (by omega)
theorem short_two {a b : V} (ha : shortV a = true) (hb : shortV b = true) : ∀ y ∈ [a, b], shortV y = true := fun y hy => by
 rcases List.mem_cons.mp hy with r | r
 ·rw [r]; exact ha
 ·rw [List.mem_singleton.mp r]; exact hb
theorem law7 (CC : LwC P w K mg base C BX) {f : Addr} {cdv : Value} {A : Around} {outer : List Env} {s : Shared} {H : Hp} {E : XK} (hr : Room 9 (cx P w K mg base NLw "law" s_law f cdv A outer s H E).A) :
  ∃ t, PSs (cx P w K mg base NLw "law" s_law f cdv A outer s H E) (List.drop 7 (defBody s_law)) t ∧ ∀ (Q : VK) (H1 : Hp) (a : Addr) (ns : List Int) (x1 x2 x5 x6 x7 : Option V) (y3 y4 : PySem.Str), SqL K H1 a (ns.map V.int) → y3.length ≤ 2400 → y4.length ≤ 2400 → (∀ H', Q (.bl true) H') → t { nx := fun _ H' => Q .non H', rt := Q } [some (.ref a), x1, x2, some (.str y3), some (.str y4), x5, x6, x7] H1 := by
 have hr1 : Room 1 _ := hr.mono (by decide)
 have hr2 : Room 2 _ := hr.mono (by decide)
 obtain ⟨t10, h10, r10⟩ := law10 (P := P) (w := w) (mg := mg) (base := base) (f := f) (cdv := cdv) (A := A) (outer := outer) (s := s) (H := H) (E := E) CC hr
 refine ⟨_, pss_cons (ps_set (i := 5) scLaw.nd rfl (Or.inl rfl) (pe_cl CC.cell hr1 rfl (pa_cons (pv 0) (pa_cons pe_int pa_nil))))
  (pss_cons (ps_set (i := 6) scLaw.nd rfl (Or.inl rfl) (pe_lst (pa_cons (pe_cl CC.other hr2 rfl (pa_cons (pv 3) (pa_cons (pv 5) (pa_cons pe_int pa_nil)))) (pa_cons (pe_cl CC.other hr2 rfl (pa_cons (pv 3) (pa_cons (pv 5) (pa_cons pe_int pa_nil)))) pa_nil))))
  (pss_cons (ps_for PassesOwn.never rfl (pi_list (pe_op op_cat (pe_op op_cat (pv 6) (pe_lst (pa_cons (pe_cl CC.other hr2 rfl (pa_cons (pv 4) (pa_cons (pv 5) (pa_cons pe_int pa_nil)))) (pa_cons (pe_cl CC.other hr2 rfl (pa_cons (pv 4) (pa_cons (pv 5) (pa_cons pe_int pa_nil)))) pa_nil)))) (pe_cl0 CC.few hr1 rfl))) (pg_name (i := 7) scLaw.nd rfl (Or.inl rfl))
   (pss_one (ps_if (pt_not (pt_val (pe_cl CC.rr hr rfl (pa_cons (pv 7) pa_nil)))) (pss_one (ps_ret pe_bl)) pss_nil))) h10)), ?_⟩
 intro Q H1 a ns x1 x2 x5 x6 x7 y3 y4 ha l3 l4 q
 have big : 1000 ≤ sizeLine := by decide
 refine ⟨_, rfl, a, ns, 2, rfl, ha, ?_⟩
 generalize ns.getD 2 0 = cell
 refine ⟨_, rfl, _, rfl, y3, cell, 0, rfl, l3, fun z1 H2 k1 s2 => ?_⟩
 refine ⟨_, rfl, _, rfl, y3, cell, 1, rfl, l3, fun z2 H3 k2 s3 => ?_⟩
 refine ⟨(by show 2 ≤ sizeLine; omega), fun p1 hp1 => ?_⟩
 have w1 := short_two (short_of l3 k1) (short_of l3 k2)
 have e1 : (upd H3 p1 (.lst [V.str z1, V.str z2])) p1 = some (.lst [V.str z1, V.str z2]) := upd_same
 generalize (upd H3 p1 (.lst [V.str z1, V.str z2])) = H4 at e1
 refine ⟨_, rfl, _, rfl, _, rfl, y4, cell, 2, rfl, l4, fun z3 H5 k3 s5 => ?_⟩
 refine ⟨_, rfl, _, rfl, y4, cell, 3, rfl, l4, fun z4 H6 k4 s6 => ?_⟩
 refine ⟨(by show 2 ≤ sizeLine; omega), fun p2 hp2 => ?_⟩
 have w2 := short_two (short_of l4 k3) (short_of l4 k4)
 have t2 := Same.upd (o := .lst [V.str z3, V.str z4]) hp2
 refine ⟨p1, p2, _, _, rfl, rfl, t2 _ _ (s6 _ _ (s5 _ _ e1)), upd_same, (by show 2 + 2 ≤ sizeLine; omega), fun p3 hp3 => ?_⟩
 have e3 : (upd (upd H6 p2 (.lst [V.str z3, V.str z4])) p3 (.lst ([V.str z1, V.str z2] ++ [V.str z3, V.str z4]))) p3 = some (.lst ([V.str z1, V.str z2] ++ [V.str z3, V.str z4])) := upd_same
 generalize (upd (upd H6 p2 (.lst [V.str z3, V.str z4])) p3 (.lst ([V.str z1, V.str z2] ++ [V.str z3, V.str z4]))) = H7 at e3
 refine ⟨rfl, fun p4 ys H8 s8 _ e8 w8 l8 => ?_⟩
 refine ⟨p3, p4, _, ys, rfl, rfl, s8 _ _ e3, e8, (by show 4 + ys.length ≤ sizeLine; omega), fun p5 hp5 => ?_⟩
 have wa := short_app (short_app w1 w2) w8
 have e5 : (upd H8 p5 (.lst (([V.str z1, V.str z2] ++ [V.str z3, V.str z4]) ++ ys))) p5 = some (.lst (([V.str z1, V.str z2] ++ [V.str z3, V.str z4]) ++ ys)) := upd_same
 generalize (upd H8 p5 (.lst (([V.str z1, V.str z2] ++ [V.str z3, V.str z4]) ++ ys))) = H9 at e5
 generalize (([V.str z1, V.str z2] ++ [V.str z3, V.str z4]) ++ ys) = xs at e5 wa
 refine ⟨p5, rfl, ⟨_, .of e5⟩, ?_⟩
 refine for_list (K := K) (a := p5) (xs := xs) (fun i σ H' => Same H9 H' ∧ ∃ x7, σ = [some (.ref a), x1, x2, some (.str y3), some (.str y4), some (.int cell), some (.ref p1), x7])
  ⟨Same.refl _, _, rfl⟩ (fun i σ H' _ h => .of (h.1 _ _ e5)) ?_ ?_
 ·rintro i x σ H' hx ⟨u1, x7, rfl⟩
  have hs := wa x (List.mem_of_getElem? hx)
  cases x with
  | str z =>
   refine ⟨_, rfl, z, rfl, of_decide_eq_true hs, fun H'' s'' => ⟨_, rfl, iteF ⟨u1.trans s'', _, rfl⟩⟩⟩
  | _ => cases hs
 ·rintro σ H' ⟨u1, x7, rfl⟩
  exact r10 Q H' _ q
end
end FQ
namespace FQ
open PySem L2 FK FT
section
variable {P : Program} {w : World} {K : PySem.W.Frag} {mg : Str → Option Value} {base : Heap} {aL aR C BX : Addr}
theorem CoQ.t {H : Hp} {v : V} {s : Rat × Rat} (h : CoQ K H v s) (hw : Wr s.1 ∧ Wr s.2) : SnT K H v (sn2 s) := by
 obtain ⟨p, a, b, rfl, hp, ha, hb⟩ := h
 obtain ⟨r, rfl, h1⟩ := fr_sq ha hw.1
 obtain ⟨r2, rfl, h2⟩ := fr_sq hb hw.2
 exact ⟨p, r, r2, rfl, hp, h1, h2⟩
def lawArg (i : Nat) : Expr := match (defBody s_law)[i]? with
 | some (.If (.Compare _ _ (e :: _) _) _ _ _) => e
 | _ => default
theorem law_st (CC : LwC P w K mg base C BX) {f : Addr} {cdv : Value} {A : Around} {outer : List Env} {s : Shared} {H : Hp} {E : XK} (hr : Room 9 (cx P w K mg base NLw "law" s_law f cdv A outer s H E).A) :
  ∃ t, PE (cx P w K mg base NLw "law" s_law f cdv A outer s H E) (lawArg 4) t ∧ ∀ (Q : VK) (H1 : Hp) (σ : St) (l : Addr) (ts : List V) (S : Steps), σ[1]? = some (some (.ref l)) → H1 l = some (.lst ts) → Paired (StQ K H1) ts S → S.length ≤ 8 → (∀ s ∈ S, Wr s.1 ∧ 0 ≤ s.2 ∧ s.2.toNat < 10 ^ 64) → (∀ H', Same H1 H' → Q (.str (mkS (jn 32 (S.map stQ)))) H') → t σ H1 Q := by
 have hr1 : Room 1 _ := hr.mono (by decide)
 refine ⟨_, pe_bm PySem.F.plainAttrs_str PySem.F.slot_str_join PySem.F.type_str_join mt_join pe_str (pa_cons (pe_comp ["_law_end", "_law_weight"] rfl (CompOk.plain rfl (by decide +kernel) (by decide +kernel) (by decide +kernel)) (pi_list (pv 1))
   (fun _ => pg_tup rfl (pgs_cons (pg_name (i := 0) (show [Str.ofString "_law_end", Str.ofString "_law_weight"].Nodup by decide +kernel) rfl (Or.inl rfl)) (pgs_cons (pg_name (i := 1) (show [Str.ofString "_law_end", Str.ofString "_law_weight"].Nodup by decide +kernel) rfl (Or.inl rfl)) pgs_nil))) (fun _ => pifs_nil)
   (fun _ => pe_op op_add_str (pe_op op_add_str (pe_callTy call_str_int (by rfl) CC.str PyProof.Rows.boot_str (pa_cons (pv 1) pa_nil)) pe_str) (pe_cl CC.txt hr1 rfl (pa_cons (pv 0) pa_nil)))) pa_nil), ?_⟩
 intro Q H1 σ l ts S h0 h1 hts l8 hw q
 have c32 : Str.ofString " " = (⟨#[32]⟩ : PySem.Str) := by decide +kernel
 have c64 : Str.ofString "@" = mkS [64] := by decide +kernel
 have big : 6000 ≤ sizeLine := by decide
 have ls : ts.length = S.length := hts.length
 refine ⟨rfl, _, h0, l, rfl, ⟨_, .of h1⟩, fun D1 hD1 => ?_⟩
 refine comp_list (K := K) (a := l) (D := D1) (xs := ts) (fun j ys σ H2 => Same H1 H2 ∧ H2 D1 = some (.lst ys) ∧ ys = (S.take j).map (fun s => V.str (mkS (stQ s))) ∧ j ≤ S.length ∧ ∃ x0 x1, σ = [x0, x1])
  (by omega) ⟨Same.upd hD1, upd_same, rfl, Nat.zero_le _, _, _, rfl⟩ ?_ ?_ ?_
 ·rintro j ys σ H2 _ ⟨u1, u2, u3, u4, _⟩
  refine ⟨.of (u1 _ _ h1), u2, ?_⟩
  rw [u3, List.length_map, List.length_take]
  omega
 ·rintro j y ys σ H2 hy ⟨u1, u2, u3, u4, x0, x1, rfl⟩ cc
  have jl : j < S.length := by have := (List.getElem?_eq_some_iff.mp hy).1; omega
  have hs : S[j]? = some S[j] := List.getElem?_eq_getElem jl
  obtain ⟨p, a, b, rfl, hp, ha, hb⟩ := StQ.same u1 (Paired.get hts _ _ _ hy hs)
  generalize S[j] = sv at hs ha hb
  obtain ⟨w1, w2, w3⟩ := hw sv (List.mem_of_getElem? hs)
  have hb : b = .int sv.2 := hb
  have e2 : sv.2 = ((sv.2.toNat : Nat) : Int) := (Int.toNat_of_nonneg w2).symm
  subst hb
  obtain ⟨r, rfl, hr'⟩ := fr_sq ha w1
  have d2 := dig_len w3
  have d1 := wr_len w1
  have l300 : sv.2.toNat < 10 ^ 300 := Nat.lt_of_lt_of_le w3 (Nat.pow_le_pow_right (by decide) (by decide))
  refine ⟨p, _, rfl, hp, rfl, _, _, rfl, _, _, rfl, rfl, ?_⟩
  refine ⟨_, rfl, _, rfl, by rw [e2]; exact log_lt l300, ?_⟩
  rw [e2, str_mk, ← e2]
  refine ⟨_, _, rfl, rfl, by rw [c64, mk_len, mk_len]; show _ + 1 ≤ _; omega, ?_⟩
  rw [c64, mk_app]
  refine ⟨_, rfl, r, ofQ sv.1, rfl, hr', w1.2.1, w1.2.2, fun H4 t4 => ?_⟩
  refine ⟨_, _, rfl, rfl, by rw [mk_len, mk_len, List.length_append]; show _ + 1 + _ ≤ _; omega, ?_⟩
  rw [mk_app, List.append_assoc]
  refine ⟨t4 _ _ u2, (u1.trans t4).updN hD1, upd_same, ?_, by omega, _, _, rfl⟩
  rw [u3, take_snoc hs, List.map_append]
  rfl
 ·rintro ys σ H2 ⟨u1, u2, u3, u4, x0, x1, rfl⟩
  rw [ls, List.take_length] at u3
  have e : ys = (S.map fun s => mkS (stQ s)).map V.str := by rw [u3, List.map_map]; rfl
  refine ⟨_, D1, S.map (fun s => mkS (stQ s)), rfl, rfl, .of (by rw [u2, e]), ?_, ?_⟩
  ·refine join_ok 200 (fun w hw' => ?_) (by rw [List.length_map]; omega)
   obtain ⟨s, hs, rfl⟩ := List.mem_map.mp hw'
   obtain ⟨w1, w2, w3⟩ := hw s hs
   have d2 := dig_len w3
   have d1 := wr_len w1
   rw [mk_len, c32]
   show (dig s.2.toNat ++ 64 :: frT (ofQ s.1)).length + 1 ≤ 200
   rw [List.length_append, List.length_cons]
   omega
  ·have := q H2 u1
   rw [show Txt.join (Str.ofString " ") (S.map fun s => mkS (stQ s)) = mkS (jn 32 (S.map stQ)) from tl_inj (by
    rw [c32, glued_jn, List.map_map, tl_mk]
    rfl)]
   exact this
theorem law_sn (CC : LwC P w K mg base C BX) {f : Addr} {cdv : Value} {A : Around} {outer : List Env} {s : Shared} {H : Hp} {E : XK} (hr : Room 9 (cx P w K mg base NLw "law" s_law f cdv A outer s H E).A) :
  ∃ t, PE (cx P w K mg base NLw "law" s_law f cdv A outer s H E) (lawArg 5) t ∧ ∀ (Q : VK) (H1 : Hp) (σ : St) (l : Addr) (ts : List V) (L : List (Rat × Rat)), σ[2]? = some (some (.ref l)) → H1 l = some (.lst ts) → Paired (CoQ K H1) ts L → L.length ≤ 8 → (∀ s ∈ L, Wr s.1 ∧ Wr s.2) → (∀ H', Same H1 H' → Q (.str (mkS (jn 32 (L.map snQ)))) H') → t σ H1 Q := by
 have hr1 : Room 1 _ := hr.mono (by decide)
 refine ⟨_, pe_bm PySem.F.plainAttrs_str PySem.F.slot_str_join PySem.F.type_str_join mt_join pe_str (pa_cons (pe_comp ["_law_start", "_law_end"] rfl (CompOk.plain rfl (by decide +kernel) (by decide +kernel) (by decide +kernel)) (pi_list (pv 2))
   (fun _ => pg_tup rfl (pgs_cons (pg_name (i := 0) (show [Str.ofString "_law_start", Str.ofString "_law_end"].Nodup by decide +kernel) rfl (Or.inl rfl)) (pgs_cons (pg_name (i := 1) (show [Str.ofString "_law_start", Str.ofString "_law_end"].Nodup by decide +kernel) rfl (Or.inl rfl)) pgs_nil))) (fun _ => pifs_nil)
   (fun _ => pe_op op_add_str (pe_op op_add_str (pe_cl CC.txt hr1 rfl (pa_cons (pv 0) pa_nil)) pe_str) (pe_cl CC.txt hr1 rfl (pa_cons (pv 1) pa_nil)))) pa_nil), ?_⟩
 intro Q H1 σ l ts L h0 h1 hts l8 hw q
 have c32 : Str.ofString " " = (⟨#[32]⟩ : PySem.Str) := by decide +kernel
 have c45 : Str.ofString "-" = mkS [45] := by decide +kernel
 have big : 6000 ≤ sizeLine := by decide
 have ls : ts.length = L.length := hts.length
 refine ⟨rfl, _, h0, l, rfl, ⟨_, .of h1⟩, fun D1 hD1 => ?_⟩
 refine comp_list (K := K) (a := l) (D := D1) (xs := ts) (fun j ys σ H2 => Same H1 H2 ∧ H2 D1 = some (.lst ys) ∧ ys = (L.take j).map (fun s => V.str (mkS (snQ s))) ∧ j ≤ L.length ∧ ∃ x0 x1, σ = [x0, x1])
  (by omega) ⟨Same.upd hD1, upd_same, rfl, Nat.zero_le _, _, _, rfl⟩ ?_ ?_ ?_
 ·rintro j ys σ H2 _ ⟨u1, u2, u3, u4, _⟩
  refine ⟨.of (u1 _ _ h1), u2, ?_⟩
  rw [u3, List.length_map, List.length_take]
  omega
 ·rintro j y ys σ H2 hy ⟨u1, u2, u3, u4, x0, x1, rfl⟩ cc
  have jl : j < L.length := by have := (List.getElem?_eq_some_iff.mp hy).1; omega
  have hs : L[j]? = some L[j] := List.getElem?_eq_getElem jl
  obtain ⟨p, a, b, rfl, hp, ha, hb⟩ := CoQ.same u1 (Paired.get hts _ _ _ hy hs)
  generalize L[j] = sv at hs ha hb
  obtain ⟨w1, w2⟩ := hw sv (List.mem_of_getElem? hs)
  obtain ⟨r, rfl, hr'⟩ := fr_sq ha w1
  obtain ⟨r2, rfl, hr2'⟩ := fr_sq hb w2
  have d1 := wr_len w1
  have d2 := wr_len w2
  refine ⟨p, _, rfl, hp, rfl, _, _, rfl, _, _, rfl, rfl, ?_⟩
  refine ⟨_, rfl, r, ofQ sv.1, rfl, hr', w1.2.1, w1.2.2, fun H3 t3 => ?_⟩
  refine ⟨_, _, rfl, rfl, by rw [c45, mk_len, mk_len]; show _ + 1 ≤ _; omega, ?_⟩
  rw [c45, mk_app]
  refine ⟨_, rfl, r2, ofQ sv.2, rfl, t3.sqT hr2', w2.2.1, w2.2.2, fun H4 t4 => ?_⟩
  refine ⟨_, _, rfl, rfl, by rw [mk_len, mk_len, List.length_append]; show _ + 1 + _ ≤ _; omega, ?_⟩
  rw [mk_app, List.append_assoc]
  have t34 := t3.trans t4
  refine ⟨t34 _ _ u2, (u1.trans t34).updN hD1, upd_same, ?_, by omega, _, _, rfl⟩
  rw [u3, take_snoc hs, List.map_append]
  rfl
 ·rintro ys σ H2 ⟨u1, u2, u3, u4, x0, x1, rfl⟩
  rw [ls, List.take_length] at u3
  have e : ys = (L.map fun s => mkS (snQ s)).map V.str := by rw [u3, List.map_map]; rfl
  refine ⟨_, D1, L.map (fun s => mkS (snQ s)), rfl, rfl, .of (by rw [u2, e]), ?_, ?_⟩
  ·refine join_ok 260 (fun w hw' => ?_) (by rw [List.length_map]; omega)
   obtain ⟨s, hs, rfl⟩ := List.mem_map.mp hw'
   obtain ⟨w1, w2⟩ := hw s hs
   have d1 := wr_len w1
   have d2 := wr_len w2
   rw [mk_len, c32]
   show (frT (ofQ s.1) ++ 45 :: frT (ofQ s.2)).length + 1 ≤ 260
   rw [List.length_append, List.length_cons]
   omega
  ·have := q H2 u1
   rw [show Txt.join (Str.ofString " ") (L.map fun s => mkS (snQ s)) = mkS (jn 32 (L.map snQ)) from tl_inj (by
    rw [c32, glued_jn, List.map_map, tl_mk]
    rfl)]
   exact this
end
end FQ
namespace FQ
open PySem L2 FK FT
section
variable {P : Program} {w : World} {K : PySem.W.Frag} {mg : Str → Option Value} {base : Heap} {aL aR C BX : Addr}
theorem law4 (CC : LwC P w K mg base C BX) (TC : TxtC K C) {f : Addr} {cdv : Value} {A : Around} {outer : List Env} {s : Shared} {H : Hp} {E : XK} (hr : Room 9 (cx P w K mg base NLw "law" s_law f cdv A outer s H E).A) :
  ∃ t, PSs (cx P w K mg base NLw "law" s_law f cdv A outer s H E) (List.drop 4 (defBody s_law)) t ∧ ∀ (Q : VK) (H1 : Hp) (a ls lp : Addr) (ns : List Int) (ts zs : List V) (p n : Nat) (S : Steps) (L : List (Rat × Rat)) (x5 x6 x7 : Option V), SqL K H1 a (ns.map V.int) → H1 ls = some (.lst ts) → Paired (StQ K H1) ts S → TsOk p S → H1 lp = some (.lst zs) → Paired (CoQ K H1) zs L → PcOk n L → n ≤ 1000 → L.length ≤ 8 → (∀ H', Q (.bl true) H') →
   t { nx := fun _ H' => Q .non H', rt := Q } [some (.ref a), some (.ref ls), some (.ref lp), some (.str (mkS (jn 32 (S.map stQ)))), some (.str (mkS (jn 32 (L.map snQ)))), x5, x6, x7] H1 := by
 have hr1 : Room 1 _ := hr.mono (by decide)
 have hr5 : Room 5 _ := hr.mono (by decide)
 have hr7 : Room 7 _ := hr.mono (by decide)
 have hu3' : _ + (2 + 1) < cLine := Nat.lt_of_le_of_lt (Nat.add_le_add_left (by decide : 3 ≤ 64) _) hr.units
 obtain ⟨t7, h7, r7⟩ := law7 (P := P) (w := w) (mg := mg) (base := base) (f := f) (cdv := cdv) (A := A) (outer := outer) (s := s) (H := H) (E := E) CC hr
 obtain ⟨t4, h4, r4⟩ := law_st (P := P) (w := w) (mg := mg) (base := base) (f := f) (cdv := cdv) (A := A) (outer := outer) (s := s) (H := H) (E := E) CC hr
 obtain ⟨t5, h5, r5⟩ := law_sn (P := P) (w := w) (mg := mg) (base := base) (f := f) (cdv := cdv) (A := A) (outer := outer) (s := s) (H := H) (E := E) CC hr
 refine ⟨_, pss_cons (ps_if (pt_cmpR op_ne (pv 3) h4 (nomark _)) (pss_one (ps_ret pe_bl)) pss_nil)
  (pss_cons (ps_if (pt_cmpR op_ne (pv 4) h5 (nomark _)) (pss_one (ps_ret pe_bl)) pss_nil)
  (pss_cons (ps_if (PW.pt (pw_or (pt_cmpR (op_neL rpe_st hu3') (pe_ml0 CC.told TC.cl hr1 (pe_cl CC.tOf hr7 rfl (pa_cons (pv 3) pa_nil))) (pv 1) (nomark _)) (pw_or1 (pt_cmpR (op_neL rpe_sn hu3') (pe_cl CC.pOf hr5 rfl (pa_cons (pv 4) pa_nil)) (pv 2) (nomark _))))) (pss_one (ps_ret pe_bl)) pss_nil) h7)), ?_⟩
 intro Q H1 a ls lp ns ts zs p n S L x5 x6 x7 ha hL hS ok hP hZ okp n1 l8 q
 obtain ⟨w1, rd1, toS1, len1⟩ := ts_all ok
 obtain ⟨w2, rd2, len2⟩ := pc_all okp n1 l8
 have ln (x : List Nat) : (mkS x).length = x.length := mk_len x
 refine ⟨_, rfl, r4 _ _ _ ls ts S rfl hL hS ok.len w1 fun H2 s2 => ⟨rfl, _, rfl, iteNS rfl ?_⟩⟩
 refine ⟨_, rfl, r5 _ _ _ lp zs L rfl (s2 _ _ hP) (Paired.mapP hZ fun _ _ z => CoQ.same s2 z) l8 w2 fun H3 s3 => ⟨rfl, _, rfl, iteNS rfl ?_⟩⟩
 have s23 := s2.trans s3
 have hL3 := s23 _ _ hL
 have hP3 := s23 _ _ hP
 have hS3 : Paired (StQ K H3) ts S := Paired.mapP hS fun _ _ z => StQ.same s23 z
 have hZ3 : Paired (CoQ K H3) zs L := Paired.mapP hZ fun _ _ z => CoQ.same s23 z
 have ha3 : SqL K H3 a (ns.map V.int) := s23.seq ha
 refine ⟨_, rfl, .str (mkS (jn 32 (S.map stQ))), .str (mkS (jn 32 (S.map stQ))), rfl, rfl, (fun x z => by cases z; rw [ln]; omega), (fun x S' z e y lt ll H4 s4 ta => ?_), fun no => ?_⟩
 ·cases z
  rw [tl_mk, rd1] at e
  cases e
  rw [toS1] at ta
  obtain ⟨dx, hx⟩ := ta.ins
  refine ⟨y, dx, _, rfl, hx, rfl, y, lt, ll, S, rfl, ta, fun l us hl hus => ?_⟩
  have s5 := Same.upd (o := .lst us) hl
  have s45 := s4.trans s5
  refine ⟨_, rfl, S, S, ⟨l, us, rfl, sqL_new, Paired.mapP hus fun _ _ z => StQ.same s5 z⟩, ⟨ls, ts, rfl, .of (s45 _ _ hL3), Paired.mapP hS3 fun _ _ z => StQ.same s45 z⟩, _, rfl, iteNS rfl ?_⟩
  refine ⟨_, rfl, .str (mkS (jn 32 (L.map snQ))), .str (mkS (jn 32 (L.map snQ))), rfl, rfl, (fun x z => by cases z; rw [ln]; omega), (fun x L' z e q' ys H6 s6 hq hys => ?_), fun no => ?_⟩
  ·cases z
   rw [tl_mk, rd2] at e
   cases e
   have s456 := s45.trans s6
   refine ⟨_, rfl, (L.map sn2).map snI, (L.map sn2).map snI, ⟨q', ys, rfl, .of hq, paired_map (fun _ _ z => SnT.i z) hys⟩, ⟨lp, zs, rfl, .of (s456 _ _ hP3), paired_map (fun _ _ z => SnT.i z) (paired_mapM (fun v b hb z => CoQ.t (CoQ.same s456 z) (w2 b hb)) hZ3)⟩, _, rfl, iteNS rfl ?_⟩
   exact r7 Q H6 a ns _ _ _ _ _ _ _ (s456.seq ha3) (by rw [ln]; exact len1) (by rw [ln]; exact len2) q
  ·exact absurd (no _ rfl) (by rw [tl_mk, rd2]; exact fun z => nomatch z)
 ·exact absurd (no _ rfl) (by rw [tl_mk, rd1]; exact fun z => nomatch z)
theorem ok_law {f : Addr} {fd : FuncData} (D : DefAt K mg "law" s_law ["_law_script"] f fd) (CC : LwC P w K mg base C BX) (T : Txt K mg aL aR) (TC : TxtC K C) : FnOk P w K mg base CX0 10 f fd ["_law_script"] (spLaw K) := by
 refine D.fn.ok scLaw (fun vs H Q E h => ?_) (fun cdv A outer s H vs Q E hr h => ?_)
 ·obtain ⟨a, ns, rfl, _⟩ := h
  rfl
 ·obtain ⟨a, ns, rfl, ha, hl, k⟩ := h
  have hr1 : Room 1 _ := hr.mono (by decide)
  have hr2 : Room 2 _ := hr.mono (by decide)
  have hr3 : Room 3 _ := hr.mono (by decide)
  have hr5 : Room 5 _ := hr.mono (by decide)
  have hr6 : Room 6 _ := hr.mono (by decide)
  obtain ⟨t4, h4, r4⟩ := law4 (P := P) (w := w) (mg := mg) (base := base) (f := f) (cdv := cdv) (A := A) (outer := outer) (s := s) (H := H) (E := E) CC TC hr
  refine ⟨_, pss_cons (ps_set (i := 1) scLaw.nd rfl (Or.inl rfl) (pe_cl CC.steps hr2 rfl (pa_cons (pe_cl CC.cell hr1 rfl (pa_cons (pv 0) (pa_cons pe_int pa_nil))) pa_nil)))
   (pss_cons (ps_set (i := 2) scLaw.nd rfl (Or.inl rfl) (pe_cl CC.piece hr2 rfl (pa_cons (pe_cl CC.cell hr1 rfl (pa_cons (pv 0) (pa_cons pe_int pa_nil))) pa_nil)))
   (pss_cons (ps_set (i := 3) scLaw.nd rfl (Or.inl rfl) (pe_cl CC.tt hr3 rfl (pa_cons (pe_mk CC.make hr6 rfl (pa_cons (pe_callTy call_list_of rfl T.list PyProof.Rows.boot_list (pa_cons (pv 1) pa_nil)) pa_nil)) pa_nil)))
   (pss_cons (ps_set (i := 4) scLaw.nd rfl (Or.inl rfl) (pe_cl CC.pt hr5 rfl (pa_cons (pe_callTy call_list_of rfl T.list PyProof.Rows.boot_list (pa_cons (pv 2) pa_nil)) pa_nil))) h4))), ?_⟩
  refine ⟨_, rfl, a, ns, 0, rfl, ha, _, rfl, fun ls ts p S H1 s1 hls hL hS ok => ?_⟩
  refine ⟨_, rfl, a, ns, 1, rfl, s1.seq ha, _, rfl, fun lp zs n L H2 s2 hlp hP hZ okp n1 l8 => ?_⟩
  obtain ⟨w1, _, _, _⟩ := ts_all ok
  obtain ⟨w2, _, _⟩ := pc_all okp n1 l8
  refine ⟨_, rfl, ls, ts, rfl, .inl (.of (s2 _ _ hL)), fun lh hlh => ?_⟩
  have s3 := Same.upd (o := .lst ts) hlh
  refine mk_taste (C := C) (p := p) (S := S) sqL_new (Paired.mapP hS fun _ _ z => StQ.same (s2.trans s3) z) ok fun x lt ll H3 s4 _ _ _ ta => ?_
  refine ⟨x, lt, ll, S, rfl, ta, ok.len, w1, fun H4 s5 => ?_⟩
  have s24 := s3.trans (s4.trans s5)
  refine ⟨_, rfl, lp, zs, rfl, .inl (.of (s24 _ _ hP)), fun lk hlk => ?_⟩
  have s6 := Same.upd (o := .lst zs) hlk
  refine ⟨lk, zs, n, L, rfl, sqL_new, Paired.mapP hZ fun _ _ z => CoQ.same (s24.trans s6) z, okp, by omega, w2, fun H6 s7 => ?_⟩
  have s26 := s24.trans (s6.trans s7)
  exact r4 Q H6 a ls lp ns ts zs p n S L _ _ _ ((s1.trans (s2.trans s26)).seq ha) ((s2.trans s26) _ _ hL) (Paired.mapP hS fun _ _ z => StQ.same (s2.trans s26) z) ok (s26 _ _ hP) (Paired.mapP hZ fun _ _ z => CoQ.same s26 z) okp n1 l8 k
end
end FQ
namespace FQ
open PySem L2 FK FT
def spInitX (K : PySem.W.Frag) (BT : Addr) : Sp := fun vs H _ E => ∃ (x y : V) (t : Tr), vs = [x, y] ∧ Rd K H t y ∧ Smt t ∧ stepsOk t = false ∧ E (.ref BT) none H
section
variable {P : Program} {w : World} {K : PySem.W.Frag} {mg : Str → Option Value} {base : Heap} {aL aR C BT : Addr}
theorem ok_initX {f : Addr} {fd : FuncData} (D : Fun K "__init__" "Taste.__init__" m_Taste___init__ f fd) (CS : ClX P w K mg base BT "check_steps" 4 ["steps"] (spStepsT K BT)) : FnOk P w K mg base (CX1 P w BT) 5 f fd ["self", "steps"] (spInitX K BT) := by
 refine D.okX scInit (fun vs H Q E h => ?_) (fun cdv A outer s H vs Q E hr h => ?_)
 ·obtain ⟨x, y, t, rfl, _⟩ := h
  rfl
 ·obtain ⟨x, y, t, rfl, hy, sm, bad, k⟩ := h
  exact ⟨_, pss_cons (ps_expr (pe_clX CS hr rfl (pa_cons (pv 1) pa_nil))) pss_never, _, rfl, y, t, rfl, hy, sm, (fun z => by rw [bad] at z; cases z), fun _ => k⟩
theorem ok_initR {f : Addr} {fd : FuncData} (D : Fun K "__init__" "Taste.__init__" m_Taste___init__ f fd) (CSX : ClX P w K mg base BT "check_steps" 4 ["steps"] (spStepsT K BT)) (CS : Cl P w K mg base "check_steps" 4 ["steps"] (spSteps K)) (CL : Cl P w K mg base "worth_line" 4 ["steps"] (spLine K)) (T : Txt K mg aL aR) (TC : TxtC K C) : FnOk P w K mg base (CX1 P w BT) 5 f fd ["self", "steps"] (spInitR K C BT) :=
 FnOk.or (ok_initX D CSX) (FnOk.lift (ok_init D CS CL T TC))
end
end FQ
namespace FQ
open PySem L2 FK
theorem all_mk {l : PySem.W.OpenLaw} {w : World} {K : PySem.W.Frag} {h : Heap} {mg : Str → Option Value} {fa : Addr} (X : K.In h) (G : h.Ns mainGlobals mg) (hfa : mg "law" = some (.ref fa))
  {f1 : Addr} {od1 an1 : Option Addr} {sl1 : Array (Option Value)} {oc1 kV1 dc1 pm1 cd1 ct1 : Value}
  {f2 : Addr} {od2 an2 : Option Addr} {sl2 : Array (Option Value)} {oc2 kV2 dc2 pm2 cd2 ct2 : Value}
  {f3 : Addr} {od3 an3 : Option Addr} {sl3 : Array (Option Value)} {oc3 kV3 dc3 pm3 cd3 ct3 : Value}
  {f4 : Addr} {od4 an4 : Option Addr} {sl4 : Array (Option Value)} {oc4 kV4 dc4 pm4 cd4 ct4 : Value}
  {f5 : Addr} {od5 an5 : Option Addr} {sl5 : Array (Option Value)} {oc5 kV5 dc5 pm5 cd5 ct5 : Value}
  {f6 : Addr} {od6 an6 : Option Addr} {sl6 : Array (Option Value)} {oc6 kV6 dc6 pm6 cd6 ct6 : Value}
  {f7 : Addr} {od7 an7 : Option Addr} {sl7 : Array (Option Value)} {oc7 kV7 dc7 pm7 cd7 ct7 : Value}
  {f8 : Addr} {od8 an8 : Option Addr} {sl8 : Array (Option Value)} {oc8 kV8 dc8 pm8 cd8 ct8 : Value}
  {f9 : Addr} {od9 an9 : Option Addr} {sl9 : Array (Option Value)} {oc9 kV9 dc9 pm9 cd9 ct9 : Value}
  {f10 : Addr} {od10 an10 : Option Addr} {sl10 : Array (Option Value)} {oc10 kV10 dc10 pm10 cd10 ct10 : Value}
  {f11 : Addr} {od11 an11 : Option Addr} {sl11 : Array (Option Value)} {oc11 kV11 dc11 pm11 cd11 ct11 : Value}
  {f12 : Addr} {od12 an12 : Option Addr} {sl12 : Array (Option Value)} {oc12 kV12 dc12 pm12 cd12 ct12 : Value}
  {f13 : Addr} {od13 an13 : Option Addr} {sl13 : Array (Option Value)} {oc13 kV13 dc13 pm13 cd13 ct13 : Value}
  {f14 : Addr} {od14 an14 : Option Addr} {sl14 : Array (Option Value)} {oc14 kV14 dc14 pm14 cd14 ct14 : Value}
  {f15 : Addr} {od15 an15 : Option Addr} {sl15 : Array (Option Value)} {oc15 kV15 dc15 pm15 cd15 ct15 : Value}
  {f16 : Addr} {od16 an16 : Option Addr} {sl16 : Array (Option Value)} {oc16 kV16 dc16 pm16 cd16 ct16 : Value}
  {f17 : Addr} {od17 an17 : Option Addr} {sl17 : Array (Option Value)} {oc17 kV17 dc17 pm17 cd17 ct17 : Value}
  {f18 : Addr} {od18 an18 : Option Addr} {sl18 : Array (Option Value)} {oc18 kV18 dc18 pm18 cd18 ct18 : Value}
  {f19 : Addr} {od19 an19 : Option Addr} {sl19 : Array (Option Value)} {oc19 kV19 dc19 pm19 cd19 ct19 : Value}
  {f20 : Addr} {od20 an20 : Option Addr} {sl20 : Array (Option Value)} {oc20 kV20 dc20 pm20 cd20 ct20 : Value}
  {f21 : Addr} {od21 an21 : Option Addr} {sl21 : Array (Option Value)} {oc21 kV21 dc21 pm21 cd21 ct21 : Value}
  {f22 : Addr} {od22 an22 : Option Addr} {sl22 : Array (Option Value)} {oc22 kV22 dc22 pm22 cd22 ct22 : Value}
  {f23 : Addr} {od23 an23 : Option Addr} {sl23 : Array (Option Value)} {oc23 kV23 dc23 pm23 cd23 ct23 : Value}
  {f24 : Addr} {od24 an24 : Option Addr} {sl24 : Array (Option Value)} {oc24 kV24 dc24 pm24 cd24 ct24 : Value}
  {f25 : Addr} {od25 an25 : Option Addr} {sl25 : Array (Option Value)} {oc25 kV25 dc25 pm25 cd25 ct25 : Value}
  {f26 : Addr} {od26 an26 : Option Addr} {sl26 : Array (Option Value)} {oc26 kV26 dc26 pm26 cd26 ct26 : Value}
  {f27 : Addr} {od27 an27 : Option Addr} {sl27 : Array (Option Value)} {oc27 kV27 dc27 pm27 cd27 ct27 : Value}
  {f28 : Addr} {od28 an28 : Option Addr} {sl28 : Array (Option Value)} {oc28 kV28 dc28 pm28 cd28 ct28 : Value}
  {f29 : Addr} {od29 an29 : Option Addr} {sl29 : Array (Option Value)} {oc29 kV29 dc29 pm29 cd29 ct29 : Value}
  {f30 : Addr} {od30 an30 : Option Addr} {sl30 : Array (Option Value)} {oc30 kV30 dc30 pm30 cd30 ct30 : Value}
  {f31 : Addr} {od31 an31 : Option Addr} {sl31 : Array (Option Value)} {oc31 kV31 dc31 pm31 cd31 ct31 : Value}
  {f32 : Addr} {od32 an32 : Option Addr} {sl32 : Array (Option Value)} {oc32 kV32 dc32 pm32 cd32 ct32 : Value}
  {f33 : Addr} {od33 an33 : Option Addr} {sl33 : Array (Option Value)} {oc33 kV33 dc33 pm33 cd33 ct33 : Value}
  {f34 : Addr} {od34 an34 : Option Addr} {sl34 : Array (Option Value)} {oc34 kV34 dc34 pm34 cd34 ct34 : Value}
  {f35 : Addr} {od35 an35 : Option Addr} {sl35 : Array (Option Value)} {oc35 kV35 dc35 pm35 cd35 ct35 : Value}
  {f36 : Addr} {od36 an36 : Option Addr} {sl36 : Array (Option Value)} {oc36 kV36 dc36 pm36 cd36 ct36 : Value}
  {f37 : Addr} {od37 an37 : Option Addr} {sl37 : Array (Option Value)} {oc37 kV37 dc37 pm37 cd37 ct37 : Value}
  {f38 : Addr} {od38 an38 : Option Addr} {sl38 : Array (Option Value)} {oc38 kV38 dc38 pm38 cd38 ct38 : Value}
  {f39 : Addr} {od39 an39 : Option Addr} {sl39 : Array (Option Value)} {oc39 kV39 dc39 pm39 cd39 ct39 : Value}
  {f40 : Addr} {od40 an40 : Option Addr} {sl40 : Array (Option Value)} {oc40 kV40 dc40 pm40 cd40 ct40 : Value}
  {f41 : Addr} {od41 an41 : Option Addr} {sl41 : Array (Option Value)} {oc41 kV41 dc41 pm41 cd41 ct41 : Value}
  {f42 : Addr} {od42 an42 : Option Addr} {sl42 : Array (Option Value)} {oc42 kV42 dc42 pm42 cd42 ct42 : Value}
  {C : Addr}
  {fCm0 : Addr} {odCm0 anCm0 : Option Addr} {slCm0 : Array (Option Value)} {ocCm0 kVCm0 dcCm0 pmCm0 cdCm0 ctCm0 : Value}
  {fCm1 : Addr} {odCm1 anCm1 : Option Addr} {slCm1 : Array (Option Value)} {ocCm1 kVCm1 dcCm1 pmCm1 cdCm1 ctCm1 : Value}
  {aL aR : Addr} {odL odR : Option Addr} {tL uL tR uR t8 t1 t2 : Tok} {nL nR : Nat} {slL slR : Array (Option Value)}
  {cF cT cP cK cL cX cB : Addr} {tF tM : Tok}
  (a1 : PySem.W.nsIn K mainGlobals "is_whole" = some (some (.ref f1)))
  (l1 : K.lookup f1 = some ⟨oc1, od1, .func (PySem.W.fnOf "is_whole" "is_whole" (defArgs s_is_whole) (defBody s_is_whole) (defScope s_is_whole) .none kV1 dc1 pm1 an1 cd1 ct1), sl1⟩) (c1 : PySem.W.codeIn K cd1 "is_whole" = true) (k1 : PySem.W.keepIn K (.ref f1) = true)
  (a2 : PySem.W.nsIn K mainGlobals "greatest_divisor" = some (some (.ref f2)))
  (l2 : K.lookup f2 = some ⟨oc2, od2, .func (PySem.W.fnOf "greatest_divisor" "greatest_divisor" (defArgs s_greatest_divisor) (defBody s_greatest_divisor) (defScope s_greatest_divisor) .none kV2 dc2 pm2 an2 cd2 ct2), sl2⟩) (c2 : PySem.W.codeIn K cd2 "greatest_divisor" = true) (k2 : PySem.W.keepIn K (.ref f2) = true)
  (a3 : PySem.W.nsIn K mainGlobals "is_fraction" = some (some (.ref f3)))
  (l3 : K.lookup f3 = some ⟨oc3, od3, .func (PySem.W.fnOf "is_fraction" "is_fraction" (defArgs s_is_fraction) (defBody s_is_fraction) (defScope s_is_fraction) .none kV3 dc3 pm3 an3 cd3 ct3), sl3⟩) (c3 : PySem.W.codeIn K cd3 "is_fraction" = true) (k3 : PySem.W.keepIn K (.ref f3) = true)
  (a4 : PySem.W.nsIn K mainGlobals "made" = some (some (.ref f4)))
  (l4 : K.lookup f4 = some ⟨oc4, od4, .func (PySem.W.fnOf "made" "made" (defArgs s_made) (defBody s_made) (defScope s_made) .none kV4 dc4 pm4 an4 cd4 ct4), sl4⟩) (c4 : PySem.W.codeIn K cd4 "made" = true) (k4 : PySem.W.keepIn K (.ref f4) = true)
  (a5 : PySem.W.nsIn K mainGlobals "plus" = some (some (.ref f5)))
  (l5 : K.lookup f5 = some ⟨oc5, od5, .func (PySem.W.fnOf "plus" "plus" (defArgs s_plus) (defBody s_plus) (defScope s_plus) .none kV5 dc5 pm5 an5 cd5 ct5), sl5⟩) (c5 : PySem.W.codeIn K cd5 "plus" = true) (k5 : PySem.W.keepIn K (.ref f5) = true)
  (a6 : PySem.W.nsIn K mainGlobals "minus" = some (some (.ref f6)))
  (l6 : K.lookup f6 = some ⟨oc6, od6, .func (PySem.W.fnOf "minus" "minus" (defArgs s_minus) (defBody s_minus) (defScope s_minus) .none kV6 dc6 pm6 an6 cd6 ct6), sl6⟩) (c6 : PySem.W.codeIn K cd6 "minus" = true) (k6 : PySem.W.keepIn K (.ref f6) = true)
  (a7 : PySem.W.nsIn K mainGlobals "times" = some (some (.ref f7)))
  (l7 : K.lookup f7 = some ⟨oc7, od7, .func (PySem.W.fnOf "times" "times" (defArgs s_times) (defBody s_times) (defScope s_times) .none kV7 dc7 pm7 an7 cd7 ct7), sl7⟩) (c7 : PySem.W.codeIn K cd7 "times" = true) (k7 : PySem.W.keepIn K (.ref f7) = true)
  (a8 : PySem.W.nsIn K mainGlobals "over" = some (some (.ref f8)))
  (l8 : K.lookup f8 = some ⟨oc8, od8, .func (PySem.W.fnOf "over" "over" (defArgs s_over) (defBody s_over) (defScope s_over) .none kV8 dc8 pm8 an8 cd8 ct8), sl8⟩) (c8 : PySem.W.codeIn K cd8 "over" = true) (k8 : PySem.W.keepIn K (.ref f8) = true)
  (a9 : PySem.W.nsIn K mainGlobals "below" = some (some (.ref f9)))
  (l9 : K.lookup f9 = some ⟨oc9, od9, .func (PySem.W.fnOf "below" "below" (defArgs s_below) (defBody s_below) (defScope s_below) .none kV9 dc9 pm9 an9 cd9 ct9), sl9⟩) (c9 : PySem.W.codeIn K cd9 "below" = true) (k9 : PySem.W.keepIn K (.ref f9) = true)
  (a10 : PySem.W.nsIn K mainGlobals "is_span" = some (some (.ref f10)))
  (l10 : K.lookup f10 = some ⟨oc10, od10, .func (PySem.W.fnOf "is_span" "is_span" (defArgs s_is_span) (defBody s_is_span) (defScope s_is_span) .none kV10 dc10 pm10 an10 cd10 ct10), sl10⟩) (c10 : PySem.W.codeIn K cd10 "is_span" = true) (k10 : PySem.W.keepIn K (.ref f10) = true)
  (a11 : PySem.W.nsIn K mainGlobals "check_piece" = some (some (.ref f11)))
  (l11 : K.lookup f11 = some ⟨oc11, od11, .func (PySem.W.fnOf "check_piece" "check_piece" (defArgs s_check_piece) (defBody s_check_piece) (defScope s_check_piece) .none kV11 dc11 pm11 an11 cd11 ct11), sl11⟩) (c11 : PySem.W.codeIn K cd11 "check_piece" = true) (k11 : PySem.W.keepIn K (.ref f11) = true)
  (a12 : PySem.W.nsIn K mainGlobals "check_step" = some (some (.ref f12)))
  (l12 : K.lookup f12 = some ⟨oc12, od12, .func (PySem.W.fnOf "check_step" "check_step" (defArgs s_check_step) (defBody s_check_step) (defScope s_check_step) .none kV12 dc12 pm12 an12 cd12 ct12), sl12⟩) (c12 : PySem.W.codeIn K cd12 "check_step" = true) (k12 : PySem.W.keepIn K (.ref f12) = true)
  (a13 : PySem.W.nsIn K mainGlobals "check_steps" = some (some (.ref f13)))
  (l13 : K.lookup f13 = some ⟨oc13, od13, .func (PySem.W.fnOf "check_steps" "check_steps" (defArgs s_check_steps) (defBody s_check_steps) (defScope s_check_steps) .none kV13 dc13 pm13 an13 cd13 ct13), sl13⟩) (c13 : PySem.W.codeIn K cd13 "check_steps" = true) (k13 : PySem.W.keepIn K (.ref f13) = true)
  (a14 : PySem.W.nsIn K mainGlobals "worth_line" = some (some (.ref f14)))
  (l14 : K.lookup f14 = some ⟨oc14, od14, .func (PySem.W.fnOf "worth_line" "worth_line" (defArgs s_worth_line) (defBody s_worth_line) (defScope s_worth_line) .none kV14 dc14 pm14 an14 cd14 ct14), sl14⟩) (c14 : PySem.W.codeIn K cd14 "worth_line" = true) (k14 : PySem.W.keepIn K (.ref f14) = true)
  (a15 : PySem.W.nsIn K mainGlobals "number_text" = some (some (.ref f15)))
  (l15 : K.lookup f15 = some ⟨oc15, od15, .func (PySem.W.fnOf "number_text" "number_text" (defArgs s_number_text) (defBody s_number_text) (defScope s_number_text) .none kV15 dc15 pm15 an15 cd15 ct15), sl15⟩) (c15 : PySem.W.codeIn K cd15 "number_text" = true) (k15 : PySem.W.keepIn K (.ref f15) = true)
  (a16 : PySem.W.nsIn K mainGlobals "fraction_text" = some (some (.ref f16)))
  (l16 : K.lookup f16 = some ⟨oc16, od16, .func (PySem.W.fnOf "fraction_text" "fraction_text" (defArgs s_fraction_text) (defBody s_fraction_text) (defScope s_fraction_text) .none kV16 dc16 pm16 an16 cd16 ct16), sl16⟩) (c16 : PySem.W.codeIn K cd16 "fraction_text" = true) (k16 : PySem.W.keepIn K (.ref f16) = true)
  (a17 : PySem.W.nsIn K mainGlobals "taste_text" = some (some (.ref f17)))
  (l17 : K.lookup f17 = some ⟨oc17, od17, .func (PySem.W.fnOf "taste_text" "taste_text" (defArgs s_taste_text) (defBody s_taste_text) (defScope s_taste_text) .none kV17 dc17 pm17 an17 cd17 ct17), sl17⟩) (c17 : PySem.W.codeIn K cd17 "taste_text" = true) (k17 : PySem.W.keepIn K (.ref f17) = true)
  (a18 : PySem.W.nsIn K mainGlobals "piece_text" = some (some (.ref f18)))
  (l18 : K.lookup f18 = some ⟨oc18, od18, .func (PySem.W.fnOf "piece_text" "piece_text" (defArgs s_piece_text) (defBody s_piece_text) (defScope s_piece_text) .none kV18 dc18 pm18 an18 cd18 ct18), sl18⟩) (c18 : PySem.W.codeIn K cd18 "piece_text" = true) (k18 : PySem.W.keepIn K (.ref f18) = true)
  (a19 : PySem.W.nsIn K mainGlobals "number_of" = some (some (.ref f19)))
  (l19 : K.lookup f19 = some ⟨oc19, od19, .func (PySem.W.fnOf "number_of" "number_of" (defArgs s_number_of) (defBody s_number_of) (defScope s_number_of) .none kV19 dc19 pm19 an19 cd19 ct19), sl19⟩) (c19 : PySem.W.codeIn K cd19 "number_of" = true) (k19 : PySem.W.keepIn K (.ref f19) = true)
  (a20 : PySem.W.nsIn K mainGlobals "fraction_of" = some (some (.ref f20)))
  (l20 : K.lookup f20 = some ⟨oc20, od20, .func (PySem.W.fnOf "fraction_of" "fraction_of" (defArgs s_fraction_of) (defBody s_fraction_of) (defScope s_fraction_of) .none kV20 dc20 pm20 an20 cd20 ct20), sl20⟩) (c20 : PySem.W.codeIn K cd20 "fraction_of" = true) (k20 : PySem.W.keepIn K (.ref f20) = true)
  (a21 : PySem.W.nsIn K mainGlobals "two_parts" = some (some (.ref f21)))
  (l21 : K.lookup f21 = some ⟨oc21, od21, .func (PySem.W.fnOf "two_parts" "two_parts" (defArgs s_two_parts) (defBody s_two_parts) (defScope s_two_parts) .none kV21 dc21 pm21 an21 cd21 ct21), sl21⟩) (c21 : PySem.W.codeIn K cd21 "two_parts" = true) (k21 : PySem.W.keepIn K (.ref f21) = true)
  (a22 : PySem.W.nsIn K mainGlobals "step_of" = some (some (.ref f22)))
  (l22 : K.lookup f22 = some ⟨oc22, od22, .func (PySem.W.fnOf "step_of" "step_of" (defArgs s_step_of) (defBody s_step_of) (defScope s_step_of) .none kV22 dc22 pm22 an22 cd22 ct22), sl22⟩) (c22 : PySem.W.codeIn K cd22 "step_of" = true) (k22 : PySem.W.keepIn K (.ref f22) = true)
  (a23 : PySem.W.nsIn K mainGlobals "span_of" = some (some (.ref f23)))
  (l23 : K.lookup f23 = some ⟨oc23, od23, .func (PySem.W.fnOf "span_of" "span_of" (defArgs s_span_of) (defBody s_span_of) (defScope s_span_of) .none kV23 dc23 pm23 an23 cd23 ct23), sl23⟩) (c23 : PySem.W.codeIn K cd23 "span_of" = true) (k23 : PySem.W.keepIn K (.ref f23) = true)
  (a24 : PySem.W.nsIn K mainGlobals "check_text" = some (some (.ref f24)))
  (l24 : K.lookup f24 = some ⟨oc24, od24, .func (PySem.W.fnOf "check_text" "check_text" (defArgs s_check_text) (defBody s_check_text) (defScope s_check_text) .none kV24 dc24 pm24 an24 cd24 ct24), sl24⟩) (c24 : PySem.W.codeIn K cd24 "check_text" = true) (k24 : PySem.W.keepIn K (.ref f24) = true)
  (a25 : PySem.W.nsIn K mainGlobals "taste_of" = some (some (.ref f25)))
  (l25 : K.lookup f25 = some ⟨oc25, od25, .func (PySem.W.fnOf "taste_of" "taste_of" (defArgs s_taste_of) (defBody s_taste_of) (defScope s_taste_of) .none kV25 dc25 pm25 an25 cd25 ct25), sl25⟩) (c25 : PySem.W.codeIn K cd25 "taste_of" = true) (k25 : PySem.W.keepIn K (.ref f25) = true)
  (a26 : PySem.W.nsIn K mainGlobals "piece_of" = some (some (.ref f26)))
  (l26 : K.lookup f26 = some ⟨oc26, od26, .func (PySem.W.fnOf "piece_of" "piece_of" (defArgs s_piece_of) (defBody s_piece_of) (defScope s_piece_of) .none kV26 dc26 pm26 an26 cd26 ct26), sl26⟩) (c26 : PySem.W.codeIn K cd26 "piece_of" = true) (k26 : PySem.W.keepIn K (.ref f26) = true)
  (a27 : PySem.W.nsIn K mainGlobals "_law_cell_at" = some (some (.ref f27)))
  (l27 : K.lookup f27 = some ⟨oc27, od27, .func (PySem.W.fnOf "_law_cell_at" "_law_cell_at" (defArgs s__law_cell_at) (defBody s__law_cell_at) (defScope s__law_cell_at) .none kV27 dc27 pm27 an27 cd27 ct27), sl27⟩) (c27 : PySem.W.codeIn K cd27 "_law_cell_at" = true) (k27 : PySem.W.keepIn K (.ref f27) = true)
  (a28 : PySem.W.nsIn K mainGlobals "_law_mixed" = some (some (.ref f28)))
  (l28 : K.lookup f28 = some ⟨oc28, od28, .func (PySem.W.fnOf "_law_mixed" "_law_mixed" (defArgs s__law_mixed) (defBody s__law_mixed) (defScope s__law_mixed) .none kV28 dc28 pm28 an28 cd28 ct28), sl28⟩) (c28 : PySem.W.codeIn K cd28 "_law_mixed" = true) (k28 : PySem.W.keepIn K (.ref f28) = true)
  (a29 : PySem.W.nsIn K mainGlobals "_law_low" = some (some (.ref f29)))
  (l29 : K.lookup f29 = some ⟨oc29, od29, .func (PySem.W.fnOf "_law_low" "_law_low" (defArgs s__law_low) (defBody s__law_low) (defScope s__law_low) .none kV29 dc29 pm29 an29 cd29 ct29), sl29⟩) (c29 : PySem.W.codeIn K cd29 "_law_low" = true) (k29 : PySem.W.keepIn K (.ref f29) = true)
  (a30 : PySem.W.nsIn K mainGlobals "_law_less" = some (some (.ref f30)))
  (l30 : K.lookup f30 = some ⟨oc30, od30, .func (PySem.W.fnOf "_law_less" "_law_less" (defArgs s__law_less) (defBody s__law_less) (defScope s__law_less) .none kV30 dc30 pm30 an30 cd30 ct30), sl30⟩) (c30 : PySem.W.codeIn K cd30 "_law_less" = true) (k30 : PySem.W.keepIn K (.ref f30) = true)
  (a31 : PySem.W.nsIn K mainGlobals "_law_steps_by" = some (some (.ref f31)))
  (l31 : K.lookup f31 = some ⟨oc31, od31, .func (PySem.W.fnOf "_law_steps_by" "_law_steps_by" (defArgs s__law_steps_by) (defBody s__law_steps_by) (defScope s__law_steps_by) .none kV31 dc31 pm31 an31 cd31 ct31), sl31⟩) (c31 : PySem.W.codeIn K cd31 "_law_steps_by" = true) (k31 : PySem.W.keepIn K (.ref f31) = true)
  (a32 : PySem.W.nsIn K mainGlobals "_law_piece_by" = some (some (.ref f32)))
  (l32 : K.lookup f32 = some ⟨oc32, od32, .func (PySem.W.fnOf "_law_piece_by" "_law_piece_by" (defArgs s__law_piece_by) (defBody s__law_piece_by) (defScope s__law_piece_by) .none kV32 dc32 pm32 an32 cd32 ct32), sl32⟩) (c32 : PySem.W.codeIn K cd32 "_law_piece_by" = true) (k32 : PySem.W.keepIn K (.ref f32) = true)
  (a33 : PySem.W.nsIn K mainGlobals "_law_text" = some (some (.ref f33)))
  (l33 : K.lookup f33 = some ⟨oc33, od33, .func (PySem.W.fnOf "_law_text" "_law_text" (defArgs s__law_text) (defBody s__law_text) (defScope s__law_text) .none kV33 dc33 pm33 an33 cd33 ct33), sl33⟩) (c33 : PySem.W.codeIn K cd33 "_law_text" = true) (k33 : PySem.W.keepIn K (.ref f33) = true)
  (a34 : PySem.W.nsIn K mainGlobals "_law_number" = some (some (.ref f34)))
  (l34 : K.lookup f34 = some ⟨oc34, od34, .func (PySem.W.fnOf "_law_number" "_law_number" (defArgs s__law_number) (defBody s__law_number) (defScope s__law_number) .none kV34 dc34 pm34 an34 cd34 ct34), sl34⟩) (c34 : PySem.W.codeIn K cd34 "_law_number" = true) (k34 : PySem.W.keepIn K (.ref f34) = true)
  (a35 : PySem.W.nsIn K mainGlobals "_law_fraction_of" = some (some (.ref f35)))
  (l35 : K.lookup f35 = some ⟨oc35, od35, .func (PySem.W.fnOf "_law_fraction_of" "_law_fraction_of" (defArgs s__law_fraction_of) (defBody s__law_fraction_of) (defScope s__law_fraction_of) .none kV35 dc35 pm35 an35 cd35 ct35), sl35⟩) (c35 : PySem.W.codeIn K cd35 "_law_fraction_of" = true) (k35 : PySem.W.keepIn K (.ref f35) = true)
  (a36 : PySem.W.nsIn K mainGlobals "_law_steps_of" = some (some (.ref f36)))
  (l36 : K.lookup f36 = some ⟨oc36, od36, .func (PySem.W.fnOf "_law_steps_of" "_law_steps_of" (defArgs s__law_steps_of) (defBody s__law_steps_of) (defScope s__law_steps_of) .none kV36 dc36 pm36 an36 cd36 ct36), sl36⟩) (c36 : PySem.W.codeIn K cd36 "_law_steps_of" = true) (k36 : PySem.W.keepIn K (.ref f36) = true)
  (a37 : PySem.W.nsIn K mainGlobals "_law_spans_of" = some (some (.ref f37)))
  (l37 : K.lookup f37 = some ⟨oc37, od37, .func (PySem.W.fnOf "_law_spans_of" "_law_spans_of" (defArgs s__law_spans_of) (defBody s__law_spans_of) (defScope s__law_spans_of) .none kV37 dc37 pm37 an37 cd37 ct37), sl37⟩) (c37 : PySem.W.codeIn K cd37 "_law_spans_of" = true) (k37 : PySem.W.keepIn K (.ref f37) = true)
  (a38 : PySem.W.nsIn K mainGlobals "_law_refused" = some (some (.ref f38)))
  (l38 : K.lookup f38 = some ⟨oc38, od38, .func (PySem.W.fnOf "_law_refused" "_law_refused" (defArgs s__law_refused) (defBody s__law_refused) (defScope s__law_refused) .none kV38 dc38 pm38 an38 cd38 ct38), sl38⟩) (c38 : PySem.W.codeIn K cd38 "_law_refused" = true) (k38 : PySem.W.keepIn K (.ref f38) = true)
  (a39 : PySem.W.nsIn K mainGlobals "_law_read_right" = some (some (.ref f39)))
  (l39 : K.lookup f39 = some ⟨oc39, od39, .func (PySem.W.fnOf "_law_read_right" "_law_read_right" (defArgs s__law_read_right) (defBody s__law_read_right) (defScope s__law_read_right) .none kV39 dc39 pm39 an39 cd39 ct39), sl39⟩) (c39 : PySem.W.codeIn K cd39 "_law_read_right" = true) (k39 : PySem.W.keepIn K (.ref f39) = true)
  (a40 : PySem.W.nsIn K mainGlobals "_law_other" = some (some (.ref f40)))
  (l40 : K.lookup f40 = some ⟨oc40, od40, .func (PySem.W.fnOf "_law_other" "_law_other" (defArgs s__law_other) (defBody s__law_other) (defScope s__law_other) .none kV40 dc40 pm40 an40 cd40 ct40), sl40⟩) (c40 : PySem.W.codeIn K cd40 "_law_other" = true) (k40 : PySem.W.keepIn K (.ref f40) = true)
  (a41 : PySem.W.nsIn K mainGlobals "_law_few" = some (some (.ref f41)))
  (l41 : K.lookup f41 = some ⟨oc41, od41, .func (PySem.W.fnOf "_law_few" "_law_few" (defArgs s__law_few) (defBody s__law_few) (defScope s__law_few) .none kV41 dc41 pm41 an41 cd41 ct41), sl41⟩) (c41 : PySem.W.codeIn K cd41 "_law_few" = true) (k41 : PySem.W.keepIn K (.ref f41) = true)
  (a42 : PySem.W.nsIn K mainGlobals "law" = some (some (.ref f42)))
  (l42 : K.lookup f42 = some ⟨oc42, od42, .func (PySem.W.fnOf "law" "law" (defArgs s_law) (defBody s_law) (defScope s_law) .none kV42 dc42 pm42 an42 cd42 ct42), sl42⟩) (c42 : PySem.W.codeIn K cd42 "law" = true) (k42 : PySem.W.keepIn K (.ref f42) = true)
  (aC : PySem.W.nsIn K mainGlobals "Taste" = some (some (.ref C)))
  (aCm0 : PySem.W.findIn K (.ref C) "__init__" = some (some (.ref fCm0)))
  (lCm0 : K.lookup fCm0 = some ⟨ocCm0, odCm0, .func (PySem.W.fnOf "__init__" "Taste.__init__" (defArgs m_Taste___init__) (defBody m_Taste___init__) (defScope m_Taste___init__) .none kVCm0 dcCm0 pmCm0 anCm0 cdCm0 ctCm0), slCm0⟩) (cCm0 : PySem.W.codeIn K cdCm0 "Taste.__init__" = true) (kCm0 : PySem.W.keepIn K (.ref fCm0) = true)
  (iCm0 : PySem.W.isFn K (.ref fCm0) = true)
  (aCm1 : PySem.W.findIn K (.ref C) "steps" = some (some (.ref fCm1)))
  (lCm1 : K.lookup fCm1 = some ⟨ocCm1, odCm1, .func (PySem.W.fnOf "steps" "Taste.steps" (defArgs m_Taste_steps) (defBody m_Taste_steps) (defScope m_Taste_steps) .none kVCm1 dcCm1 pmCm1 anCm1 cdCm1 ctCm1), slCm1⟩) (cCm1 : PySem.W.codeIn K cdCm1 "Taste.steps" = true) (kCm1 : PySem.W.keepIn K (.ref fCm1) = true)
  (iCm1 : PySem.W.isFn K (.ref fCm1) = true)
  (pgC : PySem.W.plainGet K C Str.empty = true)
  (hdC : PySem.W.hasDictIn K C = true)
  (poC : PySem.W.plainOver K C = true)
  (saC : PySem.W.findIn K (.ref C) "__setattr__" = some (some (.builtin "object.__setattr__")))
  (mkC : PySem.W.makesIn K C = true)
  (kcC : PySem.W.keepIn K (.ref C) = true)
  (nCtold : PySem.W.findIn K (.ref C) "told" = some none)
  (nCline : PySem.W.findIn K (.ref C) "line" = some none)
  (z1 : PySem.W.nsIn K mainGlobals "isinstance" = some none)
  (z2 : PySem.W.nsIn K mainGlobals "int" = some none)
  (z3 : PySem.W.nsIn K mainGlobals "bool" = some none)
  (z4 : PySem.W.nsIn K mainGlobals "tuple" = some none)
  (z5 : PySem.W.nsIn K mainGlobals "list" = some none)
  (z6 : PySem.W.nsIn K mainGlobals "len" = some none)
  (z7 : PySem.W.nsIn K mainGlobals "range" = some none)
  (z8 : PySem.W.nsIn K mainGlobals "zip" = some none)
  (z9 : PySem.W.nsIn K mainGlobals "sorted" = some none)
  (z10 : PySem.W.nsIn K mainGlobals "any" = some none)
  (z11 : PySem.W.nsIn K mainGlobals "enumerate" = some none)
  (z12 : PySem.W.nsIn K mainGlobals "reversed" = some none)
  (eL : PySem.W.nsIn K mainGlobals "LEFT_END" = some (some (.ref aL)))
  (eLo : K.lookup aL = some ⟨.type "tuple", odL, .seq #[.int 0 tL, .int 1 uL] nL, slL⟩)
  (eR : PySem.W.nsIn K mainGlobals "RIGHT_END" = some (some (.ref aR)))
  (eRo : K.lookup aR = some ⟨.type "tuple", odR, .seq #[.int 1 tR, .int 1 uR] nR, slR⟩)
  (e8 : PySem.W.nsIn K mainGlobals "MOST_STEPS" = some (some (.int 8 t8)))
  (e1 : PySem.W.nsIn K mainGlobals "GREATEST_SECOND_NUMBER" = some (some (.int 1000 t1)))
  (e2 : PySem.W.nsIn K mainGlobals "GREATEST_WEIGHT" = some (some (.int 1000 t2)))
  (axF : PySem.W.nsIn K mainGlobals "BadFraction" = some (some (.ref cF)))
  (axT : PySem.W.nsIn K mainGlobals "BadTaste" = some (some (.ref cT)))
  (axP : PySem.W.nsIn K mainGlobals "BadPiece" = some (some (.ref cP)))
  (axK : PySem.W.nsIn K mainGlobals "BadTakers" = some (some (.ref cK)))
  (axL : PySem.W.nsIn K mainGlobals "TooLittle" = some (some (.ref cL)))
  (axX : PySem.W.nsIn K mainGlobals "BadText" = some (some (.ref cX)))
  (axB : PySem.W.nsIn K mainGlobals "CakeError" = some (some (.ref cB)))
  (exT : PySem.W.excIn K cT [.type "ValueError", .type "Exception", .type "BaseException", .type "object"] "ValueError.__new__" = true)
  (exP : PySem.W.excIn K cP [.type "ValueError", .type "Exception", .type "BaseException", .type "object"] "ValueError.__new__" = true)
  (exX : PySem.W.excIn K cX [.type "ValueError", .type "Exception", .type "BaseException", .type "object"] "ValueError.__new__" = true)
  (zV : PySem.W.nsIn K mainGlobals "ValueError" = some none)
  (zstr : PySem.W.nsIn K mainGlobals "str" = some none)
  (zall : PySem.W.nsIn K mainGlobals "all" = some none)
  (btB : PySem.W.typeIn K (.ref cB) = some (.type "type"))
  (bhB : PySem.W.mroIn K cB (.type "BaseException") = some true)
  (gaX : PySem.W.findIn K (.ref cX) "__getattribute__" = some (some (.builtin "BaseException.__getattribute__")))
  (hkX : PySem.W.findIn K (.ref cX) "__getattr__" = some none)
  (ccX : PySem.W.findIn K (.ref cX) "__class__" = some (some (.builtin "object.__class__")))
  (hnC : PySem.W.specialIn K (.builtin "object.__class__") "__get__" = some (some (.builtin "getset_descriptor.__get__")))
  (htC : PySem.W.takesIn K (.builtin "object.__class__") = some true)
  (hoX : PySem.W.mroIn K cX (.type "object") = some true)
  (hbX : PySem.W.mroIn K cX (.type "BaseException") = some true)
  (kno : PySem.W.kitAny K (.ref cX) [.ref cF, .ref cP, .ref cK, .ref cT, .ref cL] = some false)
  (kXX : PySem.W.kitOne K (.ref cX) (.ref cX) = some true)
  (kXV : PySem.W.kitOne K (.ref cX) (.type "ValueError") = some true)
  (kXB : PySem.W.mroIn K cX (.ref cB) = some true)
  (eFig : PySem.W.nsIn K mainGlobals "FIGURES" = some (some (.str FT.FIG tF)))
  (eMost : PySem.W.nsIn K mainGlobals "MOST_FIGURES" = some (some (.int 300 tM))) :
  ∃ fd : FuncData, (∀ (s : Shared) (v : Value), BindsTo s fd ⟨[v], []⟩ [("_law_script", v)]) ∧ ∀ base : Heap, K.In base → base.Ns mainGlobals mg → FnOk l.prog w K mg base CX0 10 fa fd ["_law_script"] (spLaw K) := by
 have e := hfa.symm.trans (PySem.W.mg_of X G a42)
 cases e
 have T : Txt K mg aL aR := ⟨PySem.W.mg_none_of X G z1, PySem.W.mg_none_of X G z2, PySem.W.mg_none_of X G z3, PySem.W.mg_none_of X G z4, PySem.W.mg_none_of X G z5, PySem.W.mg_none_of X G z6, PySem.W.mg_none_of X G z7, PySem.W.mg_none_of X G z8, PySem.W.mg_none_of X G z9, PySem.W.mg_none_of X G z10, PySem.W.mg_none_of X G z11, PySem.W.mg_none_of X G z12, PySem.W.mg_of X G eL, sqK eLo, PySem.W.mg_of X G eR, sqK eRo⟩
 have F1 := fun_mk (st := s_is_whole) l1 c1 k1
 have D_is_whole : DefAt K mg "is_whole" s_is_whole ["thing"] _ _ := ⟨F1, PySem.W.mg_of X G a1, F1.binds (ps := ["thing"]) fun _ _ _ _ _ _ us hl => match us, hl with | [_], _ => rfl⟩
 have F2 := fun_mk (st := s_greatest_divisor) l2 c2 k2
 have D_greatest_divisor : DefAt K mg "greatest_divisor" s_greatest_divisor ["a", "b"] _ _ := ⟨F2, PySem.W.mg_of X G a2, F2.binds (ps := ["a", "b"]) fun _ _ _ _ _ _ us hl => match us, hl with | [_, _], _ => rfl⟩
 have F3 := fun_mk (st := s_is_fraction) l3 c3 k3
 have D_is_fraction : DefAt K mg "is_fraction" s_is_fraction ["thing"] _ _ := ⟨F3, PySem.W.mg_of X G a3, F3.binds (ps := ["thing"]) fun _ _ _ _ _ _ us hl => match us, hl with | [_], _ => rfl⟩
 have F4 := fun_mk (st := s_made) l4 c4 k4
 have D_made : DefAt K mg "made" s_made ["a", "b"] _ _ := ⟨F4, PySem.W.mg_of X G a4, F4.binds (ps := ["a", "b"]) fun _ _ _ _ _ _ us hl => match us, hl with | [_, _], _ => rfl⟩
 have F5 := fun_mk (st := s_plus) l5 c5 k5
 have D_plus : DefAt K mg "plus" s_plus ["one", "other"] _ _ := ⟨F5, PySem.W.mg_of X G a5, F5.binds (ps := ["one", "other"]) fun _ _ _ _ _ _ us hl => match us, hl with | [_, _], _ => rfl⟩
 have F6 := fun_mk (st := s_minus) l6 c6 k6
 have D_minus : DefAt K mg "minus" s_minus ["one", "other"] _ _ := ⟨F6, PySem.W.mg_of X G a6, F6.binds (ps := ["one", "other"]) fun _ _ _ _ _ _ us hl => match us, hl with | [_, _], _ => rfl⟩
 have F7 := fun_mk (st := s_times) l7 c7 k7
 have D_times : DefAt K mg "times" s_times ["one", "other"] _ _ := ⟨F7, PySem.W.mg_of X G a7, F7.binds (ps := ["one", "other"]) fun _ _ _ _ _ _ us hl => match us, hl with | [_, _], _ => rfl⟩
 have F8 := fun_mk (st := s_over) l8 c8 k8
 have D_over : DefAt K mg "over" s_over ["one", "other"] _ _ := ⟨F8, PySem.W.mg_of X G a8, F8.binds (ps := ["one", "other"]) fun _ _ _ _ _ _ us hl => match us, hl with | [_, _], _ => rfl⟩
 have F9 := fun_mk (st := s_below) l9 c9 k9
 have D_below : DefAt K mg "below" s_below ["one", "other"] _ _ := ⟨F9, PySem.W.mg_of X G a9, F9.binds (ps := ["one", "other"]) fun _ _ _ _ _ _ us hl => match us, hl with | [_, _], _ => rfl⟩
 have F10 := fun_mk (st := s_is_span) l10 c10 k10
 have D_is_span : DefAt K mg "is_span" s_is_span ["thing"] _ _ := ⟨F10, PySem.W.mg_of X G a10, F10.binds (ps := ["thing"]) fun _ _ _ _ _ _ us hl => match us, hl with | [_], _ => rfl⟩
 have F11 := fun_mk (st := s_check_piece) l11 c11 k11
 have D_check_piece : DefAt K mg "check_piece" s_check_piece ["piece"] _ _ := ⟨F11, PySem.W.mg_of X G a11, F11.binds (ps := ["piece"]) fun _ _ _ _ _ _ us hl => match us, hl with | [_], _ => rfl⟩
 have F12 := fun_mk (st := s_check_step) l12 c12 k12
 have D_check_step : DefAt K mg "check_step" s_check_step ["step"] _ _ := ⟨F12, PySem.W.mg_of X G a12, F12.binds (ps := ["step"]) fun _ _ _ _ _ _ us hl => match us, hl with | [_], _ => rfl⟩
 have F13 := fun_mk (st := s_check_steps) l13 c13 k13
 have D_check_steps : DefAt K mg "check_steps" s_check_steps ["steps"] _ _ := ⟨F13, PySem.W.mg_of X G a13, F13.binds (ps := ["steps"]) fun _ _ _ _ _ _ us hl => match us, hl with | [_], _ => rfl⟩
 have F14 := fun_mk (st := s_worth_line) l14 c14 k14
 have D_worth_line : DefAt K mg "worth_line" s_worth_line ["steps"] _ _ := ⟨F14, PySem.W.mg_of X G a14, F14.binds (ps := ["steps"]) fun _ _ _ _ _ _ us hl => match us, hl with | [_], _ => rfl⟩
 have F15 := fun_mk (st := s_number_text) l15 c15 k15
 have D_number_text : DefAt K mg "number_text" s_number_text ["number"] _ _ := ⟨F15, PySem.W.mg_of X G a15, F15.binds (ps := ["number"]) fun _ _ _ _ _ _ us hl => match us, hl with | [_], _ => rfl⟩
 have F16 := fun_mk (st := s_fraction_text) l16 c16 k16
 have D_fraction_text : DefAt K mg "fraction_text" s_fraction_text ["fraction"] _ _ := ⟨F16, PySem.W.mg_of X G a16, F16.binds (ps := ["fraction"]) fun _ _ _ _ _ _ us hl => match us, hl with | [_], _ => rfl⟩
 have F17 := fun_mk (st := s_taste_text) l17 c17 k17
 have D_taste_text : DefAt K mg "taste_text" s_taste_text ["taste"] _ _ := ⟨F17, PySem.W.mg_of X G a17, F17.binds (ps := ["taste"]) fun _ _ _ _ _ _ us hl => match us, hl with | [_], _ => rfl⟩
 have F18 := fun_mk (st := s_piece_text) l18 c18 k18
 have D_piece_text : DefAt K mg "piece_text" s_piece_text ["piece"] _ _ := ⟨F18, PySem.W.mg_of X G a18, F18.binds (ps := ["piece"]) fun _ _ _ _ _ _ us hl => match us, hl with | [_], _ => rfl⟩
 have F19 := fun_mk (st := s_number_of) l19 c19 k19
 have D_number_of : DefAt K mg "number_of" s_number_of ["text"] _ _ := ⟨F19, PySem.W.mg_of X G a19, F19.binds (ps := ["text"]) fun _ _ _ _ _ _ us hl => match us, hl with | [_], _ => rfl⟩
 have F20 := fun_mk (st := s_fraction_of) l20 c20 k20
 have D_fraction_of : DefAt K mg "fraction_of" s_fraction_of ["text"] _ _ := ⟨F20, PySem.W.mg_of X G a20, F20.binds (ps := ["text"]) fun _ _ _ _ _ _ us hl => match us, hl with | [_], _ => rfl⟩
 have F21 := fun_mk (st := s_two_parts) l21 c21 k21
 have D_two_parts : DefAt K mg "two_parts" s_two_parts ["text", "sign"] _ _ := ⟨F21, PySem.W.mg_of X G a21, F21.binds (ps := ["text", "sign"]) fun _ _ _ _ _ _ us hl => match us, hl with | [_, _], _ => rfl⟩
 have F22 := fun_mk (st := s_step_of) l22 c22 k22
 have D_step_of : DefAt K mg "step_of" s_step_of ["text"] _ _ := ⟨F22, PySem.W.mg_of X G a22, F22.binds (ps := ["text"]) fun _ _ _ _ _ _ us hl => match us, hl with | [_], _ => rfl⟩
 have F23 := fun_mk (st := s_span_of) l23 c23 k23
 have D_span_of : DefAt K mg "span_of" s_span_of ["text"] _ _ := ⟨F23, PySem.W.mg_of X G a23, F23.binds (ps := ["text"]) fun _ _ _ _ _ _ us hl => match us, hl with | [_], _ => rfl⟩
 have F24 := fun_mk (st := s_check_text) l24 c24 k24
 have D_check_text : DefAt K mg "check_text" s_check_text ["text"] _ _ := ⟨F24, PySem.W.mg_of X G a24, F24.binds (ps := ["text"]) fun _ _ _ _ _ _ us hl => match us, hl with | [_], _ => rfl⟩
 have F25 := fun_mk (st := s_taste_of) l25 c25 k25
 have D_taste_of : DefAt K mg "taste_of" s_taste_of ["text"] _ _ := ⟨F25, PySem.W.mg_of X G a25, F25.binds (ps := ["text"]) fun _ _ _ _ _ _ us hl => match us, hl with | [_], _ => rfl⟩
 have F26 := fun_mk (st := s_piece_of) l26 c26 k26
 have D_piece_of : DefAt K mg "piece_of" s_piece_of ["text"] _ _ := ⟨F26, PySem.W.mg_of X G a26, F26.binds (ps := ["text"]) fun _ _ _ _ _ _ us hl => match us, hl with | [_], _ => rfl⟩
 have F27 := fun_mk (st := s__law_cell_at) l27 c27 k27
 have D__law_cell_at : DefAt K mg "_law_cell_at" s__law_cell_at ["_law_script", "_law_k"] _ _ := ⟨F27, PySem.W.mg_of X G a27, F27.binds (ps := ["_law_script", "_law_k"]) fun _ _ _ _ _ _ us hl => match us, hl with | [_, _], _ => rfl⟩
 have F28 := fun_mk (st := s__law_mixed) l28 c28 k28
 have D__law_mixed : DefAt K mg "_law_mixed" s__law_mixed ["_law_cell", "_law_k"] _ _ := ⟨F28, PySem.W.mg_of X G a28, F28.binds (ps := ["_law_cell", "_law_k"]) fun _ _ _ _ _ _ us hl => match us, hl with | [_, _], _ => rfl⟩
 have F29 := fun_mk (st := s__law_low) l29 c29 k29
 have D__law_low : DefAt K mg "_law_low" s__law_low ["_law_a", "_law_b"] _ _ := ⟨F29, PySem.W.mg_of X G a29, F29.binds (ps := ["_law_a", "_law_b"]) fun _ _ _ _ _ _ us hl => match us, hl with | [_, _], _ => rfl⟩
 have F30 := fun_mk (st := s__law_less) l30 c30 k30
 have D__law_less : DefAt K mg "_law_less" s__law_less ["_law_one", "_law_other_here"] _ _ := ⟨F30, PySem.W.mg_of X G a30, F30.binds (ps := ["_law_one", "_law_other_here"]) fun _ _ _ _ _ _ us hl => match us, hl with | [_, _], _ => rfl⟩
 have F31 := fun_mk (st := s__law_steps_by) l31 c31 k31
 have D__law_steps_by : DefAt K mg "_law_steps_by" s__law_steps_by ["_law_cell"] _ _ := ⟨F31, PySem.W.mg_of X G a31, F31.binds (ps := ["_law_cell"]) fun _ _ _ _ _ _ us hl => match us, hl with | [_], _ => rfl⟩
 have F32 := fun_mk (st := s__law_piece_by) l32 c32 k32
 have D__law_piece_by : DefAt K mg "_law_piece_by" s__law_piece_by ["_law_cell"] _ _ := ⟨F32, PySem.W.mg_of X G a32, F32.binds (ps := ["_law_cell"]) fun _ _ _ _ _ _ us hl => match us, hl with | [_], _ => rfl⟩
 have F33 := fun_mk (st := s__law_text) l33 c33 k33
 have D__law_text : DefAt K mg "_law_text" s__law_text ["_law_one"] _ _ := ⟨F33, PySem.W.mg_of X G a33, F33.binds (ps := ["_law_one"]) fun _ _ _ _ _ _ us hl => match us, hl with | [_], _ => rfl⟩
 have F34 := fun_mk (st := s__law_number) l34 c34 k34
 have D__law_number : DefAt K mg "_law_number" s__law_number ["_law_text_here"] _ _ := ⟨F34, PySem.W.mg_of X G a34, F34.binds (ps := ["_law_text_here"]) fun _ _ _ _ _ _ us hl => match us, hl with | [_], _ => rfl⟩
 have F35 := fun_mk (st := s__law_fraction_of) l35 c35 k35
 have D__law_fraction_of : DefAt K mg "_law_fraction_of" s__law_fraction_of ["_law_text_here"] _ _ := ⟨F35, PySem.W.mg_of X G a35, F35.binds (ps := ["_law_text_here"]) fun _ _ _ _ _ _ us hl => match us, hl with | [_], _ => rfl⟩
 have F36 := fun_mk (st := s__law_steps_of) l36 c36 k36
 have D__law_steps_of : DefAt K mg "_law_steps_of" s__law_steps_of ["_law_text_here"] _ _ := ⟨F36, PySem.W.mg_of X G a36, F36.binds (ps := ["_law_text_here"]) fun _ _ _ _ _ _ us hl => match us, hl with | [_], _ => rfl⟩
 have F37 := fun_mk (st := s__law_spans_of) l37 c37 k37
 have D__law_spans_of : DefAt K mg "_law_spans_of" s__law_spans_of ["_law_text_here"] _ _ := ⟨F37, PySem.W.mg_of X G a37, F37.binds (ps := ["_law_text_here"]) fun _ _ _ _ _ _ us hl => match us, hl with | [_], _ => rfl⟩
 have F38 := fun_mk (st := s__law_refused) l38 c38 k38
 have D__law_refused : DefAt K mg "_law_refused" s__law_refused ["_law_which", "_law_text_here"] _ _ := ⟨F38, PySem.W.mg_of X G a38, F38.binds (ps := ["_law_which", "_law_text_here"]) fun _ _ _ _ _ _ us hl => match us, hl with | [_, _], _ => rfl⟩
 have F39 := fun_mk (st := s__law_read_right) l39 c39 k39
 have D__law_read_right : DefAt K mg "_law_read_right" s__law_read_right ["_law_text_here"] _ _ := ⟨F39, PySem.W.mg_of X G a39, F39.binds (ps := ["_law_text_here"]) fun _ _ _ _ _ _ us hl => match us, hl with | [_], _ => rfl⟩
 have F40 := fun_mk (st := s__law_other) l40 c40 k40
 have D__law_other : DefAt K mg "_law_other" s__law_other ["_law_text_here", "_law_cell", "_law_k"] _ _ := ⟨F40, PySem.W.mg_of X G a40, F40.binds (ps := ["_law_text_here", "_law_cell", "_law_k"]) fun _ _ _ _ _ _ us hl => match us, hl with | [_, _, _], _ => rfl⟩
 have F41 := fun_mk (st := s__law_few) l41 c41 k41
 have D__law_few : DefAt K mg "_law_few" s__law_few [] _ _ := ⟨F41, PySem.W.mg_of X G a41, F41.binds (ps := []) fun _ _ _ _ _ _ us hl => match us, hl with | [], _ => rfl⟩
 have F42 := fun_mk (st := s_law) l42 c42 k42
 have D_law : DefAt K mg "law" s_law ["_law_script"] _ _ := ⟨F42, PySem.W.mg_of X G a42, F42.binds (ps := ["_law_script"]) fun _ _ _ _ _ _ us hl => match us, hl with | [_], _ => rfl⟩
 have clC : Cls K C := ⟨pgC, hdC, poC, saC⟩
 have M_Taste___init__ := fun_mk (st := m_Taste___init__) lCm0 cCm0 kCm0
 have b_Taste___init__ := M_Taste___init__.binds (ps := ["self", "steps"]) fun _ _ _ _ _ _ us hl => match us, hl with | [_, _], _ => rfl
 have h_Taste___init__ : Meth K C "__init__" _ := ⟨aCm0, iCm0, kCm0⟩
 have k_Taste : Mk K C _ := ⟨mkC, aCm0, iCm0, kcC⟩
 have M_Taste_steps := fun_mk (st := m_Taste_steps) lCm1 cCm1 kCm1
 have b_Taste_steps := M_Taste_steps.binds (ps := ["self"]) fun _ _ _ _ _ _ us hl => match us, hl with | [_], _ => rfl
 have h_Taste_steps : Meth K C "steps" _ := ⟨aCm1, iCm1, kCm1⟩
 refine ⟨PySem.W.fnOf "law" "law" (defArgs s_law) (defBody s_law) (defScope s_law) .none kV42 dc42 pm42 an42 cd42 ct42, fun s v => .of_eq rfl, fun base kb nb => ?_⟩
 have TT : TxtT mg := ⟨⟨_, PySem.W.mg_of X G e8⟩, ⟨_, PySem.W.mg_of X G e1⟩, ⟨_, PySem.W.mg_of X G e2⟩⟩
 have TC : TxtC K C := ⟨clC, nCtold, nCline⟩
 have CW := D_is_whole.cl (P := l.prog) (w := w) (base := base) (ok_whole D_is_whole T)
 have CG := D_greatest_divisor.cl (P := l.prog) (w := w) (base := base) (ok_gcd D_greatest_divisor)
 have CM := D_made.cl (P := l.prog) (w := w) (base := base) (ok_made D_made CW CG)
 have C4 : Four l.prog w K mg base := ⟨D_plus.cl (ok_plus D_plus CM), D_minus.cl (ok_minus D_minus CM), D_times.cl (ok_times D_times CM), D_over.cl (ok_over D_over CM), D_below.cl (ok_below D_below)⟩
 have CF := D_is_fraction.cl (P := l.prog) (w := w) (base := base) (ok_frac D_is_fraction CW CG T)
 have CK := D_check_piece.cl (ok_check D_check_piece (D_is_span.cl (ok_span D_is_span CF C4.below T)) C4.below T)
 have CS := D_check_steps.cl (ok_steps D_check_steps (D_check_step.cl (ok_step D_check_step CF CW T TT)) C4.below T TT)
 have CWL := D_worth_line.cl (ok_line D_worth_line C4 T)
 have MC : Mc l.prog w K mg base "Taste" C 5 ["self", "steps"] (spInit K C) := ⟨_, _, k_Taste, PySem.W.mg_of X G aC, b_Taste___init__, ok_init M_Taste___init__ CS CWL T TC⟩
 have LC := D__law_cell_at.cl (P := l.prog) (w := w) (base := base) (ok_cell D__law_cell_at T)
 have MT : Ml l.prog w K mg base C "steps" 1 ["self"] (spTold K C) := ⟨_, _, h_Taste_steps, b_Taste_steps, ok_told M_Taste_steps T TC⟩
 have LC := D__law_cell_at.cl (P := l.prog) (w := w) (base := base) (ok_cell D__law_cell_at T)
 have LM := D__law_mixed.cl (P := l.prog) (w := w) (base := base) (ok_mixed D__law_mixed)
 have okl := ok_low (P := l.prog) (w := w) (base := base) D__law_low
 have LL := D__law_low.cl okl
 have LQ : Cl l.prog w K mg base "_law_low" 1 ["_law_a", "_law_b"] (spMadeQ K) := D__law_low.cl (okl.imp madeQ)
 have LS := D__law_steps_by.cl (ok_stepsby D__law_steps_by LM LQ T)
 have LP := D__law_piece_by.cl (ok_pieceby D__law_piece_by LM LQ T)
 have xX : ExcC K mg "BadText" cX := ⟨PySem.W.mg_of X G axX, exX⟩
 have xT : ExcC K mg "BadTaste" cT := ⟨PySem.W.mg_of X G axT, exT⟩
 have xP : ExcC K mg "BadPiece" cP := ⟨PySem.W.mg_of X G axP, exP⟩
 have hstr := PySem.W.mg_none_of X G zstr
 have TX : TxtX mg := ⟨⟨_, PySem.W.mg_of X G eFig⟩, ⟨_, PySem.W.mg_of X G eMost⟩⟩
 have CWT := D_is_whole.cl (P := l.prog) (w := w) (base := base) (ok_wholeT D_is_whole T)
 have CBT := D_below.cl (P := l.prog) (w := w) (base := base) (ok_belowT D_below)
 have CFT := D_is_fraction.cl (P := l.prog) (w := w) (base := base) (ok_fracT D_is_fraction CWT CG T)
 have CST := D_is_span.cl (P := l.prog) (w := w) (base := base) (ok_spanT D_is_span CFT CBT T)
 have CKX := D_check_piece.clX (P := l.prog) (w := w) (base := base) (ok_checkT D_check_piece CST CBT T xP)
 have CSX := D_check_step.clX (P := l.prog) (w := w) (base := base) (ok_stepT D_check_step CFT CWT T TT xT)
 have CSsX := D_check_steps.clX (P := l.prog) (w := w) (base := base) (ok_stepsT D_check_steps CSX CBT T TT xT)
 have MCR : McX l.prog w K mg base cT "Taste" C 5 ["self", "steps"] (spInitR K C cT) := ⟨_, _, k_Taste, PySem.W.mg_of X G aC, b_Taste___init__, ok_initR M_Taste___init__ CSsX CS CWL T TC⟩
 have NN := D_number_of.clX (P := l.prog) (w := w) (base := base) (ok_numOf D_number_of T TX xX)
 have NF := D_fraction_of.clX (P := l.prog) (w := w) (base := base) (ok_frOf D_fraction_of NN T xX)
 have N2 := D_two_parts.clX (P := l.prog) (w := w) (base := base) (ok_two D_two_parts T xX)
 have NS := D_step_of.clX (P := l.prog) (w := w) (base := base) (ok_stOf D_step_of N2 NN NF)
 have NP := D_span_of.clX (P := l.prog) (w := w) (base := base) (ok_snOf D_span_of N2 NF)
 have NC := D_check_text.clX (P := l.prog) (w := w) (base := base) (ok_chk D_check_text T hstr xX)
 have oT := ok_tsOf (P := l.prog) (w := w) (base := base) D_taste_of NC NS MCR xX xT
 have oP := ok_pcOf (P := l.prog) (w := w) (base := base) D_piece_of NC NP CKX xX xP
 have WT := D_taste_of.clW (P := l.prog) (w := w) (base := base) oT
 have WP := D_piece_of.clW (P := l.prog) (w := w) (base := base) oP
 have KT := D_taste_of.cl (P := l.prog) (w := w) (base := base) oT.calm
 have KP := D_piece_of.cl (P := l.prog) (w := w) (base := base) oP.calm
 have TN := D_number_text.cl (P := l.prog) (w := w) (base := base) (ok_nt D_number_text hstr T.reversed)
 have TF := D_fraction_text.cl (P := l.prog) (w := w) (base := base) (ok_ft D_fraction_text TN)
 have TTt := D_taste_text.cl (P := l.prog) (w := w) (base := base) (ok_tt D_taste_text TN TF MT TC)
 have TPt := D_piece_text.cl (P := l.prog) (w := w) (base := base) (ok_pt D_piece_text TF CK)
 have LT := D__law_text.cl (P := l.prog) (w := w) (base := base) (ok_lt D__law_text hstr)
 have LN := D__law_number.cl (P := l.prog) (w := w) (base := base) (ok_lnum D__law_number T hstr)
 have LF := D__law_fraction_of.cl (P := l.prog) (w := w) (base := base) (ok_lfr D__law_fraction_of LN LL)
 have LB := D__law_less.cl (P := l.prog) (w := w) (base := base) (ok_less D__law_less)
 have LSt := D__law_steps_of.cl (P := l.prog) (w := w) (base := base) (ok_lst D__law_steps_of LN LF LB T)
 have LSn := D__law_spans_of.cl (P := l.prog) (w := w) (base := base) (ok_lsn D__law_spans_of LF LB)
 have ks : KindX K mg cF cT cP cK cL cX cB := ⟨T.isi, PySem.W.mg_of X G axF, PySem.W.mg_of X G axT, PySem.W.mg_of X G axP, PySem.W.mg_of X G axK, PySem.W.mg_of X G axL, PySem.W.mg_of X G axX, PySem.W.mg_of X G axB, PySem.W.mg_none_of X G zV, ⟨btB, bhB⟩, ⟨gaX, hkX, ccX, hnC, htC, hoX, hbX⟩, kno, kXX, kXV, kXB⟩
 have LR := D__law_refused.cl (P := l.prog) (w := w) (base := base) (ok_rf D__law_refused ks WT WP)
 have LRR := D__law_read_right.cl (P := l.prog) (w := w) (base := base) (ok_rr D__law_read_right LSt LSn LR KT KP MT TC)
 have LO := D__law_other.cl (P := l.prog) (w := w) (base := base) (ok_ot D__law_other LM T)
 have LFw := D__law_few.cl (P := l.prog) (w := w) (base := base) (ok_few D__law_few T hstr)
 exact ok_law D_law ⟨LC, LS, LP, MC, TTt, TPt, LT, KT, KP, MT, LO, LFw, LRR, LR, hstr, PySem.W.mg_none_of X G zall⟩ T TC
theorem walk {l : PySem.W.OpenLaw} {q : Program} {loose : List Str} {XP : (Str → Option Value) → Heap → Prop} {YP : World → Heap → Prop} {d : DefRec} {K : Params → PySem.W.Frag} (hn : l.most = some 63) (hdf : d.params.defaults = [])
  (hY : ∀ (w : World) (h : Heap), YP w h → (K w.params).In h)
  (F : ∀ (w : World) (mg : Str → Option Value) (fa : Addr) (h : Heap), (K w.params).In h → h.Ns mainGlobals mg → mg d.name = some (.ref fa) →
   ∃ fd : FuncData, (∀ (s : Shared) (u : Value), BindsTo s fd ⟨[u], []⟩ [("_law_script", u)]) ∧ ∀ base : Heap, (K w.params).In base → base.Ns mainGlobals mg → FnOk l.prog w (K w.params) mg base CX0 10 fa fd ["_law_script"] (spLaw (K w.params))) :
  PySem.W.WalkO q loose XP YP l.row.toRowW d [] (fun f vs => PySem.call f vs) :=
 L2.walk_of (n := 63) (k := 10) (x := "_law_script") (CX := fun _ => CX0) (sp := fun w => spLaw (K w.params)) hn (by decide) hdf ⟨rfl, by decide, by decide⟩ hY F (fun _ _ a ns hl _ hS => ⟨a, ns, rfl, hS, hl, fun _ => rfl⟩) fun _ _ _ _ _ z => z
end FQ
open PySem PySem.W PyProof.Rows
local macro_rules | `(tactic| o_head $H) => `(tactic| refine holds_open (q := HQ.qv) (loose := []) (Xt := HQ.xt) (XP := XL HQ.qv []) (Yf := Hook.obs $H) (Ya := Hook.val $H) (YP := Hook.says $H) (N := 7120) (HQ.left_of HQ.ev) (Hook.of $H) (Hook.keeps $H) (fun s e => xl_of s (Bool.and_eq_true_iff.mp e).1) XL.keeps (by rfl) (by rfl) (by rfl) (fun s e => recFacts_of (Bool.and_eq_true_iff.mp e).2) (by rfl) (by first | assumption | decide +kernel) (by decide +kernel) ⟨rfl, rfl, rfl, rfl, rfl, by decide +kernel⟩ ?_ ?_)
set_option maxRecDepth 100000 in
set_option maxHeartbeats 0 in
theorem PySem.Challenge.cw_fairknife_k14_written_holds : PySem.Challenge.rw_fairknife_k14_written.Holds := by
 w_on; o_law; o_head (kHook HQ.pre.heap_1 HQ.hA (fun _ => by kernel_rfl)); (· w_witness2)
 k_fill
 refine FQ.walk (l := PySem.Challenge.rw_fairknife_k14_written) rfl rfl (fun w h Y => PySem.W.kIn_of Y) ?F
 case F =>
  intro w mg fa h KX G hmg
  refine' FQ.all_mk KX G hmg ?a1 ?l1 ?c1 ?k1 ?a2 ?l2 ?c2 ?k2 ?a3 ?l3 ?c3 ?k3 ?a4 ?l4 ?c4 ?k4 ?a5 ?l5 ?c5 ?k5 ?a6 ?l6 ?c6 ?k6 ?a7 ?l7 ?c7 ?k7 ?a8 ?l8 ?c8 ?k8 ?a9 ?l9 ?c9 ?k9 ?a10 ?l10 ?c10 ?k10 ?a11 ?l11 ?c11 ?k11 ?a12 ?l12 ?c12 ?k12 ?a13 ?l13 ?c13 ?k13 ?a14 ?l14 ?c14 ?k14 ?a15 ?l15 ?c15 ?k15 ?a16 ?l16 ?c16 ?k16 ?a17 ?l17 ?c17 ?k17 ?a18 ?l18 ?c18 ?k18 ?a19 ?l19 ?c19 ?k19 ?a20 ?l20 ?c20 ?k20 ?a21 ?l21 ?c21 ?k21 ?a22 ?l22 ?c22 ?k22 ?a23 ?l23 ?c23 ?k23 ?a24 ?l24 ?c24 ?k24 ?a25 ?l25 ?c25 ?k25 ?a26 ?l26 ?c26 ?k26 ?a27 ?l27 ?c27 ?k27 ?a28 ?l28 ?c28 ?k28 ?a29 ?l29 ?c29 ?k29 ?a30 ?l30 ?c30 ?k30 ?a31 ?l31 ?c31 ?k31 ?a32 ?l32 ?c32 ?k32 ?a33 ?l33 ?c33 ?k33 ?a34 ?l34 ?c34 ?k34 ?a35 ?l35 ?c35 ?k35 ?a36 ?l36 ?c36 ?k36 ?a37 ?l37 ?c37 ?k37 ?a38 ?l38 ?c38 ?k38 ?a39 ?l39 ?c39 ?k39 ?a40 ?l40 ?c40 ?k40 ?a41 ?l41 ?c41 ?k41 ?a42 ?l42 ?c42 ?k42 ?aC ?aCm0 ?lCm0 ?cCm0 ?kCm0 ?iCm0 ?aCm1 ?lCm1 ?cCm1 ?kCm1 ?iCm1 ?pgC ?hdC ?poC ?saC ?mkC ?kcC ?nCtold ?nCline ?z1 ?z2 ?z3 ?z4 ?z5 ?z6 ?z7 ?z8 ?z9 ?z10 ?z11 ?z12 ?eL ?eLo ?eR ?eRo ?e8 ?e1 ?e2 ?axF ?axT ?axP ?axK ?axL ?axX ?axB ?exT ?exP ?exX ?zV ?zstr ?zall ?btB ?bhB ?gaX ?hkX ?ccX ?hnC ?htC ?hoX ?hbX ?kno ?kXX ?kXV ?kXB ?eFig ?eMost
  (case a1 => k_is)
  (case l1 => k_is)
  (case c1 => k_is)
  (case k1 => k_is)
  (case a2 => k_is)
  (case l2 => k_is)
  (case c2 => k_is)
  (case k2 => k_is)
  (case a3 => k_is)
  (case l3 => k_is)
  (case c3 => k_is)
  (case k3 => k_is)
  (case a4 => k_is)
  (case l4 => k_is)
  (case c4 => k_is)
  (case k4 => k_is)
  (case a5 => k_is)
  (case l5 => k_is)
  (case c5 => k_is)
  (case k5 => k_is)
  (case a6 => k_is)
  (case l6 => k_is)
  (case c6 => k_is)
  (case k6 => k_is)
  (case a7 => k_is)
  (case l7 => k_is)
  (case c7 => k_is)
  (case k7 => k_is)
  (case a8 => k_is)
  (case l8 => k_is)
  (case c8 => k_is)
  (case k8 => k_is)
  (case a9 => k_is)
  (case l9 => k_is)
  (case c9 => k_is)
  (case k9 => k_is)
  (case a10 => k_is)
  (case l10 => k_is)
  (case c10 => k_is)
  (case k10 => k_is)
  (case a11 => k_is)
  (case l11 => k_is)
  (case c11 => k_is)
  (case k11 => k_is)
  (case a12 => k_is)
  (case l12 => k_is)
  (case c12 => k_is)
  (case k12 => k_is)
  (case a13 => k_is)
  (case l13 => k_is)
  (case c13 => k_is)
  (case k13 => k_is)
  (case a14 => k_is)
  (case l14 => k_is)
  (case c14 => k_is)
  (case k14 => k_is)
  (case a15 => k_is)
  (case l15 => k_is)
  (case c15 => k_is)
  (case k15 => k_is)
  (case a16 => k_is)
  (case l16 => k_is)
  (case c16 => k_is)
  (case k16 => k_is)
  (case a17 => k_is)
  (case l17 => k_is)
  (case c17 => k_is)
  (case k17 => k_is)
  (case a18 => k_is)
  (case l18 => k_is)
  (case c18 => k_is)
  (case k18 => k_is)
  (case a19 => k_is)
  (case l19 => k_is)
  (case c19 => k_is)
  (case k19 => k_is)
  (case a20 => k_is)
  (case l20 => k_is)
  (case c20 => k_is)
  (case k20 => k_is)
  (case a21 => k_is)
  (case l21 => k_is)
  (case c21 => k_is)
  (case k21 => k_is)
  (case a22 => k_is)
  (case l22 => k_is)
  (case c22 => k_is)
  (case k22 => k_is)
  (case a23 => k_is)
  (case l23 => k_is)
  (case c23 => k_is)
  (case k23 => k_is)
  (case a24 => k_is)
  (case l24 => k_is)
  (case c24 => k_is)
  (case k24 => k_is)
  (case a25 => k_is)
  (case l25 => k_is)
  (case c25 => k_is)
  (case k25 => k_is)
  (case a26 => k_is)
  (case l26 => k_is)
  (case c26 => k_is)
  (case k26 => k_is)
  (case a27 => k_is)
  (case l27 => k_is)
  (case c27 => k_is)
  (case k27 => k_is)
  (case a28 => k_is)
  (case l28 => k_is)
  (case c28 => k_is)
  (case k28 => k_is)
  (case a29 => k_is)
  (case l29 => k_is)
  (case c29 => k_is)
  (case k29 => k_is)
  (case a30 => k_is)
  (case l30 => k_is)
  (case c30 => k_is)
  (case k30 => k_is)
  (case a31 => k_is)
  (case l31 => k_is)
  (case c31 => k_is)
  (case k31 => k_is)
  (case a32 => k_is)
  (case l32 => k_is)
  (case c32 => k_is)
  (case k32 => k_is)
  (case a33 => k_is)
  (case l33 => k_is)
  (case c33 => k_is)
  (case k33 => k_is)
  (case a34 => k_is)
  (case l34 => k_is)
  (case c34 => k_is)
  (case k34 => k_is)
  (case a35 => k_is)
  (case l35 => k_is)
  (case c35 => k_is)
  (case k35 => k_is)
  (case a36 => k_is)
  (case l36 => k_is)
  (case c36 => k_is)
  (case k36 => k_is)
  (case a37 => k_is)
  (case l37 => k_is)
  (case c37 => k_is)
  (case k37 => k_is)
  (case a38 => k_is)
  (case l38 => k_is)
  (case c38 => k_is)
  (case k38 => k_is)
  (case a39 => k_is)
  (case l39 => k_is)
  (case c39 => k_is)
  (case k39 => k_is)
  (case a40 => k_is)
  (case l40 => k_is)
  (case c40 => k_is)
  (case k40 => k_is)
  (case a41 => k_is)
  (case l41 => k_is)
  (case c41 => k_is)
  (case k41 => k_is)
  (case a42 => k_is)
  (case l42 => k_is)
  (case c42 => k_is)
  (case k42 => k_is)
  (case aC => k_is)
  (case aCm0 => k_is)
  (case lCm0 => k_is)
  (case cCm0 => k_is)
  (case kCm0 => k_is)
  (case iCm0 => k_is)
  (case aCm1 => k_is)
  (case lCm1 => k_is)
  (case cCm1 => k_is)
  (case kCm1 => k_is)
  (case iCm1 => k_is)
  (case pgC => k_is)
  (case hdC => k_is)
  (case poC => k_is)
  (case saC => k_is)
  (case mkC => k_is)
  (case kcC => k_is)
  (case nCtold => k_is)
  (case nCline => k_is)
  (case z1 => k_is)
  (case z2 => k_is)
  (case z3 => k_is)
  (case z4 => k_is)
  (case z5 => k_is)
  (case z6 => k_is)
  (case z7 => k_is)
  (case z8 => k_is)
  (case z9 => k_is)
  (case z10 => k_is)
  (case z11 => k_is)
  (case z12 => k_is)
  (case eL => k_is)
  (case eLo => k_is)
  (case eR => k_is)
  (case eRo => k_is)
  (case e8 => k_is)
  (case e1 => k_is)
  (case e2 => k_is)
  (case axF => k_is)
  (case axT => k_is)
  (case axP => k_is)
  (case axK => k_is)
  (case axL => k_is)
  (case axX => k_is)
  (case axB => k_is)
  (case exT => k_exc)
  (case exP => k_exc)
  (case exX => k_exc)
  (case zV => k_is)
  (case zstr => k_is)
  (case zall => k_is)
  (case btB => k_is)
  (case bhB => k_is)
  (case gaX => k_is)
  (case hkX => k_is)
  (case ccX => k_is)
  (case hnC => k_is)
  (case htC => k_is)
  (case hoX => k_is)
  (case hbX => k_is)
  (case kno => kernel_rfl)
  (case kXX => kernel_rfl)
  (case kXV => kernel_rfl)
  (case kXB => k_is)
  (case eFig => k_is)
  (case eMost => k_is)
#print axioms PySem.Challenge.cw_fairknife_k14_written_holds
