import PyProof.Rows.All
import Wide.All
import Wide.FinOn
import KE.KFromBytes
import KE.KIsAll
import KE.KItem
import KE.KLam
import KE.KNest
import KE.KRevIter
import KE.KSortKey
import KE.KxBytes
import OpenK.KCall
import OpenK.KCls
import OpenK.KDescr
import OpenK.KFacts
import OpenK.KGet
import OpenK.KLine
import OpenK.KMake
import OpenK.KMore
import OpenK.KOwn
import OpenK.KWalk
import OpenK.Peek
import PyProof.EqAt
import PyProof.EqKinds
import PyProof.TupleCall
import KE.KNestM
import PySem.Challenge.RW_fairknife_k15_refused
set_option Elab.async false
set_option linter.all false
set_option maxRecDepth 100000
set_option maxHeartbeats 4000000
namespace HQ
open PySem PySem.W PySem.Calls PyProof.Rows
theorem left_one {p q : Program} {loose : List Str} {Xt : Shared → Bool} {α : Type} {Yf : Shared → α} {Ya : World → α} {N : Nat} {H : Params → Heap} {gs : Array GenState} {dr : Drawn} {tk m : Nat} {an : Option Value}
  (e0 : ∀ w : World, (fencedOpening treeTable p w N).map (fun s => (s.heap, s.gens, s.drawn, s.toks)) = some (H w.params, gs, dr, tk))
  (e1 : ∀ w : World, ((H w.params).isNs mainGlobals && gs.size == 0, (H w.params).objs.size, (H w.params).nsMap mainGlobals "__annotations__") = (true, m, an))
  (e2 : ∀ (w : World) (os : OsState), ∃ s M, Nat.ble M N = true ∧ topRun treeTable p w m an M ⟨H w.params, gs, dr, tk, os⟩ (topStub p) = some s ∧
   (staticsOk (importedModules p.main.body) (H w.params) s.heap && namesBound p s.heap && gensDone s && laidKept (H w.params) s.heap) = true ∧
   openSeen q loose (importedModules p.main.body) Xt true s = openGood q loose ∧ Yf s = Ya w) : LeftO p q loose Xt Yf Ya N := fun w => by
 obtain ⟨⟨h, g, d, k, os⟩, a, b⟩ := Option.map_eq_some_iff.mp (e0 w)
 have b' : h = H w.params ∧ g = gs ∧ d = dr ∧ k = tk := by simpa using b
 obtain ⟨rfl, rfl, rfl, rfl⟩ := b'
 have z := e1 w
 simp only [Prod.mk.injEq] at z
 obtain ⟨z1, z2, z3⟩ := z
 obtain ⟨s, M, le, r, l1, l2, l3⟩ := e2 w os
 have r' := topRun_mono (N - M) _ _ _ _ r
 have hN : M + (N - M) = N := by have := Nat.le_of_ble_eq_true le; omega
 rw [hN] at r'
 have t : topFrom treeTable p w N ⟨H w.params, g, d, k, os⟩ = some s := by
  unfold topFrom
  dsimp only
  rw [z1, z2, z3, r']
  dsimp only [Option.bind]
  rw [l1]
 unfold openEnds
 rw [a]
 dsimp only [Option.bind]
 rw [t]
 exact congrArg some (Prod.ext l2 l3)
theorem run_one {p : Program} {w : World} {m : Nat} {an : Option Value} {env : Env} {fp posA posB posC : Pos} {n0 nb n1 n2 : Nat} {s0 sA r : Shared} {sT s' : SharedT} {b : List Stmt}
  (h0 : topGo treeTable p w m an n0 s0 (topStub p) = some (sA, ⟨denote treeTable (.body b env), .body b env, posA, [topFrame fp]⟩))
  (hb : segRun treeTable p w m an 1 nb sA (blockOf b env (.body b env) posA [topFrame fp]) = some (.next, sT.abs, .body b env, posB))
  (h1 : segRunT treeTable p w m an 1 n1 sT (piecesOf b env (.body b env) posB [topFrame fp]) = some (.next, s', .body b env, posC))
  (h2 : topRun treeTable p w m an n2 s'.abs ⟨doneF .next, .body b env, posC, [topFrame fp]⟩ = some r) :
  topRun treeTable p w m an (n0 + (nb + (n1 + n2))) s0 (topStub p) = some r := by
 have k := piece_app (rest := []) (segRun_of h1) (piece_nil (env := env) h2)
 rw [List.append_nil] at k
 exact go_top h0 (piece_block hb k)
end HQ
namespace HQ
open PySem PySem.W PySem.Calls PyProof.Rows
noncomputable section
abbrev pw : Program := PySem.Challenge.pw_fairknife_k15_refused
def qv : Program := view pw [1, 2, 3, 4, 5, 6, 7, 9, 10, 11, 12, 13, 14, 15, 16, 17, 18, 20, 21, 22, 23, 24, 26, 27, 28, 29, 30, 31, 32, 33, 34, 35, 36, 37, 39, 40, 41, 42, 43, 44, 45, 46, 48, 50, 51, 52, 53, 55, 56, 57, 58, 59, 60, 61, 62, 63, 64, 65, 66, 67, 68, 69, 70, 71, 72, 73, 74, 75, 76, 78, 79, 80, 81, 82, 83, 84, 85, 86, 87, 88]
def xt (s : Shared) : Bool := xlAt qv [] s && recOk (RowW.records (OpenRow.toRowW (OpenLaw.row PySem.Challenge.rw_fairknife_k15_refused))) s
def envT : Env := { scope := pw.main.scope, locals := mainNs, globals := mainNs, cells := [], code := Value.ref 13, frame := some 14 }
abbrev bT : List Stmt := behindTheImports pw
abbrev cT : Code := .body bT envT
def fpT : Pos := { line := 0, col := 0, endLine := 0, endCol := 0 }
def paT : Pos := { line := 0, col := 0, endLine := 0, endCol := 0 }
def pbT : Pos := { line := 0, col := 0, endLine := 0, endCol := 0 }
def pcT : Pos := { line := 503, col := 0, endLine := 517, endCol := 15 }
def anT : Option Value := Option.some (Value.ref 6)
def hx0 : Params → Obj := fun P => { cls := Value.type "tuple", data := Data.seq #[] }
def hx1 : Params → Obj := fun P => { cls := Value.none, data := Data.fields #[] }
def hx2 : Params → Obj := fun P => { cls := Value.type "code", data := Data.fields #[Value.str (Str.ofString "<module>") 182, Value.str (Str.ofString "<module>") 183, Value.str (Str.ofString "/claim/cut.py") 184, Value.int 1 0, Value.int 0 0, Value.int 0 0, Value.int 0 0, Value.int 0 0, Value.ref 11, Value.bool Bool.false, Value.int 181 0, Value.ref 12, Value.none, Value.none, Value.none, Value.none, Value.int 185 0, Value.int 1 0, Value.str (Str.ofString "/claim/cut.py") 186] }
def hx3 : Params → Obj := fun P => { cls := Value.type "frame", slots := #[Option.some (Value.ref 13), Option.some (Value.ref 3), Option.some (Value.ref 3), Option.none, Option.some (Value.str (Str.ofString "__main__") 164), Option.none, Option.some (Value.ref 0)] }
def haT (P : Params) : Heap := ⟨⟨[boot_o_0 P, boot_o_1 P, boot_o_2 P, boot_o_3 P, boot_o_4 P, boot_o_5 P, boot_o_6 P, boot_o_7 P, boot_o_8 P, boot_o_9 P, boot_o_10 P, hx0 P, hx1 P, hx2 P, hx3 P]⟩, { }⟩
def tbT (P : Params) : BT := (.node (boot_o_0 P) (.node (boot_o_1 P) (.node (boot_o_3 P) (.node (boot_o_7 P) .nil .nil) (.node (hx0 P) .nil .nil)) (.node (boot_o_5 P) (.node (boot_o_9 P) .nil .nil) (.node (hx2 P) .nil .nil))) (.node (boot_o_2 P) (.node (boot_o_4 P) (.node (boot_o_8 P) .nil .nil) (.node (hx1 P) .nil .nil)) (.node (boot_o_6 P) (.node (boot_o_10 P) .nil .nil) (.node (hx3 P) .nil .nil))))
def saT (w : World) (os : OsState) : Shared := ⟨haT w.params, .mk [], { }, 187, os⟩
def sbT (w : World) (os : OsState) : SharedT := ⟨tbT w.params, 15, { }, .mk [], { }, 187, os⟩
def s0T (w : World) (os : OsState) : Shared := ⟨boot_heap w.params, .mk [], boot_drawn, boot_toks, os⟩
def aT (w : World) (os : OsState) := topGo treeTable pw w 11 anT 12 (s0T w os) (topStub pw)
def aR (w : World) (os : OsState) : Option (Shared × Thread) := some (saT w os, ⟨denote treeTable cT, cT, paT, [topFrame fpT]⟩)
def bL (w : World) (os : OsState) := segRun treeTable pw w 11 anT 1 1 (saT w os) (blockOf bT envT cT paT [topFrame fpT])
def bR (w : World) (os : OsState) : Option (Flow × Shared × Code × Pos) := some (.next, (sbT w os).abs, cT, pbT)
def zL (w : World) := ((boot_heap w.params).isNs mainGlobals && (Array.mk ([] : List GenState)).size == 0, (boot_heap w.params).objs.size, (boot_heap w.params).nsMap mainGlobals "__annotations__")
def zR : Bool × Nat × Option Value := (true, 11, anT)
def runT (w : World) (os : OsState) : Option ((Flow × Code × Pos) × Shared) :=
 (segRunT treeTable pw w 11 anT 1 5518 (sbT w os) (piecesOf bT envT cT pbT [topFrame fpT])).bind fun x =>
  (topRun treeTable pw w 11 anT 2 x.2.1.abs ⟨doneF .next, cT, pcT, [topFrame fpT]⟩).map fun s => ((x.1, x.2.2.1, x.2.2.2), s)
def osT (s : Shared) := openSeen qv [] (importedModules pw.main.body) xt true s
def eA (w : World) (os : OsState) := (runT w os).map fun y => (y.1, (staticsOk (importedModules pw.main.body) (boot_heap w.params) y.2.heap && namesBound pw y.2.heap && gensDone y.2 && laidKept (boot_heap w.params) y.2.heap))
def eB (w : World) (os : OsState) := (runT w os).map fun y => (osT y.2).1
def eF (w : World) (os : OsState) := (runT w os).map fun y => (osT y.2).2.1
def eC (w : World) (os : OsState) := (runT w os).map fun y => (osT y.2).2.2.1
def eD (w : World) (os : OsState) := (runT w os).map fun y => (osT y.2).2.2.2.1
def eD2 (w : World) (os : OsState) := (runT w os).map fun y => (osT y.2).2.2.2.2.1
def eD3 (w : World) (os : OsState) := (runT w os).map fun y => (osT y.2).2.2.2.2.2.1
def eG (w : World) (os : OsState) := (runT w os).map fun y => (osT y.2).2.2.2.2.2.2
def eE (as ts : List Addr) (w : World) (os : OsState) := (runT w os).map fun y => (as.map y.2.heap.get?, ts.map y.2.heap.get?)
def rA := (((.next, cT, pcT) : Flow × Code × Pos), true)
def rB := (openGood qv []).1
def rF := (openGood qv []).2.1
def rC := (openGood qv []).2.2.1
def rD := (openGood qv []).2.2.2.1
def rD2 := (openGood qv []).2.2.2.2.1
def rD3 := (openGood qv []).2.2.2.2.2.1
def rG := (openGood qv []).2.2.2.2.2.2
theorem aT_s : aT = aT := rfl
theorem aR_s : aR = aR := rfl
theorem bL_s : bL = bL := rfl
theorem bR_s : bR = bR := rfl
theorem zL_s : zL = zL := rfl
theorem eA_s : eA = eA := rfl
theorem eB_s : eB = eB := rfl
theorem eF_s : eF = eF := rfl
theorem eC_s : eC = eC := rfl
theorem eD_s : eD = eD := rfl
theorem eD2_s : eD2 = eD2 := rfl
theorem eD3_s : eD3 = eD3 := rfl
theorem eG_s : eG = eG := rfl
theorem eE_s : eE = eE := rfl
theorem rA_s : rA = rA := rfl
theorem rB_s : rB = rB := rfl
theorem rF_s : rF = rF := rfl
theorem rC_s : rC = rC := rfl
theorem rD_s : rD = rD := rfl
theorem rD2_s : rD2 = rD2 := rfl
theorem rD3_s : rD3 = rD3 := rfl
theorem rG_s : rG = rG := rfl
end
end HQ
name_quick qaT for HQ.aT by HQ.aT_s
name_quick qaR for HQ.aR by HQ.aR_s
name_quick qbL for HQ.bL by HQ.bL_s
name_quick qbR for HQ.bR by HQ.bR_s
name_quick qzL for HQ.zL by HQ.zL_s
name_quick qeA for HQ.eA by HQ.eA_s
name_quick qeB for HQ.eB by HQ.eB_s
name_quick qeF for HQ.eF by HQ.eF_s
name_quick qeC for HQ.eC by HQ.eC_s
name_quick qeD for HQ.eD by HQ.eD_s
name_quick qeD2 for HQ.eD2 by HQ.eD2_s
name_quick qeD3 for HQ.eD3 by HQ.eD3_s
name_quick qeG for HQ.eG by HQ.eG_s
name_quick qeE for HQ.eE by HQ.eE_s
name_quick qrA for HQ.rA by HQ.rA_s
name_quick qrB for HQ.rB by HQ.rB_s
name_quick qrF for HQ.rF by HQ.rF_s
name_quick qrC for HQ.rC by HQ.rC_s
name_quick qrD for HQ.rD by HQ.rD_s
name_quick qrD2 for HQ.rD2 by HQ.rD2_s
name_quick qrD3 for HQ.rD3 by HQ.rD3_s
name_quick qrG for HQ.rG by HQ.rG_s
namespace HQ
open PySem PySem.W PySem.Calls PyProof.Rows
theorem a_eq : aT = aR := PySem.W.Fast.qaT_eq.trans ((by kernel_rfl : PySem.W.Fast.qaT = PySem.W.Fast.qaR).trans PySem.W.Fast.qaR_eq.symm)
theorem b_eq : bL = bR := PySem.W.Fast.qbL_eq.trans ((by kernel_rfl : PySem.W.Fast.qbL = PySem.W.Fast.qbR).trans PySem.W.Fast.qbR_eq.symm)
theorem z_eq : zL = fun _ => zR := PySem.W.Fast.qzL_eq.trans (by kernel_rfl : PySem.W.Fast.qzL = fun _ => zR)
theorem op_eq (w : World) : (fencedOpening treeTable pw w 11160).map (fun s => (s.heap, s.gens, s.drawn, s.toks)) = some (boot_heap w.params, Array.mk [], boot_drawn, boot_toks) :=
 boot_open (by kernel_rfl) (by decide) (fun s => by kernel_rfl) w
theorem evA : PySem.W.Fast.qeA = fun _ _ => some PySem.W.Fast.qrA := by kernel_rfl
theorem evB : PySem.W.Fast.qeB = fun _ _ => some PySem.W.Fast.qrB := by kernel_rfl
theorem evC : PySem.W.Fast.qeC = fun _ _ => some PySem.W.Fast.qrC := by kernel_rfl
theorem evD : PySem.W.Fast.qeD = fun _ _ => some PySem.W.Fast.qrD := by kernel_rfl
theorem evD2 : PySem.W.Fast.qeD2 = fun _ _ => some PySem.W.Fast.qrD2 := by kernel_rfl
theorem evD3 : PySem.W.Fast.qeD3 = fun _ _ => some PySem.W.Fast.qrD3 := by kernel_rfl
theorem evF : PySem.W.Fast.qeF = fun _ _ => some PySem.W.Fast.qrF := by kernel_rfl
theorem evG : PySem.W.Fast.qeG = fun _ _ => some PySem.W.Fast.qrG := by kernel_rfl
theorem e_ap {as bs ts us : List Addr} {A B A' B' : List (Option Obj)} {w : World} {os : OsState} (h : eE as ts w os = some (A, B)) (k : eE bs us w os = some (A', B')) : eE (as ++ bs) (ts ++ us) w os = some (A ++ A', B ++ B') := by
 unfold eE at h k ⊢
 obtain ⟨y, hy, e⟩ := Option.map_eq_some_iff.mp h
 rw [hy] at k ⊢
 have k' := Option.some.inj k
 simp only [Prod.mk.injEq] at e k'
 simp only [Option.map_some, List.map_append, e.1, e.2, k'.1, k'.2]
theorem e_cut {n : Nat} {as ts : List Addr} {X : List (Nat × Obj)} {B : List (Option Obj)} {w : World} {os : OsState} (h : eE (as.take n) [] w os = some ((X.take n).map fun p => some p.2, [])) (k : eE (as.drop n) ts w os = some ((X.drop n).map fun p => some p.2, B)) : eE as ts w os = some (X.map fun p => some p.2, B) := by
 have r := e_ap h k
 rw [List.take_append_drop, ← List.map_append, List.take_append_drop] at r
 exact r
theorem e_of {as ts : List Addr} {Y : List (Option Obj) × List (Option Obj)} {w : World} (h : PySem.W.Fast.qeE as ts w = fun _ => some Y) (os : OsState) : eE as ts w os = some Y := by rw [PySem.W.Fast.qeE_eq]; exact congrFun h os
theorem left_of {as ts : List Addr} {Ya : World → List (Option Obj) × List (Option Obj)} (ev : ∀ w os, eE as ts w os = some (Ya w)) : LeftO pw qv [] xt (fun s => (as.map s.heap.get?, ts.map s.heap.get?)) Ya 11160 := by
 refine left_one (H := boot_heap) (gs := .mk []) (m := 11) (an := anT) op_eq (congrFun z_eq) fun w os => ?_
 have hA : eA w os = some rA := by rw [PySem.W.Fast.qeA_eq, PySem.W.Fast.qrA_eq, evA]
 have hB : eB w os = some rB := by rw [PySem.W.Fast.qeB_eq, PySem.W.Fast.qrB_eq, evB]
 have hC : eC w os = some rC := by rw [PySem.W.Fast.qeC_eq, PySem.W.Fast.qrC_eq, evC]
 have hD : eD w os = some rD := by rw [PySem.W.Fast.qeD_eq, PySem.W.Fast.qrD_eq, evD]
 have hD2 : eD2 w os = some rD2 := by rw [PySem.W.Fast.qeD2_eq, PySem.W.Fast.qrD2_eq, evD2]
 have hD3 : eD3 w os = some rD3 := by rw [PySem.W.Fast.qeD3_eq, PySem.W.Fast.qrD3_eq, evD3]
 have hF : eF w os = some rF := by rw [PySem.W.Fast.qeF_eq, PySem.W.Fast.qrF_eq, evF]
 have hG : eG w os = some rG := by rw [PySem.W.Fast.qeG_eq, PySem.W.Fast.qrG_eq, evG]
 have hE := ev w os
 unfold eA at hA
 unfold eB at hB
 unfold eC at hC
 unfold eD at hD
 unfold eD2 at hD2
 unfold eD3 at hD3
 unfold eE at hE
 unfold eF at hF
 unfold eG at hG
 obtain ⟨y, hy, e⟩ := Option.map_eq_some_iff.mp hA
 rw [hy] at hB hC hD hD2 hD3 hE hF hG
 unfold runT at hy
 obtain ⟨x, hx, e'⟩ := Option.bind_eq_some_iff.mp hy
 obtain ⟨s, hs, e''⟩ := Option.map_eq_some_iff.mp e'
 obtain ⟨f, s', c', p'⟩ := x
 subst e''
 unfold rA at e
 simp only [Prod.mk.injEq] at e
 obtain ⟨⟨rfl, rfl, rfl⟩, e1⟩ := e
 have b1 : (osT s).1 = (openGood qv []).1 := Option.some.inj hB
 have b2 : (osT s).2.1 = (openGood qv []).2.1 := Option.some.inj hF
 have b3 : (osT s).2.2.1 = (openGood qv []).2.2.1 := Option.some.inj hC
 have b4 : (osT s).2.2.2.1 = (openGood qv []).2.2.2.1 := Option.some.inj hD
 have b42 : (osT s).2.2.2.2.1 = (openGood qv []).2.2.2.2.1 := Option.some.inj hD2
 have b43 : (osT s).2.2.2.2.2.1 = (openGood qv []).2.2.2.2.2.1 := Option.some.inj hD3
 have b5 : (osT s).2.2.2.2.2.2 = (openGood qv []).2.2.2.2.2.2 := Option.some.inj hG
 have e2 : osT s = openGood qv [] := Prod.ext b1 (Prod.ext b2 (Prod.ext b3 (Prod.ext b4 (Prod.ext b42 (Prod.ext b43 b5)))))
 exact ⟨s, 12 + (1 + (5518 + 2)), by decide, run_one (congrFun (congrFun a_eq w) os) (congrFun (congrFun b_eq w) os) hx hs, e1, e2, Option.some.inj hE⟩
end HQ
section
open PySem PySem.W PyProof.Rows
section
local macro_rules | `(tactic| o_head $H) => `(tactic| exact (fun (_ : PySem.W.Hook) => by assumption) $H)
set_option maxRecDepth 100000 in
theorem HQ.pre (h : PySem.W.OpenRow.Holds (PySem.W.OpenLaw.row PySem.Challenge.rw_fairknife_k15_refused)) : PySem.W.OpenRow.Holds (PySem.W.OpenLaw.row PySem.Challenge.rw_fairknife_k15_refused) := by
 k_head
end
def HQ.hA : List Addr := [2, 3, 15, 22, 23, 24, 25, 28, 35, 36, 37, 40, 47, 48, 49, 52, 59, 60, 61, 64, 71, 72, 73, 76, 83, 84, 85, 88, 95, 96, 97, 100, 102, 103, 105, 106, 107, 109, 110, 112, 113, 114, 116, 117, 119, 120, 121, 123, 124, 126, 127, 128, 130, 131, 133, 134, 135, 137, 138, 140, 141, 142, 144, 145, 147, 148, 149, 151, 152, 154, 155, 156, 158, 159, 161, 162, 163, 165, 166, 168, 169, 170, 172, 173, 175, 176, 177, 179, 180, 182, 183, 184, 186, 187, 189, 190, 191, 193, 194, 196, 197, 198, 200, 201, 203, 204, 205, 206, 207, 209, 210, 212, 213, 214, 216, 217, 219, 220, 221, 223, 224, 226, 227, 228, 230, 231, 233, 234, 235, 237, 238, 240, 241, 242, 244, 245, 247, 248, 249, 251, 252, 254, 255, 256, 258, 259, 261, 262, 263, 265, 266, 268, 269, 270, 272, 273, 275, 276, 277, 279, 280, 282, 283, 284, 286, 287, 289, 290, 291, 293, 294, 296, 297, 298, 301, 302, 310, 312, 313, 315, 316, 317, 319, 320, 322, 323, 324, 326, 327, 329, 330, 331, 334, 335, 336, 338, 339, 341, 342, 343, 345, 346, 348, 349, 350, 352, 353, 355, 356, 357, 359, 360, 362, 363, 364, 366, 367, 369, 370, 371, 372, 373, 374, 375, 378, 381, 382, 383, 385, 386, 388, 389, 390, 392, 393, 395, 396, 397, 400, 401, 402, 403, 404, 405, 406, 408, 409, 411, 412, 413, 415, 416, 418, 419, 420, 423, 424, 425, 428, 429, 430, 432, 433, 435, 436, 437, 440, 441, 442, 444, 445, 447, 448, 449, 451, 452, 454, 455, 456, 458, 459, 461, 462, 463, 465, 466, 468, 469, 470, 473, 474, 475, 478, 479, 480, 482, 483, 485, 486, 494, 496, 497, 499, 500, 501, 502, 503, 504, 505, 508, 515, 517, 518, 520, 521, 522, 523, 524, 527, 534, 537, 538, 539, 540, 541, 544, 551, 554, 555, 556, 557, 558, 561, 568, 570, 571, 573, 574, 575, 576, 577, 580, 587, 589, 590, 592, 593, 594, 595, 596, 599, 606, 608, 609, 611, 612, 613, 614, 615, 618, 620, 621, 623, 624, 625, 628, 629, 630, 632, 633, 635, 636, 637, 639, 640, 642, 643, 644, 647, 648, 649, 651, 652, 654, 655, 656, 658, 659, 661, 662, 663, 665, 666, 668, 669, 670, 672, 673, 675, 676, 677, 679, 680, 682, 683, 684, 687, 688]
def HQ.hT : List Addr := [164, 264, 257, 250, 685]
set_option maxRecDepth 100000 in
theorem HQ.ev1 : ∀ w : World, PySem.W.Fast.qeE (HQ.hA.take 200) [] w = fun _ => some (((HQ.pre.heap_1 w.params).take 200).map fun p => some p.2, []) := fun w => by kernel_rfl
set_option maxRecDepth 100000 in
theorem HQ.ev2 : ∀ w : World, PySem.W.Fast.qeE ((HQ.hA.drop 200).take 200) [] w = fun _ => some ((((HQ.pre.heap_1 w.params).drop 200).take 200).map fun p => some p.2, []) := fun w => by kernel_rfl
set_option maxRecDepth 100000 in
theorem HQ.ev3 : ∀ w : World, PySem.W.Fast.qeE ((HQ.hA.drop 200).drop 200) HQ.hT w = fun _ => some ((((HQ.pre.heap_1 w.params).drop 200).drop 200).map fun p => some p.2, HQ.hT.map fun _ => some (tabObj #[])) := fun w => by kernel_rfl
theorem HQ.ev : ∀ (w : World) (os : OsState), HQ.eE HQ.hA HQ.hT w os = some ((HQ.pre.heap_1 w.params).map fun p => some p.2, HQ.hT.map fun _ => some (tabObj #[])) := fun w os => HQ.e_cut (HQ.e_of (HQ.ev1 w) os) (HQ.e_cut (HQ.e_of (HQ.ev2 w) os) (HQ.e_of (HQ.ev3 w) os))
end
namespace L2
open PySem PySem.Spec PyProof.Rows
abbrev Key := Sum Int Str
def keyIs : Key → Value → Bool
 | .inl k, v => Value.isInt k v
 | .inr x, v => Value.isStrOf x v
def keyH (w : World) : Key → Int
 | .inl k => hashInt k
 | .inr x => hashStr w x
theorem keyIs_shape : ∀ {k : Key} {v : Value}, keyIs k v = true → (∃ i t, k = Sum.inl i ∧ v = Value.int i t) ∨ (∃ x t, k = Sum.inr x ∧ v = Value.str x t)
 | .inl i, v, h => by
  obtain ⟨t, e⟩ := Value.isInt_shape (k := i) (v := v) h
  exact .inl ⟨i, t, rfl, e⟩
 | .inr x, v, h => by
  obtain ⟨t, e⟩ := Value.isStrOf_shape (x := x) (v := v) h
  exact .inr ⟨x, t, rfl, e⟩
theorem keyIs_int (i : Int) (t : Tok) : keyIs (.inl i) (.int i t) = true := by simp [keyIs, Value.isInt]
theorem keyIs_str (x : Str) (t : Tok) : keyIs (.inr x) (.str x t) = true := by simp [keyIs, Value.isStrOf]
theorem key_ll (a b : Int) : decide ((Sum.inl a : Key) = Sum.inl b) = (a == b) := by
 by_cases e : a = b
 ·subst e; simp
 ·have h : ¬ (Sum.inl a : Key) = Sum.inl b := fun q => e (Sum.inl.inj q)
  rw [decide_eq_false h]
  exact (beq_eq_false_iff_ne.mpr e).symm
theorem key_rr (a b : Str) : decide ((Sum.inr a : Key) = Sum.inr b) = decide (a = b) := by
 by_cases e : a = b
 ·subst e; simp
 ·have h : ¬ (Sum.inr a : Key) = Sum.inr b := fun q => e (Sum.inr.inj q)
  rw [decide_eq_false h, decide_eq_false e]
theorem key_lr (a : Int) (b : Str) : decide ((Sum.inl a : Key) = Sum.inr b) = false := decide_eq_false (fun q => nomatch q)
theorem key_rl (a : Str) (b : Int) : decide ((Sum.inr a : Key) = Sum.inl b) = false := decide_eq_false (fun q => nomatch q)
def mixKind (prog : Program) (w : World) : PySem.KeyKind prog w Key where
 is := keyIs
 hash := keyH w
 inj := fun v a b ha hb => by
  rcases keyIs_shape ha with ⟨i, t, rfl, rfl⟩ | ⟨x, t, rfl, rfl⟩
  ·rcases keyIs_shape hb with ⟨j, u, rfl, e⟩ | ⟨y, u, rfl, e⟩
   ·injection e with e1 _; rw [e1]
   ·exact nomatch e
  ·rcases keyIs_shape hb with ⟨j, u, rfl, e⟩ | ⟨y, u, rfl, e⟩
   ·exact nomatch e
   ·injection e with e1 _; rw [e1]
 byValue := fun k v h => by
  rcases keyIs_shape h with ⟨i, t, rfl, rfl⟩ | ⟨x, t, rfl, rfl⟩ <;> rfl
 pyHash := fun hv h => by
  rcases keyIs_shape hv with ⟨i, t, rfl, rfl⟩ | ⟨x, t, rfl, rfl⟩
  ·exact wpAny_pyHash_int h
  ·exact wpAny_pyHash_str h
 eqBool := fun hu hv h => by
  rcases keyIs_shape hu with ⟨i, t, rfl, rfl⟩ | ⟨x, t, rfl, rfl⟩
  ·rcases keyIs_shape hv with ⟨j, u, rfl, rfl⟩ | ⟨y, u, rfl, rfl⟩
   ·rw [key_ll] at h; exact wpAny_eqBool_int h
   ·rw [key_lr] at h; exact SeqAt.EqAt.int_str i t y u _ _ _ _ h
  ·rcases keyIs_shape hv with ⟨j, u, rfl, rfl⟩ | ⟨y, u, rfl, rfl⟩
   ·rw [key_rl] at h; exact SeqAt.EqAt.str_int x t j u _ _ _ _ h
   ·rw [key_rr] at h; exact wpAny_eqBool_str h
 «strs» := fun k x t v h => by
  rcases keyIs_shape h with ⟨i, u, rfl, e⟩ | ⟨y, u, rfl, e⟩
  ·exact nomatch e
  ·injection e with e1 _
   subst e1
   cases v <;> rfl
theorem mixKind_int (prog : Program) (w : World) (i : Int) (t : Tok) : (mixKind prog w).is (.inl i) (.int i t) = true := keyIs_int i t
theorem mixKind_str (prog : Program) (w : World) (x : Str) (t : Tok) : (mixKind prog w).is (.inr x) (.str x t) = true := keyIs_str x t
end L2
namespace L2
open PySem PySem.Spec PyProof.Rows
inductive V where
 | non | bl (b : Bool) | int (i : Int) | str (x : Str) | byt (b : Array UInt8) | flt (b : UInt64) | ref (a : Addr) | ty (n : String)
 deriving DecidableEq
def RelV : V → Value → Prop
 | .non, u => u = Value.none
 | .bl b, u => u = Value.bool b
 | .int i, u => ∃ t, u = Value.int i t
 | .str x, u => ∃ t, u = Value.str x t
 | .byt b, u => ∃ t, u = Value.bytes b t
 | .flt b, u => ∃ t, u = Value.float b t
 | .ref a, u => u = Value.ref a
 | .ty n, u => u = Value.type n
abbrev Vals : List V → List Value → Prop := Paired RelV
theorem Vals.length {xs : List V} {us : List Value} (r : Vals xs us) : xs.length = us.length := Paired.length r
theorem Vals.get : ∀ {xs : List V} {us : List Value} {i : Nat} {x : V}, Vals xs us → xs[i]? = some x → ∃ u, us[i]? = some u ∧ RelV x u
 | _, _, _, _, .nil, e => by simp at e
 | _, _, 0, _, .cons r _, e => by simp at e; subst e; exact ⟨_, rfl, r⟩
 | _, _, i + 1, x, .cons _ t, e => by
  obtain ⟨u, h1, h2⟩ := Vals.get (i := i) (x := x) t (by simpa using e)
  exact ⟨u, by simpa using h1, h2⟩
theorem Vals.append : ∀ {xs ys : List V} {us ws : List Value}, Vals xs us → Vals ys ws → Vals (xs ++ ys) (us ++ ws)
 | _, _, _, _, .nil, s => s
 | _, _, _, _, .cons r t, s => .cons r (Vals.append t s)
def RelO : Option V → Option Value → Prop
 | some v, some u => RelV v u
 | none, none => True
 | _, _ => False
def KV {κ : Type} : List (κ × V) → List (κ × Value) → Prop := Paired fun (p : κ × V) (q : κ × Value) => p.1 = q.1 ∧ RelV p.2 q.2
def kV : Key → V
 | .inl i => .int i
 | .inr x => .str x
inductive HO where
  | lst (xs : List V)
  | tup (xs : List V)
  | dK (kvs : List (Key × V)) | dT (kvs : List (List Key × V))
  | set (S : Int → Bool) (n : Nat)
  | ins (C dx : Addr) (fs : List (Str × V))
  | own (x : Addr)
  | xd (fs : List (Str × V))
  | met (f x : Addr)
  | rng (lo hi : Int)
  | frz (o : Obj) (u : HO)
  | tbl (ps : Array Value)
  | ext (φ : Heap → Prop)
abbrev Hp := Addr → Option HO
def upd (H : Hp) (a : Addr) (o : HO) : Hp := fun b => if b = a then some o else H b
theorem upd_same {H : Hp} {a : Addr} {o : HO} : upd H a o a = some o := by unfold upd; rw [if_pos rfl]
theorem upd_ne {H : Hp} {a b : Addr} {o : HO} (h : b ≠ a) : upd H a o b = H b := by unfold upd; rw [if_neg h]
theorem ne_of {H : Hp} {a b : Addr} {o u : HO} (h : H a = some o) (h' : H b = some u) (d : o ≠ u) : a ≠ b := by
 intro e; subst e; rw [h] at h'; exact d (Option.some.inj h')
theorem ne_of_none {H : Hp} {a b : Addr} {o : HO} (h : H a = some o) (h' : H b = none) : a ≠ b := by
 intro e; subst e; rw [h] at h'; cases h'
section
variable (P : Program) (w : World)
def ObjOk (H : Hp) (h : Heap) (a : Addr) : HO → Prop
 | .lst xs => xs.length ≤ sizeLine ∧ ∃ (its : List Value) (n : Nat), Vals xs its ∧ h.get? a = some { cls := .type "list", data := .seq its.toArray n }
 | .tup xs => xs.length ≤ sizeLine ∧ ∃ its : List Value, Vals xs its ∧ IsTup h a its.toArray
 | .dK kvs => kvs.length ≤ sizeLine ∧ (a == sysModules) = false ∧ ∃ vs, KV kvs vs ∧ h.DictOf (mixKind P w) a vs
 | .dT kvs => kvs.length ≤ sizeLine ∧ (a == sysModules) = false ∧ ∃ xs : List (List Key × Addr × Value),
   Paired (fun (p : List Key × V) (q : List Key × Addr × Value) => p.1 = q.1 ∧ H q.2.1 = some (.tup (p.1.map kV)) ∧ RelV p.2 q.2.2) kvs xs ∧
   ∃ o es ep, h.get? a = some o ∧ o.ExactDict ∧ o.data = .dict es ep ∧ es.toList = xs.map (entryOfKey (tupleKind (mixKind P w))) ∧ (xs.map (·.1)).Nodup
 | .set S n => h.SetOf (intKind P w) a S n
 | .ins C dx fs => H dx = some (.own a) ∧ fs.length ≤ 1000 ∧ dx ≠ a ∧ h.get? a = some (PySem.W.instObj C dx) ∧
   ∃ mA, h.Ns1 dx mA ∧ (∀ f, RelO (fs.lookup f) (mA f)) ∧ PySem.Within mA (fs.map (·.1))
 | .own _ => ∃ o, h.get? a = some o
 | .xd fs => ∃ mA, h.Ns1 a mA ∧ ∀ f, RelO (fs.lookup f) (mA f)
 | .rng lo hi => ∃ t u v, h.get? a = some { cls := .type "range", data := .fields #[.int lo t, .int hi u, .int 1 v] }
 | .frz o u => h.get? a = some o ∧ ObjOk H h a u
 | .tbl ps => h.get? a = some { cls := .none, data := .fields ps }
 | .met f x => h.get? a = some (PySem.W.methodObj (.ref f) (.ref x))
 | .ext φ => φ h ∧ (∃ o, h.get? a = some o) ∧ ∀ h1 h2 : Heap, φ h1 → (∀ o, h1.get? a = some o → h2.get? a = some o) → φ h2
def HOk (H : Hp) (h : Heap) : Prop := ∀ a o, H a = some o → ObjOk P w H h a o
end
section
variable {P : Program} {w : World} {H H' : Hp} {h h' : Heap} {a : Addr} {o : HO}
theorem ObjOk.lt (x : ObjOk P w H h a o) : a < h.objs.size := by
 cases o with
 | lst xs => obtain ⟨_, _, _, _, e⟩ := x; exact Heap.lt_size e
 | tup xs => obtain ⟨_, _, _, p⟩ := x; exact p.lt
 | dK kvs => obtain ⟨_, _, _, _, o, _, _, e, _⟩ := x; exact Heap.lt_size e
 | dT kvs => obtain ⟨_, _, _, _, o, _, _, e, _⟩ := x; exact Heap.lt_size e
 | set S n => obtain ⟨o, _, _, _, e, _⟩ := x; exact Heap.lt_size e
 | ins C dx fs => obtain ⟨_, _, _, e, _⟩ := x; exact Heap.lt_size e
 | own y => obtain ⟨_, e⟩ := x; exact Heap.lt_size e
 | xd fs => obtain ⟨_, ⟨_, _, _, e, _⟩, _⟩ := x; exact Heap.lt_size e
 | rng lo hi => obtain ⟨_, _, _, e⟩ := x; exact Heap.lt_size e
 | frz ob u => obtain ⟨e, _⟩ := x; exact Heap.lt_size e
 | tbl ps => exact Heap.lt_size (show h.get? a = some _ from x)
 | met f y => exact Heap.lt_size (show h.get? a = some _ from x)
 | ext φ => obtain ⟨_, ⟨_, e⟩, _⟩ := x; exact Heap.lt_size e
theorem Paired.mapP {α β : Type} {F G : α → β → Prop} : ∀ {l₁ : List α} {l₂ : List β}, Paired F l₁ l₂ → (∀ a b, F a b → G a b) → Paired G l₁ l₂
 | _, _, .nil, _ => .nil
 | _, _, .cons r t, f => .cons (f _ _ r) (Paired.mapP t f)
theorem ObjOk.stay (x : ObjOk P w H h a o) (k : ∀ b u, (b = a ∨ H b = some (.own a)) → h.get? b = some u → h'.get? b = some u)
  (ho : ∀ b, H b = some (.own a) → H' b = some (.own a)) (ht : ∀ b xs, H b = some (.tup xs) → H' b = some (.tup xs)) : ObjOk P w H' h' a o := by
 induction o with
 | lst xs => obtain ⟨z, its, n, r, e⟩ := x; exact ⟨z, its, n, r, k _ _ (.inl rfl) e⟩
 | tup xs => obtain ⟨z, its, r, ob, e, c⟩ := x; exact ⟨z, its, r, ob, k _ _ (.inl rfl) e, c⟩
 | dK kvs => obtain ⟨z, y, vs, r, ob, es, ep, e, c⟩ := x; exact ⟨z, y, vs, r, ob, es, ep, k _ _ (.inl rfl) e, c⟩
 | dT kvs =>
  obtain ⟨z, y, xs, r, ob, es, ep, e, c⟩ := x
  exact ⟨z, y, xs, Paired.mapP r fun p q z => ⟨z.1, ht _ _ z.2.1, z.2.2⟩, ob, es, ep, k _ _ (.inl rfl) e, c⟩
 | set S n => obtain ⟨ob, es, ep, t, e, c⟩ := x; exact ⟨ob, es, ep, t, k _ _ (.inl rfl) e, c⟩
 | ins C dx fs =>
  obtain ⟨d, z, ne, e, mA, ⟨od, es, ep, e2, c⟩, r⟩ := x
  exact ⟨ho _ d, z, ne, k _ _ (.inl rfl) e, mA, ⟨od, es, ep, k _ _ (.inr d) e2, c⟩, r⟩
 | own y => obtain ⟨ob, e⟩ := x; exact ⟨ob, k _ _ (.inl rfl) e⟩
 | xd fs => obtain ⟨mA, ⟨od, es, ep, e, c⟩, r⟩ := x; exact ⟨mA, ⟨od, es, ep, k _ _ (.inl rfl) e, c⟩, r⟩
 | rng lo hi => obtain ⟨t, u, v, e⟩ := x; exact ⟨t, u, v, k _ _ (.inl rfl) e⟩
 | frz ob u ih => obtain ⟨e, q⟩ := x; exact ⟨k _ _ (.inl rfl) e, ih q⟩
 | tbl ps =>
  have e : h.get? a = some { cls := .none, data := .fields ps } := x
  show h'.get? a = some { cls := .none, data := .fields ps }
  exact k a _ (.inl rfl) e
 | met f y =>
  have e : h.get? a = some (PySem.W.methodObj (.ref f) (.ref y)) := x
  show h'.get? a = some (PySem.W.methodObj (.ref f) (.ref y))
  exact k a _ (.inl rfl) e
 | ext φ => obtain ⟨p, ⟨o, e⟩, st⟩ := x; exact ⟨st _ _ p fun o q => k _ _ (.inl rfl) q, ⟨o, k _ _ (.inl rfl) e⟩, st⟩
theorem HOk.lt (x : HOk P w H h) (e : H a = some o) : a < h.objs.size := (x a o e).lt
theorem HOk.fresh (x : HOk P w H h) (e : h.objs.size ≤ a) : H a = none := by
 cases q : H a with
 | none => rfl
 | some u => exact absurd (Nat.lt_of_lt_of_le (x.lt q) e) (Nat.lt_irrefl _)
theorem HOk.kept (x : HOk P w H h) (k : ∀ b u, h.get? b = some u → h'.get? b = some u) : HOk P w H h' := fun a o e =>
 (x a o e).stay (fun b u _ q => k b u q) (fun _ q => q) fun _ _ q => q
theorem HOk.laid (x : HOk P w H h) (k : ∀ b u, h.get? b = some u → h'.get? b = some u) (hp : h.objs.size ≤ a) (new : ObjOk P w (upd H a o) h' a o) : HOk P w (upd H a o) h' := fun b u e => by
 have hn := x.fresh hp
 by_cases hb : b = a
 ·subst hb; rw [upd_same] at e; cases e; exact new
 ·rw [upd_ne hb] at e
  exact (x b u e).stay (fun c v _ q => k c v q) (fun c q => by rw [upd_ne (ne_of_none q hn)]; exact q) fun c xs q => by rw [upd_ne (ne_of_none q hn)]; exact q
end
def Rd (H : Hp) (a : Addr) (u : HO) : Prop := H a = some u ∨ ∃ o, H a = some (.frz o u)
theorem Rd.ok {P : Program} {w : World} {H : Hp} {h : Heap} {a : Addr} {u : HO} (r : Rd H a u) (x : HOk P w H h) : ObjOk P w H h a u := by
 rcases r with r | ⟨o, r⟩
 ·exact x a u r
 ·obtain ⟨_, q⟩ := x a _ r
  exact q
def Mut : Option HO → Prop
 | some (.lst _) => True
 | some (.dK _) => True
 | some (.dT _) => True
 | some (.set _ _) => True
 | some (.ins _ _ _) => True
 | some (.ext _) => True
 | _ => False
section
variable {P : Program} {w : World} {H : Hp} {h h' : Heap} {x e : Addr} {o' : HO}
theorem HOk.write (ok : HOk P w H h) (mu : Mut (H x)) (he : e = x ∨ H e = some (.own x)) (k : ∀ b u, b ≠ e → h.get? b = some u → h'.get? b = some u) (heo : ∃ u, h'.get? e = some u)
  (new : ObjOk P w (upd H x o') h' x o') : HOk P w (upd H x o') h' := fun b u q => by
 have nown : ∀ c y, H c = some (.own y) → c ≠ x := fun c y r z => by subst z; rw [r] at mu; exact mu
 have ntup : ∀ c xs, H c = some (.tup xs) → c ≠ x := fun c xs r z => by subst z; rw [r] at mu; exact mu
 by_cases hb : b = x
 ·subst hb; rw [upd_same] at q; cases q; exact new
 ·rw [upd_ne hb] at q
  by_cases hbe : b = e
  ·have q' : H b = some (.own x) := by
    rcases he with z | z
    ·exact absurd (hbe.trans z) hb
    ·rw [hbe]; exact z
   rw [q] at q'; cases q'
   obtain ⟨v, hv⟩ := heo
   exact ⟨v, by rw [hbe]; exact hv⟩
  ·refine (ok b u q).stay (fun c v hc r => k c v ?_ r) (fun c r => by rw [upd_ne (nown c b r)]; exact r) fun c xs r => by rw [upd_ne (ntup c xs r)]; exact r
   rcases hc with rfl | hc
   ·exact hbe
   ·rintro rfl
    rcases he with z | z
    ·exact nown c b hc z
    ·rw [hc] at z; cases z; exact hb rfl
end
structure Un (fs ex : List Addr) (H H' : Hp) (h h' : Heap) : Prop where
 keep : ∀ b o, h.get? b = some o → H b = none → b ∉ fs → b ∉ ex → h'.get? b = some o
 slot : ∀ b o, h.get? b = some o → H b = none → b ∈ fs → b ∉ ex → ∃ sl, h'.get? b = some { o with slots := sl }
 free : ∀ b o, h.get? b = some o → H b = none → b ∉ ex → H' b = none
 there : ∀ b o, h.get? b = some o → b ∉ ex → ∃ o', h'.get? b = some o'
 tups : ∀ b xs, H b = some (.tup xs) → H' b = some (.tup xs)
 frzs : ∀ b o u, H b = some (.frz o u) → H' b = some (.frz o u)
 tbls : ∀ b ps, H b = some (.tbl ps) → ∃ more, H' b = some (.tbl (ps ++ more))
section
variable {fs fs' ex ex' : List Addr} {H H1 H2 : Hp} {h h1 h2 h' : Heap} {a x e : Addr} {o : HO}
theorem Un.any (u : Un fs ex H H1 h h1) {b : Addr} {ob : Obj} (q : h.get? b = some ob) (n : H b = none) (hx : b ∉ ex) : ∃ sl, h1.get? b = some { ob with slots := sl } := by
 by_cases hb : b ∈ fs
 ·exact u.slot b ob q n hb hx
 ·exact ⟨ob.slots, u.keep b ob q n hb hx⟩
theorem Un.kept (k : ∀ b u, h.get? b = some u → h'.get? b = some u) : Un fs ex H H h h' :=
 ⟨fun b ob q _ _ _ => k b ob q, fun b ob q _ _ _ => ⟨ob.slots, k b ob q⟩, fun _ _ _ n _ => n, fun b ob q _ => ⟨ob, k b ob q⟩, fun _ _ q => q, fun _ _ _ q => q, fun _ ps q => ⟨#[], by rw [q]; simp⟩⟩
theorem Un.refl : Un fs ex H H h h := Un.kept fun _ _ q => q
theorem Un.laid (k : ∀ b u, h.get? b = some u → h'.get? b = some u) (hp : h.objs.size ≤ a) (hn : H a = none) : Un fs ex H (upd H a o) h h' where
 keep := fun b u q _ _ _ => k b u q
 slot := fun b u q _ _ _ => ⟨u.slots, k b u q⟩
 free := fun b u q n _ => by rw [upd_ne (Nat.ne_of_lt (Nat.lt_of_lt_of_le (Heap.lt_size q) hp))]; exact n
 there := fun b u q _ => ⟨u, k b u q⟩
 tups := fun b xs q => by rw [upd_ne (ne_of_none q hn)]; exact q
 frzs := fun b u xs q => by rw [upd_ne (ne_of_none q hn)]; exact q
 tbls := fun b ps q => ⟨#[], by rw [upd_ne (ne_of_none q hn), q]; simp⟩
theorem Un.write (mu : Mut (H x)) (he : e = x ∨ H e = some (.own x)) (k : ∀ b u, b ≠ e → h.get? b = some u → h'.get? b = some u) (heo : ∃ u, h'.get? e = some u) : Un fs ex H (upd H x o) h h' := by
 have hx : ∀ b, H b = none → b ≠ x := fun b n z => by subst z; rw [n] at mu; exact mu
 have hb : ∀ b, H b = none → b ≠ e := fun b n z => by
  subst z
  rcases he with r | r
  ·exact hx b n r
  ·rw [n] at r; cases r
 have hm : ∀ b u, H b = some u → ¬ Mut (some u) → b ≠ x := fun b u q nm z => by subst z; rw [q] at mu; exact nm mu
 refine ⟨fun b u q n _ _ => k b u (hb b n) q, fun b u q n _ _ => ⟨u.slots, k b u (hb b n) q⟩, fun b u q n _ => by rw [upd_ne (hx b n)]; exact n, fun b u q _ => ?_,
  fun b xs q => by rw [upd_ne (hm b _ q fun z => z)]; exact q, fun b u xs q => by rw [upd_ne (hm b _ q fun z => z)]; exact q, fun b ps q => ⟨#[], by rw [upd_ne (hm b _ q fun z => z), q]; simp⟩⟩
 by_cases hbe : b = e
 ·subst hbe; exact heo
 ·exact ⟨u, k b u hbe q⟩
end
def trk (h : Heap) (H : Hp) : List Addr := (List.range h.objs.size).filter fun a => (H a).isSome
def hidT (h : Heap) (H : Hp) : Heap := PySem.W.hideAll h (trk h H)
theorem hidT_size (h : Heap) (H : Hp) : (hidT h H).objs.size = h.objs.size := PySem.W.hideAll_size _ _
theorem hidT_get {h : Heap} {H : Hp} {b : Addr} {o : Obj} (e : h.get? b = some o) (n : H b = none) : (hidT h H).get? b = some o :=
 PySem.W.hideAll_get _ e fun hm => by
  have q : (H b).isSome = true := (List.mem_filter.mp hm).2
  rw [n] at q; simp at q
theorem of_hidT {h : Heap} {H : Hp} {b : Addr} {o : Obj} (e : (hidT h H).get? b = some o) : h.get? b = some o ∧ H b = none := by
 have e' : h.get? b = some o := PySem.W.of_hideAll (trk h H) e
 refine ⟨e', ?_⟩
 cases q : H b with
 | none => rfl
 | some x =>
  have hm : b ∈ trk h H := List.mem_filter.mpr ⟨List.mem_range.mpr (Heap.lt_size e'), by simp [q]⟩
  have z : (hidT h H).get? b = none := PySem.W.hideAll_none (trk h H) hm
  rw [z] at e; cases e
end L2
namespace L2
open PySem PySem.Spec PyProof.Rows
structure Mod (K : PySem.W.Frag) (mg : Str → Option Value) (base : Heap) : Prop where
 kin : K.In base
 glob : base.Ns mainGlobals mg
 blt : ∃ mb, base.Ns builtinsNs mb ∧ ∀ x : Str, x ≠ "__name__" → mb x = bootBuiltins x
 nolimit : base.NoLimit
structure Cx where
 prog : Program
 w : World
 K : PySem.W.Frag
 mg : Str → Option Value
 base : Heap
 A : Around
 N : List Str
 s₀ : Shared
 H₀ : Hp
 env : Env
 outer : List Env
 stack : List Env
 ex : List Addr
 fn : Str → Bool
 calm : Bool
 pn : List (Addr × Obj)
 xe : Value → Shared → Prop
def frs (l : List Env) : List Addr := l.filterMap (·.frame)
abbrev Cx.fs (X : Cx) : List Addr := frs X.outer
def Vis (sc : Scope) (x : Str) : Prop := sc.names.lookup x = some .local ∨ sc.names.lookup x = some .cell ∨ sc.names.lookup x = some .free
def Loc (sc : Scope) (x : Str) : Prop := sc.names.lookup x = some .local ∨ sc.names.lookup x = some .cell
def Look (env : Env) (h : Heap) (m : Str → Option Value) (x : Str) (u : Value) : Prop :=
 (env.kindOf x = some .local ∧ m x = some u) ∨ ((env.kindOf x = some .cell ∨ env.kindOf x = some .free) ∧ ∃ c, env.cells.lookup x = some c ∧ h.IsCell c (some u))
structure Cx.Ok (X : Cx) : Prop where
 mod : Mod X.K X.mg X.base
 kind : X.env.scope.kind = .function
 glob : X.env.globals = mainGlobals
 blt : X.env.builtins = builtinsNs
 above : X.s₀.heap.objs.size ≤ X.env.locals
 inj : ∀ x y c, X.env.cells.lookup x = some c → X.env.cells.lookup y = some c → x = y
 has : ∀ x, (X.env.kindOf x = some .cell ∨ X.env.kindOf x = some .free) → ∃ c, X.env.cells.lookup x = some c
 cab : ∀ x c, X.fn x = true → X.env.cells.lookup x = some c → X.s₀.heap.objs.size ≤ c
 hd : X.calm = true → X.A.handled = none
 frames : X.A.frames = some X.stack
 stk : X.stack = X.outer ∨ (X.stack = X.env :: X.outer ∧ X.env.frame = some X.env.locals)
 exf : ∀ b ∈ X.ex, b ≠ X.env.locals ∧ ∀ x c, X.env.cells.lookup x = some c → c ≠ b
 bs : ∀ b o, X.base.get? b = some o → X.s₀.heap.get? b = some o ∧ X.H₀ b = none
 bsz : X.base.objs.size ≤ X.s₀.heap.objs.size
 noex : ∀ b o, X.base.get? b = some o → b ∉ X.ex
 exfs : ∀ b ∈ X.ex, b ∉ X.fs
 funs : X.s₀.heap.FunFrames X.base X.outer
 frf : ∀ b ∈ X.fs, X.H₀ b = none
structure Inv (X : Cx) (pins : List (Addr × Obj)) (σ : List (Option V)) (H : Hp) (s : Shared) : Prop where
 ok : X.Ok
 os : s.os = X.s₀.os
 bare : AllBare s.gens
 base : Un X.fs X.ex X.H₀ H X.s₀.heap s.heap
 loc : ∃ m, s.heap.Ns X.env.locals m ∧ ∀ (i : Nat) (x : Str) (v : V), X.N[i]? = some x → σ[i]? = some (some v) → Vis X.env.scope x → ∃ u, RelV v u ∧ Look X.env s.heap m x u
 cell : ∀ x c, X.env.cells.lookup x = some c → ∃ v, s.heap.IsCell c v
 free : H X.env.locals = none
 freeC : ∀ x c, X.env.cells.lookup x = some c → H c = none
 pin : ∀ p ∈ X.pn ++ pins, s.heap.get? p.1 = some p.2 ∧ H p.1 = none ∧ p.1 ≠ X.env.locals ∧ p.1 ∉ X.fs ∧ ∀ v, p.2.data ≠ .cell v
 hok : HOk X.prog X.w H s.heap
 len : σ.length = X.N.length
section
variable {X : Cx} {pins : List (Addr × Obj)} {σ : List (Option V)} {H H' : Hp} {s : Shared} {h' : Heap}
theorem Cx.Ok.nofr (ok : X.Ok) {b : Addr} {o : Obj} (e : X.base.get? b = some o) : b ∉ X.fs := fun hb => by
 have := (ok.funs.mem hb).1
 rw [e] at this; cases this
theorem Inv.bs (I : Inv X pins σ H s) : ∀ b o, X.base.get? b = some o → s.heap.get? b = some o ∧ H b = none := fun b o e =>
 ⟨I.base.keep b o (I.ok.bs b o e).1 (I.ok.bs b o e).2 (I.ok.nofr e) (I.ok.noex b o e), I.base.free b o (I.ok.bs b o e).1 (I.ok.bs b o e).2 (I.ok.noex b o e)⟩
theorem Inv.bk (I : Inv X pins σ H s) : ∀ b o, X.base.get? b = some o → s.heap.get? b = some o := fun b o e => (I.bs b o e).1
theorem Inv.mod (I : Inv X pins σ H s) : Mod X.K X.mg X.base := I.ok.mod
theorem Inv.kIn (I : Inv X pins σ H s) : X.K.In s.heap := I.ok.mod.kin.keeps I.bk
theorem Inv.lt (I : Inv X pins σ H s) : X.env.locals < s.heap.objs.size := let ⟨_, hn, _⟩ := I.loc; hn.lt
theorem Inv.sz (I : Inv X pins σ H s) : X.s₀.heap.objs.size ≤ s.heap.objs.size := Nat.le_trans I.ok.above (Nat.le_of_lt I.lt)
theorem Inv.nofs (I : Inv X pins σ H s) {a : Addr} (h : s.heap.objs.size ≤ a) : a ∉ X.fs := fun hb => by
 obtain ⟨_, o, ho, _⟩ := I.ok.funs.mem hb
 exact absurd (Nat.lt_of_lt_of_le (Heap.lt_size ho) (Nat.le_trans I.sz h)) (Nat.lt_irrefl _)
theorem Inv.cne (I : Inv X pins σ H s) : ∀ x c, X.env.cells.lookup x = some c → c ≠ X.env.locals := fun x c e z => by
 obtain ⟨v, o, ho, hd⟩ := I.cell x c e
 obtain ⟨m, ⟨o', es, ep, ho', hd', _⟩, _⟩ := I.loc
 rw [z, ho'] at ho; cases ho; rw [hd'] at hd; cases hd
theorem Inv.funs (I : Inv X pins σ H s) : s.heap.FunFrames X.base X.outer := by
 have all : ∀ (l : List Env), (∀ b ∈ frs l, b ∈ X.fs) → X.s₀.heap.FunFrames X.base l → s.heap.FunFrames X.base l := by
  intro l
  induction l with
  | nil => intro _ _; trivial
  | cons env r ih =>
   intro hs hl
   obtain ⟨hk, ⟨L, o, hf, hn, ho, hd⟩, hr⟩ := hl
   have hL : L ∈ X.fs := hs L (by unfold frs; rw [List.filterMap_cons, hf]; exact List.mem_cons_self)
   obtain ⟨sl, e⟩ := I.base.slot L o ho (I.ok.frf L hL) hL fun z => I.ok.exfs L z hL
   exact ⟨hk, ⟨L, _, hf, hn, e, hd⟩, ih (fun b hb => hs b (by unfold frs; rw [List.filterMap_cons, hf]; exact List.mem_cons_of_mem _ hb)) hr⟩
 exact all X.outer (fun _ hb => hb) I.ok.funs
theorem Inv.stack (I : Inv X pins σ H s) : s.heap.FunFrames X.base X.stack := by
 rcases I.ok.stk with e | ⟨e, hf⟩
 ·rw [e]; exact I.funs
 ·rw [e]
  obtain ⟨m, hn, _⟩ := I.loc
  refine .cons (by rw [I.ok.kind]; decide) hf hn ?_ I.funs
  exact Heap.get?_none_of_le (Nat.le_trans I.ok.bsz I.ok.above)
theorem Inv.stkSub (I : Inv X pins σ H s) : ∀ b ∈ frs X.stack, b ∈ X.env.locals :: X.fs := fun b hb => by
 rcases I.ok.stk with e | ⟨e, hf⟩
 ·rw [e] at hb; exact List.mem_cons_of_mem _ hb
 ·rw [e] at hb
  unfold frs at hb
  rw [List.filterMap_cons, hf] at hb
  exact hb
theorem Inv.stkFree (I : Inv X pins σ H s) : ∀ b ∈ frs X.stack, H b = none := fun b hb => by
 rcases List.mem_cons.mp (I.stkSub b hb) with e | hb
 ·rw [e]; exact I.free
 ·obtain ⟨_, o, ho, _⟩ := I.ok.funs.mem hb
  exact I.base.free b o ho (I.ok.frf b hb) fun z => I.ok.exfs b z hb
theorem Inv.step {g' : Array GenState} {t' : Nat} {d' : Drawn} {ch : List Addr} (I : Inv X pins σ H s)
  (hch : ∀ b ∈ ch, (b ∈ X.ex ∨ X.s₀.heap.objs.size ≤ b) ∧ b ≠ X.env.locals ∧ (∀ x c, X.env.cells.lookup x = some c → c ≠ b) ∧ ∀ p ∈ X.pn ++ pins, p.1 ≠ b)
  (keep : ∀ b o, b ≠ X.env.locals → b ∉ X.fs → b ∉ ch → s.heap.get? b = some o → H b = none → h'.get? b = some o)
  (slot : ∀ b o, b ≠ X.env.locals → b ∈ X.fs → b ∉ ch → s.heap.get? b = some o → H b = none → ∃ sl, h'.get? b = some { o with slots := sl }) (free : ∀ b o, b ∉ ch → s.heap.get? b = some o → H b = none → H' b = none)
  (there : ∀ b o, b ∉ ch → s.heap.get? b = some o → ∃ o', h'.get? b = some o')
  (tups : ∀ b xs, H b = some (.tup xs) → H' b = some (.tup xs)) (frzs : ∀ b o u, H b = some (.frz o u) → H' b = some (.frz o u)) (tbls : ∀ b ps, H b = some (.tbl ps) → ∃ more, H' b = some (.tbl (ps ++ more)))
  (ns : ∀ m, s.heap.Ns X.env.locals m → h'.Ns X.env.locals m) (hok : HOk X.prog X.w H' h') (hg : AllBare g') :
  Inv X pins σ H' { s with heap := h', gens := g', drawn := d', toks := t' } := by
 have neL : ∀ b o, X.s₀.heap.get? b = some o → b ≠ X.env.locals := fun b o e => Nat.ne_of_lt (Nat.lt_of_lt_of_le (Heap.lt_size e) I.ok.above)
 have neC : ∀ b o, X.s₀.heap.get? b = some o → b ∉ X.ex → b ∉ ch := fun b o e hx hb => by
  rcases (hch b hb).1 with z | z
  ·exact hx z
  ·exact absurd (Nat.lt_of_lt_of_le (Heap.lt_size e) z) (Nat.lt_irrefl _)
 have cellK : ∀ x c, X.env.cells.lookup x = some c → ∀ v, s.heap.IsCell c v → h'.IsCell c v := fun x c e v ⟨o, ho, hd⟩ => by
  have nch : c ∉ ch := fun z => (hch c z).2.2.1 x c e rfl
  by_cases hc : c ∈ X.fs
  ·obtain ⟨sl, q⟩ := slot c o (I.cne x c e) hc nch ho (I.freeC x c e)
   exact ⟨_, q, hd⟩
  ·exact ⟨o, keep c o (I.cne x c e) hc nch ho (I.freeC x c e), hd⟩
 refine ⟨I.ok, I.os, hg, ⟨fun b o e n hb hx => ?_, fun b o e n hb hx => ?_, fun b o e n hx => ?_, fun b o e hx => ?_, fun b xs e => tups b xs (I.base.tups b xs e), fun b o xs e => frzs b o xs (I.base.frzs b o xs e), fun b ps e => ?_⟩, ?_, fun x c e => ?_, ?_, fun x c e => ?_, fun p hp => ?_, hok, I.len⟩
 ·exact keep b o (neL b o e) hb (neC b o e hx) (I.base.keep b o e n hb hx) (I.base.free b o e n hx)
 ·obtain ⟨sl, e1⟩ := I.base.slot b o e n hb hx
  obtain ⟨sl', e2⟩ := slot b _ (neL b o e) hb (neC b o e hx) e1 (I.base.free b o e n hx)
  exact ⟨sl', e2⟩
 ·obtain ⟨o', e1⟩ := I.base.there b o e hx
  exact free b o' (neC b o e hx) e1 (I.base.free b o e n hx)
 ·obtain ⟨o', e1⟩ := I.base.there b o e hx
  exact there b o' (neC b o e hx) e1
 ·obtain ⟨m1, e1⟩ := I.base.tbls b ps e
  obtain ⟨m2, e2⟩ := tbls b _ e1
  exact ⟨m1 ++ m2, by rw [e2, Array.append_assoc]⟩
 ·obtain ⟨m, hn, hl⟩ := I.loc
  refine ⟨m, ns m hn, fun i x v e1 e2 e3 => ?_⟩
  obtain ⟨u, r, l⟩ := hl i x v e1 e2 e3
  refine ⟨u, r, ?_⟩
  rcases l with l | ⟨k, c, e, z⟩
  ·exact .inl l
  ·exact .inr ⟨k, c, e, cellK x c e _ z⟩
 ·obtain ⟨v, z⟩ := I.cell x c e
  exact ⟨v, cellK x c e v z⟩
 ·obtain ⟨m, ⟨o, _, _, ho, _⟩, _⟩ := I.loc
  exact free _ o (fun z => (hch _ z).2.1 rfl) ho I.free
 ·obtain ⟨v, o, ho, hd⟩ := I.cell x c e
  exact free c o (fun z => (hch c z).2.2.1 x c e rfl) ho (I.freeC x c e)
 ·obtain ⟨e, n, ne, nf, d⟩ := I.pin p hp
  have nch : p.1 ∉ ch := fun z => (hch p.1 z).2.2.2 p hp rfl
  exact ⟨keep p.1 p.2 ne nf nch e n, free p.1 p.2 nch e n, ne, nf, d⟩
theorem Inv.un {t' : Nat} (I : Inv X pins σ H s) (u : Un X.fs [] H H' s.heap h') (hok : HOk X.prog X.w H' h') : Inv X pins σ H' { s with heap := h', toks := t' } := by
 obtain ⟨m, ⟨o, es, ep, ho, r⟩, _⟩ := id I.loc
 obtain ⟨sl, hL⟩ := u.any ho I.free (by simp)
 exact I.step (g' := s.gens) (d' := s.drawn) (ch := []) (fun _ z => nomatch z) (fun b o _ hb _ e n => u.keep b o e n hb (by simp)) (fun b o _ hb _ e n => u.slot b o e n hb (by simp)) (fun b o _ e n => u.free b o e n (by simp)) (fun b o _ e => u.there b o e (by simp)) u.tups u.frzs u.tbls (fun m' hm => by
  obtain ⟨o', es', ep', ho', r'⟩ := hm
  rw [ho] at ho'; cases ho'
  exact ⟨_, es', ep', hL, r'⟩) hok I.bare
theorem Inv.call {g' : Array GenState} {t' : Nat} {d' : Drawn} {ch : List Addr} (I : Inv X pins σ H s) (u : Un (frs X.stack) ch H H' s.heap h') (hok : HOk X.prog X.w H' h') (hg : AllBare g')
  (hch : ∀ b ∈ ch, (b ∈ X.ex ∨ X.s₀.heap.objs.size ≤ b) ∧ b ≠ X.env.locals ∧ (∀ x c, X.env.cells.lookup x = some c → c ≠ b) ∧ ∀ p ∈ X.pn ++ pins, p.1 ≠ b) :
  Inv X pins σ H' { s with heap := h', gens := g', drawn := d', toks := t' } := by
 obtain ⟨m, ⟨o, es, ep, ho, r⟩, _⟩ := id I.loc
 obtain ⟨sl, hL⟩ := u.any ho I.free fun z => (hch _ z).2.1 rfl
 exact I.step (ch := ch) hch (fun b o hL hb hc e n => u.keep b o e n (fun z => (List.mem_cons.mp (I.stkSub b z)).elim hL hb) hc) (fun b o _ _ hc e n => u.any e n hc) (fun b o hc e n => u.free b o e n hc) (fun b o hc e => u.there b o e hc) u.tups u.frzs u.tbls (fun m' hm => by
  obtain ⟨o', es', ep', ho', r'⟩ := hm
  rw [ho] at ho'; cases ho'
  exact ⟨_, es', ep', hL, r'⟩) hok hg
theorem Inv.turned {t' : Nat} {it : Addr} (I : Inv X pins σ H s) (k : ∀ b o, b ≠ it → s.heap.get? b = some o → h'.get? b = some o) (hn : H it = none) (hL : it ≠ X.env.locals)
  (h1 : it ∈ X.ex ∨ X.s₀.heap.objs.size ≤ it) (h2 : ∀ x c, X.env.cells.lookup x = some c → c ≠ it) (h3 : ∀ p ∈ X.pn ++ pins, p.1 ≠ it) : Inv X pins σ H { s with heap := h', toks := t' } := by
 have nit : ∀ b u, H b = some u → b ≠ it := fun b u e z => by rw [z, hn] at e; cases e
 refine I.step (g' := s.gens) (d' := s.drawn) (ch := [it]) (fun b hb => ?_) (fun b o _ _ hc e _ => k b o (fun z => hc (by simp [z])) e) (fun b o _ _ hc e _ => ⟨o.slots, k b o (fun z => hc (by simp [z])) e⟩) (fun _ _ _ _ n => n)
  (fun b o hc e => ⟨o, k b o (fun z => hc (by simp [z])) e⟩) (fun _ _ e => e) (fun _ _ _ e => e) (fun b ps e => ⟨#[], by rw [e]; simp⟩) (fun m hm => ?_) (fun b u e => ?_) I.bare
 ·have e : b = it := by simpa using hb
  subst e
  exact ⟨h1, hL, h2, h3⟩
 ·obtain ⟨o, es, ep, ho, r⟩ := hm
  exact ⟨o, es, ep, k _ o (Ne.symm hL) ho, r⟩
 ·refine (I.hok b u e).stay (fun c v hc q => k c v ?_ q) (fun _ q => q) fun _ _ q => q
  rcases hc with z | z
  ·rw [z]; exact nit b u e
  ·exact nit c _ z
theorem Inv.tok (I : Inv X pins σ H s) (t : Nat) : Inv X pins σ H { s with toks := t } := I.un (h' := s.heap) (t' := t) Un.refl I.hok
theorem Inv.kept {t' : Nat} (I : Inv X pins σ H s) (k : ∀ b u, s.heap.get? b = some u → h'.get? b = some u) : Inv X pins σ H { s with heap := h', toks := t' } := I.un (Un.kept k) (I.hok.kept k)
theorem Inv.laid {a : Addr} {o : HO} {t' : Nat} (I : Inv X pins σ H s) (k : ∀ b u, s.heap.get? b = some u → h'.get? b = some u) (hp : s.heap.objs.size ≤ a) (new : ObjOk X.prog X.w (upd H a o) h' a o) :
  Inv X pins σ (upd H a o) { s with heap := h', toks := t' } := I.un (Un.laid k hp (I.hok.fresh hp)) (I.hok.laid k hp new)
theorem Inv.write {x e : Addr} {o : HO} {t' : Nat} (I : Inv X pins σ H s) (mu : Mut (H x)) (he : e = x ∨ H e = some (.own x)) (k : ∀ b u, b ≠ e → s.heap.get? b = some u → h'.get? b = some u) (heo : ∃ u, h'.get? e = some u)
  (new : ObjOk X.prog X.w (upd H x o) h' x o) : Inv X pins σ (upd H x o) { s with heap := h', toks := t' } := I.un (Un.write mu he k heo) (I.hok.write mu he k heo new)
theorem Inv.pins_of {pins' : List (Addr × Obj)} (I : Inv X pins σ H s) (h : ∀ p ∈ pins', s.heap.get? p.1 = some p.2 ∧ H p.1 = none ∧ p.1 ≠ X.env.locals ∧ p.1 ∉ X.fs ∧ ∀ v, p.2.data ≠ .cell v) : Inv X pins' σ H s :=
 ⟨I.ok, I.os, I.bare, I.base, I.loc, I.cell, I.free, I.freeC, fun p hp => (List.mem_append.mp hp).elim (fun z => I.pin p (List.mem_append_left _ z)) (h p), I.hok, I.len⟩
theorem nodup_ix {N : List Str} (hN : N.Nodup) {i j : Nat} {x : Str} (a : N[i]? = some x) (b : N[j]? = some x) : i = j := by
 obtain ⟨h1, e1⟩ := List.getElem?_eq_some_iff.mp a
 obtain ⟨h2, e2⟩ := List.getElem?_eq_some_iff.mp b
 exact (List.getElem_inj hN).mp (e1.trans e2.symm)
theorem store_ok2 {M : Model} {A : Around} {E : Value → Shared → Prop} {i : Nat} {x : Str} {v : V} {u : Value} {Q : Unit → Shared → Prop} (I : Inv X pins σ H s) (hN : X.N.Nodup) (hi : X.N[i]? = some x) (hx : Loc X.env.scope x) (r : RelV v u)
  (h : ∀ s', Inv X pins (σ.set i (some v)) H s' → (∃ a, Heap.SameBut a s.heap s'.heap ∧ (a = X.env.locals ∨ X.env.cells.lookup x = some a)) → Q () s') (hf : X.fn x = true ∨ X.env.scope.names.lookup x = some .local := by first | exact .inl rfl | exact .inr rfl | assumption) : wpAny M A (storeName X.env x u) Q E s := by
 obtain ⟨m, hn, hl⟩ := id I.loc
 have hcls : (X.env.scope.kind == .class || (X.env.scope.kind == .module && X.env.locals != X.env.globals)) = false := by rw [I.ok.kind]; rfl
 have hiσ : i < σ.length := by rw [I.len]; exact (List.getElem?_eq_some_iff.mp hi).1
 have cne := I.cne
 have tracked : ∀ {a : Addr} {h' : Heap}, (∃ o, s.heap.get? a = some o ∧ H a = none) → Heap.SameBut a s.heap h' → HOk X.prog X.w H h' := fun {a h'} ha hs b ob e => by
  obtain ⟨_, _, hfree⟩ := ha
  refine (I.hok b ob e).stay (fun c w' hc q => (hs.2 c ?_).trans q) (fun _ q => q) fun _ _ q => q
  rintro rfl
  rcases hc with rfl | hc
  ·rw [hfree] at e; cases e
  ·rw [hfree] at hc; cases hc
 rcases hx with hk | hk
 ·refine wpAny_storeName_local hk hn (fun h' hn' hs => ?_) hcls
  obtain ⟨oL, _, _, hoL, _⟩ := id hn
  refine h _ ⟨I.ok, I.os, I.bare, ⟨fun b o e n hb hx => ?_, fun b o e n hb hx => ?_, I.base.free, fun b o e hx => ?_, I.base.tups, I.base.frzs, I.base.tbls⟩, ⟨_, hn', fun j y v' e1 e2 e3 => ?_⟩, fun y c e => ?_, I.free, I.freeC, fun p hp => ?_, tracked ⟨oL, hoL, I.free⟩ hs, by simpa using I.len⟩ ⟨_, hs, .inl rfl⟩
  ·exact (hs.2 b (Nat.ne_of_lt (Nat.lt_of_lt_of_le (Heap.lt_size e) I.ok.above))).trans (I.base.keep b o e n hb hx)
  ·obtain ⟨sl, e1⟩ := I.base.slot b o e n hb hx
   exact ⟨sl, (hs.2 b (Nat.ne_of_lt (Nat.lt_of_lt_of_le (Heap.lt_size e) I.ok.above))).trans e1⟩
  ·obtain ⟨o', e1⟩ := I.base.there b o e hx
   exact ⟨o', (hs.2 b (Nat.ne_of_lt (Nat.lt_of_lt_of_le (Heap.lt_size e) I.ok.above))).trans e1⟩
  ·by_cases hj : j = i
   ·subst hj
    rw [hi] at e1; cases e1
    rw [List.getElem?_set_self hiσ] at e2
    cases e2
    exact ⟨u, r, .inl ⟨hk, by simp⟩⟩
   ·rw [List.getElem?_set_ne (Ne.symm hj)] at e2
    obtain ⟨u', r', q⟩ := hl j y v' e1 e2 e3
    refine ⟨u', r', ?_⟩
    rcases q with ⟨k, e⟩ | ⟨k, c, e, z⟩
    ·refine .inl ⟨k, ?_⟩
     have : y ≠ x := fun e => hj (nodup_ix hN e1 (e ▸ hi))
     simp [this, e]
    ·exact .inr ⟨k, c, e, z.sameBut hs (cne y c e)⟩
  ·obtain ⟨w', z⟩ := I.cell y c e
   exact ⟨w', z.sameBut hs (cne y c e)⟩
  ·obtain ⟨e, n, ne, nf, d⟩ := I.pin p hp
   exact ⟨(hs.2 p.1 ne).trans e, n, ne, nf, d⟩
 ·have hfn : X.fn x = true := by
   rcases hf with z | z
   ·exact z
   ·rw [z] at hk; cases hk
  obtain ⟨c, hc⟩ := I.ok.has x (.inl hk)
  obtain ⟨w', z⟩ := I.cell x c hc
  refine wpAny_storeName_cell I.ok.kind hk hc z (fun h' hc' hs => ?_)
  obtain ⟨oc, hoc, hocd⟩ := id z
  refine h { s with heap := h' } ⟨I.ok, I.os, I.bare, ⟨fun b o e n hb hx => ?_, fun b o e n hb hx => ?_, I.base.free, fun b o e hx => ?_, I.base.tups, I.base.frzs, I.base.tbls⟩, ⟨m, hn.sameBut hs (Ne.symm (cne x c hc)), fun j y v' e1 e2 e3 => ?_⟩, fun y c' e => ?_, I.free, I.freeC, fun p hp => ?_, tracked ⟨oc, hoc, I.freeC x c hc⟩ hs, by simpa using I.len⟩ ⟨c, hs, .inr hc⟩
  ·exact (hs.2 b (Nat.ne_of_lt (Nat.lt_of_lt_of_le (Heap.lt_size e) (I.ok.cab x c hfn hc)))).trans (I.base.keep b o e n hb hx)
  ·obtain ⟨sl, e1⟩ := I.base.slot b o e n hb hx
   exact ⟨sl, (hs.2 b (Nat.ne_of_lt (Nat.lt_of_lt_of_le (Heap.lt_size e) (I.ok.cab x c hfn hc)))).trans e1⟩
  ·obtain ⟨o', e1⟩ := I.base.there b o e hx
   exact ⟨o', (hs.2 b (Nat.ne_of_lt (Nat.lt_of_lt_of_le (Heap.lt_size e) (I.ok.cab x c hfn hc)))).trans e1⟩
  ·by_cases hj : j = i
   ·subst hj
    rw [hi] at e1; cases e1
    rw [List.getElem?_set_self hiσ] at e2
    cases e2
    exact ⟨u, r, .inr ⟨.inl hk, c, hc, hc'⟩⟩
   ·rw [List.getElem?_set_ne (Ne.symm hj)] at e2
    obtain ⟨u', r', q⟩ := hl j y v' e1 e2 e3
    refine ⟨u', r', ?_⟩
    rcases q with q | ⟨k, c', e, z'⟩
    ·exact .inl q
    ·refine .inr ⟨k, c', e, z'.sameBut hs ?_⟩
     rintro rfl
     exact hj (nodup_ix hN e1 (I.ok.inj _ _ _ e hc ▸ hi))
  ·by_cases hcc : c' = c
   ·subst hcc; exact ⟨_, hc'⟩
   ·obtain ⟨w2, z2⟩ := I.cell y c' e
    exact ⟨w2, z2.sameBut hs hcc⟩
  ·obtain ⟨e, n, ne, nf, d⟩ := I.pin p hp
   refine ⟨(hs.2 p.1 ?_).trans e, n, ne, nf, d⟩
   intro q
   rw [q, hoc] at e
   have q' : oc = p.2 := Option.some.inj e
   exact d w' (by rw [← q']; exact hocd)
theorem store_ok {M : Model} {A : Around} {E : Value → Shared → Prop} {i : Nat} {x : Str} {v : V} {u : Value} {Q : Unit → Shared → Prop} (I : Inv X pins σ H s) (hN : X.N.Nodup) (hi : X.N[i]? = some x) (hx : Loc X.env.scope x) (r : RelV v u)
  (h : ∀ s', Inv X pins (σ.set i (some v)) H s' → Q () s') (hf : X.fn x = true ∨ X.env.scope.names.lookup x = some .local := by first | exact .inl rfl | exact .inr rfl | assumption) : wpAny M A (storeName X.env x u) Q E s :=
 store_ok2 I hN hi hx r (fun s' I' _ => h s' I') hf
theorem Inv.call' {s' : Shared} {ch : List Addr} (I : Inv X pins σ H s) (ho : s'.os = s.os) (u : Un (frs X.stack) ch H H' s.heap s'.heap) (hok : HOk X.prog X.w H' s'.heap) (hg : AllBare s'.gens)
  (hch : ∀ b ∈ ch, (b ∈ X.ex ∨ X.s₀.heap.objs.size ≤ b) ∧ b ≠ X.env.locals ∧ (∀ x c, X.env.cells.lookup x = some c → c ≠ b) ∧ ∀ p ∈ X.pn ++ pins, p.1 ≠ b) : Inv X pins σ H' s' := by
 obtain ⟨h', g', d', t', o'⟩ := s'
 have e : o' = s.os := ho
 subst e
 exact I.call (g' := g') (t' := t') (d' := d') u hok hg hch
end
abbrev XK := Value → Option Addr → Hp → Prop
abbrev St := List (Option V)
abbrev VK := V → Hp → Prop
abbrev TE := St → Hp → VK → Prop
abbrev TT := St → Hp → (Bool → Hp → Prop) → Prop
abbrev TA := St → Hp → (List V → Hp → Prop) → Prop
structure Ends where
 nx : St → Hp → Prop
 rt : VK
 bk : St → Hp → Prop := fun _ _ => False
 ct : St → Hp → Prop := fun _ _ => False
abbrev TS := Ends → St → Hp → Prop
def EP (X : Cx) (pins : List (Addr × Obj)) (σ : St) (Q : VK) (u : Value) (s' : Shared) : Prop := ∃ v H', Inv X pins σ H' s' ∧ RelV v u ∧ Q v H'
def TP (X : Cx) (pins : List (Addr × Obj)) (σ : St) (Q : Bool → Hp → Prop) (b : Bool) (s' : Shared) : Prop := ∃ H', Inv X pins σ H' s' ∧ Q b H'
def AP (X : Cx) (pins : List (Addr × Obj)) (σ : St) (Q : List V → Hp → Prop) (us : List Value) (s' : Shared) : Prop := ∃ vs H', Inv X pins σ H' s' ∧ Vals vs us ∧ Q vs H'
def SP (X : Cx) (pins : List (Addr × Obj)) (D : Ends) (f : Flow) (s' : Shared) : Prop :=
 match f with
 | .next => ∃ σ' H', Inv X pins σ' H' s' ∧ D.nx σ' H'
 | .brk => ∃ σ' H', Inv X pins σ' H' s' ∧ D.bk σ' H'
 | .cont => ∃ σ' H', Inv X pins σ' H' s' ∧ D.ct σ' H'
 | .ret u => ∃ v σ' H', Inv X pins σ' H' s' ∧ RelV v u ∧ D.rt v H'
def PE (X : Cx) (e : Expr) (t : TE) : Prop :=
 ∀ (pins : List (Addr × Obj)) (s : Shared) (σ : St) (H : Hp) (Q : VK), Inv X pins σ H s → t σ H Q → wpAny (model X.prog X.w) X.A (eval e X.env) (EP X pins σ Q) X.xe s
def PT (X : Cx) (e : Expr) (t : TT) : Prop :=
 ∀ (pins : List (Addr × Obj)) (s : Shared) (σ : St) (H : Hp) (Q : Bool → Hp → Prop), Inv X pins σ H s → t σ H Q → wpAny (model X.prog X.w) X.A (isTrue e X.env (eval e X.env)) (TP X pins σ Q) X.xe s
def PW (X : Cx) (e : Expr) (t : TT) : Prop :=
 ∀ (whole : Sem Value) (pins : List (Addr × Obj)) (s : Shared) (σ : St) (H : Hp) (Q : Bool → Hp → Prop), Inv X pins σ H s → t σ H Q → wpAny (model X.prog X.w) X.A (isTrue e X.env whole) (TP X pins σ Q) X.xe s
theorem PW.pt {X : Cx} {e : Expr} {t : TT} (h : PW X e t) : PT X e t := h _
def PA (X : Cx) (es : List Expr) (t : TA) : Prop :=
 ∀ (pos : Pos) (pins : List (Addr × Obj)) (s : Shared) (σ : St) (H : Hp) (Q : List V → Hp → Prop), Inv X pins σ H s → t σ H Q → wpAny (model X.prog X.w) X.A (spliced (backTo pos (starEach es X.env))) (AP X pins σ Q) X.xe s
def PS (X : Cx) (st : Stmt) (t : TS) : Prop :=
 ∀ (pins : List (Addr × Obj)) (s : Shared) (σ : St) (H : Hp) (D : Ends), Inv X pins σ H s → t D σ H → wpAny (model X.prog X.w) X.A (exec st X.env) (SP X pins D) X.xe s
def PSs (X : Cx) (st : List Stmt) (t : TS) : Prop :=
 ∀ (pins : List (Addr × Obj)) (s : Shared) (σ : St) (H : Hp) (D : Ends), Inv X pins σ H s → t D σ H → wpAny (model X.prog X.w) X.A (execs st X.env) (SP X pins D) X.xe s
theorem thn {α : Type} {t : Sem α} {Q Q' : α → Shared → Prop} {M : Model} {A : Around} {E : Value → Shared → Prop} {s : Shared} (h : wpAny M A t Q E s) (hQ : ∀ a s, Q a s → Q' a s) : wpAny M A t Q' E s := wpAny_mono h hQ fun _ _ x => x
end L2
namespace L2
open PySem PySem.Spec PyProof.Rows
section
variable {X : Cx}
def tVar (i : Nat) : TE := fun σ H Q => ∃ v, σ[i]? = some (some v) ∧ Q v H
def tC (v : V) : TE := fun _ H Q => Q v H
theorem pe_var {i : Nat} {x : Str} {pos : Pos} (hN : X.N[i]? = some x) (hv : Vis X.env.scope x) (hd : (x == ("__debug__" : Str)) = false := by decide) (hcd : (x == ("__classdict__" : Str)) = false := by decide) : PE X (.Name x pos) (tVar i) := by
 intro pins s σ H Q I h
 obtain ⟨v, e, h⟩ := h
 obtain ⟨m, hn, hl⟩ := I.loc
 obtain ⟨u, r, l⟩ := hl i x v hN e hv
 have fin : EP X pins σ Q u s := ⟨v, H, I, r, h⟩
 rcases l with ⟨hk, hm⟩ | ⟨hk, c, hc, hcell⟩
 ·exact wpAny_Name (wpAny_loadName_local I.ok.kind hk hn hm fin) hd
 ·rcases hk with hk | hk
  ·exact wpAny_Name (wpAny_loadName_cell I.ok.kind hk hc hcell fin) hd
  ·exact wpAny_Name (wpAny_loadName_free I.ok.kind hk hc hcell fin hcd) hd
theorem pe_int {i j pos} : PE X (.Constant (.int i) j pos) (tC (.int i)) := fun _ _ _ H _ I h => wpAny_Constant_int ⟨.int i, H, I.tok _, ⟨_, rfl⟩, h⟩
theorem pe_bl {b j pos} : PE X (.Constant (.bool b) j pos) (tC (.bl b)) := fun _ _ _ H _ I h => Constant_bool ⟨.bl b, H, I, rfl, h⟩
theorem pe_non {j pos} : PE X (.Constant .none j pos) (tC .non) := fun _ _ _ H _ I h => Constant_none ⟨.non, H, I, rfl, h⟩
theorem pe_str {x j pos} : PE X (.Constant (.str x) j pos) (tC (.str x)) := fun _ _ _ H _ I h => Calls.Constant_str ⟨.str x, H, I.tok _, ⟨_, rfl⟩, h⟩
def Gl (X : Cx) (x : Str) : Prop := X.env.kindOf x = some .globalImplicit
theorem ld_glob {E : Value → Shared → Prop} {pins : List (Addr × Obj)} {s : Shared} {σ : St} {H : Hp} {x : Str} {u : Value} {pos : Pos} {Q : Value → Shared → Prop} (I : Inv X pins σ H s) (hg : Gl X x) (hm : X.mg x = some u) (h : Q u s)
  (hd : (x == ("__debug__" : Str)) = false := by decide) : wpAny (model X.prog X.w) X.A (eval (.Name x pos) X.env) Q E s :=
 Calls.Name_function_global I.ok.kind hg (Calls.loadGlobal_global (by rw [I.ok.glob]; exact I.mod.glob.keeps I.bk) hm h) hd
theorem ld_blt {E : Value → Shared → Prop} {pins : List (Addr × Obj)} {s : Shared} {σ : St} {H : Hp} {x : Str} {u : Value} {pos : Pos} {Q : Value → Shared → Prop} (I : Inv X pins σ H s) (hg : Gl X x) (hm : X.mg x = none) (hv : bootBuiltins x = some u) (h : Q u s)
  (hn : x ≠ "__name__" := by decide) (hd : (x == ("__debug__" : Str)) = false := by decide) : wpAny (model X.prog X.w) X.A (eval (.Name x pos) X.env) Q E s := by
 obtain ⟨mb, h1, h2⟩ := I.mod.blt
 exact Calls.Name_function_global I.ok.kind hg (Calls.loadGlobal_builtin (by rw [I.ok.glob]; exact I.mod.glob.keeps I.bk) hm (by rw [I.ok.blt]; exact h1.keeps I.bk) ((h2 x hn).trans hv) h) hd
theorem pe_glob {x : Str} {v : V} {u : Value} {pos : Pos} (hg : Gl X x) (hm : X.mg x = some u) (r : RelV v u) (hd : (x == ("__debug__" : Str)) = false := by decide) : PE X (.Name x pos) (tC v) :=
 fun _ _ _ H _ I h => ld_glob I hg hm ⟨v, H, I, r, h⟩ hd
theorem pe_bltn {x : Str} {v : V} {u : Value} {pos : Pos} (hg : Gl X x) (hm : X.mg x = none) (hv : bootBuiltins x = some u) (r : RelV v u) (hn : x ≠ "__name__" := by decide) (hd : (x == ("__debug__" : Str)) = false := by decide) : PE X (.Name x pos) (tC v) :=
 fun _ _ _ H _ I h => ld_blt I hg hm hv ⟨v, H, I, r, h⟩ hn hd
variable {a b : Expr} {ta tb : TE} {pos : Pos}
def PC (X : Cx) (op : CmpOp) (a b : Expr) (t : TE) : Prop :=
 ∀ (pins : List (Addr × Obj)) (s : Shared) (σ : St) (H : Hp) (Q : VK), Inv X pins σ H s → t σ H Q →
  wpAny (model X.prog X.w) X.A (eval a X.env) (fun v s₁ => wpAny (model X.prog X.w) X.A (eval b X.env) (fun u s₂ => wpAny (model X.prog X.w) X.A (compareOp op v u) (EP X pins σ Q) X.xe s₂) X.xe s₁) X.xe s
def tB (t : TE) : TT := fun σ H Q => t σ H fun x H1 => ∃ c, x = .bl c ∧ Q c H1
theorem pt_cmp {op : CmpOp} {t : TE} (h : PC X op a b t) (h1 : behindInMarks op b = false := by first | exact nobehind _ (by decide) (by decide) | rfl) : PT X (.Compare a [op] [b] pos) (tB t) := by
 intro pins s σ H Q I hw
 refine wpAny_isTrue_Compare1 (thn (h pins s σ H _ I hw) fun v s1 h1 => thn h1 fun u s2 h2 => thn h2 fun c s3 ⟨x, H1, I1, r1, q1⟩ => ?_) h1
 obtain ⟨d, rfl, q⟩ := q1
 cases r1
 exact wpAny_truthy_bool ⟨H1, I1, q⟩
theorem pt_val {e : Expr} {t : TE} (h : PE X e t) (he : ∀ whole, isTrue e X.env whole = (do let v ← whole; standAt e.pos; holding [v] (truthy v)) := by intro _; rfl) : PT X e (tB t) := by
 intro pins s σ H Q I hw
 refine isTrue_plain (thn (h pins s σ H _ I hw) fun v s1 ⟨x, H1, I1, r1, q1⟩ => ?_) (he _)
 obtain ⟨d, rfl, q⟩ := q1
 cases r1
 exact wpAny_truthy_bool ⟨H1, I1, q⟩
variable {tA tB' : TT} {rest : List Expr}
def tAnd (t u : TT) : TT := fun σ H Q => t σ H fun c H1 => if c = true then u σ H1 Q else Q false H1
def tOr (t u : TT) : TT := fun σ H Q => t σ H fun c H1 => if c = true then Q true H1 else u σ H1 Q
def tNot (t : TT) : TT := fun σ H Q => t σ H fun c H1 => Q (!c) H1
theorem pw_and1 (ha : PT X a tA) : PW X (.BoolOp .And [a] pos) tA := by
 intro wh pins s σ H Q I h
 refine isTrue_and (thn (ha pins s σ H Q I h) fun c s1 e => ?_)
 cases c with
 | true => exact isTrue_and_nil e
 | false => exact e
theorem pw_or1 (ha : PT X a tA) : PW X (.BoolOp .Or [a] pos) tA := by
 intro wh pins s σ H Q I h
 refine isTrue_or (thn (ha pins s σ H Q I h) fun c s1 e => ?_)
 cases c with
 | false => exact isTrue_or_nil e
 | true => exact e
theorem pw_and (ha : PT X a tA) (hb : PW X (.BoolOp .And (b :: rest) pos) tB') : PW X (.BoolOp .And (a :: b :: rest) pos) (tAnd tA tB') := by
 intro wh pins s σ H Q I h
 refine isTrue_and (thn (ha pins s σ H _ I h) fun c s1 ⟨H1, I1, q1⟩ => ?_)
 cases c with
 | true => exact hb wh pins s1 σ H1 Q I1 q1
 | false => exact ⟨H1, I1, q1⟩
theorem pw_or (ha : PT X a tA) (hb : PW X (.BoolOp .Or (b :: rest) pos) tB') : PW X (.BoolOp .Or (a :: b :: rest) pos) (tOr tA tB') := by
 intro wh pins s σ H Q I h
 refine isTrue_or (thn (ha pins s σ H _ I h) fun c s1 ⟨H1, I1, q1⟩ => ?_)
 cases c with
 | true => exact ⟨H1, I1, q1⟩
 | false => exact hb wh pins s1 σ H1 Q I1 q1
theorem pt_not (ha : PT X a tA) : PT X (.UnaryOp .Not a pos) (tNot tA) := by
 intro pins s σ H Q I h
 exact isTrue_not (ha pins s σ H (fun c H1 => Q (!c) H1) I h)
def tAndV (ta tb : TE) : TE := fun σ H Q => ta σ H fun x H1 => ∃ c, x = .bl c ∧ if c = true then tb σ H1 Q else Q (.bl false) H1
def tNotV (ta : TE) : TE := fun σ H Q => ta σ H fun x H1 => ∃ c, x = .bl c ∧ Q (.bl (!c)) H1
theorem pe_one {op} {t : TE} (h : PE X a t) : PE X (.BoolOp op [a] pos) t := fun pins s σ H Q I hw => BoolOp_one (h pins s σ H Q I hw)
theorem pe_and (ha : PE X a ta) (hb : PE X (.BoolOp .And (b :: rest) pos) tb) : PE X (.BoolOp .And (a :: b :: rest) pos) (tAndV ta tb) := by
 intro pins s σ H Q I h
 refine BoolOp_and (thn (ha pins s σ H _ I h) fun v s1 ⟨x, H1, I1, r1, q1⟩ => ?_)
 obtain ⟨c, rfl, q1⟩ := q1
 cases r1
 refine wpAny_truthy_bool ?_
 cases c with
 | true => exact hb pins s1 σ H1 Q I1 q1
 | false => exact ⟨.bl false, H1, I1, rfl, q1⟩
theorem pe_not (ha : PE X a ta) : PE X (.UnaryOp .Not a pos) (tNotV ta) := by
 intro pins s σ H Q I h
 refine UnaryOp_ (thn (ha pins s σ H _ I h) fun v s1 ⟨x, H1, I1, r1, q1⟩ => ?_)
 obtain ⟨c, rfl, q1⟩ := q1
 cases r1
 exact not_of (wpAny_truthy_bool ⟨.bl (!c), H1, I1, rfl, q1⟩)
def tIf (t : TT) (ta tb : TE) : TE := fun σ H Q => t σ H fun c H1 => if c = true then ta σ H1 Q else tb σ H1 Q
theorem pe_ifExp {c : Expr} (hc : PT X c tA) (ha : PE X a ta) (hb : PE X b tb) : PE X (.IfExp c a b pos) (tIf tA ta tb) := by
 intro pins s σ H Q I h
 refine wpAny_IfExp (thn (hc pins s σ H _ I h) fun d s1 ⟨H1, I1, q1⟩ => ?_)
 cases d with
 | true => exact ha pins s1 σ H1 Q I1 q1
 | false => exact hb pins s1 σ H1 Q I1 q1
end
end L2
namespace L2
open PySem PySem.Spec PyProof.Rows
def SqL (K : PySem.W.Frag) (H : Hp) (a : Addr) (xs : List V) : Prop :=
 Rd H a (.lst xs) ∨
  ∃ (o : Obj) (its : Array Value) (n : Nat), K.lookup a = some o ∧ o.cls = .type "list" ∧ o.dict = none ∧ o.data = .seq its n ∧ its.size ≤ sizeLine ∧ Vals xs its.toList
def SqT (K : PySem.W.Frag) (H : Hp) (a : Addr) (xs : List V) : Prop :=
 Rd H a (.tup xs) ∨
  ∃ (o : Obj) (its : Array Value) (n : Nat), K.lookup a = some o ∧ o.cls = .type "tuple" ∧ o.data = .seq its n ∧ its.size ≤ sizeLine ∧ Vals xs its.toList
def absV : Value → Option V
 | .none => some .non
 | .bool b => some (.bl b)
 | .int i _ => some (.int i)
 | .str x _ => some (.str x)
 | .bytes b _ => some (.byt b)
 | .float b _ => some (.flt b)
 | .ref a => some (.ref a)
 | .type n => some (.ty n)
 | _ => none
theorem RelV.abs {x : V} {u : Value} (r : RelV x u) : absV u = some x := by
 cases x with
 | non => cases r; rfl
 | bl _ => cases r; rfl
 | int _ => obtain ⟨t, rfl⟩ := r; rfl
 | str _ => obtain ⟨t, rfl⟩ := r; rfl
 | byt _ => obtain ⟨t, rfl⟩ := r; rfl
 | flt _ => obtain ⟨t, rfl⟩ := r; rfl
 | ref _ => cases r; rfl
 | ty _ => cases r; rfl
theorem RelV.inj {x y : V} {u : Value} (r : RelV x u) (q : RelV y u) : x = y := Option.some.inj (r.abs.symm.trans q.abs)
theorem Vals.inj : ∀ {xs ys : List V} {us : List Value}, Vals xs us → Vals ys us → xs = ys
 | _, _, _, .nil, .nil => rfl
 | _, _, _, .cons r t, .cons r' t' => by rw [r.inj r', Vals.inj t t']
section
variable {X : Cx} {pins : List (Addr × Obj)} {σ : St} {H : Hp} {s : Shared} {a : Addr} {xs ys : List V}
theorem SqL.of {K : PySem.W.Frag} (h : H a = some (.lst xs)) : SqL K H a xs := .inl (.inl h)
theorem SqT.of {K : PySem.W.Frag} (h : H a = some (.tup xs)) : SqT K H a xs := .inl (.inl h)
theorem Inv.list (I : Inv X pins σ H s) (h : SqL X.K H a xs) : ∃ its : List Value, Vals xs its ∧ PlainL s.heap a its.toArray ∧ xs.length ≤ sizeLine := by
 rcases h with h | ⟨o, its, n, hk, hc, hd, hs, hz, r⟩
 ·obtain ⟨z, its, n, r, e⟩ := h.ok I.hok
  exact ⟨its, r, ⟨_, n, e, rfl, rfl, rfl⟩, z⟩
 ·refine ⟨its.toList, r, ⟨o, n, I.kIn a o hk, hc, hd, by simpa using hs⟩, ?_⟩
  have e := r.length
  simp only [Array.length_toList] at e
  omega
theorem Inv.tuple (I : Inv X pins σ H s) (h : SqT X.K H a xs) : ∃ its : List Value, Vals xs its ∧ IsTup s.heap a its.toArray ∧ xs.length ≤ sizeLine := by
 rcases h with h | ⟨o, its, n, hk, hc, hs, hz, r⟩
 ·obtain ⟨z, its, r, p⟩ := h.ok I.hok
  exact ⟨its, r, p, z⟩
 ·refine ⟨its.toList, r, ⟨o, I.kIn a o hk, hc, n, by simpa using hs⟩, ?_⟩
  have e := r.length
  simp only [Array.length_toList] at e
  omega
theorem Inv.list_inj (I : Inv X pins σ H s) (h : SqL X.K H a xs) (h' : SqL X.K H a ys) : xs = ys := by
 obtain ⟨its, r, ⟨o, n, e, _, _, d⟩, _⟩ := I.list h
 obtain ⟨its', r', ⟨o', n', e', _, _, d'⟩, _⟩ := I.list h'
 rw [e] at e'; cases e'
 rw [d] at d'
 injection d' with d1 _
 have : its = its' := by simpa using congrArg Array.toList d1
 subst this
 exact r.inj r'
end
abbrev Cx.wish (X : Cx) (E : Value → Shared → Prop) : Cx := { X with xe := E }
abbrev Cx.nox (X : Cx) : Cx := X.wish fun _ _ => False
theorem Cx.Ok.wish {X : Cx} (ok : X.Ok) (E : Value → Shared → Prop) : (X.wish E).Ok :=
 ⟨ok.mod, ok.kind, ok.glob, ok.blt, ok.above, ok.inj, ok.has, ok.cab, ok.hd, ok.frames, ok.stk, ok.exf, ok.bs, ok.bsz, ok.noex, ok.exfs, ok.funs, ok.frf⟩
theorem Cx.Ok.unwish {X : Cx} {E : Value → Shared → Prop} (ok : (X.wish E).Ok) : X.Ok :=
 ⟨ok.mod, ok.kind, ok.glob, ok.blt, ok.above, ok.inj, ok.has, ok.cab, ok.hd, ok.frames, ok.stk, ok.exf, ok.bs, ok.bsz, ok.noex, ok.exfs, ok.funs, ok.frf⟩
section
variable {X : Cx} {pins : List (Addr × Obj)} {σ : St} {H : Hp} {s : Shared} {E : Value → Shared → Prop}
theorem Inv.wish (I : Inv X pins σ H s) (E : Value → Shared → Prop) : Inv (X.wish E) pins σ H s := ⟨I.ok.wish E, I.os, I.bare, I.base, I.loc, I.cell, I.free, I.freeC, I.pin, I.hok, I.len⟩
theorem Inv.unwish (I : Inv (X.wish E) pins σ H s) : Inv X pins σ H s := ⟨I.ok.unwish, I.os, I.bare, I.base, I.loc, I.cell, I.free, I.freeC, I.pin, I.hok, I.len⟩
theorem SP.unwish {D : Ends} {f : Flow} {s' : Shared} (h : SP (X.wish E) pins D f s') : SP X pins D f s' := by
 cases f with
 | next => obtain ⟨σ', H', I, q⟩ := h; exact ⟨σ', H', I.unwish, q⟩
 | brk => obtain ⟨σ', H', I, q⟩ := h; exact ⟨σ', H', I.unwish, q⟩
 | cont => obtain ⟨σ', H', I, q⟩ := h; exact ⟨σ', H', I.unwish, q⟩
 | ret u => obtain ⟨v, σ', H', I, r, q⟩ := h; exact ⟨v, σ', H', I.unwish, r, q⟩
theorem PSs.nox {st : List Stmt} {t : TS} (h : PSs X.nox st t) : PSs X st t := fun pins s σ H D I hw =>
 wpAny_mono (h pins s σ H D (I.wish _) hw) (fun _ _ q => q.unwish) fun _ _ z => False.elim z
end
section
variable {X : Cx} {st : Stmt} {rest : List Stmt} {t u : TS} {e : Expr} {te : TE} {pos : Pos}
def tNext : TS := fun D σ H => D.nx σ H
def tSeq (t u : TS) : TS := fun D σ H => t { D with nx := u D } σ H
theorem pss_nil : PSs X [] tNext := fun _ _ σ H _ I h => wpAny_execs_nil ⟨σ, H, I, h⟩
theorem pss_cons (h1 : PS X st t) (h2 : PSs X rest u) : PSs X (st :: rest) (tSeq t u) := by
 intro pins s σ H D I h
 refine wpAny_execs_cons (thn (h1 pins s σ H { D with nx := u D } I h) fun f s1 q => ?_)
 cases f with
 | next =>
  obtain ⟨σ', H', I', q⟩ := q
  exact h2 pins s1 σ' H' D I' q
 | ret v => exact q
 | brk => exact q
 | cont => exact q
theorem pss_one (h1 : PS X st t) : PSs X [st] t := by
 intro pins s σ H D I h
 refine wpAny_execs_cons (thn (h1 pins s σ H D I h) fun f s1 q => ?_)
 cases f with
 | next => exact wpAny_execs_nil q
 | ret v => exact q
 | brk => exact q
 | cont => exact q
theorem Inv.quiet {pins : List (Addr × Obj)} {σ : St} {H : Hp} {s : Shared} (I : Inv X pins σ H s) : interactive X.env = false := by simp [interactive, I.ok.kind]
def tDrop (te : TE) : TS := fun D σ H => te σ H fun _ H1 => D.nx σ H1
theorem ps_expr (he : PE X e te) (hs : swapsWith e none pos.line X.env = pure false := by rfl) : PS X (.Expr e pos) (tDrop te) := by
 intro pins s σ H D I h
 exact wpAny_Expr_any (thn (he pins s σ H _ I h) fun v s1 ⟨x, H1, I1, r1, q1⟩ => ⟨σ, H1, I1, q1⟩) I.quiet hs
def tRet (te : TE) : TS := fun D σ H => te σ H D.rt
theorem ps_ret (he : PE X e te) : PS X (.Return (some e) pos) (tRet te) := by
 intro pins s σ H D I h
 exact wpAny_Return_some (thn (he pins s σ H _ I h) fun v s1 ⟨x, H1, I1, r1, q1⟩ => ⟨x, σ, H1, I1, r1, q1⟩)
def tIfS (c : TT) (t u : TS) : TS := fun D σ H => c σ H fun b H1 => if b = true then t D σ H1 else u D σ H1
theorem ps_if {c : Expr} {a b : List Stmt} {tc : TT} (hc : PT X c tc) (ha : PSs X a t) (hb : PSs X b u) : PS X (.If c a b pos) (tIfS tc t u) := by
 intro pins s σ H D I h
 refine wpAny_If (thn (hc pins s σ H _ I h) fun d s1 ⟨H1, I1, q1⟩ => ?_)
 cases d with
 | true => exact ha pins s1 σ H1 D I1 q1
 | false => exact hb pins s1 σ H1 D I1 q1
def tNever : TS := fun _ _ _ => False
theorem pss_never {sts : List Stmt} : PSs X sts tNever := fun _ _ _ _ _ _ h => h.elim
end
abbrev TG := V → St → Hp → (St → Hp → Prop) → Prop
abbrev TGs := List V → St → Hp → (St → Hp → Prop) → Prop
def PG (X : Cx) (target : Expr) (t : TG) : Prop :=
 ∀ (pins : List (Addr × Obj)) (s : Shared) (σ : St) (H : Hp) (v : V) (u : Value) (Q : St → Hp → Prop), Inv X pins σ H s → RelV v u → t v σ H Q →
  wpAny (model X.prog X.w) X.A (assign target X.env u) (fun _ s' => ∃ σ' H', Inv X pins σ' H' s' ∧ Q σ' H') X.xe s
def PGs (X : Cx) (ts : List Expr) (t : TGs) : Prop :=
 ∀ (pins : List (Addr × Obj)) (s : Shared) (σ : St) (H : Hp) (vs : List V) (us : List Value) (Q : St → Hp → Prop), Inv X pins σ H s → Vals vs us → t vs σ H Q →
  wpAny (model X.prog X.w) X.A (assignInOrder ((assignEach ts X.env).map (·.2)) us) (fun _ s' => ∃ σ' H', Inv X pins σ' H' s' ∧ Q σ' H') X.xe s
abbrev TIp := V → V → Hp → VK → Prop
def PIp (X : Cx) (op : Operator) (t : TIp) : Prop :=
 ∀ (pins : List (Addr × Obj)) (s : Shared) (σ : St) (H : Hp) (x y : V) (v u : Value) (Q : VK), Inv X pins σ H s → RelV x v → RelV y u → t x y H Q →
  wpAny (model X.prog X.w) X.A (inplaceOp op v u) (EP X pins σ Q) X.xe s
section
variable {X : Cx} {pos : Pos}
def gName (i : Nat) : TG := fun v σ H Q => Q (σ.set i (some v)) H
theorem pg_name {i : Nat} {x : Str} (hN : X.N.Nodup) (hi : X.N[i]? = some x) (hx : Loc X.env.scope x) (hf : X.fn x = true ∨ X.env.scope.names.lookup x = some .local := by first | exact .inl rfl | exact .inr rfl | assumption) : PG X (.Name x pos) (gName i) := by
 intro pins s σ H v u Q I r h
 exact wpAny_assign_Name (store_ok I hN hi hx r (fun s' I' => ⟨_, H, I', h⟩) hf)
def gNil : TGs := fun vs σ H Q => vs = [] ∧ Q σ H
def gCons (t : TG) (u : TGs) : TGs := fun vs σ H Q => ∃ v r, vs = v :: r ∧ t v σ H fun σ' H' => u r σ' H' Q
theorem pgs_nil : PGs X [] gNil := by
 intro pins s σ H vs us Q I r h
 obtain ⟨e, h⟩ := h
 subst e
 cases r
 exact assignInOrder_nil ⟨σ, H, I, h⟩
theorem pgs_cons {e : Expr} {es : List Expr} {t : TG} {u : TGs} (h1 : PG X e t) (h2 : PGs X es u)
  (hs : (assignEach (e :: es) X.env).map (·.2) = assign e X.env :: (assignEach es X.env).map (·.2) := by rfl) : PGs X (e :: es) (gCons t u) := by
 intro pins s σ H vs us Q I r h
 obtain ⟨v, vr, e1, h⟩ := h
 subst e1
 cases r with
 | cons r rr =>
  rw [hs]
  refine assignInOrder_cons (thn (h1 pins s σ H _ _ _ I r h) fun _ s1 ⟨σ1, H1, I1, q1⟩ => ?_)
  exact h2 pins s1 σ1 H1 _ _ Q I1 rr q1
def gTup (K : PySem.W.Frag) (n : Nat) (t : TGs) : TG := fun v σ H Q => ∃ a xs, v = .ref a ∧ SqT K H a xs ∧ xs.length = n ∧ t xs σ H Q
theorem pg_tup {es : List Expr} {k : Nat} {t : TGs} {n : Nat} (hc : X.calm = true) (h : PGs X es t)
  (hn : (assignEach es X.env).length = n := by rfl) (hst : (assignEach es X.env).findIdx? (·.1) = none := by rfl) : PG X (.Tuple es k pos) (gTup X.K n t) := by
 intro pins s σ H v u Q I r hw
 obtain ⟨a, xs, e1, hq, hl, hw⟩ := hw
 subst e1
 cases r
 obtain ⟨its, rv, ht, hz⟩ := I.tuple hq
 refine assign_Tuple_tuple (I.ok.hd hc) ht (by simp [hn, ← hl, rv.length]) hst fun h' hx => ?_
 have I1 : Inv X pins σ H { s with heap := h' } := I.kept (t' := s.toks) fun b o e => hx b o (Nat.ne_of_lt (Heap.lt_size e)) e
 exact h pins _ σ H xs _ Q I1 (by simpa using rv) hw
def tAsg (te : TE) (g : TG) : TS := fun D σ H => te σ H fun x H1 => g x σ H1 D.nx
theorem ps_set {i : Nat} {x : Str} {e : Expr} {te : TE} {pos' : Pos} (hN : X.N.Nodup) (hi : X.N[i]? = some x) (hx : Loc X.env.scope x) (he : PE X e te) (hs : swapsWith e (some (.Name x pos')) pos.line X.env = pure false := by rfl) (hf : X.fn x = true ∨ X.env.scope.names.lookup x = some .local := by first | exact .inl rfl | exact .inr rfl | assumption) :
  PS X (.Assign [.Name x pos'] e pos) (tAsg te (gName i)) := by
 intro pins s σ H D I h
 refine wpAny_Assign_Name (thn (he pins s σ H _ I h) fun v s1 ⟨y, H1, I1, r1, q1⟩ => ?_) hs
 exact store_ok I1 hN hi hx r1 (fun s2 I2 => ⟨_, H1, I2, q1⟩) hf
def tAug (i : Nat) (te : TE) (ti : TIp) : TS := fun D σ H => ∃ x, σ[i]? = some (some x) ∧ te σ H fun y H1 => ti x y H1 fun z H2 => D.nx (σ.set i (some z)) H2
theorem ps_aug {i : Nat} {x : Str} {e : Expr} {te : TE} {op : Operator} {ti : TIp} {pos' : Pos} (hN : X.N.Nodup) (hi : X.N[i]? = some x) (hx : Loc X.env.scope x) (he : PE X e te) (ho : PIp X op ti) (hf : X.fn x = true ∨ X.env.scope.names.lookup x = some .local := by first | exact .inl rfl | exact .inr rfl | assumption) :
  PS X (.AugAssign (.Name x pos') op e pos) (tAug i te ti) := by
 intro pins s σ H D I h
 obtain ⟨v, e1, h⟩ := h
 obtain ⟨m, hn, hl⟩ := I.loc
 have vis : Vis X.env.scope x := by rcases hx with k | k; exact .inl k; exact .inr (.inl k)
 obtain ⟨u, r, l⟩ := hl i x v hi e1 vis
 refine wpAny_AugAssign_Name ?_
 have go : wpAny (model X.prog X.w) X.A (eval e X.env) (fun w s₂ => wpAny (model X.prog X.w) X.A (inplaceOp op u w) (fun r s₃ => wpAny (model X.prog X.w) X.A (storeName X.env x r) (fun _ => SP X pins D .next) X.xe s₃) X.xe s₂) X.xe s := by
  refine thn (he pins s σ H _ I h) fun w s1 ⟨y, H1, I1, r1, q1⟩ => ?_
  refine thn (ho pins s1 σ H1 v y u w _ I1 r r1 q1) fun z s2 ⟨zv, H2, I2, r2, q2⟩ => ?_
  exact store_ok I2 hN hi hx r2 (fun s3 I3 => ⟨_, H2, I3, q2⟩) hf
 rcases l with ⟨hk, hm⟩ | ⟨hk, c, hc, hcell⟩
 ·exact wpAny_loadName_local I.ok.kind hk hn hm go
 ·rcases hk with hk | hk
  ·exact wpAny_loadName_cell I.ok.kind hk hc hcell go
  ·rcases hx with k | k
   ·have : X.env.scope.names.lookup x = some .free := hk
    rw [k] at this; cases this
   ·have : X.env.scope.names.lookup x = some .free := hk
    rw [k] at this; cases this
def ipI (f : Int → Int → Int) : TIp := fun x y H Q => ∃ i j, x = .int i ∧ y = .int j ∧ Q (.int (f i j)) H
theorem ip_add : PIp X .Add (ipI fun i j => i + j) := by
 intro pins s σ H x y v u Q I r1 r2 h
 obtain ⟨i, j, e1, e2, q⟩ := h
 subst e1; subst e2
 obtain ⟨t, rfl⟩ := r1
 obtain ⟨t', rfl⟩ := r2
 exact iadd_int ⟨.int _, H, I.tok _, ⟨_, rfl⟩, q⟩
end
section
variable {X : Cx} {pos : Pos}
def tWhile (c : TT) (tb : TS) : TS := fun D σ H => ∃ W : Nat → St → Hp → Prop, (∃ m, W m σ H) ∧ ∀ m σ H, W m σ H →
 c σ H fun b H1 => if b = true then ∃ N : St → Hp → Prop, (∀ σ' H', N σ' H' → ∃ m', m' < m ∧ W m' σ' H') ∧ tb { D with nx := N, ct := N, bk := D.nx } σ H1 else D.nx σ H1
theorem ps_while {c : Expr} {body : List Stmt} {tc : TT} {tb : TS} (hp : PassesOwn (model X.prog X.w) X.A X.env X.xe) (hc : PT X c tc) (hb : PSs X body tb) : PS X (.While c body [] pos) (tWhile tc tb) := by
 intro pins s σ H D I h
 obtain ⟨W, ⟨m0, w0⟩, turn⟩ := h
 refine wpAny_While (codeAny_whileLoop (fun n s' => ∃ σ' H', Inv X pins σ' H' s' ∧ W n σ' H') ?_ m0 ⟨σ, H, I, w0⟩)
 rintro n s1 ⟨σ1, H1, I1, w1⟩
 refine wpAny_passesOwn hp (thn (hc pins s1 σ1 H1 _ I1 (turn n σ1 H1 w1)) fun b s2 ⟨H2, I2, q2⟩ => ?_)
 cases b with
 | true =>
  obtain ⟨N, hN, q2⟩ := q2
  rw [if_pos rfl]
  refine wpAny_passesOwn hp (thn (hb pins s2 σ1 H2 _ I2 q2) fun f s3 q3 => ?_)
  cases f with
  | next =>
   obtain ⟨σ3, H3, I3, n3⟩ := q3
   obtain ⟨m', hm, w3⟩ := hN σ3 H3 n3
   exact ⟨m', hm, σ3, H3, I3, w3⟩
  | cont =>
   obtain ⟨σ3, H3, I3, n3⟩ := q3
   obtain ⟨m', hm, w3⟩ := hN σ3 H3 n3
   exact ⟨m', hm, σ3, H3, I3, w3⟩
  | brk => exact q3
  | ret v => exact q3
 | false =>
  rw [if_neg Bool.false_ne_true]
  exact wpAny_execs_nil ⟨σ1, H2, I2, q2⟩
end
structure It where
 go : Nat → Hp → Prop
 yld : Nat → Hp → V → Hp → Prop
 stop : Nat → Hp → Prop
def FpOk (X : Cx) (pins : List (Addr × Obj)) (H : Hp) (b : Addr) : Prop :=
 H b = none ∧ b ≠ X.env.locals ∧ b ∉ X.fs ∧ (b ∈ X.ex ∨ X.s₀.heap.objs.size ≤ b) ∧ (∀ x c, X.env.cells.lookup x = some c → c ≠ b) ∧ ∀ p ∈ X.pn ++ pins, p.1 ≠ b
theorem Inv.fpOk {X : Cx} {pins : List (Addr × Obj)} {σ : St} {H H' : Hp} {s : Shared} {b : Addr} (I : Inv X pins σ H s) (hb : s.heap.objs.size ≤ b) (hn : H' b = none) : FpOk X pins H' b := by
 refine ⟨hn, Nat.ne_of_gt (Nat.lt_of_lt_of_le I.lt hb), I.nofs hb, .inr (Nat.le_trans I.sz hb), fun x c e z => ?_, fun p hp z => ?_⟩
 ·obtain ⟨v, q⟩ := I.cell x c e
  exact absurd (Nat.lt_of_lt_of_le q.lt (by rw [z]; exact hb)) (Nat.lt_irrefl _)
 ·exact absurd (Nat.lt_of_lt_of_le (Heap.lt_size (I.pin p hp).1) (by rw [z]; exact hb)) (Nat.lt_irrefl _)
structure Turn (P : Program) (w : World) (K : PySem.W.Frag) (tg : Expr) (J : It) (fp : List Addr) (it : Addr) (tn : Nat → Heap → Prop) : Prop where
 mem : it ∈ fp
 obj : ∀ i h, tn i h → ∀ b ∈ fp, ∃ o, h.get? b = some o ∧ ∀ v, o.data ≠ .cell v
 keep : ∀ i h h', tn i h → (∀ b ∈ fp, ∀ o, h.get? b = some o → h'.get? b = some o) → tn i h'
 item : ∀ (X : Cx), X.prog = P → X.w = w → X.K = K → X.calm = true → ∀ (i : Nat) (pins : List (Addr × Obj)) (s : Shared) (σ : St) (H : Hp) (E : Value → Shared → Prop), Inv X pins σ H s → (∀ b ∈ fp, FpOk X pins H b) → tn i s.heap → J.go i H →
  wpAny (model P w) X.A (pyNext (.ref it)) (fun r s1 => ∃ u, r = some u ∧
   wpAny (model P w) X.A (letOwnedTupleGo tg (.ref it) u) (fun _ s2 => ∃ x H', Inv X pins σ H' s2 ∧ RelV x u ∧ J.yld i H x H' ∧ tn (i + 1) s2.heap ∧ ∀ b ∈ fp, H' b = none) E s1) E s
 done : ∀ (X : Cx), X.prog = P → X.w = w → X.K = K → X.calm = true → ∀ (i : Nat) (pins : List (Addr × Obj)) (s : Shared) (σ : St) (H : Hp) (E : Value → Shared → Prop), Inv X pins σ H s → (∀ b ∈ fp, FpOk X pins H b) → tn i s.heap → J.stop i H →
  wpAny (model P w) X.A (pyNext (.ref it)) (fun r s1 => r = none ∧ Inv X pins σ H s1) E s
 self : ∀ (A : Around) (i : Nat) (s : Shared) (Q : Value → Shared → Prop) (E : Value → Shared → Prop), tn i s.heap → Q (.ref it) s → wpAny (model P w) A (pyIter (.ref it)) Q E s
abbrev TI := St → Hp → (It → Hp → Prop) → Prop
def PIE (X : Cx) (pins : List (Addr × Obj)) (σ : St) (tg : Expr) (R : It → Hp → Prop) (itv : Value) (s2 : Shared) : Prop :=
 ∃ (it : Addr) (fp : List Addr) (tn : Nat → Heap → Prop) (J : It) (H' : Hp), itv = .ref it ∧ Inv X pins σ H' s2 ∧ Turn X.prog X.w X.K tg J fp it tn ∧ tn 0 s2.heap ∧ (∀ b ∈ fp, FpOk X pins H' b) ∧ R J H'
def PI (X : Cx) (tg iter : Expr) (wi : TI) : Prop :=
 ∀ (pins : List (Addr × Obj)) (s : Shared) (σ : St) (H : Hp) (R : It → Hp → Prop), Inv X pins σ H s → wi σ H R →
  wpAny (model X.prog X.w) X.A (eval iter X.env) (fun v s1 => wpAny (model X.prog X.w) X.A (pyIter v) (PIE X pins σ tg R) X.xe s1) X.xe s
theorem go_of {M : Model} {A : Around} {E : Value → Shared → Prop} {s : Shared} {tg : Expr} {it : Addr} {u : Value} {o : Obj} {n : String} {vs : Array Value} {Q : Unit → Shared → Prop} (ho : s.heap.get? it = some o) (hc : o.cls = .type n) (hd : o.data = .fields vs)
    (hn : ["enumerate", "zip", "dict_itemiterator", "dict_reverseitemiterator", "odict_iterator", "itertools.zip_longest", "itertools.pairwise"].contains n = false) (hQ : Q () s) : wpAny M A (letOwnedTupleGo tg (.ref it) u) Q E s := by
  unfold letOwnedTupleGo
  cases tg <;> first
    | exact wpAny_pure hQ
    | (cases u <;> first
        | exact wpAny_pure hQ
        | (refine wpAny_bind (wpAny_load ho ?_)
           rw [hc, hd]
           show wpAny M A (if (["enumerate", "zip", "dict_itemiterator", "dict_reverseitemiterator", "odict_iterator", "itertools.zip_longest", "itertools.pairwise"].contains n && vs[0]? == some (rawInt _)) = true then _ else _) Q E s
           rw [if_neg (by intro h; rw [hn, Bool.false_and] at h; cases h)]
           exact wpAny_pure hQ))
def Itl (K : PySem.W.Frag) (a : Addr) : It :=
 ⟨fun i H => ∃ xs x, SqL K H a xs ∧ xs[i]? = some x, fun i H x H' => H' = H ∧ ∀ xs, SqL K H a xs → xs[i]? = some x, fun i H => ∃ xs, SqL K H a xs ∧ xs.length ≤ i⟩
def Itr (lo : Int) (n : Nat) : It := ⟨fun i _ => i < n, fun i H x H' => H' = H ∧ x = .int (lo + i), fun i _ => n ≤ i⟩
theorem turn_list {P : Program} {w : World} {K : PySem.W.Frag} {tg : Expr} (a it : Addr) : Turn P w K tg (Itl K a) [it] it (fun i h => h.IsListIter it a i) where
 mem := by simp
 obj := fun i h st b hb => by
  have e : b = it := by simpa using hb
  subst e
  obtain ⟨o, e, c, d⟩ := st
  exact ⟨o, e, fun v z => by rw [d] at z; cases z⟩
 keep := fun i h h' st k => st.at fun o e => k it (by simp) o e
 item := by
  intro X hP hw hK hc i pins s σ H E I hf st hg
  subst hP hw hK
  obtain ⟨xs, x, hq, hx⟩ := hg
  obtain ⟨its, rv, p, hz⟩ := I.list hq
  obtain ⟨u, hu, ru⟩ := rv.get hx
  obtain ⟨f0, f1, f2, f3, f4, f5⟩ := hf it (by simp)
  refine wpAny_pyNext_list_item st p.isList (x := u) (by simpa using hu) fun h' st' sb => ?_
  have I1 : Inv X pins σ H { s with heap := h' } := I.turned (t' := s.toks) (fun b o hb e => (sb.2 b hb).trans e) f0 f1 f3 f4 f5
  obtain ⟨o, e, c, d⟩ := id st'
  exact ⟨u, rfl, go_of (s := { s with heap := h' }) e c d (by decide) ⟨x, H, I1, ru, ⟨rfl, fun ys hy => by rw [I.list_inj hy hq]; exact hx⟩, st', fun b hb => (hf b hb).1⟩⟩
 done := by
  intro X hP hw hK hc i pins s σ H E I hf st hg
  subst hP hw hK
  obtain ⟨xs, hq, hx⟩ := hg
  obtain ⟨its, rv, p, hz⟩ := I.list hq
  obtain ⟨f0, f1, f2, f3, f4, f5⟩ := hf it (by simp)
  have hl := rv.length
  exact wpAny_pyNext_list_end (I.ok.hd hc) st p.isList (by simp; omega) fun h' eb => ⟨rfl, I.turned (t' := s.toks) (fun b o hb e => eb b o hb e) f0 f1 f3 f4 f5⟩
 self := fun _ _ _ _ _ st h => wpAny_pyIter_listiter st h
theorem turn_range {P : Program} {w : World} {K : PySem.W.Frag} {tg : Expr} (it : Addr) (lo : Int) (n : Nat) : Turn P w K tg (Itr lo n) [it] it (fun i h => IsRangeIter h it (lo + (i : Nat) * 1) ((n : Int) - (i : Nat)) 1) where
 mem := by simp
 obj := fun i h st b hb => by
  have e : b = it := by simpa using hb
  subst e
  exact ⟨_, st, fun v z => by
   have z' : Data.fields _ = Data.cell v := z
   cases z'⟩
 keep := fun i h h' st k => k it (by simp) _ st
 item := by
  intro X hP hw hK hc i pins s σ H E I hf st hg
  subst hP hw hK
  obtain ⟨f0, f1, f2, f3, f4, f5⟩ := hf it (by simp)
  have W := Walks.range (prog := X.prog) (w := X.w) (I.ok.hd hc) it lo 1 n
  refine W.item i s _ _ hg st fun v h' tk hv st' kk => ?_
  obtain ⟨t, rfl⟩ := hv
  have I1 : Inv X pins σ H { s with heap := h', toks := tk } := I.turned (fun b o hb e => kk b o (by simpa using hb) e) f0 f1 f3 f4 f5
  refine ⟨_, rfl, go_of (s := { s with heap := h', toks := tk }) (n := "range_iterator") st' rfl rfl (by decide) ⟨.int (lo + i), H, I1, ⟨t, ?_⟩, ⟨rfl, rfl⟩, st', fun b hb => (hf b hb).1⟩⟩
  rw [Int.mul_one]
 done := by
  intro X hP hw hK hc i pins s σ H E I hf st hg
  subst hP hw hK
  obtain ⟨f0, f1, f2, f3, f4, f5⟩ := hf it (by simp)
  exact wpAny_pyNext_range_end (I.ok.hd hc) st (by have : n ≤ i := hg; omega) fun h' eb => ⟨rfl, I.turned (t' := s.toks) (fun b o hb e => eb b o hb e) f0 f1 f3 f4 f5⟩
 self := fun _ _ _ _ _ st h => wpAny_pyIter_rangeiter st h
end L2
namespace L2
open PySem PySem.Spec PyProof.Rows
section
variable {X : Cx} {tg : Expr}
def iList (K : PySem.W.Frag) (tl : TE) : TI := fun σ H R => tl σ H fun x H1 => ∃ a, x = .ref a ∧ (∃ xs, SqL K H1 a xs) ∧ R (Itl K a) H1
theorem pi_list {l : Expr} {tl : TE} (hl : PE X l tl) : PI X tg l (iList X.K tl) := by
 intro pins s σ H R I h
 refine thn (hl pins s σ H _ I h) fun v s1 ⟨x, H1, I1, r1, q1⟩ => ?_
 obtain ⟨a, e, ⟨xs, hq⟩, q⟩ := q1
 subst e
 cases r1
 obtain ⟨its, rv, p, hz⟩ := I1.list hq
 refine wpAny_pyIter_list p.isList ?_
 refine ⟨s1.heap.objs.size, [s1.heap.objs.size], _, _, H1, rfl, I1.kept (t' := s1.toks) fun b o e => Heap.get?_push_of_some _ e, turn_list a _, ⟨_, Heap.get?_push_size _ rfl, rfl, rfl⟩, fun b hb => ?_, q⟩
 have e : b = s1.heap.objs.size := by simpa using hb
 subst e
 exact I1.fpOk (Nat.le_refl _) (I1.hok.fresh (Nat.le_refl _))
theorem range_it {pins : List (Addr × Obj)} {σ : St} {H : Hp} {s : Shared} {R : It → Hp → Prop} {E : Value → Shared → Prop} {lo hi : Int} {t u v : Tok} {tk : Nat} (I : Inv X pins σ H s) (h1 : -(2 ^ 62) ≤ lo) (h2 : lo < 2 ^ 62) (h3 : -(2 ^ 62) ≤ hi) (h4 : hi < 2 ^ 62)
  (q : R (Itr lo (hi - lo).toNat) H) : wpAny (model X.prog X.w) X.A (pyIter (.ref s.heap.objs.size)) (PIE X pins σ tg R) E { s with heap := s.heap.push { cls := .type "range", data := .fields #[.int lo t, .int hi u, .int 1 v] }, toks := tk } := by
 refine wpAny_pyIter_range (IsRange.new ..) (small_one h1 h2 h3 h4) ?_
 have I1 : Inv X pins σ H { s with heap := s.heap.push { cls := .type "range", data := .fields #[.int lo t, .int hi u, .int 1 v] }, toks := tk } := I.kept fun b o e => Heap.get?_push_of_some _ e
 refine ⟨(s.heap.push { cls := .type "range", data := .fields #[.int lo t, .int hi u, .int 1 v] }).objs.size, [(s.heap.push { cls := .type "range", data := .fields #[.int lo t, .int hi u, .int 1 v] }).objs.size], _, _, H, rfl,
  I1.kept (t' := tk) fun b o e => Heap.get?_push_of_some _ e, turn_range _ lo (hi - lo).toNat, ?_, fun b hb => ?_, q⟩
 ·have e1 : lo + ((0 : Nat) : Int) * 1 = lo := by simp
  have e2 : (((hi - lo).toNat : Nat) : Int) - ((0 : Nat) : Int) = Builtin.Range.rangeSize lo hi 1 := by rw [rangeSize_one]; split <;> omega
  show IsRangeIter _ _ (lo + ((0 : Nat) : Int) * 1) ((((hi - lo).toNat : Nat) : Int) - ((0 : Nat) : Int)) 1
  rw [e1, e2]
  exact Heap.get?_push_size _ rfl
 ·have e : b = (s.heap.push { cls := .type "range", data := .fields #[.int lo t, .int hi u, .int 1 v] }).objs.size := by simpa using hb
  subst e
  exact I1.fpOk (Nat.le_refl _) (I1.hok.fresh (Nat.le_refl _))
def iRng1 (ta : TA) : TI := fun σ H R => ta σ H fun vs H1 => ∃ j : Int, vs = [.int j] ∧ -(2 ^ 62) ≤ j ∧ j < 2 ^ 62 ∧ R (Itr 0 j.toNat) H1
def iRng2 (ta : TA) : TI := fun σ H R => ta σ H fun vs H1 => ∃ i j : Int, vs = [.int i, .int j] ∧ (-(2 ^ 62) ≤ i ∧ i < 2 ^ 62 ∧ -(2 ^ 62) ≤ j ∧ j < 2 ^ 62) ∧ R (Itr i (j - i).toNat) H1
theorem pi_range1 {a : Expr} {ta : TA} {p pos : Pos} (hg : Gl X "range") (hm : X.mg "range" = none) (ha : PA X [a] ta) (hs : starEach [a] X.env = [(false, eval a X.env)] := by rfl) : PI X tg (.Call (.Name "range" p) [a] [] pos) (iRng1 ta) := by
 intro pins s σ H R I h
 refine Call_ (ld_blt I hg hm boot_range (PyProof.Rows.callWith_type1 (thn (ha pos pins s σ H _ I h) fun us s1 ⟨vs, H1, I1, r1, q1⟩ => ?_) hs rfl))
 obtain ⟨j, e, q1, q2, q⟩ := q1
 subst e
 cases r1 with
 | cons r rr =>
  cases rr
  obtain ⟨t, rfl⟩ := r
  exact call_range_1 (range_it I1 (by omega) (by omega) q1 q2 (by simpa using q))
theorem pi_range2 {a b : Expr} {ta : TA} {p pos : Pos} (hg : Gl X "range") (hm : X.mg "range" = none) (ha : PA X [a, b] ta) (hs : starEach [a, b] X.env = [(false, eval a X.env), (false, eval b X.env)] := by rfl) (hs2 : starEach [b] X.env = [(false, eval b X.env)] := by rfl) :
  PI X tg (.Call (.Name "range" p) [a, b] [] pos) (iRng2 ta) := by
 intro pins s σ H R I h
 refine Call_ (ld_blt I hg hm boot_range (PyProof.Rows.callWith_type1 (thn (ha pos pins s σ H _ I h) fun us s1 ⟨vs, H1, I1, r1, q1⟩ => ?_) (by rw [hs, hs2]) (by rw [hs2]; rfl)))
 obtain ⟨i, j, e, ⟨q1, q2, q3, q4⟩, q⟩ := q1
 subst e
 cases r1 with
 | cons r rr =>
  cases rr with
  | cons r' rr =>
   cases rr
   obtain ⟨t, rfl⟩ := r
   obtain ⟨t', rfl⟩ := r'
   exact call_range_2 (range_it I1 q1 q2 q3 q4 q)
def tFor (wi : TI) (g : TG) (tb : TS) : TS := fun D σ H => wi σ H fun J H1 => ∃ W : Nat → Nat → St → Hp → Prop, (∃ m, W 0 m σ H1) ∧ ∀ i m σ H, W i m σ H →
 (J.stop i H ∧ D.nx σ H) ∨ (J.go i H ∧ ∃ N : St → Hp → Prop, (∀ σ' H', N σ' H' → ∃ m', m' < m ∧ W (i + 1) m' σ' H') ∧ ∀ x H', J.yld i H x H' → g x σ H' fun σ2 H2 => tb { D with nx := N, ct := N, bk := D.nx } σ2 H2)
def pinsAt (fp : List Addr) (h : Heap) : List (Addr × Obj) := fp.filterMap fun b => (h.get? b).map fun o => (b, o)
theorem mem_pinsAt {fp : List Addr} {h : Heap} {b : Addr} {o : Obj} (hb : b ∈ fp) (e : h.get? b = some o) : (b, o) ∈ pinsAt fp h := List.mem_filterMap.mpr ⟨b, hb, by rw [e]; rfl⟩
theorem of_pinsAt {fp : List Addr} {h : Heap} {p : Addr × Obj} (hp : p ∈ pinsAt fp h) : p.1 ∈ fp ∧ h.get? p.1 = some p.2 := by
 obtain ⟨b, hb, e⟩ := List.mem_filterMap.mp hp
 cases q : h.get? b with
 | none => rw [q] at e; cases e
 | some o =>
  rw [q] at e
  have e' : (b, o) = p := Option.some.inj e
  subst e'
  exact ⟨hb, q⟩
theorem Inv.pinned {pins : List (Addr × Obj)} {σ : St} {H : Hp} {s : Shared} {fp : List Addr} (I : Inv X pins σ H s) (hf : ∀ b ∈ fp, FpOk X pins H b) (ho : ∀ b ∈ fp, ∃ o, s.heap.get? b = some o ∧ ∀ v, o.data ≠ .cell v) : Inv X (pins ++ pinsAt fp s.heap) σ H s :=
 I.pins_of fun p hp => (List.mem_append.mp hp).elim (fun z => I.pin p (List.mem_append_right _ z)) fun z => by
  obtain ⟨hb, e⟩ := of_pinsAt z
  obtain ⟨f0, f1, f2, _⟩ := hf p.1 hb
  obtain ⟨o, e', d⟩ := ho p.1 hb
  rw [e] at e'; cases e'
  exact ⟨e, f0, f1, f2, d⟩
theorem Inv.unpinned {pins pl : List (Addr × Obj)} {σ : St} {H : Hp} {s : Shared} (I : Inv X (pins ++ pl) σ H s) : Inv X pins σ H s := I.pins_of fun p hp => I.pin p (List.mem_append_right _ (List.mem_append_left _ hp))
theorem ps_for {iter : Expr} {body : List Stmt} {wi : TI} {g : TG} {tb : TS} {pos : Pos} (hp : PassesOwn (model X.prog X.w) X.A X.env X.xe) (hc : X.calm = true) (hi : PI X tg iter wi) (hg : PG X tg g) (hb : PSs X body tb)
  (hs : ∀ x, foldedSetIterable iter X.env x = pure x := by intro _; rfl) : PS X (.For tg iter body [] pos) (tFor wi g tb) := by
 intro pins s σ H D I h
 refine wpAny_For (thn (hi pins s σ H _ I h) fun v s1 h1 => thn h1 fun itv s2 h2 => ?_) hs
 obtain ⟨it, fp, tn, J, H2, e, I2, T, st2, f2, W, ⟨m0, w0⟩, turn⟩ := h2
 subst e
 have stat : ∀ {H' : Hp}, (∀ b ∈ fp, H' b = none) → ∀ b ∈ fp, FpOk X pins H' b := fun hn b hb => ⟨hn b hb, (f2 b hb).2⟩
 refine codeAny_forLoop_any (fun n s' => ∃ i σ' H', Inv X pins σ' H' s' ∧ tn i s'.heap ∧ (∀ b ∈ fp, H' b = none) ∧ W i n σ' H') ?_ m0 ⟨0, σ, H2, I2, st2, fun b hb => (f2 b hb).1, w0⟩
 rintro n s3 ⟨i, σ3, H3, I3, st3, fr3, w3⟩
 rcases turn i n σ3 H3 w3 with ⟨stop, qn⟩ | ⟨go, N, hN, step⟩
 ·refine wpAny_passesOwn hp (thn (T.done X rfl rfl rfl hc i pins s3 σ3 H3 X.xe I3 (stat fr3) st3 stop) fun r s4 ⟨hr, I4⟩ => ?_)
  subst hr
  exact wpAny_execs_nil ⟨σ3, H3, I4, qn⟩
 ·refine wpAny_passesOwn hp (thn (T.item X rfl rfl rfl hc i pins s3 σ3 H3 X.xe I3 (stat fr3) st3 go) fun r s4 ⟨u, hr, h4⟩ => ?_)
  subst hr
  refine wpAny_passesOwn hp (thn h4 fun _ s5 ⟨x, H5, I5, r5, y5, st5, fr5⟩ => ?_)
  have I5' := I5.pinned (stat fr5) (T.obj _ _ st5)
  refine wpAny_passesOwn hp (thn (hg _ s5 σ3 H5 x u _ I5' r5 (step x H5 y5)) fun _ s6 ⟨σ6, H6, I6, q6⟩ => ?_)
  refine wpAny_passesOwn hp (thn (hb _ s6 σ6 H6 _ I6 q6) fun f s7 q7 => ?_)
  have again : ∀ {σ7 : St} {H7 : Hp}, Inv X (pins ++ pinsAt fp s5.heap) σ7 H7 s7 → N σ7 H7 → ∃ m, m < n ∧ ∃ i σ' H', Inv X pins σ' H' s7 ∧ tn i s7.heap ∧ (∀ b ∈ fp, H' b = none) ∧ W i m σ' H' := fun {σ7 H7} I7 n7 => by
   obtain ⟨m', hm, w7⟩ := hN σ7 H7 n7
   refine ⟨m', hm, i + 1, σ7, H7, I7.unpinned, T.keep _ _ _ st5 fun b hb o e => (I7.pin (b, o) (List.mem_append_right _ (List.mem_append_right _ (mem_pinsAt hb e)))).1, fun b hb => ?_, w7⟩
   obtain ⟨o, e, d⟩ := T.obj _ _ st5 b hb
   exact (I7.pin (b, o) (List.mem_append_right _ (List.mem_append_right _ (mem_pinsAt hb e)))).2.1
  cases f with
  | next => obtain ⟨σ7, H7, I7, n7⟩ := q7; exact again I7 n7
  | cont => obtain ⟨σ7, H7, I7, n7⟩ := q7; exact again I7 n7
  | brk => obtain ⟨σ7, H7, I7, q7⟩ := q7; exact ⟨σ7, H7, I7.unpinned, q7⟩
  | ret v => obtain ⟨x7, σ7, H7, I7, r7, q7⟩ := q7; exact ⟨x7, σ7, H7, I7.unpinned, r7, q7⟩
end
theorem for_list {K : PySem.W.Frag} {a : Addr} {xs : List V} {g : TG} {tb : TS} {D : Ends} {σ : St} {H : Hp} (Pv : Nat → St → Hp → Prop) (h0 : Pv 0 σ H) (hl : ∀ i σ H, i ≤ xs.length → Pv i σ H → SqL K H a xs)
  (hs : ∀ i x σ H, xs[i]? = some x → Pv i σ H → g x σ H fun σ2 H2 => tb { D with nx := Pv (i + 1), ct := Pv (i + 1), bk := D.nx } σ2 H2) (hd : ∀ σ H, Pv xs.length σ H → D.nx σ H) :
  ∃ W : Nat → Nat → St → Hp → Prop, (∃ m, W 0 m σ H) ∧ ∀ i m σ H, W i m σ H →
   ((Itl K a).stop i H ∧ D.nx σ H) ∨ ((Itl K a).go i H ∧ ∃ N : St → Hp → Prop, (∀ σ' H', N σ' H' → ∃ m', m' < m ∧ W (i + 1) m' σ' H') ∧ ∀ x H', (Itl K a).yld i H x H' → g x σ H' fun σ2 H2 => tb { D with nx := N, ct := N, bk := D.nx } σ2 H2) := by
 refine ⟨fun i m σ H => m = xs.length - i ∧ i ≤ xs.length ∧ Pv i σ H, ⟨xs.length, by simp, Nat.zero_le _, h0⟩, ?_⟩
 rintro i m σ H ⟨rfl, hi, p⟩
 have q := hl i σ H hi p
 by_cases hlt : i < xs.length
 ·refine .inr ⟨⟨xs, xs[i], q, by simp [hlt]⟩, Pv (i + 1), fun σ' H' p' => ⟨xs.length - (i + 1), by omega, rfl, hlt, p'⟩, fun x H' y => ?_⟩
  obtain ⟨e, y⟩ := y
  subst e
  exact hs i x σ _ (y xs q) p
 ·have e : i = xs.length := by omega
  subst e
  exact .inl ⟨⟨xs, q, Nat.le_refl _⟩, hd σ H p⟩
theorem for_range {lo : Int} {n : Nat} {g : TG} {tb : TS} {D : Ends} {σ : St} {H : Hp} (Pv : Nat → St → Hp → Prop) (h0 : Pv 0 σ H)
  (hs : ∀ i σ H, i < n → Pv i σ H → g (.int (lo + i)) σ H fun σ2 H2 => tb { D with nx := Pv (i + 1), ct := Pv (i + 1), bk := D.nx } σ2 H2) (hd : ∀ σ H, Pv n σ H → D.nx σ H) :
  ∃ W : Nat → Nat → St → Hp → Prop, (∃ m, W 0 m σ H) ∧ ∀ i m σ H, W i m σ H →
   ((Itr lo n).stop i H ∧ D.nx σ H) ∨ ((Itr lo n).go i H ∧ ∃ N : St → Hp → Prop, (∀ σ' H', N σ' H' → ∃ m', m' < m ∧ W (i + 1) m' σ' H') ∧ ∀ x H', (Itr lo n).yld i H x H' → g x σ H' fun σ2 H2 => tb { D with nx := N, ct := N, bk := D.nx } σ2 H2) := by
 refine ⟨fun i m σ H => m = n - i ∧ i ≤ n ∧ Pv i σ H, ⟨n, by simp, Nat.zero_le _, h0⟩, ?_⟩
 rintro i m σ H ⟨rfl, hi, p⟩
 by_cases hlt : i < n
 ·refine .inr ⟨hlt, Pv (i + 1), fun σ' H' p' => ⟨n - (i + 1), by omega, rfl, hlt, p'⟩, fun x H' y => ?_⟩
  obtain ⟨e, y⟩ := y
  subst e y
  exact hs i σ _ hlt p
 ·have e : i = n := by omega
  subst e
  exact .inl ⟨Nat.le_refl _, hd σ H p⟩
theorem while_by {c : TT} {tb : TS} {D : Ends} {σ : St} {H : Hp} (Pv : St → Hp → Prop) (μ : St → Hp → Nat) (h0 : Pv σ H)
  (hs : ∀ σ H, Pv σ H → c σ H fun b H1 => if b = true then tb { D with nx := fun σ' H' => Pv σ' H' ∧ μ σ' H' < μ σ H, ct := fun σ' H' => Pv σ' H' ∧ μ σ' H' < μ σ H, bk := D.nx } σ H1 else D.nx σ H1)
  (mono : ∀ σ H Q Q', (∀ b H1, Q b H1 → Q' b H1) → c σ H Q → c σ H Q') : tWhile c tb D σ H := by
 refine ⟨fun m σ H => m = μ σ H ∧ Pv σ H, ⟨_, rfl, h0⟩, ?_⟩
 rintro m σ H ⟨rfl, p⟩
 refine mono σ H _ _ (fun b H1 q => ?_) (hs σ H p)
 cases b with
 | true => exact ⟨_, fun σ' H' ⟨p', l⟩ => ⟨_, l, rfl, p'⟩, q⟩
 | false => exact q
end L2
namespace L2
open PySem PySem.Spec PyProof.Rows
abbrev R2 := V → V → Hp → VK → Prop
def OpR (X : Cx) (f : Value → Value → Sem Value) (r : R2) : Prop :=
 ∀ (pins : List (Addr × Obj)) (s : Shared) (σ : St) (H : Hp) (x y : V) (v u : Value) (Q : VK), Inv X pins σ H s → RelV x v → RelV y u → r x y H Q →
  wpAny (model X.prog X.w) X.A (f v u) (EP X pins σ Q) X.xe s
def UnR (X : Cx) (f : Value → Sem Value) (r : V → Hp → VK → Prop) : Prop :=
 ∀ (pins : List (Addr × Obj)) (s : Shared) (σ : St) (H : Hp) (x : V) (v : Value) (Q : VK), Inv X pins σ H s → RelV x v → r x H Q →
  wpAny (model X.prog X.w) X.A (f v) (EP X pins σ Q) X.xe s
def CallR (X : Cx) (f : Value) (r : List V → Hp → VK → Prop) : Prop :=
 ∀ (pins : List (Addr × Obj)) (s : Shared) (σ : St) (H : Hp) (xs : List V) (us : List Value) (Q : VK), Inv X pins σ H s → Vals xs us → r xs H Q →
  wpAny (model X.prog X.w) X.A (call f us) (EP X pins σ Q) X.xe s
def tOp (r : R2) (ta tb : TE) : TE := fun σ H Q => ta σ H fun x H1 => tb σ H1 fun y H2 => r x y H2 Q
def tUn (r : V → Hp → VK → Prop) (ta : TE) : TE := fun σ H Q => ta σ H fun x H1 => r x H1 Q
def rI (C : Int → Int → Prop) (g : Int → Int → V) : R2 := fun x y H Q => ∃ i j, x = .int i ∧ y = .int j ∧ C i j ∧ Q (g i j) H
def rI0 (g : Int → Int → V) : R2 := fun x y H Q => ∃ i j, x = .int i ∧ y = .int j ∧ Q (g i j) H
def rU (g : Int → V) : V → Hp → VK → Prop := fun x H Q => ∃ i, x = .int i ∧ Q (g i) H
section
variable {X : Cx} {a b c : Expr} {ta tb tc : TE} {pos : Pos}
theorem binT (ha : PE X a ta) (hb : PE X b tb) {pins : List (Addr × Obj)} {s : Shared} {σ : St} {H : Hp} {R : V → V → Hp → Prop} (I : Inv X pins σ H s)
  (h : ta σ H fun x H1 => tb σ H1 fun y H2 => R x y H2) {Q : Value → Shared → Prop} {f : Value → Value → Sem Value}
  (hf : ∀ v u s2 x y H2, Inv X pins σ H2 s2 → RelV x v → RelV y u → R x y H2 → wpAny (model X.prog X.w) X.A (f v u) Q X.xe s2) :
  wpAny (model X.prog X.w) X.A (eval a X.env) (fun v s₁ => wpAny (model X.prog X.w) X.A (eval b X.env) (fun u s₂ => wpAny (model X.prog X.w) X.A (f v u) Q X.xe s₂) X.xe s₁) X.xe s := by
 refine thn (ha pins s σ H _ I h) fun v s1 ⟨x, H1, I1, r1, q1⟩ => ?_
 refine thn (hb pins s1 σ H1 _ I1 q1) fun u s2 ⟨y, H2, I2, r2, q2⟩ => ?_
 exact hf v u s2 x y H2 I2 r1 r2 q2
theorem pe_op {op : Operator} {r : R2} (ho : OpR X (binaryOp op) r) (ha : PE X a ta) (hb : PE X b tb) : PE X (.BinOp a op b pos) (tOp r ta tb) := by
 intro pins s σ H Q I h
 exact wpAny_BinOp (binT ha hb I h fun v u s2 x y H2 I2 rx ry q => ho pins s2 σ H2 x y v u Q I2 rx ry q)
theorem pe_un {op : UnaryOp} {r : V → Hp → VK → Prop} (ho : UnR X (unaryOp op) r) (ha : PE X a ta) : PE X (.UnaryOp op a pos) (tUn r ta) := by
 intro pins s σ H Q I h
 exact UnaryOp_ (thn (ha pins s σ H _ I h) fun v s1 ⟨x, H1, I1, r1, q1⟩ => ho pins s1 σ H1 x v Q I1 r1 q1)
theorem opI {f : Value → Value → Sem Value} {C : Int → Int → Prop} {g : Int → Int → Int}
  (rule : ∀ (i j : Int) (t u : Tok) (s : Shared) (Q : Value → Shared → Prop) (E : Value → Shared → Prop), C i j → Q (.int (g i j) s.toks) { s with toks := s.toks + 1 } → wpAny (model X.prog X.w) X.A (f (.int i t) (.int j u)) Q E s) :
  OpR X f (rI C fun i j => .int (g i j)) := by
 intro pins s σ H x y v u Q I rx ry h
 obtain ⟨i, j, rfl, rfl, hc, q⟩ := h
 obtain ⟨t, rfl⟩ := rx
 obtain ⟨t', rfl⟩ := ry
 exact rule i j t t' s _ _ hc ⟨.int (g i j), H, I.tok _, ⟨_, rfl⟩, q⟩
theorem opI0 {f : Value → Value → Sem Value} {g : Int → Int → Int}
  (rule : ∀ (i j : Int) (t u : Tok) (s : Shared) (Q : Value → Shared → Prop) (E : Value → Shared → Prop), Q (.int (g i j) s.toks) { s with toks := s.toks + 1 } → wpAny (model X.prog X.w) X.A (f (.int i t) (.int j u)) Q E s) :
  OpR X f (rI0 fun i j => .int (g i j)) := by
 intro pins s σ H x y v u Q I rx ry h
 obtain ⟨i, j, rfl, rfl, q⟩ := h
 obtain ⟨t, rfl⟩ := rx
 obtain ⟨t', rfl⟩ := ry
 exact rule i j t t' s _ _ ⟨.int (g i j), H, I.tok _, ⟨_, rfl⟩, q⟩
theorem opB0 {f : Value → Value → Sem Value} {g : Int → Int → Bool}
  (rule : ∀ (i j : Int) (t u : Tok) (s : Shared) (Q : Value → Shared → Prop) (E : Value → Shared → Prop), Q (.bool (g i j)) s → wpAny (model X.prog X.w) X.A (f (.int i t) (.int j u)) Q E s) :
  OpR X f (rI0 fun i j => .bl (g i j)) := by
 intro pins s σ H x y v u Q I rx ry h
 obtain ⟨i, j, rfl, rfl, q⟩ := h
 obtain ⟨t, rfl⟩ := rx
 obtain ⟨t', rfl⟩ := ry
 exact rule i j t t' s _ _ ⟨.bl (g i j), H, I, rfl, q⟩
def CPow (i j : Int) : Prop := 0 ≤ j ∧ j ≤ 1000000 ∧ i.natAbs < 2 ^ 64
theorem op_add : OpR X (binaryOp .Add) (rI0 fun i j => .int (i + j)) := opI0 fun _ _ _ _ _ _ _ q => add_int q
theorem op_sub : OpR X (binaryOp .Sub) (rI0 fun i j => .int (i - j)) := opI0 fun _ _ _ _ _ _ _ q => sub_int q
theorem op_mod : OpR X (binaryOp .Mod) (rI (fun _ j => 0 < j) fun i j => .int (i % j)) := opI fun i j _ _ _ _ _ hc q => by
 have h1 : (0 : Int) < j := hc
 exact mod_int' (by omega) (by rw [Int.fmod_eq_emod_of_nonneg i (by omega)]; exact q)
theorem op_pow : OpR X (binaryOp .Pow) (rI CPow fun i j => .int (i ^ j.toNat)) := opI fun _ _ _ _ _ _ _ hc q => pow_int_small hc.1 hc.2.1 hc.2.2 q
theorem unI {f : Value → Sem Value} {g : Int → Int}
  (rule : ∀ (i : Int) (t : Tok) (s : Shared) (Q : Value → Shared → Prop) (E : Value → Shared → Prop), Q (.int (g i) s.toks) { s with toks := s.toks + 1 } → wpAny (model X.prog X.w) X.A (f (.int i t)) Q E s) :
  UnR X f (rU fun i => .int (g i)) := by
 intro pins s σ H x v Q I rx h
 obtain ⟨i, rfl, q⟩ := h
 obtain ⟨t, rfl⟩ := rx
 exact rule i t s _ _ ⟨.int (g i), H, I.tok _, ⟨_, rfl⟩, q⟩
theorem un_neg : UnR X (unaryOp .USub) (rU fun i => .int (-i)) := unI fun _ _ _ _ _ q => neg_int q
end
def scal : V → V → Bool
 | .non, .non => true | .non, .int _ => true | .int _, .non => true | .non, .bl _ => true | .bl _, .non => true | .non, .str _ => true | .str _, .non => true
 | .int _, .int _ => true | .bl _, .bl _ => true | .str _, .str _ => true | .byt _, .byt _ => true
 | .int _, .str _ => true | .str _, .int _ => true | .bl _, .str _ => true | .str _, .bl _ => true
 | _, _ => false
def rEq : R2 := fun x y H Q => scal x y = true ∧ Q (.bl (decide (x = y))) H
def rNe : R2 := fun x y H Q => scal x y = true ∧ Q (.bl (!decide (x = y))) H
theorem dec_int {i j : Int} : decide (V.int i = V.int j) = (i == j) := by
 rw [Bool.eq_iff_iff]
 simp
theorem dec_bl {i j : Bool} : decide (V.bl i = V.bl j) = (i == j) := by
 rw [Bool.eq_iff_iff]
 simp
theorem dec_str {i j : Str} : decide (V.str i = V.str j) = (i == j) := by
 rw [Bool.eq_iff_iff]
 simp
theorem dec_byt {i j : Array UInt8} : decide (V.byt i = V.byt j) = (i.toList == j.toList) := by
 rw [Bool.eq_iff_iff]
 cases i
 cases j
 simp
section
variable {X : Cx} {a b c : Expr} {ta tb tc : TE} {pos : Pos}
theorem fin_bl {pins : List (Addr × Obj)} {σ : St} {H : Hp} {s : Shared} {Q : VK} {k k' : Bool} (I : Inv X pins σ H s) (q : Q (.bl k) H) (e : k = k') : EP X pins σ Q (.bool k') s := by
 subst e
 exact ⟨.bl k, H, I, rfl, q⟩
theorem op_eq : OpR X (compareOp .Eq) rEq := by
 intro pins s σ H x y v u Q I rx ry h
 obtain ⟨hs, q⟩ := h
 cases x with
 | non =>
  cases rx
  cases y with
  | non => cases ry; exact PySem.EqNone.eq_none_none (fin_bl I q (by simp))
  | bl j => cases ry; exact PySem.EqNone.eq_none_bool (fin_bl I q (by simp))
  | int j => obtain ⟨t', rfl⟩ := ry; exact PySem.EqNone.eq_none_int (fin_bl I q (by simp))
  | str j => obtain ⟨t', rfl⟩ := ry; exact PySem.EqNone.eq_none_str (fin_bl I q (by simp))
  | _ => exact absurd (show false = true from hs) Bool.false_ne_true
 | bl i =>
  cases rx
  cases y with
  | non => cases ry; exact PySem.EqNone.eq_bool_none (fin_bl I q (by simp))
  | bl j => cases ry; exact eq_bool (fin_bl I q dec_bl)
  | str j => obtain ⟨t', rfl⟩ := ry; exact PySem.EqMixed.eq_bool_str (fin_bl I q (by simp))
  | _ => exact absurd (show false = true from hs) Bool.false_ne_true
 | int i =>
  obtain ⟨t, rfl⟩ := rx
  cases y with
  | non => cases ry; exact PySem.EqNone.eq_int_none (fin_bl I q (by simp))
  | int j => obtain ⟨t', rfl⟩ := ry; exact eq_int (fin_bl I q dec_int)
  | str j => obtain ⟨t', rfl⟩ := ry; exact PySem.EqMixed.eq_int_str (fin_bl I q (by simp))
  | _ => exact absurd (show false = true from hs) Bool.false_ne_true
 | str i =>
  obtain ⟨t, rfl⟩ := rx
  cases y with
  | non => cases ry; exact PySem.EqNone.eq_str_none (fin_bl I q (by simp))
  | bl j => cases ry; exact PySem.EqMixed.eq_str_bool (fin_bl I q (by simp))
  | int j => obtain ⟨t', rfl⟩ := ry; exact PySem.EqMixed.eq_str_int (fin_bl I q (by simp))
  | str j => obtain ⟨t', rfl⟩ := ry; exact eq_str (fin_bl I q dec_str)
  | _ => exact absurd (show false = true from hs) Bool.false_ne_true
 | byt i =>
  obtain ⟨t, rfl⟩ := rx
  cases y with
  | byt j => obtain ⟨t', rfl⟩ := ry; exact PySem.W.eq_bytes (fin_bl I q dec_byt)
  | _ => exact absurd (show false = true from hs) Bool.false_ne_true
 | _ => cases y <;> exact absurd (show false = true from hs) Bool.false_ne_true
theorem op_ne : OpR X (compareOp .NotEq) rNe := by
 intro pins s σ H x y v u Q I rx ry h
 obtain ⟨hs, q⟩ := h
 cases x with
 | non =>
  cases rx
  cases y with
  | non => cases ry; exact PySem.EqNone.ne_none_none (fin_bl I q (by simp))
  | bl j => cases ry; exact PySem.EqNone.ne_none_bool (fin_bl I q (by simp))
  | int j => obtain ⟨t', rfl⟩ := ry; exact PySem.EqNone.ne_none_int (fin_bl I q (by simp))
  | str j => obtain ⟨t', rfl⟩ := ry; exact PySem.EqNone.ne_none_str (fin_bl I q (by simp))
  | _ => exact absurd (show false = true from hs) Bool.false_ne_true
 | bl i =>
  cases rx
  cases y with
  | non => cases ry; exact PySem.EqNone.ne_bool_none (fin_bl I q (by simp))
  | bl j => cases ry; exact ne_bool (fin_bl I q (congrArg not dec_bl))
  | str j => obtain ⟨t', rfl⟩ := ry; exact PySem.EqMixed.ne_bool_str (fin_bl I q (by simp))
  | _ => exact absurd (show false = true from hs) Bool.false_ne_true
 | int i =>
  obtain ⟨t, rfl⟩ := rx
  cases y with
  | non => cases ry; exact PySem.EqNone.ne_int_none (fin_bl I q (by simp))
  | int j => obtain ⟨t', rfl⟩ := ry; exact ne_int (fin_bl I q (congrArg not dec_int))
  | str j => obtain ⟨t', rfl⟩ := ry; exact PySem.EqMixed.ne_int_str (fin_bl I q (by simp))
  | _ => exact absurd (show false = true from hs) Bool.false_ne_true
 | str i =>
  obtain ⟨t, rfl⟩ := rx
  cases y with
  | non => cases ry; exact PySem.EqNone.ne_str_none (fin_bl I q (by simp))
  | bl j => cases ry; exact PySem.EqMixed.ne_str_bool (fin_bl I q (by simp))
  | int j => obtain ⟨t', rfl⟩ := ry; exact PySem.EqMixed.ne_str_int (fin_bl I q (by simp))
  | str j => obtain ⟨t', rfl⟩ := ry; exact ne_str (fin_bl I q (congrArg not dec_str))
  | _ => exact absurd (show false = true from hs) Bool.false_ne_true
 | byt i =>
  obtain ⟨t, rfl⟩ := rx
  cases y with
  | byt j => obtain ⟨t', rfl⟩ := ry; exact PySem.W.ne_bytes (fin_bl I q (congrArg not dec_byt))
  | _ => exact absurd (show false = true from hs) Bool.false_ne_true
 | _ => cases y <;> exact absurd (show false = true from hs) Bool.false_ne_true
theorem op_lt : OpR X (compareOp .Lt) (rI0 fun i j => .bl (decide (i < j))) := opB0 fun _ _ _ _ _ _ _ q => lt_int q
theorem op_gt : OpR X (compareOp .Gt) (rI0 fun i j => .bl (decide (j < i))) := opB0 fun _ _ _ _ _ _ _ q => gt_int q
theorem op_notN : OpR X (compareOp .IsNot) (fun x y H Q => y = .non ∧ Q (.bl (!decide (x = .non))) H) := by
 intro pins s σ H x y v u Q I rx ry h
 obtain ⟨rfl, q⟩ := h
 cases ry
 refine isnot_none_gen (fin_bl I q ?_)
 cases x <;> first
  | (cases rx; rfl)
  | (obtain ⟨t, rfl⟩ := rx; rfl)
theorem nomark (b : Expr) {op : CmpOp} (h : op ≠ .In := by decide) (h2 : op ≠ .NotIn := by decide) : behindInMarks op b = false := by
 have e1 : (op == CmpOp.In) = false := by cases op <;> first | rfl | exact absurd rfl h
 have e2 : (op == CmpOp.NotIn) = false := by cases op <;> first | rfl | exact absurd rfl h2
 cases b <;> simp [behindInMarks, e1, e2]
theorem pe_cmpR {op : CmpOp} {r : R2} (ho : OpR X (compareOp op) r) (ha : PE X a ta) (hb : PE X b tb) (hm : behindInMarks op b = false) : PE X (.Compare a [op] [b] pos) (tOp r ta tb) := by
 intro pins s σ H Q I h
 exact wpAny_Compare1 (binT ha hb I h fun v u s2 x y H2 I2 rx ry q => ho pins s2 σ H2 x y v u Q I2 rx ry q) hm
def tTest (t : TE) : TT := fun σ H Q => t σ H fun x H' => ∃ k, x = .bl k ∧ Q k H'
theorem pt_cmpR {op : CmpOp} {r : R2} (ho : OpR X (compareOp op) r) (ha : PE X a ta) (hb : PE X b tb) (hm : behindInMarks op b = false) : PT X (.Compare a [op] [b] pos) (tTest (tOp r ta tb)) := by
 intro pins s σ H Q I h
 refine wpAny_isTrue_Compare1 (thn (ha pins s σ H _ I h) fun v s1 ⟨x, H1, I1, r1, q1⟩ => thn (hb pins s1 σ H1 _ I1 q1) fun u s2 ⟨y, H2, I2, r2, q2⟩ =>
  thn (ho pins s2 σ H2 x y v u _ I2 r1 r2 q2) fun c s3 ⟨z, H3, I3, r3, k, e, q3⟩ => ?_) hm
 subst e
 cases r3
 exact wpAny_truthy_bool ⟨H3, I3, q3⟩
theorem line63 : (sizeLine : Nat) < 2 ^ 63 := by rw [sizeLine_eq]; decide
theorem vals1 {x : V} {us : List Value} (r : Vals [x] us) : ∃ u, us = [u] ∧ RelV x u := by
 cases r with
 | cons r1 r2 => cases r2; exact ⟨_, rfl, r1⟩
end
end L2
namespace L2
open PySem PySem.Spec PyProof.Rows
structure ObjM (h : Heap) (x dx C : Addr) (mA : Str → Option Value) : Prop where
 obj : h.get? x = some (PySem.W.instObj C dx)
 ns : h.Ns1 dx mA
 ne : dx ≠ x
theorem lookIn_ns {h : Heap} {dx : Addr} {mA : Str → Option Value} (n : h.Ns1 dx mA) : ∃ od, h.get? dx = some od ∧ ∀ name, PySem.W.lookIn name od = some (mA name) := by
 obtain ⟨o, es, ep, ho, hd, hk, _, hm⟩ := n
 refine ⟨o, ho, fun name => ?_⟩
 have e := hm name
 unfold nsFind findBy at e
 rw [← Array.find?_toList] at e
 unfold PySem.W.lookIn
 rw [hd]
 dsimp only
 split
 ·rename_i y q
  rw [q] at e
  exact congrArg some e
 ·rename_i q
  rw [q] at e
  have a : es.toList.any (·.refKey) = false := by
   rw [List.any_eq_false]
   intro y hy
   obtain ⟨z, t, hkey⟩ := hk y (Array.mem_toList_iff.mp hy)
   simp [DictEntry.refKey, hkey]
  have a' : ¬ es.toList.any (·.refKey) = true := by rw [a]; exact Bool.false_ne_true
  rw [if_neg a']
  exact congrArg some e
theorem ObjM.look {h : Heap} {x dx C : Addr} {mA : Str → Option Value} (I : ObjM h x dx C mA) : ∃ od, PySem.W.InstAt h x (PySem.W.instObj C dx) C (some od) ∧ ∀ name, PySem.W.lookIn name od = some (mA name) :=
 let ⟨od, ho, hl⟩ := lookIn_ns I.ns
 ⟨od, ⟨I.obj, rfl, rfl, ho⟩, hl⟩
section
variable {prog : Program} {w : World} {A : Around} {E : Value → Shared → Prop} {s : Shared} {K : PySem.W.Frag} {x dx C f : Addr} {mA : Str → Option Value} {name : Str} {v : Value}
theorem get_map {expr : Bool} {Q : Value → Shared → Prop} (X : K.In s.heap) (I : ObjM s.heap x dx C mA) (hg : PySem.W.plainGet K C name = true) (hh : PySem.W.hasDictIn K C = true)
  (ha : PySem.W.findIn K (.ref C) name = some none) (hv : mA name = some v) (hv' : PySem.W.handedIn v = true) (h : Q v { s with toks := s.toks + 1 }) :
  wpAny (model prog w) A (getAttr (.ref x) name expr) Q E s := by
 obtain ⟨od, J, hl⟩ := I.look
 exact PySem.W.get_value X J (PySem.W.plainGet_of hg).1 (PySem.W.findObj_own hh ha rfl (by rw [hl, hv])) hv' h
theorem get_meth {pl : Sem Bool} {Q : Value × List Value → Shared → Prop} (X : K.In s.heap) (I : ObjM s.heap x dx C mA) (hg : PySem.W.plainGet K C name = true)
  (hf : PySem.W.findIn K (.ref C) name = some (some (.ref f))) (ht : PySem.W.isFn K (.ref f) = true) (hv : mA name = none) (h : Q (.ref f, [.ref x]) s) :
  wpAny (model prog w) A (getMethod (.ref x) name pl) Q E s := by
 obtain ⟨od, J, hl⟩ := I.look
 exact PySem.W.method_fn X J (PySem.W.plainGet_of hg).1 (PySem.W.plainGet_of hg).2 hf (beq_iff_eq.mp ht) (by show (PySem.W.lookIn name od).map (·.isSome) = some false; rw [hl, hv]; rfl) h
theorem set_map {ns : List Str} {Q : Unit → Shared → Prop} (X : K.In s.heap) (I : ObjM s.heap x dx C mA)
  (hs : PySem.W.findIn K (.ref C) "__setattr__" = some (some (.builtin "object.__setattr__"))) (hp : PySem.W.plainOver K C = true) (ht : PySem.W.takerIn K C name = some none) (hh : PySem.W.hasDictIn K C = true)
  (hw : PySem.Within mA ns) (hsz : ns.length ≤ sizeLine)
  (h : ∀ h', ObjM h' x dx C (fun y => if y = name then some v else mA y) → Heap.SameBut dx s.heap h' → Q () { s with heap := h', toks := s.toks + 2 }) :
  wpAny (model prog w) A (setAttr (.ref x) name v) Q E s := by
 obtain ⟨od, J, hl⟩ := I.look
 refine PySem.W.set_plain X J hs (PySem.W.osa_open (s := { s with toks := s.toks + 1 }) (r := none) X J hp ht fun b => ?_)
 obtain ⟨cd, hc, hd'⟩ := PySem.W.any_some hh
 have hx : s.heap.get? x = some ⟨.ref C, some dx, .plain, #[]⟩ := I.obj
 refine wpAny_bind (wpAny_pure (wpAny_bind (wpAny_bind (wpAny_loadPart hx (wpAny_bind (PySem.W.Looks.here (s := { s with toks := s.toks + 1 }) (PySem.W.looks_clsIn X hc) ?_))))))
 rw [hd']
 refine wpAny_pure (a := some dx) (wpAny_bind (wpAny_pure (wpAny_bind ?_)))
 refine wpAny_nsSet1 (s := { s with toks := s.toks + 1 }) I.ns fun h' hn2 hs2 => ?_
 obtain ⟨oD, esD, epD, hoD, hdD, hcD⟩ := hn2.count (PySem.Within.cons name v hw)
 refine wpAny_bind (wpAny_lookBehind hoD (by rw [hdD]; exact pastItsLine_dict (Nat.le_trans hcD (by rw [List.length_cons]; omega))) ?_)
 exact wpAny_pure (h _ ⟨(hs2.2 _ (Ne.symm I.ne)).trans I.obj, hn2, I.ne⟩ hs2)
theorem make_map {R : Result → Shared → Prop} {vs : List Value} {kw : List (Str × Value)} (X : K.In s.heap) (hm : PySem.W.makesIn K C = true)
  (hi : PySem.W.findIn K (.ref C) "__init__" = some (some (.ref f))) (hf : PySem.W.typeIn K (.ref f) = some (.type "function"))
  (h : codeAny (model prog w) (A.under (.builtin "type.__call__" ⟨.ref C :: vs, kw⟩)) (.call (.ref f) ⟨.ref (s.heap.objs.size + 1) :: vs, kw⟩) (PySem.W.InitBack (s.heap.objs.size + 1) R)
   { s with heap := (s.heap.push PySem.W.emptyDict).push (PySem.W.instObj C s.heap.objs.size) }) :
  codeAny (model prog w) A (.call (.ref C) ⟨vs, kw⟩) R s := by
 obtain ⟨hh, g, d, t, os⟩ := s
 exact PySem.W.make_core (PySem.W.makes_of X hm) (PySem.W.looks_findIn X hi) (fun self => PySem.W.bind_fn X self hf) (.inl rfl) h
theorem make_map0 {R : Result → Shared → Prop} (X : K.In s.heap) (hm : PySem.W.makesIn K C = true)
  (hi : PySem.W.findIn K (.ref C) "__init__" = some (some (.builtin "object.__init__")))
  (hb : ∀ self, PySem.W.Looks (model prog w) s.heap (bindSpecial (.builtin "object.__init__") self) (.builtin "object.__init__", [self]))
  (h : codeAny (model prog w) (A.under (.builtin "type.__call__" ⟨[.ref C], []⟩)) (.call (.builtin "object.__init__") ⟨[.ref (s.heap.objs.size + 1)], []⟩) (PySem.W.InitBack (s.heap.objs.size + 1) R)
   { s with heap := (s.heap.push PySem.W.emptyDict).push (PySem.W.instObj C s.heap.objs.size) }) :
  codeAny (model prog w) A (.call (.ref C) ⟨[], []⟩) R s := by
 obtain ⟨hh, g, d, t, os⟩ := s
 exact PySem.W.make_core (PySem.W.makes_of X hm) (PySem.W.looks_findIn X hi) hb (.inr ⟨rfl, rfl⟩) h
end
def putF (f : Str) (v : V) : List (Str × V) → List (Str × V)
 | [] => [(f, v)]
 | (g, x) :: r => if g = f then (g, v) :: r else (g, x) :: putF f v r
theorem lookup_putF (f g : Str) (v : V) : ∀ fs : List (Str × V), (putF f v fs).lookup g = if g = f then some v else fs.lookup g
 | [] => by
  show List.lookup g [(f, v)] = _
  by_cases h : g = f
  ·have hb : (g == f) = true := beq_iff_eq.mpr h
   simp only [List.lookup, hb, if_pos h]
  ·have hb : (g == f) = false := beq_eq_false_iff_ne.mpr h
   simp only [List.lookup, hb, if_neg h]
 | (k, x) :: r => by
  have ih := lookup_putF f g v r
  rw [show putF f v ((k, x) :: r) = (if k = f then (k, v) :: r else (k, x) :: putF f v r) from rfl]
  by_cases hk : k = f
  ·rw [if_pos hk]
   by_cases h : g = k
   ·have hb : (g == k) = true := beq_iff_eq.mpr h
    simp only [List.lookup, hb, if_pos (h.trans hk)]
   ·have hb : (g == k) = false := beq_eq_false_iff_ne.mpr h
    simp only [List.lookup, hb, if_neg (fun e : g = f => h (e.trans hk.symm))]
  ·rw [if_neg hk]
   by_cases h : g = k
   ·have hb : (g == k) = true := beq_iff_eq.mpr h
    simp only [List.lookup, hb, if_neg (fun e : g = f => hk (h.symm.trans e))]
   ·have hb : (g == k) = false := beq_eq_false_iff_ne.mpr h
    simp only [List.lookup, hb]
    exact ih
theorem keys_putF (f : Str) (v : V) : ∀ fs : List (Str × V), f ∈ (putF f v fs).map (·.1) ∧ ∀ g, g ∈ fs.map (·.1) → g ∈ (putF f v fs).map (·.1)
 | [] => ⟨by simp [putF], fun g h => by simp at h⟩
 | (k, x) :: r => by
  obtain ⟨i1, i2⟩ := keys_putF f v r
  rw [show putF f v ((k, x) :: r) = (if k = f then (k, v) :: r else (k, x) :: putF f v r) from rfl]
  by_cases hk : k = f
  ·rw [if_pos hk]
   subst hk
   exact ⟨by simp, fun g h => by simpa using h⟩
  ·rw [if_neg hk]
   refine ⟨?_, fun g h => ?_⟩
   ·rw [List.map_cons]
    exact List.mem_cons_of_mem _ i1
   ·rw [List.map_cons] at h ⊢
    rcases List.mem_cons.mp h with e | e
    ·exact List.mem_cons.mpr (.inl e)
    ·exact List.mem_cons_of_mem _ (i2 g e)
theorem length_putF (f : Str) (v : V) : ∀ fs : List (Str × V), (putF f v fs).length ≤ fs.length + 1
 | [] => by simp [putF]
 | (k, x) :: r => by
  have ih := length_putF f v r
  rw [show putF f v ((k, x) :: r) = (if k = f then (k, v) :: r else (k, x) :: putF f v r) from rfl]
  by_cases hk : k = f
  ·rw [if_pos hk, List.length_cons, List.length_cons]; omega
  ·rw [if_neg hk, List.length_cons, List.length_cons]; omega
theorem RelO.some_of {v : V} {o : Option Value} (r : RelO (some v) o) : ∃ u, o = some u ∧ RelV v u := by
 cases o with
 | none => exact (show False from r).elim
 | some u => exact ⟨u, rfl, r⟩
theorem RelO.none_of {o : Option Value} (r : RelO none o) : o = none := by
 cases o with
 | none => rfl
 | some u => exact (show False from r).elim
theorem handed_of {v : V} {u : Value} (r : RelV v u) : PySem.W.handedIn u = true := by
 cases v with
 | non => cases (show u = Value.none from r); rfl
 | bl b => cases (show u = Value.bool b from r); rfl
 | int i => obtain ⟨t, e⟩ := (show ∃ t, u = Value.int i t from r); cases e; rfl
 | str x => obtain ⟨t, e⟩ := (show ∃ t, u = Value.str x t from r); cases e; rfl
 | byt b => obtain ⟨t, e⟩ := (show ∃ t, u = Value.bytes b t from r); cases e; rfl
 | flt b => obtain ⟨t, e⟩ := (show ∃ t, u = Value.float b t from r); cases e; rfl
 | ref a => cases (show u = Value.ref a from r); rfl
 | ty n => cases (show u = Value.type n from r); rfl
section
variable {P : Program} {w : World} {H H' : Hp} {h h' : Heap} {a C dx : Addr} {fs fs' : List (Str × V)}
theorem ins_get (hok : HOk P w H h) (e : H a = some (.ins C dx fs)) : ∃ mA, ObjM h a dx C mA ∧ (∀ f, RelO (fs.lookup f) (mA f)) ∧ PySem.Within mA (fs.map (·.1)) ∧ fs.length ≤ 1000 ∧ H dx = some (.own a) := by
 obtain ⟨d, z, ne, ob, mA, n, r, q⟩ := (show ObjOk P w H h a (.ins C dx fs) from hok a _ e)
 exact ⟨mA, ⟨ob, n, ne⟩, r, q, z, d⟩
end
structure Cls (K : PySem.W.Frag) (C : Addr) : Prop where
 pg : PySem.W.plainGet K C Str.empty = true
 hd : PySem.W.hasDictIn K C = true
 po : PySem.W.plainOver K C = true
 sa : PySem.W.findIn K (.ref C) "__setattr__" = some (some (.builtin "object.__setattr__"))
theorem Cls.get {K : PySem.W.Frag} {C : Addr} (c : Cls K C) (f : Str) : PySem.W.plainGet K C f = true := c.pg
def NoAttr (K : PySem.W.Frag) (C : Addr) (f : Str) : Prop := PySem.W.findIn K (.ref C) f = some none
theorem NoAttr.taker {K : PySem.W.Frag} {C : Addr} {f : Str} (n : NoAttr K C f) : PySem.W.takerIn K C f = some none := by
 unfold PySem.W.takerIn
 rw [show PySem.W.findIn K (.ref C) f = some none from n]
 rfl
structure Meth (K : PySem.W.Frag) (C : Addr) (m : Str) (f : Addr) : Prop where
 at_ : PySem.W.findIn K (.ref C) m = some (some (.ref f))
 fn : PySem.W.isFn K (.ref f) = true
 kp : PySem.W.keepIn K (.ref f) = true
section
variable {X : Cx} {pins : List (Addr × Obj)} {σ : St} {H : Hp} {s : Shared} {a C dx : Addr} {fs : List (Str × V)} {f : Str} {v : V} {A : Around} {E : Value → Shared → Prop}
theorem getattr_ok {b : Bool} {Q : Value → Shared → Prop} (I : Inv X pins σ H s) (e : H a = some (.ins C dx fs)) (c : Cls X.K C) (n : NoAttr X.K C f) (l : fs.lookup f = some v)
  (h : ∀ u s', Inv X pins σ H s' → RelV v u → Q u s') : wpAny (model X.prog X.w) A (getAttr (.ref a) f b) Q E s := by
 obtain ⟨mA, O, r, _, _, _⟩ := ins_get I.hok e
 obtain ⟨u, hu, ru⟩ := RelO.some_of (v := v) (o := mA f) (by rw [← l]; exact r f)
 exact get_map I.kIn O (c.get f) c.hd n hu (handed_of ru) (h u _ (I.tok _) ru)
theorem getmeth_ok {m : Str} {g : Addr} {pl : Sem Bool} {Q : Value × List Value → Shared → Prop} (I : Inv X pins σ H s) (e : H a = some (.ins C dx fs)) (c : Cls X.K C) (k : Meth X.K C m g) (l : fs.lookup m = none)
  (h : Q (.ref g, [.ref a]) s) : wpAny (model X.prog X.w) A (getMethod (.ref a) m pl) Q E s := by
 obtain ⟨mA, O, r, _, _, _⟩ := ins_get I.hok e
 have hn : mA m = none := RelO.none_of (by rw [← l]; exact r m)
 exact get_meth I.kIn O (c.get m) k.at_ k.fn hn h
theorem setattr_ok {y : V} {u : Value} {Q : Unit → Shared → Prop} (I : Inv X pins σ H s) (e : H a = some (.ins C dx fs)) (c : Cls X.K C) (n : NoAttr X.K C f) (hl : fs.length < 1000) (ry : RelV y u)
  (h : ∀ s', Inv X pins σ (upd H a (.ins C dx (putF f y fs))) s' → Q () s') : wpAny (model X.prog X.w) A (setAttr (.ref a) f u) Q E s := by
 obtain ⟨mA, O, r, wi, _, ho⟩ := ins_get I.hok e
 have hz : (fs.map (·.1)).length ≤ sizeLine := by rw [List.length_map, sizeLine_eq]; omega
 refine set_map I.kIn O c.sa c.po n.taker c.hd wi hz fun h' O' sb => h _ ?_
 have hd : ∃ o, h'.get? dx = some o := let ⟨o, _, _, e', _⟩ := O'.ns; ⟨o, e'⟩
 refine I.write (x := a) (e := dx) (by rw [e]; exact True.intro) (.inr ho) (fun b q hb z => (sb.2 b hb).trans z) hd ?_
 refine ⟨by rw [upd_ne O.ne]; exact ho, ?_, O.ne, O'.obj, _, O'.ns, fun g => ?_, fun g hg => ?_⟩
 ·have := length_putF f y fs; omega
 ·show RelO ((putF f y fs).lookup g) (if g = f then some u else mA g)
  rw [lookup_putF]
  by_cases q : g = f
  ·rw [if_pos q, if_pos q]; exact ry
  ·rw [if_neg q, if_neg q]; exact r g
 ·by_cases q : g = f
  ·rw [q]; exact (keys_putF f y fs).1
  ·refine (keys_putF f y fs).2 g (wi g fun z => hg ?_)
   show (if g = f then some u else mA g) = none
   rw [if_neg q]; exact z
theorem Inv.made (I : Inv X pins σ H s) : Inv X pins σ (upd (upd H s.heap.objs.size (.own (s.heap.objs.size + 1))) (s.heap.objs.size + 1) (.ins C s.heap.objs.size []))
  { s with heap := (s.heap.push PySem.W.emptyDict).push (PySem.W.instObj C s.heap.objs.size) } := by
 have e1 : (s.heap.push PySem.W.emptyDict).get? s.heap.objs.size = some PySem.W.emptyDict := Heap.get?_push_size s.heap rfl
 have e2 : ((s.heap.push PySem.W.emptyDict).push (PySem.W.instObj C s.heap.objs.size)).get? (s.heap.objs.size + 1) = some (PySem.W.instObj C s.heap.objs.size) := by
  have := Heap.get?_push_size (s.heap.push PySem.W.emptyDict) (o := PySem.W.instObj C s.heap.objs.size) rfl
  rwa [Heap.size_push] at this
 have e3 : (s.heap.push PySem.W.emptyDict).Ns s.heap.objs.size (fun _ => none) := ⟨PySem.W.emptyDict, #[], _, e1, rfl, (fun e he => absurd he (by simp)), fun _ => rfl⟩
 have I1 := I.laid (a := s.heap.objs.size) (o := .own (s.heap.objs.size + 1)) (h' := s.heap.push PySem.W.emptyDict) (t' := s.toks) (fun b u q => Heap.get?_push_of_some _ q) (Nat.le_refl _) ⟨_, e1⟩
 refine I1.laid (a := s.heap.objs.size + 1) (o := .ins C s.heap.objs.size []) (t' := s.toks) (fun b u q => Heap.get?_push_of_some _ q) (Nat.le_of_eq (Heap.size_push _ _)) ?_
 have ne : s.heap.objs.size ≠ s.heap.objs.size + 1 := Nat.ne_of_lt (Nat.lt_succ_self _)
 refine ⟨by rw [upd_ne ne, upd_same], Nat.zero_le _, ne, e2, fun _ => none, (Heap.Ns1.of_empty e3).at fun o q => Heap.get?_push_of_some _ q, fun _ => True.intro, fun y hy => absurd rfl hy⟩
theorem attr_of {prog : Program} {w : World} {env : Env} {e : Expr} {f : Str} {pos : Pos} {s : Shared} {Q : Value → Shared → Prop} (hb : attributeBase e f env (eval e env) = eval e env)
  (h : wpAny (model prog w) A (eval e env) (fun o s₁ => wpAny (model prog w) A (getAttr o f true) Q E s₁) E s) : wpAny (model prog w) A (eval (.Attribute e f pos) env) Q E s :=
 Attribute_any_ h (by rw [arm_eval_Attribute, hb])
end
def tFld (K : PySem.W.Frag) (ta : TE) (f : Str) : TE := fun σ H Q => ta σ H fun x H1 => ∃ a C dx fs v, x = .ref a ∧ H1 a = some (.ins C dx fs) ∧ Cls K C ∧ NoAttr K C f ∧ fs.lookup f = some v ∧ Q v H1
def sFld (K : PySem.W.Frag) (ta tv : TE) (f : Str) : TS := fun D σ H => tv σ H fun y H1 => ta σ H1 fun x H2 => ∃ a C dx fs, x = .ref a ∧ H2 a = some (.ins C dx fs) ∧ Cls K C ∧ NoAttr K C f ∧ fs.length < 1000 ∧
 D.nx σ (upd H2 a (.ins C dx (putF f y fs)))
section
variable {X : Cx} {o e value : Expr} {f : Str} {pos pos' tpos : Pos} {ta tv : TE}
theorem pe_fld (he : PE X e ta) (hb : attributeBase e f X.env (eval e X.env) = eval e X.env) : PE X (.Attribute e f pos) (tFld X.K ta f) := by
 intro pins s σ H Q I h
 refine attr_of hb (thn (he pins s σ H _ I h) fun u s1 ⟨x, H1, I1, rx, a, C, dx, fs, v, ex, ea, c, n, l, q⟩ => ?_)
 subst ex
 obtain rfl : u = Value.ref a := rx
 exact getattr_ok I1 ea c n l fun u' s2 I2 ru => ⟨v, H1, I2, ru, q⟩
theorem ps_fld (ha : PE X o ta) (hv : PE X value tv) (hs : swapsWith value (some (.Attribute o f pos')) pos.line X.env = pure false) : PS X (.Assign [.Attribute o f pos'] value pos) (sFld X.K ta tv f) := by
 intro pins s σ H D I h
 refine plainObj_wpAny_Assign_Attribute (thn (hv pins s σ H _ I h) fun u s1 ⟨y, H1, I1, ry, q⟩ => thn (ha pins s1 σ H1 _ I1 q) fun ov s2 ⟨x, H2, I2, rx, a, C, dx, fs, ex, ea, c, n, l, q2⟩ => ?_) hs
 subst ex
 obtain rfl : ov = Value.ref a := rx
 exact setattr_ok I2 ea c n l ry fun s3 I3 => ⟨σ, _, I3, q2⟩
end
section
variable {X : Cx} {pins : List (Addr × Obj)} {σ : St} {H : Hp} {s : Shared} {A : Around} {E : Value → Shared → Prop} {Q : Value → Shared → Prop} {c : Value} {b : Bool}
inductive TyOf (K : PySem.W.Frag) (H : Hp) : V → Value → Prop where
 | non : TyOf K H .non (.type "NoneType")
 | bl (x : Bool) : TyOf K H (.bl x) (.type "bool")
 | int (i : Int) : TyOf K H (.int i) (.type "int")
 | str (x : Str) : TyOf K H (.str x) (.type "str")
 | flt (x : UInt64) : TyOf K H (.flt x) (.type "float")
 | lst {a : Addr} {xs : List V} (e : H a = some (.lst xs)) : TyOf K H (.ref a) (.type "list")
 | frz {a : Addr} {o : Obj} {xs : List V} (e : H a = some (.frz o (.lst xs))) : TyOf K H (.ref a) (.type "list")
 | tup {a : Addr} {xs : List V} (e : H a = some (.tup xs)) : TyOf K H (.ref a) (.type "tuple")
 | dK {a : Addr} {kvs : List (Key × V)} (e : H a = some (.dK kvs)) : TyOf K H (.ref a) (.type "dict")
 | dT {a : Addr} {kvs : List (List Key × V)} (e : H a = some (.dT kvs)) : TyOf K H (.ref a) (.type "dict")
 | ins {a C dx : Addr} {fs : List (Str × V)} (e : H a = some (.ins C dx fs)) (cl : Cls K C) (ha : PySem.W.findIn K (.ref C) "__class__" = some (some (.builtin "object.__class__")))
   (hn : PySem.W.specialIn K (.builtin "object.__class__") "__get__" = some (some (.builtin "getset_descriptor.__get__"))) (htk : PySem.W.takesIn K (.builtin "object.__class__") = some true)
   (hm : PySem.W.mroIn K C (.type "object") = some true) : TyOf K H (.ref a) (.ref C)
theorem isinst_ok {x : V} {u t : Value} (I : Inv X pins σ H s) (rx : RelV x u) (ty : TyOf X.K H x t) (e : PySem.W.kitOne X.K t c = some b) (h : ∀ tk, Q (.bool b) { s with toks := tk }) :
  wpAny (model X.prog X.w) A (call (.builtin "isinstance") [u, c]) Q E s := by
 cases ty with
 | non => cases (show u = Value.none from rx); exact PySem.W.kia_one PySem.W.kitx_none I.kIn True.intro e (fun z => nomatch z) h
 | bl y => cases (show u = Value.bool y from rx); exact PySem.W.kia_one PySem.W.kitx_bool I.kIn True.intro e (fun z => nomatch z) h
 | int i => obtain ⟨t, q⟩ := (show ∃ t, u = Value.int i t from rx); cases q; exact PySem.W.kia_one PySem.W.kitx_int I.kIn True.intro e (fun z => nomatch z) h
 | str y => obtain ⟨t, q⟩ := (show ∃ t, u = Value.str y t from rx); cases q; exact PySem.W.kia_one PySem.W.kitx_str I.kIn True.intro e (fun z => nomatch z) h
 | flt y => obtain ⟨t, q⟩ := (show ∃ t, u = Value.float y t from rx); cases q; exact PySem.W.kia_one PySem.W.kitx_float I.kIn True.intro e (fun z => nomatch z) h
 | @lst a xs ea =>
  cases (show u = Value.ref a from rx)
  obtain ⟨_, _, n, _, h1⟩ := (show ObjOk X.prog X.w H s.heap a (.lst xs) from I.hok a _ ea)
  exact PySem.W.kia_one PySem.W.kitx_list I.kIn ⟨_, h1, rfl⟩ e (fun z => nomatch z) h
 | @frz a ob xs ea =>
  cases (show u = Value.ref a from rx)
  obtain ⟨_, _, _, n, _, h1⟩ := (show ObjOk X.prog X.w H s.heap a (.frz ob (.lst xs)) from I.hok a _ ea)
  exact PySem.W.kia_one PySem.W.kitx_list I.kIn ⟨_, h1, rfl⟩ e (fun z => nomatch z) h
 | @tup a xs ea =>
  cases (show u = Value.ref a from rx)
  obtain ⟨_, _, _, p⟩ := (show ObjOk X.prog X.w H s.heap a (.tup xs) from I.hok a _ ea)
  obtain ⟨o, h1, h2, _⟩ := p
  exact PySem.W.kia_one PySem.W.kitx_tuple I.kIn ⟨o, h1, h2⟩ e (fun z => nomatch z) h
 | @dK a kvs ea =>
  cases (show u = Value.ref a from rx)
  obtain ⟨_, _, vs, _, p⟩ := (show ObjOk X.prog X.w H s.heap a (.dK kvs) from I.hok a _ ea)
  obtain ⟨o, es, ep, h1, h2, _⟩ := p
  exact PySem.W.kia_one PySem.W.kitx_dict I.kIn ⟨o, h1, h2.1⟩ e (fun z => nomatch z) h
 | @dT a kvs ea =>
  cases (show u = Value.ref a from rx)
  obtain ⟨_, _, xs, _, o, es, ep, h1, h2, _⟩ := (show ObjOk X.prog X.w H s.heap a (.dT kvs) from I.hok a _ ea)
  exact PySem.W.kia_one PySem.W.kitx_dict I.kIn ⟨o, h1, h2.1⟩ e (fun z => nomatch z) h
 | @ins a C dx fs ea cl ha hn htk hm =>
  cases (show u = Value.ref a from rx)
  obtain ⟨mA, O, _⟩ := ins_get I.hok ea
  obtain ⟨od, J, _⟩ := O.look
  exact PySem.W.kia_one (PySem.W.kitx_own (cl.get _) cl.hd ha hn htk hm) I.kIn J e (fun z => nomatch z) h
end
end L2
namespace L2
open PySem PySem.Spec PyProof.Rows
structure Room (k : Nat) (A : Around) : Prop where
 hd : A.handled = none
 dp : A.depth + 3 * k + 5 < recursionLimit
 un : A.units + 16 * k + 200 < cLine
theorem Room.mono {j k : Nat} {A : Around} (r : Room k A) (h : j ≤ k) : Room j A := ⟨r.hd, by have := r.dp; omega, by have := r.un; omega⟩
theorem Room.deeper {k : Nat} {A : Around} (r : Room (k + 1) A) (env : Env) : Room k (A.deeper env) :=
 ⟨r.hd, by have := r.dp; show A.depth + 1 + 3 * k + 5 < _; omega, by have := r.un; show A.units + 3 + 16 * k + 200 < _; omega⟩
theorem make_depth {A : Around} {C : Addr} {us : List Value} {kw : List (Str × Value)} : (A.under (.builtin "type.__call__" ⟨.ref C :: us, kw⟩)).depth = A.depth + 1 := by
 first | rfl | simp [Around.under, Code.weight, Code.isCreation, Code.isGuard, Code.isCaller, Code.frames, Code.isFrame, guardIds]
theorem make_units {A : Around} {C : Addr} {us : List Value} {kw : List (Str × Value)} : (A.under (.builtin "type.__call__" ⟨.ref C :: us, kw⟩)).units = A.units + 1 := by
 first | rfl | simp [Around.under, Code.cUnits, Code.frames, Code.isFrame]
theorem Room.make {k : Nat} {A : Around} (r : Room (k + 1) A) (C : Addr) (us : List Value) (kw : List (Str × Value)) : Room k (A.under (.builtin "type.__call__" ⟨.ref C :: us, kw⟩)) :=
 ⟨r.hd, by have := r.dp; rw [make_depth]; omega, by have := r.un; rw [make_units]; omega⟩
theorem Room.depth {k : Nat} {A : Around} (r : Room k A) : A.depth < recursionLimit := by have := r.dp; omega
theorem Room.units {k : Nat} {A : Around} (r : Room k A) : A.units + 64 < cLine := by have := r.un; omega
def tNil : TA := fun _ H Q => Q [] H
def tCons (ta : TE) (tr : TA) : TA := fun σ H Q => ta σ H fun x H1 => tr σ H1 fun xs H2 => Q (x :: xs) H2
section
variable {X : Cx} {e : Expr} {es : List Expr} {te : TE} {t : TA} {pos : Pos}
theorem pa_nil : PA X [] tNil := fun _ _ _ _ H Q I h => Calls.spliced_nil ⟨[], H, I, .nil, h⟩
theorem pa_cons (ha : PE X e te) (hr : PA X es t) (hs : starEach (e :: es) X.env = (false, eval e X.env) :: starEach es X.env := by rfl) : PA X (e :: es) (tCons te t) := by
 intro pos pins s σ H Q I h
 rw [hs]
 show wpAny _ _ (spliced ((false, eval e X.env) :: backTo pos (starEach es X.env))) _ _ s
 refine Calls.spliced_cons (thn (ha pins s σ H _ I h) fun u s1 ⟨x, H1, I1, r1, q1⟩ => ?_)
 exact thn (hr pos pins s1 σ H1 _ I1 q1) fun us s2 ⟨xs, H2, I2, r2, q2⟩ => ⟨x :: xs, H2, I2, .cons r1 r2, q2⟩
def tTup (t : TA) : TE := fun σ H Q => t σ H fun xs H1 => xs.length ≤ sizeLine ∧ ∀ p, H1 p = none → Q (.ref p) (upd H1 p (.tup xs))
def tLst (t : TA) : TE := fun σ H Q => t σ H fun xs H1 => xs.length ≤ sizeLine ∧ ∀ p, H1 p = none → Q (.ref p) (upd H1 p (.lst xs))
theorem pe_tup {x1} (h : PA X es t) : PE X (.Tuple es x1 pos) (tTup t) := by
 intro pins s σ H Q I hq
 refine wpAny_Tuple_spliced (thn (h pos pins s σ H _ I hq) fun us s1 ⟨xs, H1, I1, r, z, q⟩ => ⟨by rw [← r.length]; exact z, ?_⟩)
 have hf : H1 s1.heap.objs.size = none := I1.hok.fresh (Nat.le_refl _)
 refine ⟨.ref s1.heap.objs.size, upd H1 s1.heap.objs.size (.tup xs), I1.laid (t' := s1.toks) (fun b u e => Heap.get?_push_of_some _ e) (Nat.le_refl _) ?_, rfl, q _ hf⟩
 exact ⟨z, us, r, ⟨_, Heap.get?_push_size _ rfl, rfl, _, rfl⟩⟩
theorem pe_lst (h : PA X es t) : PE X (.List es pos) (tLst t) := by
 intro pins s σ H Q I hq
 refine wpAny_List_spliced (thn (h pos pins s σ H _ I hq) fun us s1 ⟨xs, H1, I1, r, z, q⟩ => ⟨by rw [← r.length]; exact z, ?_⟩)
 have hf : H1 s1.heap.objs.size = none := I1.hok.fresh (Nat.le_refl _)
 refine ⟨.ref s1.heap.objs.size, upd H1 s1.heap.objs.size (.lst xs), I1.laid (t' := s1.toks) (fun b u e => Heap.get?_push_of_some _ e) (Nat.le_refl _) ?_, rfl, q _ hf⟩
 exact ⟨z, us, 0, r, Heap.get?_push_size _ rfl⟩
end
abbrev Sp := List V → Hp → VK → XK → Prop
abbrev CXT := List Env → Hp → Shared → XK → Value → Shared → Prop
structure Env0 (P : Program) (w : World) (K : PySem.W.Frag) (mg : Str → Option Value) (base : Heap) (A : Around) (outer : List Env) (s : Shared) (H : Hp) : Prop where
 frames : A.frames = some outer
 mod : Mod K mg base
 bs : ∀ b o, base.get? b = some o → s.heap.get? b = some o ∧ H b = none
 bsz : base.objs.size ≤ s.heap.objs.size
 funs : s.heap.FunFrames base outer
 frf : ∀ b ∈ frs outer, H b = none
 hok : HOk P w H s.heap
 bare : AllBare s.gens
def CE (outer : List Env) (P : Program) (w : World) (H : Hp) (s : Shared) (Q : VK) (u : Value) (s' : Shared) : Prop :=
 ∃ v H', s'.os = s.os ∧ AllBare s'.gens ∧ Un (frs outer) [] H H' s.heap s'.heap ∧ HOk P w H' s'.heap ∧ RelV v u ∧ Q v H'
def CR (CX : CXT) (outer : List Env) (P : Program) (w : World) (H : Hp) (s : Shared) (Q : VK) (E : XK) (r : Result) (s' : Shared) : Prop :=
 match r with
 | .ok (.ret u) => CE outer P w H s Q u s'
 | .ok _ => False
 | .error e => CX outer H s E e s'
structure FnOk (P : Program) (w : World) (K : PySem.W.Frag) (mg : Str → Option Value) (base : Heap) (CX : CXT) (k : Nat) (f : Addr) (fd : FuncData) (ps : List Str) (sp : Sp) : Prop where
 len : ∀ vs H Q E, sp vs H Q E → vs.length = ps.length
 run : ∀ (A : Around) (outer : List Env) (s : Shared) (H : Hp) (args : Args) (us : List Value) (vs : List V) (Q : VK) (E : XK), Room k A → Env0 P w K mg base A outer s H → BindsTo s fd args (ps.zip us) → Vals vs us → sp vs H Q E →
  codeAny (model P w) A (.call (.ref f) args) (CR CX outer P w H s Q E) s
theorem FnOk.mono {P : Program} {w : World} {K : PySem.W.Frag} {mg : Str → Option Value} {base : Heap} {CX : CXT} {j k : Nat} {f : Addr} {fd : FuncData} {ps : List Str} {sp : Sp} (F : FnOk P w K mg base CX j f fd ps sp) (h : j ≤ k) :
  FnOk P w K mg base CX k f fd ps sp := ⟨F.len, fun A outer s H args us vs Q E hr => F.run A outer s H args us vs Q E (hr.mono h)⟩
theorem FnOk.imp {P : Program} {w : World} {K : PySem.W.Frag} {mg : Str → Option Value} {base : Heap} {CX : CXT} {k : Nat} {f : Addr} {fd : FuncData} {ps : List Str} {sp sp' : Sp} (F : FnOk P w K mg base CX k f fd ps sp)
  (h : ∀ vs H Q E, sp' vs H Q E → sp vs H Q E) : FnOk P w K mg base CX k f fd ps sp' :=
 ⟨fun vs H Q E q => F.len vs H Q E (h _ _ _ _ q), fun A outer s H args us vs Q E hr he hb hv hs => F.run A outer s H args us vs Q E hr he hb hv (h _ _ _ _ hs)⟩
theorem Env0.make {P : Program} {w : World} {K : PySem.W.Frag} {mg : Str → Option Value} {base : Heap} {A : Around} {outer : List Env} {s : Shared} {H : Hp} (e : Env0 P w K mg base A outer s H) (C : Addr) (us : List Value) (kw : List (Str × Value)) :
  Env0 P w K mg base (A.under (.builtin "type.__call__" ⟨.ref C :: us, kw⟩)) outer s H := ⟨by first | exact e.frames | (simpa [Around.under, Code.envs, Code.isFrame, pushEnvs] using e.frames), e.mod, e.bs, e.bsz, e.funs, e.frf, e.hok, e.bare⟩
section
variable {X : Cx} {pins : List (Addr × Obj)} {σ : St} {H : Hp} {s s' : Shared}
theorem Inv.env0 (I : Inv X pins σ H s) : Env0 X.prog X.w X.K X.mg X.base X.A X.stack s H :=
 ⟨I.ok.frames, I.ok.mod, I.bs, Nat.le_trans I.ok.bsz I.sz, I.stack, I.stkFree, I.hok, I.bare⟩
theorem Inv.after {Q : VK} {u : Value} (I : Inv X pins σ H s) (h : CE X.stack X.prog X.w H s Q u s') : EP X pins σ Q u s' := by
 obtain ⟨v, H', os, bare, un, hok, r, q⟩ := h
 obtain ⟨hh, g, d, t, os'⟩ := s'
 obtain rfl : os' = s.os := os
 exact ⟨v, H', I.call (h' := hh) (g' := g) (d' := d) (t' := t) (ch := []) un hok bare (fun b z => absurd z (by simp)), r, q⟩
end
def tCall (sp : Sp) (dvs : List V) (E : XK) (t : TA) : TE := fun σ H Q => t σ H fun vs H1 => sp (vs ++ dvs) H1 Q E
def tMeth (C : Addr) (m : Str) (sp : Sp) (dvs : List V) (E : XK) (ta : TE) (t : TA) : TE := fun σ H Q => ta σ H fun x H1 => ∃ a dx fs, x = .ref a ∧ H1 a = some (.ins C dx fs) ∧ fs.lookup m = none ∧
 t σ H1 fun vs H2 => sp (x :: (vs ++ dvs)) H2 Q E
def tMake (C : Addr) (sp : Sp) (dvs : List V) (E : XK) (t : TA) : TE := fun σ H Q => t σ H fun vs H1 => ∀ x dx, H1 x = none → H1 dx = none → dx ≠ x →
 sp (.ref x :: (vs ++ dvs)) (upd (upd H1 dx (.own x)) x (.ins C dx [])) (fun v H2 => v = .non ∧ Q (.ref x) H2) E
def Binds (K : PySem.W.Frag) (fd : FuncData) (ps : List Str) (ds : List Value) : Prop :=
 ∀ (s : Shared) (us : List Value), K.In s.heap → (us ++ ds).length = ps.length → BindsTo s fd ⟨us, []⟩ (ps.zip (us ++ ds))
theorem Binds.all {K : PySem.W.Frag} {fd : FuncData} {ps : List Str} (h : ∀ us : List Value, us.length = ps.length → bindArgs fd ⟨us, []⟩ = pure (ps.zip us)) : Binds K fd ps [] := fun s us _ hl => by
 rw [List.append_nil] at hl ⊢
 exact .of_eq (h us hl)
def Passes (CX : CXT) (X : Cx) (E : XK) : Prop := ∀ (pins : List (Addr × Obj)) (σ : St) (H : Hp) (s : Shared) (e : Value) (s' : Shared), Inv X pins σ H s → CX X.stack H s E e s' → X.xe e s'
section
variable {X : Cx} {CX : CXT} {k : Nat} {f C : Addr} {fd : FuncData} {ps : List Str} {sp : Sp} {dvs : List V} {ds : List Value} {E : XK} {x m : Str} {p pos apos : Pos} {e o : Expr} {es : List Expr} {ta : TE} {t : TA}
theorem run_fn {pins : List (Addr × Obj)} {σ : St} {H : Hp} {s : Shared} {Q : VK} {us : List Value} {vs : List V} (F : FnOk X.prog X.w X.K X.mg X.base CX k f fd ps sp) (hr : Room k X.A) (hb : Binds X.K fd ps ds) (hd : Vals dvs ds) (hx : Passes CX X E)
  (I : Inv X pins σ H s) (r : Vals vs us) (h : sp (vs ++ dvs) H Q E) : wpAny (model X.prog X.w) X.A (call (.ref f) us) (EP X pins σ Q) X.xe s := by
 have r2 : Vals (vs ++ dvs) (us ++ ds) := r.append hd
 have hl : (us ++ ds).length = ps.length := by rw [← r2.length]; exact F.len _ _ _ _ h
 refine wpAny_call (codeAny_mono (F.run X.A X.stack s H ⟨us, []⟩ (us ++ ds) (vs ++ dvs) Q E hr I.env0 (hb s us I.kIn hl) r2 h) fun r s' hq => ?_)
 cases r with
 | error e => exact hx pins σ H s e s' I hq
 | ok fl =>
  cases fl with
  | ret u => exact I.after hq
  | next => exact False.elim hq
  | brk => exact False.elim hq
  | cont => exact False.elim hq
theorem pe_call (F : FnOk X.prog X.w X.K X.mg X.base CX k f fd ps sp) (hr : Room k X.A) (hg : Gl X x) (hm : X.mg x = some (.ref f)) (hk : PySem.W.keepIn X.K (.ref f) = true) (hb : Binds X.K fd ps ds) (hd : Vals dvs ds) (hx : Passes CX X E)
  (ha : PA X (e :: es) t) (hdb : (x == ("__debug__" : Str)) = false := by decide) (he : starEach (e :: es) X.env = (false, eval e X.env) :: starEach es X.env := by rfl) (hpl : (backTo pos (starEach es X.env)).any (·.1) = false := by rfl) :
  PE X (.Call (.Name x p) (e :: es) [] pos) (tCall sp dvs E t) := by
 intro pins s σ H Q I h
 refine wpAny_Call_Name_kw (ld_glob I hg hm ?_ hdb)
 refine PySem.W.callWith_K (h₀ := X.base) I.ok.mod.kin hk (thn (ha pos pins s σ H _ I h) fun us s1 ⟨vs, H1, I1, r, q⟩ => ⟨I1.kIn, ?_⟩) he hpl
 exact run_fn F hr hb hd hx I1 r q
theorem pe_call0 (F : FnOk X.prog X.w X.K X.mg X.base CX k f fd ps sp) (hr : Room k X.A) (hg : Gl X x) (hm : X.mg x = some (.ref f)) (hk : PySem.W.keepIn X.K (.ref f) = true) (hb : Binds X.K fd ps ds) (hd : Vals dvs ds) (hx : Passes CX X E)
  (hdb : (x == ("__debug__" : Str)) = false := by decide) : PE X (.Call (.Name x p) [] [] pos) (tCall sp dvs E tNil) := by
 intro pins s σ H Q I h
 refine wpAny_Call_Name_kw (ld_glob I hg hm ?_ hdb)
 exact PySem.W.callWith_K0 I.kIn hk (run_fn (us := []) F hr hb hd hx I .nil h)
theorem pe_meth {pl : Sem Bool} (he : PE X o ta) (c : Cls X.K C) (hm : Meth X.K C m f) (F : FnOk X.prog X.w X.K X.mg X.base CX k f fd ps sp) (hr : Room k X.A) (hb : Binds X.K fd ps ds) (hd : Vals dvs ds) (hx : Passes CX X E) (ha : PA X (e :: es) t)
  (hst : starEach (e :: es) X.env = (false, eval e X.env) :: starEach es X.env := by rfl) (hpl : (backTo pos (starEach es X.env)).any (·.1) = false := by rfl)
  (ht : eval (.Call (.Attribute o m apos) (e :: es) [] pos) X.env = (do
   let ov ← eval o X.env
   standAt apos.atName
   let (f, first) ← holding [ov] (getMethod ov m pl)
   callWith pos f first (backTo pos (starEach (e :: es) X.env)) (backToKw pos (keywordEach [] X.env))) := by rfl) :
  PE X (.Call (.Attribute o m apos) (e :: es) [] pos) (tMeth C m sp dvs E ta t) := by
 intro pins s σ H Q I h
 refine PySem.W.methodCall_KW (pl := pl) (thn (he pins s σ H _ I h) fun u s1 ⟨x, H1, I1, rx, a, dx, fs, ex, ea, l, q⟩ => ?_) ht
 subst ex
 obtain rfl : u = Value.ref a := rx
 refine getmeth_ok I1 ea c hm l ?_
 refine PySem.W.callWith_K (first := [.ref a]) (h₀ := X.base) I.ok.mod.kin hm.kp (thn (ha pos pins s1 σ H1 _ I1 q) fun us s2 ⟨vs, H2, I2, r, q2⟩ => ⟨I2.kIn, ?_⟩) hst hpl
 exact run_fn (us := .ref a :: us) (vs := .ref a :: vs) F hr hb hd hx I2 (.cons rfl r) q2
structure Mk (K : PySem.W.Frag) (C f : Addr) : Prop where
 makes : PySem.W.makesIn K C = true
 init : PySem.W.findIn K (.ref C) "__init__" = some (some (.ref f))
 fn : PySem.W.isFn K (.ref f) = true
 kp : PySem.W.keepIn K (.ref C) = true
theorem run_make {pins : List (Addr × Obj)} {σ : St} {H : Hp} {s : Shared} {Q : VK} {us : List Value} {vs : List V} (M : Mk X.K C f) (F : FnOk X.prog X.w X.K X.mg X.base CX k f fd ps sp) (hr : Room (k + 1) X.A) (hb : Binds X.K fd ps ds) (hd : Vals dvs ds)
  (hx : Passes CX X E) (I : Inv X pins σ H s) (r : Vals vs us)
  (h : ∀ x dx, H x = none → H dx = none → dx ≠ x → sp (.ref x :: (vs ++ dvs)) (upd (upd H dx (.own x)) x (.ins C dx [])) (fun v H2 => v = .non ∧ Q (.ref x) H2) E) :
  wpAny (model X.prog X.w) X.A (call (.ref C) us) (EP X pins σ Q) X.xe s := by
 have hq := h (s.heap.objs.size + 1) s.heap.objs.size (I.hok.fresh (Nat.le_succ _)) (I.hok.fresh (Nat.le_refl _)) (Nat.ne_of_lt (Nat.lt_succ_self _))
 have I2 := Inv.made (C := C) I
 have r2 : Vals (V.ref (s.heap.objs.size + 1) :: (vs ++ dvs)) (Value.ref (s.heap.objs.size + 1) :: (us ++ ds)) := .cons rfl (r.append hd)
 have hl : (Value.ref (s.heap.objs.size + 1) :: us ++ ds).length = ps.length := by
  have e := r2.length
  rw [F.len _ _ _ _ hq] at e
  exact e.symm
 refine wpAny_call (make_map (f := f) I.kIn M.makes M.init (beq_iff_eq.mp M.fn) (codeAny_mono (F.run _ X.stack _ _ ⟨Value.ref (s.heap.objs.size + 1) :: us, []⟩ (Value.ref (s.heap.objs.size + 1) :: (us ++ ds)) _ _ E (hr.make C us [])
  (I2.env0.make C us []) (hb _ (Value.ref (s.heap.objs.size + 1) :: us) I2.kIn hl) r2 hq) fun r s' hq' => ?_))
 cases r with
 | error e => exact hx pins σ _ _ e s' I2 hq'
 | ok fl =>
  cases fl with
  | ret u =>
   obtain ⟨v, H', I3, rv, ev, q3⟩ := I2.after hq'
   subst ev
   exact ⟨rv, ⟨V.ref (s.heap.objs.size + 1), H', I3, rfl, q3⟩⟩
  | next => exact False.elim hq'
  | brk => exact False.elim hq'
  | cont => exact False.elim hq'
theorem pe_make (M : Mk X.K C f) (F : FnOk X.prog X.w X.K X.mg X.base CX k f fd ps sp) (hr : Room (k + 1) X.A) (hg : Gl X x) (hm : X.mg x = some (.ref C)) (hb : Binds X.K fd ps ds) (hd : Vals dvs ds) (hx : Passes CX X E)
  (ha : PA X (e :: es) t) (hdb : (x == ("__debug__" : Str)) = false := by decide) (he : starEach (e :: es) X.env = (false, eval e X.env) :: starEach es X.env := by rfl) (hpl : (backTo pos (starEach es X.env)).any (·.1) = false := by rfl) :
  PE X (.Call (.Name x p) (e :: es) [] pos) (tMake C sp dvs E t) := by
 intro pins s σ H Q I h
 refine wpAny_Call_Name_kw (ld_glob I hg hm ?_ hdb)
 refine PySem.W.callWith_K (h₀ := X.base) I.ok.mod.kin M.kp (thn (ha pos pins s σ H _ I h) fun us s1 ⟨vs, H1, I1, r, q⟩ => ⟨I1.kIn, ?_⟩) he hpl
 exact run_make M F hr hb hd hx I1 r q
end
section
variable {X : Cx} {CX : CXT} {k : Nat} {f C : Addr} {fd : FuncData} {ps ks : List Str} {sp : Sp} {E : XK} {x m : Str} {p pos apos kpos : Pos} {e o : Expr} {es : List Expr} {kws : List Keyword} {te ta : TE} {t tk : TA} {nm : Option Str}
variable {g : List Value → List Value → List Value} {gV : List V → List V → List V}
end
structure FnScope (N P : List Str) (sc : Scope) : Prop where
 kind : sc.kind = .function
 co : sc.isCoroutine = false
 gen : sc.isGenerator = false
 nd : N.Nodup
 pre : N.take P.length = P
 par : ∀ x ∈ P, sc.names.lookup x = some .local ∨ sc.names.lookup x = some .cell
 nofree : ∀ y ∈ sc.names, y.2 ≠ .free
theorem bindL_out {kindOf : Str → Option NameKind} {x : Str} : ∀ {binds : List (Str × Value)} {m : Str → Option Value}, (∀ v, (x, v) ∉ binds) → bindL kindOf binds m x = m x
 | [], _, _ => rfl
 | (n, v) :: r, m, h => by
  unfold bindL
  rw [bindL_out fun w hw => h w (List.mem_cons_of_mem _ hw)]
  split
  ·have : x ≠ n := by rintro rfl; exact h v List.mem_cons_self
   simp [this]
  ·rfl
theorem bindC_out {kindOf : Str → Option NameKind} {x : Str} : ∀ {binds : List (Str × Value)} {m : Str → Option Value}, (∀ v, (x, v) ∉ binds) → bindC kindOf binds m x = m x
 | [], _, _ => rfl
 | (n, v) :: r, m, h => by
  unfold bindC
  rw [bindC_out fun w hw => h w (List.mem_cons_of_mem _ hw)]
  split
  ·rfl
  ·have : x ≠ n := by rintro rfl; exact h v List.mem_cons_self
   simp [this]
theorem bindL_get {kindOf : Str → Option NameKind} {x : Str} {v : Value} : ∀ {P : List Str} {vs : List Value} {i : Nat} {m : Str → Option Value}, P.Nodup → P[i]? = some x → vs[i]? = some v → kindOf x = some .local →
  bindL kindOf (P.zip vs) m x = some v
 | [], _, _, _, _, h, _, _ => by simp at h
 | _ :: _, [], _, _, _, _, h, _ => by simp at h
 | p :: P, w :: vs, 0, m, nd, h1, h2, hk => by
  simp at h1 h2; subst h1; subst h2
  show bindL kindOf ((p, w) :: P.zip vs) m p = _
  unfold bindL
  rw [bindL_out fun v hv => (List.nodup_cons.mp nd).1 (List.of_mem_zip hv).1, if_pos hk]
  simp
 | p :: P, w :: vs, i + 1, m, nd, h1, h2, hk => by
  show bindL kindOf ((p, w) :: P.zip vs) m x = _
  unfold bindL
  exact bindL_get (i := i) (List.nodup_cons.mp nd).2 (by simpa using h1) (by simpa using h2) hk
theorem bindC_get {kindOf : Str → Option NameKind} {x : Str} {v : Value} : ∀ {P : List Str} {vs : List Value} {i : Nat} {m : Str → Option Value}, P.Nodup → P[i]? = some x → vs[i]? = some v → kindOf x ≠ some .local →
  bindC kindOf (P.zip vs) m x = some v
 | [], _, _, _, _, h, _, _ => by simp at h
 | _ :: _, [], _, _, _, _, h, _ => by simp at h
 | p :: P, w :: vs, 0, m, nd, h1, h2, hk => by
  simp at h1 h2; subst h1; subst h2
  show bindC kindOf ((p, w) :: P.zip vs) m p = _
  unfold bindC
  rw [bindC_out fun v hv => (List.nodup_cons.mp nd).1 (List.of_mem_zip hv).1, if_neg hk]
  simp
 | p :: P, w :: vs, i + 1, m, nd, h1, h2, hk => by
  show bindC kindOf ((p, w) :: P.zip vs) m x = _
  unfold bindC
  exact bindC_get (i := i) (List.nodup_cons.mp nd).2 (by simpa using h1) (by simpa using h2) hk
def start (N : List Str) (vs : List V) : St := vs.map some ++ List.replicate (N.length - vs.length) none
def cxOf (CX : CXT) (P : Program) (w : World) (K : PySem.W.Frag) (mg : Str → Option Value) (base : Heap) (N : List Str) (qual : Str) (scope : Scope) (f : Addr) (cd : Value) (A : Around) (outer : List Env) (s : Shared) (H : Hp) (E : XK) : Cx where
 prog := P
 w := w
 K := K
 mg := mg
 base := base
 A := A.deeper (envOfC qual scope s.heap.objs.size f cd)
 N := N
 s₀ := s
 H₀ := H
 env := envOfC qual scope s.heap.objs.size f cd
 outer := outer
 stack := envOfC qual scope s.heap.objs.size f cd :: outer
 ex := []
 calm := true
 fn := fun _ => true
 pn := []
 xe := fun e s' => wpAny (model P w) (A.deeper (envOfC qual scope s.heap.objs.size f cd)) (leaving (envOfC qual scope s.heap.objs.size f cd) e) (fun _ s'' => CX outer H s E e s'') (fun e' s'' => CX outer H s E e' s'') s'
theorem cell_has {sc : Scope} {n : Nat} {x : Str} (h : sc.names.lookup x = some .cell) : ∃ c, (cellsFrom n sc.names []).lookup x = some c := by
 have q := PySem.W.cellsFrom_some sc.names n [] (.inl h)
 exact Option.isSome_iff_exists.mp q
theorem inv_start {CX : CXT} {P : Program} {w : World} {K : PySem.W.Frag} {mg : Str → Option Value} {base : Heap} {N ps : List Str} {qual : Str} {scope : Scope} {f : Addr} {cd : Value} {A : Around} {outer : List Env} {s s1 : Shared} {H : Hp} {E : XK} {us : List Value} {vs : List V}
  (S : FnScope N ps scope) (hd : A.handled = none) (e0 : Env0 P w K mg base A outer s H) (hl : vs.length = ps.length) (r : Vals vs us)
  (x : InCallC s s.heap.objs.size (bindL (envOfC qual scope s.heap.objs.size f cd).kindOf (ps.zip us) fun _ => none) (cellsFrom (s.heap.objs.size + 1) scope.names []) (bindC (envOfC qual scope s.heap.objs.size f cd).kindOf (ps.zip us) fun _ => none) s1) :
  Inv (cxOf CX P w K mg base N qual scope f cd A outer s H E) [] (start N vs) H s1 := by
 have hpl : ps.length ≤ N.length := by have := congrArg List.length S.pre; rw [List.length_take] at this; omega
 obtain ⟨h1, tk, rfl, hk⟩ := x.done
 have noA : ∀ b : Addr, b ∉ (cxOf CX P w K mg base N qual scope f cd A outer s H E).ex := fun b z => absurd (show b ∈ ([] : List Addr) from z) (by simp)
 refine ⟨⟨e0.mod, S.kind, rfl, rfl, Nat.le_refl _, fun y z c h1 h2 => ?_, fun y hy => ?_, fun y c _ h => ?_, fun _ => hd, Around.frames_deeper e0.frames, .inr ⟨rfl, rfl⟩, fun b z => absurd z (noA b), e0.bs, e0.bsz, fun b _ _ => noA b, fun b z => absurd z (noA b), e0.funs, e0.frf⟩,
  rfl, e0.bare, Un.kept hk, ⟨_, x.toInCall.ns, fun i y v h1 h2 h3 => ?_⟩, fun y c h => ⟨_, x.cell y c h⟩, e0.hok.fresh (Nat.le_refl _), fun y c h => ?_, fun p hp => absurd (show p ∈ ([] : List (Addr × Obj)) from hp) (by simp), e0.hok.kept hk, ?_⟩
 ·exact name_of_addr x.apart (PySem.mem_of_lookup h1) (PySem.mem_of_lookup h2)
 ·have hy : scope.names.lookup y = some .cell ∨ scope.names.lookup y = some .free := hy
  rcases hy with hy | hy
  ·exact cell_has hy
  ·exact absurd rfl (S.nofree _ (PySem.mem_of_lookup hy))
 ·exact Nat.le_of_lt (x.above y c (PySem.mem_of_lookup h))
 ·have hi : i < vs.length := by
   unfold start at h2
   by_cases hi : i < vs.length
   ·exact hi
   ·rw [List.getElem?_append_right (by simpa using hi)] at h2
    rw [List.getElem?_replicate] at h2
    split at h2 <;> cases h2
  have ha : vs[i]? = some v := by
   unfold start at h2
   rw [List.getElem?_append_left (by simpa using hi), List.getElem?_map] at h2
   cases e : vs[i]? with
   | none => rw [e] at h2; cases h2
   | some a => rw [e] at h2; cases h2; rfl
  obtain ⟨u, hu, rv⟩ := r.get ha
  have hp : ps[i]? = some y := by
   rw [← S.pre, List.getElem?_take_of_lt (by omega)]; exact h1
  have ndP : ps.Nodup := by rw [← S.pre]; exact S.nd.sublist (List.take_sublist _ _)
  refine ⟨u, rv, ?_⟩
  rcases S.par y (List.mem_of_getElem? hp) with k | k
  ·exact .inl ⟨k, bindL_get ndP hp hu k⟩
  ·obtain ⟨c, e⟩ := cell_has (n := s.heap.objs.size + 1) k
   refine .inr ⟨.inl k, c, e, ?_⟩
   have q := x.cell y c e
   rw [bindC_get ndP hp hu (by show scope.names.lookup y ≠ _; rw [k]; decide)] at q
   exact q
 ·exact e0.hok.fresh (Nat.le_of_lt (x.above y c (PySem.mem_of_lookup h)))
 ·unfold start
  show _ = N.length
  rw [List.length_append, List.length_map, List.length_replicate]
  omega
theorem fn_of {CX : CXT} {P : Program} {w : World} {K : PySem.W.Frag} {mg : Str → Option Value} {base : Heap} {k : Nat} {f : Addr} {name qual : Str} {params : Arguments} {body : List Stmt} {scope : Scope} {dV kV doc pm cdv ct oc : Value} {an od : Option Addr}
  {osl : Array (Option Value)} {N ps : List Str} {sp : Sp} (lk : K.lookup f = some ⟨oc, od, .func (PySem.W.fnOf name qual params body scope dV kV doc pm an cdv ct), osl⟩) (hcd : PySem.W.codeIn K cdv qual = true) (S : FnScope N ps scope)
  (len : ∀ vs H Q E, sp vs H Q E → vs.length = ps.length)
  (hbody : ∀ (A : Around) (outer : List Env) (s : Shared) (H : Hp) (vs : List V) (Q : VK) (E : XK), Room k (A.deeper (envOfC qual scope s.heap.objs.size f cdv)) → sp vs H Q E →
   ∃ t, PSs (cxOf CX P w K mg base N qual scope f cdv A outer s H E) body t ∧ t { nx := fun _ H' => Q .non H', rt := Q } (start N vs) H) :
  FnOk P w K mg base CX (k + 1) f (PySem.W.fnOf name qual params body scope dV kV doc pm an cdv ct) ps sp := by
 refine ⟨len, fun A outer s H args us vs Q E hr e0 hb r hsp => ?_⟩
 have hl := len _ _ _ _ hsp
 have KX : K.In s.heap := e0.mod.kin.keeps fun b o e => (e0.bs b o e).1
 have lim : s.heap.NoLimit := e0.mod.nolimit.keeps fun b o e => (e0.bs b o e).1
 have hkind : ∀ y ∈ ps.zip us, scope.names.lookup y.1 = some .local ∨ (scope.names.lookup y.1 = some .cell ∧ ((cellsFrom (s.heap.objs.size + 1) scope.names []).lookup y.1).isSome = true) := fun ⟨n, v⟩ hy => by
  rcases S.par n (List.of_mem_zip hy).1 with q | q
  ·exact .inl q
  ·exact .inr ⟨q, PySem.W.cellsFrom_some _ _ _ (.inl q)⟩
 refine codeAny_call_function hr.depth (KX _ _ lk) rfl S.co S.gen rfl (PySem.W.codeRec_of KX hcd) (hb _ _ _ _ ?_)
 refine wpAny_newFunctionEnv_cells S.kind hkind fun env he s1 x => ?_
 subst he
 refine ⟨lim.keeps x.toInCall.keep, codeAny_func ?_⟩
 obtain ⟨t, ht, hq⟩ := hbody A outer s H vs Q E (hr.deeper _) hsp
 have I : Inv (cxOf CX P w K mg base N qual scope f cdv A outer s H E) [] (start N vs) H s1 := inv_start S hr.hd e0 hl r x
 refine wpAny_mono (ht [] s1 (start N vs) H _ I hq) (fun fl s' hs => ?_) fun e s' hs => hs
 have fin : ∀ {σ' : St} {H' : Hp} {v : V} {u : Value}, Inv (cxOf CX P w K mg base N qual scope f cdv A outer s H E) [] σ' H' s' → RelV v u → Q v H' → CE outer P w H s Q u s' :=
  fun {σ' H' v u} J rv q => ⟨v, H', J.os, J.bare, J.base, J.hok, rv, q⟩
 cases fl with
 | ret u =>
  obtain ⟨v, σ', H', J, rv, q⟩ := hs
  exact fin J rv q
 | next =>
  obtain ⟨σ', H', J, q⟩ := hs
  exact fin (v := V.non) (u := Value.none) J rfl q
 | brk =>
  obtain ⟨_, _, _, q⟩ := hs
  exact False.elim q
 | cont =>
  obtain ⟨_, _, _, q⟩ := hs
  exact False.elim q
end L2
namespace L2
open PySem PySem.Spec PyProof.Rows
section
variable {X : Cx} {x : Str} {p pos : Pos} {e : Expr} {es : List Expr} {t : TA} {id T : String} {r : List V → Hp → VK → Prop}
def tCB (r : List V → Hp → VK → Prop) (t : TA) : TE := fun σ H Q => t σ H fun vs H1 => r vs H1 Q
theorem pe_callB (hc : CallR X (.builtin id) r) (hg : Gl X x) (hm : X.mg x = none) (hv : bootBuiltins x = some (.builtin id)) (ha : PA X (e :: es) t) (hn : x ≠ "__name__" := by decide) (hdb : (x == ("__debug__" : Str)) = false := by decide)
  (he : starEach (e :: es) X.env = (false, eval e X.env) :: starEach es X.env := by rfl) (hpl : (backTo pos (starEach es X.env)).any (·.1) = false := by rfl) : PE X (.Call (.Name x p) (e :: es) [] pos) (tCB r t) := by
 intro pins s σ H Q I h
 refine wpAny_Call_Name_kw (ld_blt I hg hm hv ?_ hn hdb)
 exact PyProof.Rows.callWith_builtin1 (thn (ha pos pins s σ H _ I h) fun us s1 ⟨vs, H1, I1, r1, q1⟩ => hc pins s1 σ H1 vs us Q I1 r1 q1) he hpl
theorem pe_callTy (hc : CallR X (.type T) r) (hg : Gl X x) (hm : X.mg x = none) (hv : bootBuiltins x = some (.type T)) (ha : PA X (e :: es) t) (hn : x ≠ "__name__" := by decide) (hdb : (x == ("__debug__" : Str)) = false := by decide)
  (he : starEach (e :: es) X.env = (false, eval e X.env) :: starEach es X.env := by rfl) (hpl : (backTo pos (starEach es X.env)).any (·.1) = false := by rfl) : PE X (.Call (.Name x p) (e :: es) [] pos) (tCB r t) := by
 intro pins s σ H Q I h
 refine wpAny_Call_Name_kw (ld_blt I hg hm hv ?_ hn hdb)
 exact PyProof.Rows.callWith_type1 (thn (ha pos pins s σ H _ I h) fun us s1 ⟨vs, H1, I1, r1, q1⟩ => hc pins s1 σ H1 vs us Q I1 r1 q1) he hpl
end
end L2
namespace HT
open PySem PyProof.Rows
section
open PySem.SeqAt
open PySem.AutoSeq1 (wpAny_loadPart')
open PySem.MeetsSeq PySem.MeetsSeq2 PySem.MeetsSeq3
end
section
variable {prog : Program} {w : World} {A : Around} {E : Value → Shared → Prop} {s : Shared}
end
end HT
namespace L2
open PySem PySem.Spec PyProof.Rows
section
variable {X : Cx} {e : Expr} {te : TE} {lo hi : Option Expr} {tl th : TO} {pos p2 : Pos}
end
end L2
namespace L2
open PySem PySem.Spec PyProof.Rows
def ixN (n : Nat) (i : Int) : Option Nat := if 0 ≤ i then (if i < n then some i.toNat else none) else if -(n : Int) ≤ i then some (i + n).toNat else none
def atI {α : Type} (xs : List α) (i : Int) : Option α := (ixN xs.length i).bind fun j => xs[j]?
theorem ixN_seq {n : Nat} {i : Int} {j : Nat} (h : ixN n i = some j) : seqIndex? i n = some j ∧ j < n ∧ -(n : Int) ≤ i ∧ i < n := by
 unfold ixN at h
 by_cases h0 : 0 ≤ i
 ·rw [if_pos h0] at h
  by_cases h1 : i < n
  ·rw [if_pos h1] at h
   have e : i.toNat = j := Option.some.inj h
   exact ⟨by rw [seqIndex_of h0 h1, e], by omega, by omega, h1⟩
  ·rw [if_neg h1] at h; cases h
 ·rw [if_neg h0] at h
  by_cases h1 : -(n : Int) ≤ i
  ·rw [if_pos h1] at h
   have e : (i + n).toNat = j := Option.some.inj h
   exact ⟨by rw [seqIndex_neg (by omega) h1, e], by omega, h1, by omega⟩
  ·rw [if_neg h1] at h; cases h
theorem atI_get {α : Type} {xs : List α} {i : Int} {v : α} (h : atI xs i = some v) : ∃ j, seqIndex? i xs.length = some j ∧ xs[j]? = some v ∧ j < xs.length ∧ -(xs.length : Int) ≤ i ∧ i < xs.length := by
 unfold atI at h
 cases e : ixN xs.length i with
 | none => rw [e] at h; cases h
 | some j =>
  rw [e] at h
  obtain ⟨h1, h2, h3, h4⟩ := ixN_seq e
  exact ⟨j, h1, h, h2, h3, h4⟩
theorem atI_nat {α : Type} {xs : List α} {j : Nat} {v : α} (h : xs[j]? = some v) : atI xs (j : Int) = some v := by
 have hj : j < xs.length := (List.getElem?_eq_some_iff.mp h).1
 have e : ixN xs.length (j : Int) = some j := by
  unfold ixN
  rw [if_pos (by omega), if_pos (by omega)]; simp
 unfold atI; rw [e]; exact h
theorem atI_last {α : Type} (xs : List α) (v : α) : atI (xs ++ [v]) (-1) = some v := by
 have hl : (xs ++ [v]).length = xs.length + 1 := by simp
 have e : ixN (xs ++ [v]).length (-1) = some xs.length := by
  unfold ixN
  rw [hl, if_neg (by decide), if_pos (by omega)]
  congr 1
  omega
 unfold atI
 rw [e]
 show (xs ++ [v])[xs.length]? = some v
 simp
def PlainIx (b : Expr) : Prop := ∀ o i, subscripted b false o i = operate [o, i] (getItem o i)
def IxR (X : Cx) (r : R2) : Prop :=
 ∀ (value slice : Expr) (pins : List (Addr × Obj)) (s : Shared) (σ : St) (H : Hp) (x y : V) (v u : Value) (Q : VK), Inv X pins σ H s → RelV x v → RelV y u → r x y H Q →
  subscripted slice false v u = operate [v, u] (getItem v u) → wpAny (model X.prog X.w) X.A (subscriptTail value slice v u) (EP X pins σ Q) X.xe s
def MtR (X : Cx) (id : String) (r : V → List V → Hp → VK → Prop) : Prop :=
 ∀ (pins : List (Addr × Obj)) (s : Shared) (σ : St) (H : Hp) (x : V) (xs : List V) (v : Value) (us : List Value) (Q : VK), Inv X pins σ H s → RelV x v → Vals xs us → r x xs H Q →
  wpAny (model X.prog X.w) X.A (call (.builtin id) (v :: us)) (EP X pins σ Q) X.xe s
section
variable {X : Cx} {a b : Expr} {ta tb : TE} {pos : Pos}
theorem pe_ix {r : R2} (hr : IxR X r) (ha : PE X a ta) (hb : PE X b tb) (hs : PlainIx b) : PE X (.Subscript a b pos) (tOp r ta tb) := by
 intro pins s σ H Q I h
 exact Subscript_ (binT ha hb I h fun v u s2 x y H2 I2 rx ry q => hr a b pins s2 σ H2 x y v u Q I2 rx ry q (hs _ _))
def rIxL (K : PySem.W.Frag) : R2 := fun x y H Q => ∃ p xs i v, x = .ref p ∧ y = .int i ∧ SqL K H p xs ∧ atI xs i = some v ∧ Q v H
def rIxT (K : PySem.W.Frag) : R2 := fun x y H Q => ∃ p xs i v, x = .ref p ∧ y = .int i ∧ SqT K H p xs ∧ atI xs i = some v ∧ Q v H
theorem ix_list : IxR X (rIxL X.K) := by
 intro value slice pins s σ H x y v u Q I rx ry h hs
 obtain ⟨p, xs, i, z, rfl, rfl, hq, he, q⟩ := h
 cases rx
 obtain ⟨t, rfl⟩ := ry
 obtain ⟨its, r, pl, hz⟩ := I.list hq
 obtain ⟨j, h1, h2, h3, h4, h5⟩ := atI_get he
 obtain ⟨w, ew, rw'⟩ := r.get h2
 have hl := r.length
 have hn := line63
 have fin : EP X pins σ Q w s := ⟨z, H, I, rw', q⟩
 by_cases h0 : 0 ≤ i
 ·have hj : i.toNat = j := by
   rw [seqIndex_of h0 h5] at h1
   exact Option.some.inj h1
  exact item_listR pl.isList h0 (by omega) (by rw [hj]; simpa using ew) fin hs
 ·have hj : (i + (its.toArray.size : Int)).toNat = j := by
   rw [seqIndex_neg (by omega) h4] at h1
   rw [List.size_toArray, ← hl]
   exact Option.some.inj h1
  exact subscriptTail_builtinR (x := w) pl.isList.typeIs slot_list_getitem.lookup
   (wpAny_getItem_list_neg (Q := fun r s' => r = w ∧ EP X pins σ Q r s') pl.isList (by omega) (by rw [List.size_toArray] <;> omega) (by omega) (by rw [hj]; simpa using ew) ⟨rfl, fin⟩) hs
theorem ix_tup : IxR X (rIxT X.K) := by
 intro value slice pins s σ H x y v u Q I rx ry h hs
 obtain ⟨p, xs, i, z, rfl, rfl, hq, he, q⟩ := h
 cases rx
 obtain ⟨t, rfl⟩ := ry
 obtain ⟨its, r, pl, hz⟩ := I.tuple hq
 obtain ⟨j, h1, h2, h3, h4, h5⟩ := atI_get he
 obtain ⟨w, ew, rw'⟩ := r.get h2
 have hl := r.length
 have hn := line63
 have fin : EP X pins σ Q w s := ⟨z, H, I, rw', q⟩
 exact subscriptTail_builtinR (x := w) pl.typeIs slot_tuple_getitem.lookup
  (getItem_tuple (j := j) (Q := fun r s' => r = w ∧ EP X pins σ Q r s') pl (by omega) (by omega) (by rw [List.size_toArray, ← hl]; exact h1) (by simpa using ew) ⟨rfl, fin⟩) hs
theorem call_len_seq : CallR X (.builtin "len") (fun xs H Q => ∃ p ys, xs = [.ref p] ∧ (SqL X.K H p ys ∨ SqT X.K H p ys) ∧ Q (.int ys.length) H) := by
 intro pins s σ H xs us Q I r h
 obtain ⟨p, ys, rfl, hq, q⟩ := h
 obtain ⟨u, rfl, rx⟩ := vals1 r
 cases rx
 have hn := line63
 rcases hq with hq | hq
 ·obtain ⟨its, r', pl, hz⟩ := I.list hq
  have hlen := r'.length
  exact Calls.call_len_list pl.isList (by simp only [List.size_toArray] <;> omega) ⟨.int ys.length, H, I.tok _, ⟨s.toks + 1, by rw [List.size_toArray, hlen]⟩, q⟩
 ·obtain ⟨its, r', pl, hz⟩ := I.tuple hq
  have hlen := r'.length
  exact len_tuple pl (by simp only [List.size_toArray] <;> omega) ⟨.int ys.length, H, I.tok _, ⟨s.toks + 1, by rw [List.size_toArray, hlen]⟩, q⟩
theorem call_list_of : CallR X (.type "list") (fun xs H Q => ∃ p ys, xs = [.ref p] ∧ (SqL X.K H p ys ∨ SqT X.K H p ys) ∧ ∀ l, H l = none → Q (.ref l) (upd H l (.lst ys))) := by
 intro pins s σ H xs us Q I r h
 obtain ⟨p, ys, rfl, hq, q⟩ := h
 obtain ⟨u, rfl, rx⟩ := vals1 r
 cases rx
 have fin : ∀ (its : List Value), Vals ys its → ys.length ≤ sizeLine → ∀ (h' : Heap) (c' : Nat), (∀ b o', s.heap.get? b = some o' → h'.get? b = some o') →
   h'.get? s.heap.objs.size = some { cls := .type "list", dict := none, data := .seq its.toArray c', slots := #[] } → EP X pins σ Q (.ref s.heap.objs.size) { s with heap := h' } := fun its r' hz h' c' kp e =>
  ⟨.ref s.heap.objs.size, _, I.laid (t' := s.toks) kp (Nat.le_refl _) (show ObjOk X.prog X.w _ h' _ (.lst ys) from ⟨hz, its, c', r', e⟩), rfl, q _ (I.hok.fresh (Nat.le_refl _))⟩
 rcases hq with hq | hq
 ·obtain ⟨its, r', pl, hz⟩ := I.list hq
  have hlen := r'.length
  obtain ⟨o, ho, hc, n, hd⟩ := pl.isList
  exact call_list_seq p (.inl rfl) ho hc hd (fun h' c' kp e => fin its r' hz h' c' kp e) (by simp only [List.size_toArray] <;> omega)
 ·obtain ⟨its, r', pl, hz⟩ := I.tuple hq
  have hlen := r'.length
  obtain ⟨o, ho, hc, n, hd⟩ := pl
  exact call_list_seq p (.inr rfl) ho hc hd (fun h' c' kp e => fin its r' hz h' c' kp e) (by simp only [List.size_toArray] <;> omega)
def tyV (K : PySem.W.Frag) (T : String) (x : V) (H : Hp) : Prop := match x with
 | .str _ => T = "str"
 | .int _ => T = "int"
 | .ref p => (T = "list" ∧ ∃ xs, SqL K H p xs) ∨ (T = "tuple" ∧ ∃ o, K.lookup p = some o ∧ o.cls = .type "tuple" ∧ o.dict = none) ∨
   (T = "dict" ∧ ((∃ kvs, H p = some (.dK kvs)) ∨ ∃ kvs, H p = some (.dT kvs))) ∨ (T = "set" ∧ ∃ S n, H p = some (.set S n))
 | _ => False
theorem tyV_is {pins : List (Addr × Obj)} {σ : St} {H : Hp} {s : Shared} {T : String} {x : V} {v : Value} (I : Inv X pins σ H s) (r : RelV x v) (ty : tyV X.K T x H) :
  s.TypeIs v T ∧ ∀ a, v = .ref a → ∃ ob, s.heap.get? a = some ob ∧ ob.dict = none := by
 cases x with
 | str z =>
  obtain ⟨t, rfl⟩ := r
  cases (show T = "str" from ty)
  exact ⟨typeIs_str s z t, fun _ e => nomatch e⟩
 | int i =>
  obtain ⟨t, rfl⟩ := r
  cases (show T = "int" from ty)
  exact ⟨typeIs_int s i t, fun _ e => nomatch e⟩
 | ref p =>
  cases r
  rcases ty with ⟨rfl, xs, hq⟩ | ⟨rfl, o, hk, hc, hd⟩ | ⟨rfl, hk⟩ | ⟨rfl, S, n, hk⟩
  ·obtain ⟨its, _, pl, _⟩ := I.list hq
   refine ⟨pl.isList.typeIs, fun a e => ?_⟩
   cases e
   obtain ⟨o, n, e, c, hd, _⟩ := pl
   exact ⟨o, e, hd⟩
  ·refine ⟨⟨o, I.kIn p o hk, hc⟩, fun a e => ?_⟩
   cases e
   exact ⟨o, I.kIn _ o hk, hd⟩
  ·have z : ∃ o, s.heap.get? p = some o ∧ o.ExactDict := by
    rcases hk with ⟨kvs, hk⟩ | ⟨kvs, hk⟩
    ·obtain ⟨_, _, _, _, o, _, _, e, ex, _⟩ := I.hok p _ hk
     exact ⟨o, e, ex⟩
    ·obtain ⟨_, _, _, _, o, _, _, e, ex, _⟩ := I.hok p _ hk
     exact ⟨o, e, ex⟩
   obtain ⟨o, e, ex⟩ := z
   refine ⟨⟨o, e, ex.1⟩, fun a e2 => ?_⟩
   cases e2
   exact ⟨o, e, ex.2.1⟩
  ·obtain ⟨o, _, _, _, e, ex, _⟩ := I.hok p _ hk
   refine ⟨⟨o, e, ex.1⟩, fun a e2 => ?_⟩
   cases e2
   exact ⟨o, e, ex.2.1⟩
 | _ => exact False.elim ty
def tBM (K : PySem.W.Frag) (T : String) (r : V → List V → Hp → VK → Prop) (to : TE) (t : TA) : TE := fun σ H Q => to σ H fun x H1 => tyV K T x H1 ∧ t σ H1 fun xs H2 => r x xs H2 Q
variable {o e : Expr} {es : List Expr} {to : TE} {t : TA} {name : Str} {apos cpos : Pos} {T id : String} {r : V → List V → Hp → VK → Prop}
theorem pe_bm (pa : PlainAttrs T) (slot : Slot T name id) (hty : typeOf (.builtin id) = pure (.type "method_descriptor")) (hm : MtR X id r) (ho : PE X o to) (ha : PA X (e :: es) t)
  (hbase : attributeBase o name X.env (eval o X.env) = eval o X.env := by rfl)
  (hfew : ((backTo cpos (starEach (e :: es) X.env)).all (fun x => !x.1) && (backToKw cpos (keywordEach [] X.env)).all (fun x => x.1.isSome)
   && decide ((e :: es).length + ([] : List Keyword).length + (if ([] : List Keyword).isEmpty then 0 else 1) < 30)) = true := by rfl)
  (hline : (apos.endLine == cpos.line) = true := by rfl) (hs : starEach (e :: es) X.env = (false, eval e X.env) :: starEach es X.env := by rfl) (hplain : (backTo cpos (starEach es X.env)).any (·.1) = false := by rfl) :
  PE X (.Call (.Attribute o name apos) (e :: es) [] cpos) (tBM X.K T r to t) := by
 intro pins s σ H Q I h
 refine wpAny_Call_method_late hbase hfew hline rfl (thn (ho pins s σ H _ I h) fun v s1 ⟨x, H1, I1, r1, ty, q1⟩ => ?_)
 obtain ⟨h1, h2⟩ := tyV_is I1 r1 ty
 refine ⟨T, id, pa, slot, hty, h1, h2, ?_⟩
 have hA := ha cpos pins s1 σ H1 _ I1 q1
 rw [hs] at hA ⊢
 refine Calls.callWith_builtin (by show (false || (backTo cpos (starEach es X.env)).any (·.1)) = false; rw [hplain] <;> rfl) (Calls.evalArgs_plain ?_)
 exact thn hA fun us s2 ⟨vs, H2, I2, r2, q2⟩ => hm pins s2 σ H2 x vs v us Q I2 r1 r2 q2
/- xs.append(e), list.index on a module's tuple .. are MtR facts of 06m -/
end
end L2
namespace L2
open PySem PySem.Spec PyProof.Rows
def MtM (X : Cx) (id : String) (r : V → List V → Hp → VK → Prop) : Prop :=
 ∀ (pins : List (Addr × Obj)) (s : Shared) (σ : St) (H : Hp) (x : V) (xs : List V) (v : Value) (us : List Value) (Q : VK), Inv X pins σ H s → RelV x v → Vals xs us → r x xs H Q →
  wpAny (model X.prog X.w) X.A (call (.builtin id) (v :: us)) (EP X pins σ Q) X.xe s
theorem Vals.one : ∀ {x : V} {us : List Value}, Vals [x] us → ∃ u, us = [u] ∧ RelV x u
 | _, _, .cons r .nil => ⟨_, rfl, r⟩
theorem Vals.two : ∀ {x y : V} {us : List Value}, Vals [x, y] us → ∃ u v, us = [u, v] ∧ RelV x u ∧ RelV y v
 | _, _, _, .cons r (.cons q .nil) => ⟨_, _, rfl, r, q⟩
section
variable {X : Cx} {pins : List (Addr × Obj)} {σ : St} {H : Hp} {s : Shared} {l b : Addr} {xs ys zs : List V}
theorem Inv.lset {its its' : List Value} {n : Nat} {f : Array Value → Array Value} {t' : Nat} (I : Inv X pins σ H s) (hH : H l = some (.lst xs))
  (e : s.heap.get? l = some { cls := .type "list", data := .seq its.toArray n }) (hf : f its.toArray = its'.toArray) (hv : Vals ys its') (hz : ys.length ≤ sizeLine) :
  Inv X pins σ (upd H l (.lst ys)) { s with heap := s.heap.update l (Obj.mapSeq f), toks := t' } := by
 have q := PySem.IsL.update e f
 rw [hf] at q
 refine I.write (x := l) (e := l) (by rw [hH]; exact trivial) (.inl rfl) (fun b' u hb hu => (Heap.get?_update_other s.heap (Obj.mapSeq f) (Ne.symm hb)).trans hu) ⟨_, q⟩ ?_
 exact ⟨hz, its', _, hv, q⟩
theorem Inv.lnew {its : List Value} {t' : Nat} (I : Inv X pins σ H s) (hv : Vals ys its) (hz : ys.length ≤ sizeLine) :
  Inv X pins σ (upd H s.heap.objs.size (.lst ys)) { s with heap := s.heap.push { cls := .type "list", data := .seq its.toArray }, toks := t' } :=
 I.laid (fun _ _ q => Heap.get?_push_of_some _ q) (Nat.le_refl _) ⟨hz, its, 0, hv, Heap.get?_push_size _ rfl⟩
theorem Inv.fresh (I : Inv X pins σ H s) : H s.heap.objs.size = none := I.hok.fresh (Nat.le_refl _)
theorem Inv.lstM (I : Inv X pins σ H s) (hH : H l = some (.lst xs)) : xs.length ≤ sizeLine ∧ ∃ (its : List Value) (n : Nat), Vals xs its ∧ xs.length = its.length ∧ s.heap.get? l = some { cls := .type "list", data := .seq its.toArray n } := by
 obtain ⟨z, its, n, r, e⟩ := I.hok l _ hH
 exact ⟨z, its, n, r, r.length, e⟩
theorem notLongL {n : Nat} (h : n ≤ sizeLine) : Builtin.List.listTooLong n = false := by
 unfold Builtin.List.listTooLong
 exact decide_eq_false (by omega)
end
section
variable {X : Cx}
def rAppend : V → List V → Hp → VK → Prop := fun x vs H Q => ∃ l xs y, x = .ref l ∧ vs = [y] ∧ H l = some (.lst xs) ∧ xs.length < sizeLine ∧ Q .non (upd H l (.lst (xs ++ [y])))
theorem mt_append : MtM X "list.append" rAppend := by
 intro pins s σ H x vs v us Q I rx rv h
 obtain ⟨l, xs, y, rfl, rfl, hH, hz, q⟩ := h
 cases rx
 obtain ⟨u, rfl, ru⟩ := rv.one
 obtain ⟨z, its, n, r, hl, e⟩ := I.lstM hH
 refine call_meets F.slot_list_append ⟨_, e, rfl⟩ F.entry_list_append (F.args_list_append_2 _ _) (PySem.list_append l its.toArray n u (by rw [List.size_toArray]; omega)) ⟨e, ?_⟩
 refine ⟨.non, _, I.lset (its' := its ++ [u]) hH e (by simp) (r.append (.cons ru .nil)) ?_, rfl, q⟩
 rw [List.length_append, List.length_singleton]
 omega
def rExtend : V → List V → Hp → VK → Prop := fun x vs H Q => ∃ l b xs zs, x = .ref l ∧ vs = [.ref b] ∧ H l = some (.lst xs) ∧ H b = some (.lst zs) ∧ xs.length + zs.length ≤ sizeLine ∧ Q .non (upd H l (.lst (xs ++ zs)))
theorem mt_extend : MtM X "list.extend" rExtend := by
 intro pins s σ H x vs v us Q I rx rv h
 obtain ⟨l, b, xs, zs, rfl, rfl, hH, hB, hz, q⟩ := h
 cases rx
 obtain ⟨u, rfl, ru⟩ := rv.one
 cases ru
 obtain ⟨z, its, n, r, hl, e⟩ := I.lstM hH
 obtain ⟨z2, its2, n2, r2, hl2, e2⟩ := I.lstM hB
 have hsz : its.toArray.size + its2.toArray.size ≤ sizeLine := by rw [List.size_toArray, List.size_toArray]; omega
 have hlong : ¬ (!its.toArray.isEmpty && Builtin.List.listTooLong (its.toArray.size + its2.toArray.size)) = true := by
  rw [notLongL hsz, Bool.and_false]
  exact Bool.false_ne_true
 refine call_meets F.slot_list_extend ⟨_, e, rfl⟩ F.entry_list_extend (F.args_list_extend_2 _ _)
  (AutoSeq1.list_extend_list_list_0 l its.toArray n b its2.toArray n2 hlong (by rw [List.size_toArray]; omega) (by omega)) ⟨e, e2, ?_⟩
 refine ⟨.non, _, I.lset (its' := its ++ its2) hH e (by simp) (r.append r2) ?_, rfl, q⟩
 rw [List.length_append]
 omega
def rCat : R2 := fun x y H Q => ∃ l b xs zs, x = .ref l ∧ y = .ref b ∧ H l = some (.lst xs) ∧ H b = some (.lst zs) ∧ xs.length + zs.length ≤ sizeLine ∧ ∀ p, H p = none → Q (.ref p) (upd H p (.lst (xs ++ zs)))
theorem op_cat : OpR X (binaryOp .Add) rCat := by
 intro pins s σ H x y v u Q I rx ry h
 obtain ⟨l, b, xs, zs, rfl, rfl, hH, hB, hz, q⟩ := h
 cases rx
 cases ry
 obtain ⟨z, its, n, r, hl, e⟩ := I.lstM hH
 obtain ⟨z2, its2, n2, r2, hl2, e2⟩ := I.lstM hB
 refine PySem.P.add_list e e2 ?_ (by rw [List.size_toArray, List.size_toArray]; omega)
 have ea : its.toArray ++ its2.toArray = (its ++ its2).toArray := by simp
 rw [ea]
 exact ⟨.ref _, _, I.lnew (t' := s.toks) (r.append r2) (by rw [List.length_append]; omega), rfl, q _ I.fresh⟩
end
section
variable {prog : Program} {w : World} {A : Around} {E : Value → Shared → Prop} {s : Shared}
set_option maxRecDepth 100000 in
end
section
variable {X : Cx}
end
end L2
namespace Att
open PySem PySem.W PySem.Calls PyProof.Rows
theorem ints_of_wellAll {P : Params} {h : Heap} : ∀ (ns : List Int) (vs : List Value), WellAll P h vs (ns.map WData.int) → IntsAre vs ns := by
 intro ns
 induction ns with
 | nil =>
  intro vs w
  rw [List.map_nil] at w
  cases w
  exact .nil
 | cons n ns ih =>
  intro vs w
  rw [List.map_cons] at w
  cases w with
  | cons a b =>
   cases a
   exact .cons _ _ (ih _ b)
theorem script_of {l : OpenLaw} {n : Nat} (hn : l.most = some n) {P : Params} {h : Heap} {args : List WData} {vals : List Value}
  (hpre : l.row.toRowW.claim.pre args = true) (hwl : WellAll P h vals args) :
  ∃ a vs ns, vals = [Value.ref a] ∧ args = [WData.list (ns.map WData.int)] ∧ h.get? a = some { cls := .type "list", data := .seq vs.toArray } ∧ IntsAre vs ns ∧ ns.length ≤ n := by
 have hsh : WShape.hasAll [] args [.list .int] = true := (pre_splitW hpre).1
 have hc : l.pre.holds [] { args := args } = true := (pre_splitW hpre).2
 obtain ⟨d, r, rfl, h1, h2⟩ := hasAllW_cons hsh
 obtain rfl := hasAllW_nil h2
 obtain ⟨xs, rfl, h3⟩ := hasW_list h1
 obtain ⟨ns, rfl⟩ := items_int h3
 have hlen : ns.length ≤ n := by
  unfold OpenLaw.pre at hc
  have h4 : (WTm.not (.lt (.lit (.int (n : Int))) (.len (.arg 0)))).holds [] { args := [.list (ns.map .int)] } = true := by
   have h4 := (holds_andW hc).1
   rw [hn] at h4
   exact h4
  have h5 := condW_of h4 (w_not (w_lt w_lit (w_len_list (w_arg rfl))))
  rw [List.length_map] at h5
  refine Nat.le_of_not_lt fun q => ?_
  have q' : (n : Int) < ((ns.length : Nat) : Int) := by omega
  first
   | (rw [decide_eq_true q'] at h5; exact absurd h5 (by decide))
   | (simp at h5; omega)
 cases hwl with
 | cons w1 w2 =>
  cases w2
  cases w1 with
  | list ho hall => exact ⟨_, _, ns, rfl, rfl, ho, ints_of_wellAll ns _ hall, hlen⟩
theorem post_true (l : OpenLaw) (args : List WData) : l.row.toRowW.claim.post args (.bool true) args = true :=
 postW_of (r := l.row.toRowW) (X := (true == true))
  (show WShape.has [] (.bool true) .bool = true by first | rfl | decide | simp [WShape.has, WShape.arms, WShape.armsAll])
  (show (WTm.eq .res (.lit (.bool true))).value [] { args := args, res := some (.bool true), after := args } = some (.bool (true == true)) from w_eq_bool (w_res rfl) w_lit) rfl
theorem attach_call {l : OpenLaw} {n : Nat} {q : Program} {loose : List Str} {XP : (Str → Option Value) → Heap → Prop} {YP : World → Heap → Prop} {d : DefRec}
  (hn : l.most = some n) (hdf : d.params.defaults = [])
  (call : ∀ (w : World) (s₀ s₁ : Shared) (mg mb : Str → Option Value) (fa : Addr) (o : Obj) (pm cd doc : Value) (a : Addr) (vs : List Value) (ns : List Int),
   Ground q loose [] XP w s₀ mg mb s₁.heap → YP w s₁.heap →
   s₁.heap.get? fa = some o → o.data = .func (docDef d.name d.params d.body d.scope pm cd doc) → s₁.heap.CodeRec cd d.name → mg d.name = some (.ref fa) →
   s₁.heap.get? a = some { cls := .type "list", data := .seq vs.toArray } → IntsAre vs ns → ns.length ≤ n → s₁.gens = #[] →
   codeAny (model l.prog w) callerA (.call (.ref fa) ⟨[.ref a], []⟩) (fun r s' => r = .ok (.ret (.bool true)) ∧ OldK s₁.heap s'.heap ∧ s'.os = s₁.os ∧ AllBare s'.gens) s₁) :
  WalkO q loose XP YP l.row.toRowW d [] (fun f vs => PySem.call f vs) := by
 intro w s₀ s₁ mg mb G Y fa o pm cd doc dV kV ho hd hcd hD hmg hg args vals as hpre hlay hrd hwl hlo
 obtain rfl : dV = .none := Dflts.none hD hdf
 obtain rfl : kV = .none := Dflts.noKw hD
 obtain ⟨a, vs, ns, rfl, rfl, hobj, hints, hlen⟩ := script_of hn hpre hwl
 refine enter_call (codeAny_mono (call w s₀ s₁ mg mb fa o pm cd doc a vs ns G Y ho (fd_plain hd) hcd hmg hobj hints hlen hg) fun r s' hq => ?_)
 obtain ⟨rfl, h2, h3, h4⟩ := hq
 exact ⟨.inl ⟨.bool true, .bool true, [], rfl, fun _ => rfl, .bool true, post_true l _, fun _ => ⟨List.Pairwise.nil, fun _ hm => (nomatch hm)⟩⟩, h2, h3, h4⟩
section
variable {prog : Program} {w : World} {A : Around} {E : Value → Shared → Prop} {s : Shared} {K : Frag}
end
end Att
namespace L2
open PySem PySem.Spec PyProof.Rows
theorem vals_ints : ∀ {vs : List Value} {ns : List Int}, IntsAre vs ns → Vals (ns.map V.int) vs
 | _, _, .nil => .nil
 | _, _, .cons n t h => .cons ⟨t, rfl⟩ (vals_ints h)
end L2
namespace L2
open PySem PySem.Spec PyProof.Rows
end L2
/- THE LAST THEOREM (shape; LID, My.* are yours):
   My.Adr: a structure of the addresses that your layer names (classes, functions); My.Txt K t: a structure (Prop) of the equations over K;
   My.txt_mk : {K} {implicit addresses ..} (e1 : nsIn K mainGlobals "law" = some (some (.ref f))) (e2 : K.lookup f = some ⟨oc, od, .func (fnOf "law" "law" params body scope dV kV doc pm an cdv ct), sl⟩) (e3 : codeIn K cdv "law" = true) .. : ∃ t, My.Txt K t
set_option maxRecDepth 100000 in
set_option maxHeartbeats 0 in
theorem PySem.Challenge.cw_LID_holds : PySem.Challenge.rw_LID.Holds := by
 w_on; o_law; k_head; (case hw => w_witness2)
 k_fill
 refine L2.walk_of (l := PySem.Challenge.rw_LID) (n := 63) (k := 40) (x := "script") (CX := fun w => ..) (sp := fun _ => My.sp_law) rfl (by decide) rfl ⟨rfl, by decide, by decide⟩ (fun w h Y => PySem.W.kIn_of Y) ?F ?S ?C
 case F =>
  intro w mg fa h KX G hmg
  have T : ∃ t, My.Txt (L2.KOf KX) t := by
   dsimp only [L2.KOf]                          -- K must stand as «<heap const> w.params» for k_is
   refine' My.txt_mk ?e1 ?e2 ?e3 ..
   (case e1 => PySem.W.k_is)                    -- in the order: a name -> its address -> its object -> its parts
   (case e2 => PySem.W.k_is)
   ..
  obtain ⟨t, T⟩ := T
  have e0 := hmg.symm.trans (PySem.W.mg_of KX G T.law)
  cases e0                                       -- fa is the law's own address
  exact ⟨_, fun s u => .of_eq rfl, fun base kb nb => My.law_fn T kb nb⟩     -- if «.of_eq rfl» comes too early: refine' ⟨_, ?b, fun base kb nb => My.law_fn T kb nb⟩; exact fun s u => .of_eq rfl
 case S => exact fun w H a ns hl hO hS => ..
 case C => exact ..
(the tactic k_is has no namespace: write k_is) -/
namespace L2
open PySem PySem.Spec PyProof.Rows
def inClass (s : Stmt) (j : Nat) : Stmt := match s with
 | .ClassDef _ _ _ body _ _ _ _ _ _ _ => body.getD j (.Pass ⟨0, 0, 0, 0⟩)
 | _ => .Pass ⟨0, 0, 0, 0⟩
def defArgs (s : Stmt) : Arguments := match s with
 | .FunctionDef _ a _ _ _ _ _ _ _ _ => a
 | _ => { posonlyargs := [], args := [], vararg := none, kwonlyargs := [], kw_defaults := [], kwarg := none, defaults := [] }
def defBody (s : Stmt) : List Stmt := match s with
 | .FunctionDef _ _ b _ _ _ _ _ _ _ => b
 | _ => []
def defScope (s : Stmt) : Scope := match s with
 | .FunctionDef _ _ _ _ _ _ sc _ _ _ => sc
 | _ => { kind := .function, names := [], isGenerator := false, isCoroutine := false }
abbrev CX0 : CXT := fun _ _ _ _ _ _ => False
abbrev E0 : XK := fun _ _ _ => False
theorem pass0 {X : Cx} : Passes CX0 X E0 := fun _ _ _ _ _ _ _ h => h.elim
structure Fun (K : PySem.W.Frag) (x qual : Str) (st : Stmt) (f : Addr) (fd : FuncData) : Prop where
 ex : ∃ (oc : Value) (od : Option Addr) (kV doc pm : Value) (an : Option Addr) (cdv ct : Value) (osl : Array (Option Value)),
  fd = PySem.W.fnOf x qual (defArgs st) (defBody st) (defScope st) .none kV doc pm an cdv ct ∧ K.lookup f = some ⟨oc, od, .func fd, osl⟩ ∧ PySem.W.codeIn K cdv qual = true
 kp : PySem.W.keepIn K (.ref f) = true
section
variable {P : Program} {w : World} {K : PySem.W.Frag} {mg : Str → Option Value} {base : Heap}
theorem Fun.ok {x qual : Str} {st : Stmt} {f : Addr} {fd : FuncData} {N ps : List Str} {k : Nat} {sp : Sp} (F : Fun K x qual st f fd) (S : FnScope N ps (defScope st)) (len : ∀ vs H Q E, sp vs H Q E → vs.length = ps.length)
  (hbody : ∀ (cdv : Value) (A : Around) (outer : List Env) (s : Shared) (H : Hp) (vs : List V) (Q : VK) (E : XK), Room k (A.deeper (envOfC qual (defScope st) s.heap.objs.size f cdv)) → sp vs H Q E →
   ∃ t, PSs (cxOf CX0 P w K mg base N qual (defScope st) f cdv A outer s H E).nox (defBody st) t ∧ t { nx := fun _ H' => Q .non H', rt := Q } (start N vs) H) : FnOk P w K mg base CX0 (k + 1) f fd ps sp := by
 obtain ⟨oc, od, kV, doc, pm, an, cdv, ct, osl, rfl, lk, hcd⟩ := F.ex
 refine fn_of lk hcd S len fun A outer s H vs Q E hr hsp => ?_
 obtain ⟨t, h, q⟩ := hbody cdv A outer s H vs Q E hr hsp
 exact ⟨t, h.nox, q⟩
theorem Fun.binds {x qual : Str} {st : Stmt} {f : Addr} {fd : FuncData} {ps : List Str} (F : Fun K x qual st f fd)
  (h : ∀ (kV doc pm : Value) (an : Option Addr) (cdv ct : Value) (us : List Value), us.length = ps.length → bindArgs (PySem.W.fnOf x qual (defArgs st) (defBody st) (defScope st) .none kV doc pm an cdv ct) ⟨us, []⟩ = pure (ps.zip us)) : Binds K fd ps [] := by
 obtain ⟨oc, od, kV, doc, pm, an, cdv, ct, osl, rfl, lk, hcd⟩ := F.ex
 exact .all (h kV doc pm an cdv ct)
theorem fun_mk {x qual : Str} {st : Stmt} {f : Addr} {oc : Value} {od an : Option Addr} {osl : Array (Option Value)} {kV doc pm cdv ct : Value} (l : K.lookup f = some ⟨oc, od, .func (PySem.W.fnOf x qual (defArgs st) (defBody st) (defScope st) .none kV doc pm an cdv ct), osl⟩)
  (c : PySem.W.codeIn K cdv qual = true) (k : PySem.W.keepIn K (.ref f) = true) : Fun K x qual st f (PySem.W.fnOf x qual (defArgs st) (defBody st) (defScope st) .none kV doc pm an cdv ct) := ⟨⟨oc, od, kV, doc, pm, an, cdv, ct, osl, rfl, l, c⟩, k⟩
end
theorem hu_of {A : Around} {k : Nat} (hr : Room k A) : A.units + 1 < cLine := Nat.lt_of_le_of_lt (Nat.add_le_add_left (by decide : 1 ≤ 64) _) hr.units
section
variable {X : Cx}
theorem pv (i : Nat) {x : Str} {pos : Pos} (hN : X.N[i]? = some x := by rfl) (hv : Vis X.env.scope x := by first | exact Or.inl rfl | exact Or.inr (Or.inl rfl) | exact Or.inr (Or.inr rfl)) (hd : (x == ("__debug__" : Str)) = false := by decide)
  (hcd : (x == ("__classdict__" : Str)) = false := by decide) : PE X (.Name x pos) (tVar i) := pe_var hN hv hd hcd
end
theorem iteF {A B : Prop} (h : B) : if false = true then A else B := by
 rw [if_neg Bool.false_ne_true]
 exact h
theorem iteT {A B : Prop} (h : A) : if true = true then A else B := by
 rw [if_pos rfl]
 exact h
theorem ite2 {c A B : Prop} [Decidable c] (h1 : c → A) (h2 : ¬ c → B) : if c then A else B := by
 by_cases h : c
 ·rw [if_pos h]
  exact h1 h
 ·rw [if_neg h]
  exact h2 h
theorem iteNS {c A B : Prop} [Decidable c] (hc : c) (h : B) : if (!decide c) = true then A else B := by
 rw [decide_eq_true hc]
 exact iteF h
def Same (H H' : Hp) : Prop := ∀ b o, H b = some o → H' b = some o
theorem Same.refl (H : Hp) : Same H H := fun _ _ h => h
theorem Same.trans {H H1 H2 : Hp} (a : Same H H1) (b : Same H1 H2) : Same H H2 := fun c o h => b c o (a c o h)
theorem Same.free {H H' : Hp} (e : Same H H') {l : Addr} (h : H' l = Option.none) : H l = Option.none := by
 cases q : H l with
 | none => rfl
 | some o =>
  rw [e l o q] at h
  cases h
theorem Same.seq {K : PySem.W.Frag} {H H' : Hp} {a : Addr} {xs : List V} (e : Same H H') (h : SqL K H a xs) : SqL K H' a xs := by
 rcases h with (h | ⟨o, h⟩) | h
 ·exact .inl (.inl (e _ _ h))
 ·exact .inl (.inr ⟨o, e _ _ h⟩)
 ·exact .inr h
end L2
namespace L2
open PySem PySem.Spec PyProof.Rows
def Sm (i : Int) : Prop := i.natAbs.log2 < 4000
theorem Sm.of_lt {i : Int} (h : i.natAbs < 2 ^ 4000) : Sm i := by
 unfold Sm
 by_cases h0 : i.natAbs = 0
 ·rw [h0]
  exact Nat.lt_of_le_of_lt (Nat.le_of_eq (by decide : Nat.log2 0 = 0)) (by decide)
 ·exact (Nat.log2_lt h0).mpr h
theorem Sm.lt {i : Int} (h : Sm i) : i.natAbs < 2 ^ 4000 := by
 unfold Sm at h
 by_cases h0 : i.natAbs = 0
 ·rw [h0]
  exact Nat.two_pow_pos _
 ·exact (Nat.log2_lt h0).mp h
theorem Sm.of_bits {i : Int} {n : Nat} (h : i.natAbs < 2 ^ n) (hn : n ≤ 4000) : Sm i :=
 .of_lt (Nat.lt_of_lt_of_le h (Nat.pow_le_pow_right (by decide) hn))
theorem Sm.bits {i : Int} (h : Sm i) : Builtin.Int.intBits i ≤ 2 ^ 20 := by
 unfold Builtin.Int.intBits
 have : (4000 : Nat) ≤ 2 ^ 20 := by decide
 have h' : i.natAbs.log2 < 4000 := h
 split <;> omega
section
variable {X : Cx}
def CMulS (i j : Int) : Prop := Sm i ∧ Sm j
def CDivS (_ j : Int) : Prop := 0 < j ∧ Sm j
theorem op_mulS : OpR X (binaryOp .Mult) (rI CMulS fun i j => .int (i * j)) := opI fun _ _ _ _ _ _ _ hc q => mul_int q (IntMulOk.of_bits hc.1.bits hc.2.bits)
theorem op_fdivS : OpR X (binaryOp .FloorDiv) (rI CDivS fun i j => .int (i / j)) := opI fun i j _ _ _ _ _ hc q => by
 have e : Int.fdiv i j = i / j := Int.fdiv_eq_ediv_of_nonneg i (Int.le_of_lt hc.1)
 refine floordiv_int (by have := hc.1; omega) ?_ (.inl (PyProof.noPylong_of_log2 (Nat.lt_trans hc.2 (by decide))))
 rw [e]
 exact q
inductive TyO (K : PySem.W.Frag) (H : Hp) : V → Value → Prop where
 | of {x : V} {t : Value} (h : TyOf K H x t) : TyO K H x t
 | sqT {a : Addr} {xs : List V} (h : SqT K H a xs) : TyO K H (.ref a) (.type "tuple")
 | sqL {a : Addr} {xs : List V} (h : SqL K H a xs) : TyO K H (.ref a) (.type "list")
def rIsi (K : PySem.W.Frag) : List V → Hp → VK → Prop := fun xs H Q => match xs with
 | [x, .ty T] => ∃ t b, TyO K H x t ∧ PySem.W.kitOne K t (.type T) = some b ∧ Q (.bl b) H
 | _ => False
theorem call_isi : CallR X (.builtin "isinstance") (rIsi X.K) := by
 intro pins s σ H xs us Q I r h
 unfold rIsi at h
 split at h
 ·rename_i x T
  obtain ⟨t, b, ty, e, q⟩ := h
  obtain ⟨u, v, rfl, ru, rv⟩ := r.two
  cases (show v = Value.type T from rv)
  have fin : ∀ tk, EP X pins σ Q (.bool b) { s with toks := tk } := fun tk => ⟨.bl b, H, I.tok tk, rfl, q⟩
  cases ty with
  | of h => exact isinst_ok I ru h e fin
  | @sqT a ys h =>
   cases (show u = Value.ref a from ru)
   obtain ⟨its, _, p, _⟩ := I.tuple h
   obtain ⟨o, h1, h2, _⟩ := p
   exact PySem.W.kia_one PySem.W.kitx_tuple I.kIn ⟨o, h1, h2⟩ e (fun z => nomatch z) fin
  | @sqL a ys h =>
   cases (show u = Value.ref a from ru)
   obtain ⟨its, _, p, _⟩ := I.list h
   obtain ⟨o, n, h1, h2, _⟩ := p
   exact PySem.W.kia_one PySem.W.kitx_list I.kIn ⟨o, h1, h2⟩ e (fun z => nomatch z) fin
 ·exact h.elim
def tIsi (K : PySem.W.Frag) (T : String) (te : TE) : TE := tCB (rIsi K) (tCons te (tCons (tC (.ty T)) tNil))
theorem pe_isi {e : Expr} {te : TE} {T : String} {tx : Str} {p p2 pos : Pos} (he : PE X e te) (hg : Gl X "isinstance") (hm : X.mg "isinstance" = none) (hg2 : Gl X tx) (hm2 : X.mg tx = none)
  (hv : bootBuiltins tx = some (.type T)) (hn : tx ≠ "__name__" := by decide) (hd : (tx == ("__debug__" : Str)) = false := by decide)
  (h1 : starEach [e, .Name tx p2] X.env = (false, eval e X.env) :: starEach [.Name tx p2] X.env := by rfl) :
  PE X (.Call (.Name "isinstance" p) [e, .Name tx p2] [] pos) (tIsi X.K T te) :=
 pe_callB (call_isi (X := X)) hg hm PyProof.Rows.boot_isinstance (pa_cons he (pa_cons (pe_bltn (v := .ty T) hg2 hm2 hv rfl hn hd) pa_nil) h1) (he := h1)
theorem kit_int (K : PySem.W.Frag) : PySem.W.kitOne K (.type "int") (.type "int") = some true := rfl
theorem kit_int_bool (K : PySem.W.Frag) : PySem.W.kitOne K (.type "int") (.type "bool") = some false := by kernel_rfl
theorem kit_tuple (K : PySem.W.Frag) : PySem.W.kitOne K (.type "tuple") (.type "tuple") = some true := rfl
theorem kit_list (K : PySem.W.Frag) : PySem.W.kitOne K (.type "list") (.type "list") = some true := rfl
end
def rpInt (_ : Hp) (x : V) (i : Int) : Prop := x = .int i
def rpPair {α β : Type} (K : PySem.W.Frag) (R : Hp → V → α → Prop) (S : Hp → V → β → Prop) (H : Hp) (x : V) (d : α × β) : Prop := ∃ p y z, x = .ref p ∧ SqT K H p [y, z] ∧ R H y d.1 ∧ S H z d.2
def rpLst {α : Type} (K : PySem.W.Frag) (R : Hp → V → α → Prop) (H : Hp) (x : V) (ds : List α) : Prop := ∃ p ys, x = .ref p ∧ SqL K H p ys ∧ Paired (R H) ys ds
structure RpE {α : Type} [DecidableEq α] (K : PySem.W.Frag) (R : Hp → V → α → Prop) (d : Nat) : Prop where
 inj : ∀ {X : Cx} {pins : List (Addr × Obj)} {σ : St} {H : Hp} {s : Shared} {x : V} {a b : α}, X.K = K → Inv X pins σ H s → R H x a → R H x b → a = b
 eq : ∀ {X : Cx} {pins : List (Addr × Obj)} {σ : St} {H : Hp} {s : Shared} {A : Around} {x y : V} {u v : Value} {a b : α}, X.K = K → Inv X pins σ H s → A.units + d < cLine → R H x a → R H y b → RelV x u → RelV y v → SeqAt.EqAt A s u v (decide (a = b))
theorem Paired.get {α β : Type} {F : α → β → Prop} : ∀ {xs : List α} {ys : List β}, Paired F xs ys → ∀ (i : Nat) (x : α) (y : β), xs[i]? = some x → ys[i]? = some y → F x y
 | _, _, .nil, i, x, y, h, _ => by simp at h
 | _, _, .cons r _, 0, x, y, h1, h2 => by
  simp at h1 h2
  subst h1 h2
  exact r
 | _, _, .cons _ t, i + 1, x, y, h1, h2 => Paired.get t i x y (by simpa using h1) (by simpa using h2)
theorem rpe_int {K : PySem.W.Frag} : RpE K rpInt 0 where
 inj := fun _ _ h1 h2 => by
  have h : V.int _ = V.int _ := h1.symm.trans h2
  exact V.int.inj h
 eq := fun {X pins σ H s A x y u v a b} _ _ _ h1 h2 r1 r2 => by
  cases (show x = .int a from h1)
  cases (show y = .int b from h2)
  obtain ⟨t, rfl⟩ := (show ∃ t, u = Value.int a t from r1)
  obtain ⟨t', rfl⟩ := (show ∃ t, v = Value.int b t from r2)
  have e : (a == b) = decide (a = b) := Bool.beq_eq_decide_eq a b
  rw [← e]
  exact SeqAt.EqAt.int_int a t b t'
section
variable {α β : Type} [DecidableEq α] [DecidableEq β] {K : PySem.W.Frag} {R : Hp → V → α → Prop} {S : Hp → V → β → Prop} {d : Nat} {X : Cx} {pins : List (Addr × Obj)} {σ : St} {H : Hp} {s : Shared} {A : Around}
theorem in1_units (A : Around) : A.in1.units = A.units + 1 := rfl
theorem pair_items (hR : RpE K R d) (hS : RpE K S d) (hK : X.K = K) (I : Inv X pins σ H s) (hu : A.units + (d + 1) < cLine) {y z y' z' : V} {its its' : List Value} {c c' : α × β} (r : Vals [y, z] its) (r' : Vals [y', z'] its')
  (h1 : R H y c.1) (h2 : S H z c.2) (h1' : R H y' c'.1) (h2' : S H z' c'.2) :
  ∃ e : Nat → Bool, (∀ j (q1 : j < its.toArray.size) (q2 : j < its'.toArray.size), SeqAt.EqAt A.in1 s its.toArray[j] its'.toArray[j] (e j)) ∧ ((List.range (min its.toArray.size its'.toArray.size)).all e && its.toArray.size == its'.toArray.size) = decide (c = c') := by
 obtain ⟨u1, u2, rfl, q1, q2⟩ := r.two
 obtain ⟨u1', u2', rfl, q1', q2'⟩ := r'.two
 have hu' : A.in1.units + d < cLine := by rw [in1_units]; omega
 have e1 := hR.eq (A := A.in1) hK I hu' h1 h1' q1 q1'
 have e2 := hS.eq (A := A.in1) hK I hu' h2 h2' q2 q2'
 refine ⟨fun j => match j with | 0 => decide (c.1 = c'.1) | _ => decide (c.2 = c'.2), fun j z1 z2 => ?_, ?_⟩
 ·match j, z1, z2 with
  | 0, _, _ => exact e1
  | 1, _, _ => exact e2
 ·obtain ⟨a, b⟩ := c
  obtain ⟨a', b'⟩ := c'
  show (((List.range 2).all _) && true) = _
  rw [show List.range 2 = [0, 1] from rfl, Bool.and_true]
  simp only [List.all_cons, List.all_nil, Bool.and_true, Prod.mk.injEq]
  exact (Bool.decide_and _ _).symm
theorem lst_items (hR : RpE K R d) (hK : X.K = K) (I : Inv X pins σ H s) (hu : A.units + (d + 1) < cLine) {ys ys' : List V} {its its' : List Value} {ds ds' : List α} (r : Vals ys its) (r' : Vals ys' its')
  (h : Paired (R H) ys ds) (h' : Paired (R H) ys' ds') :
  ∀ j (q1 : j < its.toArray.size) (q2 : j < its'.toArray.size), SeqAt.EqAt A.in1 s its.toArray[j] its'.toArray[j] (decide (ds[j]? = ds'[j]?)) := by
 intro j q1 q2
 rw [List.size_toArray] at q1 q2
 have hu' : A.in1.units + d < cLine := by rw [in1_units]; omega
 have l1 := r.length
 have l2 := h.length
 have l1' := r'.length
 have l2' := h'.length
 have g1 : ys[j]? = some (ys[j]'(by omega)) := List.getElem?_eq_getElem _
 have g2 : ds[j]? = some (ds[j]'(by omega)) := List.getElem?_eq_getElem _
 have g1' : ys'[j]? = some (ys'[j]'(by omega)) := List.getElem?_eq_getElem _
 have g2' : ds'[j]? = some (ds'[j]'(by omega)) := List.getElem?_eq_getElem _
 obtain ⟨u, gu, ru⟩ := r.get g1
 obtain ⟨u', gu', ru'⟩ := r'.get g1'
 have a1 := Paired.get h j _ _ g1 g2
 have a1' := Paired.get h' j _ _ g1' g2'
 have eu : its.toArray[j] = u := by
  rw [List.getElem_toArray]
  exact Option.some.inj ((List.getElem?_eq_getElem q1).symm.trans gu)
 have eu' : its'.toArray[j] = u' := by
  rw [List.getElem_toArray]
  exact Option.some.inj ((List.getElem?_eq_getElem q2).symm.trans gu')
 rw [eu, eu', g2, g2']
 have e := hR.eq (A := A.in1) hK I hu' a1 a1' ru ru'
 have ed : decide (some (ds[j]'(by omega)) = some (ds'[j]'(by omega))) = decide ((ds[j]'(by omega)) = (ds'[j]'(by omega))) := by
  simp only [Option.some.injEq]
 rw [ed]
 exact e
theorem all_same {ds ds' : List α} (hl : ds.length = ds'.length) : (List.range ds.length).all (fun j => decide (ds[j]? = ds'[j]?)) = decide (ds = ds') := by
 by_cases h : ds = ds'
 ·subst h
  simp
 ·rw [decide_eq_false h]
  cases e : (List.range ds.length).all (fun j => decide (ds[j]? = ds'[j]?)) with
  | false => rfl
  | true =>
   exfalso
   refine h (List.ext_getElem? fun j => ?_)
   by_cases hj : j < ds.length
   ·exact of_decide_eq_true (List.all_eq_true.mp e j (List.mem_range.mpr hj))
   ·rw [List.getElem?_eq_none (by omega), List.getElem?_eq_none (by omega)]
theorem rc_lst (hR : RpE K R d) (hK : X.K = K) (I : Inv X pins σ H s) (hu : A.units + (d + 1) < cLine) {p p' : Addr} {ys ys' : List V} {ds ds' : List α} (q : SqL K H p ys) (q' : SqL K H p' ys')
  (h : Paired (R H) ys ds) (h' : Paired (R H) ys' ds') : SeqAt.RcAt A s (.ref p) (.ref p') (decide (ds = ds')) ∧ SeqAt.RcNeAt A s (.ref p) (.ref p') (!decide (ds = ds')) := by
 have q0 : SqL X.K H p ys := hK ▸ q
 have q0' : SqL X.K H p' ys' := hK ▸ q'
 obtain ⟨its, rr, pt, _⟩ := I.list q0
 obtain ⟨its', rr', pt', _⟩ := I.list q0'
 have l1 := rr.length
 have l2 := h.length
 have l1' := rr'.length
 have l2' := h'.length
 by_cases hl : ds.length = ds'.length
 ·have hs : its.toArray.size = its'.toArray.size := by simp only [List.size_toArray]; omega
  have en : its.toArray.size = ds.length := by simp only [List.size_toArray]; omega
  have it := lst_items hR hK I hu rr rr' h h'
  have ea := all_same hl
  refine ⟨?_, ?_⟩
  ·rw [← ea, ← en]
   exact SeqAt.RcAt.lists pt.isList pt'.isList hs (by omega) it
  ·rw [← ea, ← en]
   exact SeqAt.RcNeAt.lists pt.isList pt'.isList hs (by omega) it
 ·have hne : ds ≠ ds' := fun e => hl (by rw [e])
  have hs : (its.toArray.size != its'.toArray.size) = true := by
   simp only [List.size_toArray]
   exact bne_iff_ne.mpr (by omega)
  rw [decide_eq_false hne]
  exact ⟨SeqAt.RcAt.lists_lengths pt.isList pt'.isList hs (by omega), SeqAt.RcNeAt.lists_lengths pt.isList pt'.isList hs (by omega)⟩
end
def rEqP {α β : Type} [DecidableEq α] [DecidableEq β] (K : PySem.W.Frag) (R : Hp → V → α → Prop) (S : Hp → V → β → Prop) : R2 := fun x y H Q => ∃ a b, rpPair K R S H x a ∧ rpPair K R S H y b ∧ Q (.bl (decide (a = b))) H
def rNeP {α β : Type} [DecidableEq α] [DecidableEq β] (K : PySem.W.Frag) (R : Hp → V → α → Prop) (S : Hp → V → β → Prop) : R2 := fun x y H Q => ∃ a b, rpPair K R S H x a ∧ rpPair K R S H y b ∧ Q (.bl (!decide (a = b))) H
def rEqL {α : Type} [DecidableEq α] (K : PySem.W.Frag) (R : Hp → V → α → Prop) : R2 := fun x y H Q => ∃ a b, rpLst K R H x a ∧ rpLst K R H y b ∧ Q (.bl (decide (a = b))) H
section
variable {α β : Type} [DecidableEq α] [DecidableEq β] {R : Hp → V → α → Prop} {S : Hp → V → β → Prop} {d : Nat} {X : Cx}
theorem op_eqP (hR : RpE X.K R d) (hS : RpE X.K S d) (hu : X.A.units + (d + 1) < cLine) : OpR X (compareOp .Eq) (rEqP X.K R S) := by
 intro pins s σ H x y v u Q I rx ry h
 obtain ⟨c, c', ⟨p, y1, z1, rfl, q, h1, h2⟩, ⟨p', y2, z2, rfl, q', h1', h2'⟩, k⟩ := h
 cases (show v = Value.ref p from rx)
 cases (show u = Value.ref p' from ry)
 obtain ⟨its, rr, pt, _⟩ := I.tuple q
 obtain ⟨its', rr', pt', _⟩ := I.tuple q'
 obtain ⟨e, he, ee⟩ := pair_items hR hS rfl I hu rr rr' h1 h2 h1' h2'
 refine SeqAt.eq_tupleAt pt pt' (by omega) he ⟨.bl _, H, I, rfl, ?_⟩
 rw [ee]
 exact k
theorem op_neP (hR : RpE X.K R d) (hS : RpE X.K S d) (hu : X.A.units + (d + 1) < cLine) : OpR X (compareOp .NotEq) (rNeP X.K R S) := by
 intro pins s σ H x y v u Q I rx ry h
 obtain ⟨c, c', ⟨p, y1, z1, rfl, q, h1, h2⟩, ⟨p', y2, z2, rfl, q', h1', h2'⟩, k⟩ := h
 cases (show v = Value.ref p from rx)
 cases (show u = Value.ref p' from ry)
 obtain ⟨its, rr, pt, _⟩ := I.tuple q
 obtain ⟨its', rr', pt', _⟩ := I.tuple q'
 obtain ⟨e, he, ee⟩ := pair_items hR hS rfl I hu rr rr' h1 h2 h1' h2'
 refine SeqAt.RcNeAt.tuples pt pt' (by omega) he X.prog X.w X.xe _ ⟨.bl _, H, I, rfl, ?_⟩
 rw [ee]
 exact k
theorem op_eqL (hR : RpE X.K R d) (hu : X.A.units + (d + 1) < cLine) : OpR X (compareOp .Eq) (rEqL X.K R) := by
 intro pins s σ H x y v u Q I rx ry h
 obtain ⟨c, c', ⟨p, y1, rfl, q, h1⟩, ⟨p', y2, rfl, q', h1'⟩, k⟩ := h
 cases (show v = Value.ref p from rx)
 cases (show u = Value.ref p' from ry)
 exact (rc_lst hR rfl I hu q q' h1 h1').1 X.prog X.w X.xe _ ⟨.bl _, H, I, rfl, k⟩
end
end L2
namespace L2
open PySem PySem.Spec PyProof.Rows
section
variable {prog : Program} {w : World} {A : Around} {R : Result → Shared → Prop} {s : Shared}
theorem compLoop_any {elt target iter : Expr} {ifs : List Expr} {scope : Scope} {pos : Pos} {it acc : Value} {env : Env} (I : Nat → Shared → Prop)
  (turn : ∀ n s, I n s → wpAny (model prog w) A (pyNext it) (fun r s₁ => match r with
   | none => R (.ok .next) s₁
   | some v => wpAny (model prog w) A (letOwnedTupleGo target it v) (fun _ s₁' => wpAny (model prog w) A (assign target env v) (fun _ s₂ =>
     wpAny (model prog w) A (forIn ifs true fun c r => if r = true then do let ok ← isTrue c env (eval c env); pure (ForInStep.yield ok) else pure (ForInStep.yield r)) (fun ok s₃ =>
      if ok = true then wpAny (model prog w) A (eval elt env) (fun x s₄ =>
       wpAny (model prog w) A (call (.builtin "list.append") [acc, x]) (fun _ s₅ => ∃ m, m < n ∧ I m s₅) (fun _ _ => False) s₄) (fun _ _ => False) s₃
      else ∃ m, m < n ∧ I m s₃) (fun _ _ => False) s₂) (fun _ _ => False) s₁') (fun _ _ => False) s₁) (fun _ _ => False) s)
  (n : Nat) (h : I n s) :
  codeAny (model prog w) A (.compLoop (.ListComp elt [⟨target, iter, ifs, 0⟩] scope pos) 0 it acc env) R s := by
 refine codeAny_loop rfl I (fun n s hI => ?_) n h
 show wpAny _ A ((compTurn (.ListComp elt [⟨target, iter, ifs, 0⟩] scope pos) 0 it acc env).onRaise (fun x => do noteFrame x env; theTreesLotGoes x)) _ _ s
 refine wpAny_noted ?_
 rw [compTurn_list]
 refine wpAny_bind (wpAny_standAt (wpAny_bind (wpAny_mono (turn n s hI) (fun r s₁ h₁ => ?_) fun _ _ h' => h'.elim)))
 cases r with
 | none => exact wpAny_pure h₁
 | some v =>
  refine wpAny_bind (wpAny_mono h₁ (fun _ s₁' h₁' => ?_) fun _ _ h' => h'.elim)
  refine wpAny_bind (wpAny_mono h₁' (fun _ s₂ h₂ => wpAny_bind (wpAny_mono h₂ (fun ok s₃ h₃ => ?_) fun _ _ h' => h'.elim)) fun _ _ h' => h'.elim)
  cases ok with
  | false => exact wpAny_pure ⟨rfl, h₃⟩
  | true =>
   exact wpAny_bind (wpAny_bind (wpAny_mono h₃ (fun x s₄ h₄ => wpAny_bind (wpAny_mono h₄ (fun _ s₅ h₅ => wpAny_pure (wpAny_pure ⟨rfl, h₅⟩)) fun _ _ h' => h'.elim)) fun _ _ h' => h'.elim))
end
structure CS where
 s : Shared
 H : Hp
 fp : List Addr
def compCx (X : Cx) (N : List Str) (sc : Scope) (cl : List (Str × Addr)) (s : Shared) (H : Hp) (fp : List Addr) : Cx where
 prog := X.prog
 w := X.w
 K := X.K
 mg := X.mg
 base := X.base
 A := X.A
 N := N
 s₀ := s
 H₀ := H
 env := compEnvC sc cl s.heap.objs.size X.env
 outer := X.stack
 stack := X.stack
 ex := fp
 fn := fun _ => false
 calm := X.calm
 pn := []
 xe := fun _ _ => False
def FreeOk (X : Cx) (sc : Scope) : List Str → List Nat → Prop
 | [], [] => True
 | x :: F, j :: js => (X.N[j]? = some x ∧ sc.names.lookup x = some .free ∧ (X.env.scope.names.lookup x = some .cell ∨ X.env.scope.names.lookup x = some .free)) ∧ FreeOk X sc F js
 | _, _ => False
def ClOk (X : Cx) : List (Str × Addr) → Prop
 | [] => True
 | p :: r => X.env.cells.lookup p.1 = some p.2 ∧ ClOk X r
structure CompOk (X : Cx) (sc : Scope) (cl : List (Str × Addr)) (F : List Str) (js : List Nat) : Prop where
 kind : sc.kind = .function
 cell : ∀ y ∈ sc.names, y.2 ≠ .cell
 names : ∀ y ∈ sc.names, y.2 = .local → sc.names.lookup y.1 = some .local
 clos : closureFor sc X.env = pure cl
 cls : ClOk X cl
 has : ∀ y ∈ sc.names, y.2 = .free → ∃ c, cl.lookup y.1 = some c
 free : FreeOk X sc F js
theorem FreeOk.len {X : Cx} {sc : Scope} : ∀ {F : List Str} {js : List Nat}, FreeOk X sc F js → F.length = js.length
 | [], [], _ => rfl
 | _ :: _, _ :: _, h => congrArg (· + 1) (FreeOk.len h.2)
 | [], _ :: _, h => h.elim
 | _ :: _, [], h => h.elim
theorem FreeOk.get {X : Cx} {sc : Scope} : ∀ {F : List Str} {js : List Nat} {k : Nat} {x : Str}, FreeOk X sc F js → F[k]? = some x →
  ∃ j, js[k]? = some j ∧ X.N[j]? = some x ∧ sc.names.lookup x = some .free ∧ (X.env.scope.names.lookup x = some .cell ∨ X.env.scope.names.lookup x = some .free)
 | [], [], k, x, _, h => by simp at h
 | y :: F, j :: js, 0, x, h, e => by
  simp at e
  subst e
  exact ⟨j, rfl, h.1⟩
 | y :: F, j :: js, k + 1, x, h, e => by
  obtain ⟨j', e1, e2⟩ := FreeOk.get (k := k) h.2 (by simpa using e)
  exact ⟨j', by simpa using e1, e2⟩
 | [], _ :: _, _, _, h, _ => h.elim
 | _ :: _, [], _, _, h, _ => h.elim
theorem ClOk.get {X : Cx} : ∀ {cl : List (Str × Addr)} {x : Str} {c : Addr}, ClOk X cl → cl.lookup x = some c → X.env.cells.lookup x = some c
 | [], _, _, _, e => by simp at e
 | (n, a) :: r, x, c, h, e => by
  rw [List.lookup_cons] at e
  cases hx : x == n with
  | true =>
   rw [hx] at e
   have e1 : x = n := beq_iff_eq.mp hx
   have e2 : a = c := Option.some.inj e
   subst e1 e2
   exact h.1
  | false =>
   rw [hx] at e
   exact ClOk.get h.2 e
theorem lookup_relabel {env : Env} : ∀ {names : List (Str × NameKind)} {x : Str} {k : NameKind},
  (names.map fun (n, k) => if (k == NameKind.free && env.scope.kind == .function && env.kindOf n == some .cell) then (n, NameKind.cell) else (n, k)).lookup x = some k →
  names.lookup x = some k ∨ (names.lookup x = some .free ∧ k = .cell)
 | [], _, _, h => by simp at h
 | (n, k0) :: r, x, k, h => by
  have ih := @lookup_relabel env r x k
  have h' : List.lookup x ((if (k0 == NameKind.free && env.scope.kind == .function && env.kindOf n == some .cell) = true then (n, NameKind.cell) else (n, k0)) :: (r.map fun (n, k) => if (k == NameKind.free && env.scope.kind == .function && env.kindOf n == some .cell) then (n, NameKind.cell) else (n, k))) = some k := h
  by_cases hc : (k0 == NameKind.free && env.scope.kind == .function && env.kindOf n == some .cell) = true
  ·rw [if_pos hc, List.lookup_cons] at h'
   rw [List.lookup_cons]
   cases hx : x == n with
   | true =>
    rw [hx] at h'
    have e : NameKind.cell = k := Option.some.inj h'
    have hf : (k0 == NameKind.free) = true := by
     rw [Bool.and_eq_true, Bool.and_eq_true] at hc
     exact hc.1.1
    have hf' : k0 = NameKind.free := by simpa using hf
    exact .inr ⟨by rw [hf'], e.symm⟩
   | false =>
    rw [hx] at h'
    exact ih h'
  ·rw [if_neg hc, List.lookup_cons] at h'
   rw [List.lookup_cons]
   cases hx : x == n with
   | true =>
    rw [hx] at h'
    exact .inl h'
   | false =>
    rw [hx] at h'
    exact ih h'
theorem lookup_relabel_free {env : Env} : ∀ {names : List (Str × NameKind)} {x : Str}, names.lookup x = some .free →
  (names.map fun (n, k) => if (k == NameKind.free && env.scope.kind == .function && env.kindOf n == some .cell) then (n, NameKind.cell) else (n, k)).lookup x = some .cell ∨
  (names.map fun (n, k) => if (k == NameKind.free && env.scope.kind == .function && env.kindOf n == some .cell) then (n, NameKind.cell) else (n, k)).lookup x = some .free
 | [], _, h => by simp at h
 | (n, k0) :: r, x, h => by
  have ih := @lookup_relabel_free env r x
  show List.lookup x ((if (k0 == NameKind.free && env.scope.kind == .function && env.kindOf n == some .cell) = true then (n, NameKind.cell) else (n, k0)) :: (r.map fun (n, k) => if (k == NameKind.free && env.scope.kind == .function && env.kindOf n == some .cell) then (n, NameKind.cell) else (n, k))) = some .cell ∨
   List.lookup x ((if (k0 == NameKind.free && env.scope.kind == .function && env.kindOf n == some .cell) = true then (n, NameKind.cell) else (n, k0)) :: (r.map fun (n, k) => if (k == NameKind.free && env.scope.kind == .function && env.kindOf n == some .cell) then (n, NameKind.cell) else (n, k))) = some .free
  rw [List.lookup_cons] at h
  by_cases hc : (k0 == NameKind.free && env.scope.kind == .function && env.kindOf n == some .cell) = true
  ·rw [if_pos hc, List.lookup_cons]
   cases hx : x == n with
   | true => exact .inl rfl
   | false =>
    rw [hx] at h
    exact ih h
  ·rw [if_neg hc, List.lookup_cons]
   cases hx : x == n with
   | true =>
    rw [hx] at h
    exact .inr h
   | false =>
    rw [hx] at h
    exact ih h
section
variable {X : Cx} {pins : List (Addr × Obj)} {σ : St} {H : Hp} {s : Shared} {sc : Scope} {cl : List (Str × Addr)} {T F : List Str} {js : List Nat} {fp : List Addr}
theorem CompOk.hasC (C : CompOk X sc cl F js) {x : Str} (h : (relabel sc X.env).names.lookup x = some .cell ∨ (relabel sc X.env).names.lookup x = some .free) : ∃ c, cl.lookup x = some c := by
 have key : ∀ k, (relabel sc X.env).names.lookup x = some k → (k = .cell ∨ k = .free) → ∃ c, cl.lookup x = some c := fun k e hk => by
  rcases lookup_relabel e with e | ⟨e, _⟩
  ·have m := PySem.mem_of_lookup e
   rcases hk with rfl | rfl
   ·exact absurd rfl (C.cell _ m)
   ·exact C.has _ m rfl
  ·exact C.has _ (PySem.mem_of_lookup e) rfl
 rcases h with h | h
 ·exact key _ h (.inl rfl)
 ·exact key _ h (.inr rfl)
theorem comp_ok (C : CompOk X sc cl F js) (I : Inv X pins σ H s) (f : ∀ b ∈ fp, FpOk X pins H b) (fl : ∀ b ∈ fp, b < s.heap.objs.size) (N : List Str) : (compCx X N sc cl s H fp).Ok where
 mod := I.ok.mod
 kind := C.kind
 glob := I.ok.glob
 blt := I.ok.blt
 above := Nat.le_refl _
 inj := fun x y c h1 h2 => I.ok.inj x y c (C.cls.get h1) (C.cls.get h2)
 has := fun x h => C.hasC h
 cab := fun x c h _ => absurd (show false = true from h) Bool.false_ne_true
 hd := I.ok.hd
 frames := I.ok.frames
 stk := .inl rfl
 exf := fun b hb => ⟨Nat.ne_of_lt (fl b hb), fun x c e => (f b hb).2.2.2.2.1 x c (C.cls.get e)⟩
 bs := I.bs
 bsz := Nat.le_trans I.ok.bsz I.sz
 noex := fun b o e hb => by
  rcases (f b hb).2.2.2.1 with z | z
  ·exact I.ok.noex b o e z
  ·exact absurd (Nat.lt_of_lt_of_le (Heap.lt_size (I.ok.bs b o e).1) z) (Nat.lt_irrefl _)
 exfs := fun b hb hz => by
  rcases List.mem_cons.mp (I.stkSub b hz) with e | hz
  ·exact (f b hb).2.1 e
  ·exact (f b hb).2.2.1 hz
 funs := I.stack
 frf := I.stkFree
def compSt (n : Nat) (js : List Nat) (σ : St) : St := List.replicate n none ++ js.map fun j => (σ[j]?).join
theorem inv_comp (C : CompOk X sc cl F js) (I : Inv X pins σ H s) (f : ∀ b ∈ fp, FpOk X pins H b) (fl : ∀ b ∈ fp, b < s.heap.objs.size) {h' : Heap} {tk : Nat} {m : Str → Option Value} (hn : h'.Ns s.heap.objs.size m)
  (old : ∀ b o, s.heap.get? b = some o → h'.get? b = some o) : Inv (compCx X (T ++ F) sc cl s H fp) [] (compSt T.length js σ) H { s with heap := h', toks := tk } := by
 have el := C.free.len
 refine ⟨comp_ok C I f fl _, rfl, I.bare, Un.kept old, ⟨m, hn, fun i x v e1 e2 e3 => ?_⟩, fun x c e => ?_, I.hok.fresh (Nat.le_refl _), fun x c e => I.freeC x c (C.cls.get e), fun p hp => absurd (show p ∈ ([] : List (Addr × Obj)) from hp) (by simp), I.hok.kept old, ?_⟩
 ·have e1' : (T ++ F)[i]? = some x := e1
  have hi : T.length ≤ i := by
   rcases Nat.lt_or_ge i T.length with hi | hi
   ·unfold compSt at e2
    rw [List.getElem?_append_left (by simpa using hi), List.getElem?_replicate, if_pos hi] at e2
    cases e2
   ·exact hi
  rw [List.getElem?_append_right hi] at e1'
  obtain ⟨j, ej, eN, ef, ek⟩ := C.free.get e1'
  unfold compSt at e2
  rw [List.getElem?_append_right (by simpa using hi), List.length_replicate, List.getElem?_map, ej] at e2
  have e2' : (σ[j]?).join = some v := Option.some.inj e2
  have e2'' : σ[j]? = some (some v) := by
   cases q : σ[j]? with
   | none => rw [q] at e2'; cases e2'
   | some o => rw [q] at e2'; exact congrArg some e2'
  obtain ⟨m3, hn3, hl3⟩ := I.loc
  obtain ⟨u, r, l⟩ := hl3 j x v eN e2'' (by rcases ek with k | k; exact .inr (.inl k); exact .inr (.inr k))
  refine ⟨u, r, ?_⟩
  rcases l with ⟨k, _⟩ | ⟨k, c, e, z⟩
  ·have k' : X.env.scope.names.lookup x = some .local := k
   rcases ek with q | q <;> rw [q] at k' <;> cases k'
  ·have hk := lookup_relabel_free (env := X.env) ef
   obtain ⟨c', hc'⟩ := C.hasC (x := x) hk
   have := C.cls.get hc'
   rw [e] at this
   cases this
   obtain ⟨o, ho, hd⟩ := z
   exact .inr ⟨hk, c, hc', o, old _ _ ho, hd⟩
 ·obtain ⟨v, o, ho, hd⟩ := I.cell x c (C.cls.get e)
  exact ⟨v, o, old _ _ ho, hd⟩
 ·unfold compSt
  show _ = (T ++ F).length
  rw [List.length_append, List.length_append, List.length_replicate, List.length_map]
  omega
theorem comp_back (I : Inv X pins σ H s) (f : ∀ b ∈ fp, FpOk X pins H b) {N : List Str} {σ' : St} {H' : Hp} {s1 : Shared} (J : Inv (compCx X N sc cl s H fp) [] σ' H' s1) : Inv X pins σ H' s1 :=
 I.call' (s' := s1) (ch := fp) J.os J.base J.hok J.bare fun b hb => ⟨(f b hb).2.2.2.1, (f b hb).2.1, (f b hb).2.2.2.2.1, (f b hb).2.2.2.2.2⟩
structure Gone (X : Cx) (pins : List (Addr × Obj)) (H : Hp) (C : Addr) : Prop where
 no : H C = none
 loc : C ≠ X.env.locals
 old : X.s₀.heap.objs.size ≤ C
 cell : ∀ x c, X.env.cells.lookup x = some c → c ≠ C
 pin : ∀ p ∈ X.pn ++ pins, p.1 ≠ C
theorem Gone.of (I : Inv X pins σ H s) {H' : Hp} (h : H' s.heap.objs.size = none) : Gone X pins H' s.heap.objs.size where
 no := h
 loc := Nat.ne_of_gt I.lt
 old := I.sz
 cell := fun x c e z => by
  obtain ⟨v, o, ho, _⟩ := I.cell x c e
  exact absurd (Heap.lt_size ho) (by rw [z]; exact Nat.lt_irrefl _)
 pin := fun p hp z => absurd (Heap.lt_size (I.pin p hp).1) (by rw [z]; exact Nat.lt_irrefl _)
theorem Gone.let {C : Addr} (G : Gone X pins H C) (I : Inv X pins σ H s) {h' : Heap} (hs : Heap.SameBut C s.heap h') : Inv X pins σ H { s with heap := h' } :=
 I.turned (t' := s.toks) (fun b o hb e => (hs.2 b hb).trans e) G.no G.loc (.inr G.old) G.cell G.pin
end
def PIfs (X : Cx) (ifs : List Expr) (t : TT) : Prop :=
 ∀ (pins : List (Addr × Obj)) (s : Shared) (σ : St) (H : Hp) (Q : Bool → Hp → Prop), Inv X pins σ H s → t σ H Q →
  wpAny (model X.prog X.w) X.A (forIn ifs true fun c r => if r = true then do let ok ← isTrue c X.env (eval c X.env); pure (ForInStep.yield ok) else pure (ForInStep.yield r)) (TP X pins σ Q) X.xe s
def tNoIf : TT := fun _ H Q => Q true H
theorem pifs_nil {X : Cx} : PIfs X [] tNoIf := fun _ _ _ H _ I h => wpAny_tests_nil ⟨H, I, h⟩
def tComp (n : Nat) (js : List Nat) (wi : TI) (g : CS → TG) (tc : CS → TT) (te : CS → TE) : TE := fun σ H Q => wi σ H fun J H1 => ∀ D, H1 D = none → ∃ W : Nat → Nat → List V → St → Hp → Prop, (∃ m, W 0 m [] (compSt n js σ) (upd H1 D (.lst []))) ∧
 ∀ i m ys σ' H', W i m ys σ' H' → H' D = some (.lst ys) ∧ ((J.stop i H' ∧ Q (.ref D) H') ∨ (J.go i H' ∧ ys.length < sizeLine ∧ ∃ N : List V → St → Hp → Prop, (∀ ys' σ'' H'', N ys' σ'' H'' → ∃ m', m' < m ∧ W (i + 1) m' ys' σ'' H'') ∧
  ∀ x H2, J.yld i H' x H2 → ∀ c : CS, g c x σ' H2 fun σ2 H3 => tc c σ2 H3 fun b H4 => if b = true then te c σ2 H4 fun v H5 => H5 D = some (.lst ys) ∧ N (ys ++ [v]) σ2 (upd H5 D (.lst (ys ++ [v]))) else N ys σ2 H4))
section
variable {X : Cx} {elt tg iter : Expr} {ifs : List Expr} {sc : Scope} {pos : Pos} {cl : List (Str × Addr)} {T F : List Str} {js : List Nat} {wi : TI} {g : CS → TG} {tc : CS → TT} {te : CS → TE} {pins : List (Addr × Obj)} {σ : St}
theorem comp_block (hc : X.calm = true) (C : CompOk X sc cl F js) (hg : ∀ c : CS, PG (compCx X (T ++ F) sc cl c.s c.H c.fp) tg (g c)) (hif : ∀ c : CS, PIfs (compCx X (T ++ F) sc cl c.s c.H c.fp) ifs (tc c)) (he : ∀ c : CS, PE (compCx X (T ++ F) sc cl c.s c.H c.fp) elt (te c))
  {H2 : Hp} {s2 : Shared} {it : Addr} {fp : List Addr} {tn : Nat → Heap → Prop} {J : It} {Q : VK} {RR : Value → Addr → Result → Shared → Prop} (I2 : Inv X pins σ H2 s2) (Tn : Turn X.prog X.w X.K tg J fp it tn) (st2 : tn 0 s2.heap) (f2 : ∀ b ∈ fp, FpOk X pins H2 b)
  (hw : ∀ D, H2 D = none → ∃ W : Nat → Nat → List V → St → Hp → Prop, (∃ m, W 0 m [] (compSt T.length js σ) (upd H2 D (.lst []))) ∧
   ∀ i m ys σ' H', W i m ys σ' H' → H' D = some (.lst ys) ∧ ((J.stop i H' ∧ Q (.ref D) H') ∨ (J.go i H' ∧ ys.length < sizeLine ∧ ∃ N : List V → St → Hp → Prop, (∀ ys' σ'' H'', N ys' σ'' H'' → ∃ m', m' < m ∧ W (i + 1) m' ys' σ'' H'') ∧
    ∀ x H2, J.yld i H' x H2 → ∀ c : CS, g c x σ' H2 fun σ2 H3 => tc c σ2 H3 fun b H4 => if b = true then te c σ2 H4 fun v H5 => H5 D = some (.lst ys) ∧ N (ys ++ [v]) σ2 (upd H5 D (.lst (ys ++ [v]))) else N ys σ2 H4)))
  (hRR : ∀ D C H' s1, Inv X pins σ H' s1 → Gone X pins H' C → (∃ m, s1.heap.Ns C m) → Q (.ref D) H' → RR (.ref D) C (.ok .next) s1) :
  wpAny (model X.prog X.w) X.A (newList []) (fun acc s₃ => wpAny (model X.prog X.w) X.A (newFunctionEnv sc X.env.globals cl [] X.env.qual none .none (some X.env)) (fun cenv s₄ =>
   codeAny (model X.prog X.w) X.A (.compStart (.ListComp elt [⟨tg, iter, ifs, 0⟩] sc pos) 0 (.ref it) acc { cenv with scope := relabel sc X.env }) (RR acc cenv.locals) s₄) X.xe s₃) X.xe s2 := by
 obtain ⟨W, ⟨m0, w0⟩, turn⟩ := hw s2.heap.objs.size (I2.hok.fresh (Nat.le_refl _))
 have I3 : Inv X pins σ (upd H2 s2.heap.objs.size (.lst [])) { s2 with heap := s2.heap.push { cls := .type "list", data := .seq ([] : List Value).toArray } } := I2.lnew (t' := s2.toks) .nil (Nat.zero_le _)
 have lt2 : ∀ b ∈ fp, b < s2.heap.objs.size := fun b hb => by
  obtain ⟨o, e, _⟩ := Tn.obj 0 _ st2 b hb
  exact Heap.lt_size e
 have f3 : ∀ b ∈ fp, FpOk X pins (upd H2 s2.heap.objs.size (.lst [])) b := fun b hb => ⟨by rw [upd_ne (Nat.ne_of_lt (lt2 b hb))]; exact (f2 b hb).1, (f2 b hb).2⟩
 refine wpAny_newObj_type ?_
 have st3 : tn 0 ({ s2 with heap := s2.heap.push { cls := .type "list", data := .seq ([] : List Value).toArray } } : Shared).heap := Tn.keep 0 _ _ st2 fun b hb o e => Heap.get?_push_of_some _ e
 have lt3 : ∀ b ∈ fp, b < ({ s2 with heap := s2.heap.push { cls := .type "list", data := .seq ([] : List Value).toArray } } : Shared).heap.objs.size := fun b hb => by
  show b < (s2.heap.push _).objs.size
  rw [Heap.size_push]
  exact Nat.lt_succ_of_lt (lt2 b hb)
 generalize ({ s2 with heap := s2.heap.push { cls := .type "list", data := .seq ([] : List Value).toArray } } : Shared) = s3 at I3 st3 lt3 ⊢
 refine wpAny_newFunctionEnv C.cell (by intro y hy; simp at hy) (fun h4 hns hsb => ?_) C.kind
 have old : ∀ b o, s3.heap.get? b = some o → h4.get? b = some o := fun b o e => hsb.extBut b o (Nat.ne_of_lt (Heap.lt_size e)) (Heap.get?_push_of_some _ e)
 have st4 : tn 0 h4 := Tn.keep 0 _ _ st3 fun b hb o e => old b o e
 have J4 : ∀ tk, Inv (compCx X (T ++ F) sc cl s3 (upd H2 s2.heap.objs.size (.lst [])) fp) [] (compSt T.length js σ) (upd H2 s2.heap.objs.size (.lst [])) { s3 with heap := h4, toks := tk } := fun tk => inv_comp C I3 f3 lt3 hns old
 have fpX : ∀ {H' : Hp}, (∀ b ∈ fp, H' b = none) → ∀ b ∈ fp, FpOk (compCx X (T ++ F) sc cl s3 (upd H2 s2.heap.objs.size (.lst [])) fp) [] H' b := fun hn b hb =>
  ⟨hn b hb, Nat.ne_of_lt (lt3 b hb), (comp_ok C I3 f3 lt3 (T ++ F)).exfs b hb, .inl hb, fun x c e => ((comp_ok C I3 f3 lt3 (T ++ F)).exf b hb).2 x c e, fun p hp => absurd (show p ∈ ([] : List (Addr × Obj)) from hp) (by simp)⟩
 have loop : ∀ s4 : Shared, (∃ tk, s4 = { s3 with heap := h4, toks := tk }) →
   codeAny (model X.prog X.w) X.A (.compLoop (.ListComp elt [⟨tg, iter, ifs, 0⟩] sc pos) 0 (.ref it) (.ref s2.heap.objs.size) (compEnvC sc cl s3.heap.objs.size X.env)) (RR (.ref s2.heap.objs.size) s3.heap.objs.size) s4 := by
  rintro s4 ⟨tk, rfl⟩
  refine compLoop_any (fun n s' => ∃ i ys σ' H', Inv (compCx X (T ++ F) sc cl s3 (upd H2 s2.heap.objs.size (.lst [])) fp) [] σ' H' s' ∧ tn i s'.heap ∧ (∀ b ∈ fp, H' b = none) ∧ W i n ys σ' H') ?_ m0
   ⟨0, [], _, _, J4 tk, st4, fun b hb => (f3 b hb).1, w0⟩
  rintro n s5 ⟨i, ys, σ5, H5, I5, st5, fr5, w5⟩
  obtain ⟨hD, q⟩ := turn i n ys σ5 H5 w5
  rcases q with ⟨stop, q⟩ | ⟨go, hz, N, hN, step⟩
  ·refine thn (Tn.done (compCx X (T ++ F) sc cl s3 (upd H2 s2.heap.objs.size (.lst [])) fp) rfl rfl rfl hc i [] s5 σ5 H5 (fun _ _ => False) I5 (fpX fr5) st5 stop) fun r s6 ⟨hr, I6⟩ => ?_
   subst hr
   obtain ⟨m, hn, _⟩ := id I6.loc
   exact hRR _ _ H5 s6 (comp_back I3 f3 I6) (Gone.of I3 I6.free) ⟨m, hn⟩ q
  ·refine thn (Tn.item (compCx X (T ++ F) sc cl s3 (upd H2 s2.heap.objs.size (.lst [])) fp) rfl rfl rfl hc i [] s5 σ5 H5 (fun _ _ => False) I5 (fpX fr5) st5 go) fun r s6 ⟨u, hr, h6⟩ => ?_
   subst hr
   refine thn h6 fun _ s7 ⟨x, H7, I7, r7, y7, st7, fr7⟩ => ?_
   have I7' := I7.pinned (fpX fr7) (Tn.obj _ _ st7)
   have again : ∀ {s8 : Shared} {σ8 : St} {H8 : Hp} {ys8 : List V}, Inv (compCx X (T ++ F) sc cl s3 (upd H2 s2.heap.objs.size (.lst [])) fp) ([] ++ pinsAt fp s7.heap) σ8 H8 s8 → N ys8 σ8 H8 →
     ∃ m, m < n ∧ ∃ i ys σ' H', Inv (compCx X (T ++ F) sc cl s3 (upd H2 s2.heap.objs.size (.lst [])) fp) [] σ' H' s8 ∧ tn i s8.heap ∧ (∀ b ∈ fp, H' b = none) ∧ W i m ys σ' H' := fun {s8 σ8 H8 ys8} I8 n8 => by
    obtain ⟨m', hm, w8⟩ := hN ys8 σ8 H8 n8
    refine ⟨m', hm, i + 1, ys8, σ8, H8, I8.unpinned, Tn.keep _ _ _ st7 fun b hb o e => (I8.pin (b, o) (List.mem_append_right _ (List.mem_append_right _ (mem_pinsAt hb e)))).1, fun b hb => ?_, w8⟩
    obtain ⟨o, e, d⟩ := Tn.obj _ _ st7 b hb
    exact (I8.pin (b, o) (List.mem_append_right _ (List.mem_append_right _ (mem_pinsAt hb e)))).2.1
   refine thn (hg ⟨s3, _, fp⟩ _ s7 σ5 H7 x u _ I7' r7 (step x H7 y7 ⟨s3, upd H2 s2.heap.objs.size (.lst []), fp⟩)) fun _ s8 ⟨σ8, H8, I8, q8⟩ => ?_
   refine thn (hif ⟨s3, _, fp⟩ _ s8 σ8 H8 _ I8 q8) fun ok s9 ⟨H9, I9, q9⟩ => ?_
   cases ok with
   | false =>
    rw [if_neg Bool.false_ne_true]
    rw [if_neg Bool.false_ne_true] at q9
    exact again I9 q9
   | true =>
    rw [if_pos rfl]
    rw [if_pos rfl] at q9
    refine thn (he ⟨s3, _, fp⟩ _ s9 σ8 H9 _ I9 q9) fun y s10 ⟨v10, H10, I10, r10, hD10, n10⟩ => ?_
    refine thn (mt_append _ s10 σ8 H10 (.ref s2.heap.objs.size) [v10] (.ref s2.heap.objs.size) [y] (fun _ H11 => N (ys ++ [v10]) σ8 H11) I10 rfl (.cons r10 .nil) ⟨_, ys, v10, rfl, rfl, hD10, hz, n10⟩) fun _ s11 ⟨_, H11, I11, _, n11⟩ => ?_
    exact again I11 n11
 exact codeAny_compStart_list (loop _ ⟨_, rfl⟩) (Tn.self X.A 0 _ _ _ st4 (loop _ ⟨_, rfl⟩))
theorem pe_comp (T : List Str) (hc : X.calm = true) (C : CompOk X sc cl F js) (hi : PI X tg iter wi)
  (hg : ∀ c : CS, PG (compCx X (T ++ F) sc cl c.s c.H c.fp) tg (g c)) (hif : ∀ c : CS, PIfs (compCx X (T ++ F) sc cl c.s c.H c.fp) ifs (tc c)) (he : ∀ c : CS, PE (compCx X (T ++ F) sc cl c.s c.H c.fp) elt (te c))
  (hs : ∀ x, foldedSetIterable iter X.env x = pure x := by intro _; rfl) : PE X (.ListComp elt [⟨tg, iter, ifs, 0⟩] sc pos) (tComp T.length js wi g tc te) := by
 intro pins s σ H Q I h
 rw [eval_ListComp]
 refine wpAny_comprehension_free (use := none) rfl hs C.clos C.kind C.names ?_
 refine thn (hi pins s σ H _ I h) fun v s1 h1 => thn h1 fun itv s2 h2 => ?_
 obtain ⟨it, fp, tn, J, H2, e, I2, Tn, st2, f2, hw⟩ := h2
 subst e
 refine comp_block (RR := fun acc C => compPost (model X.prog X.w) X.A X.xe none (EP X pins σ Q) acc C) hc C hg hif he I2 Tn st2 f2 hw ?_
 intro D C' H' s6 I6 G ⟨m, hn⟩ q
 exact ⟨m, hn, fun h' hs' => ⟨.ref D, H', G.let I6 hs', rfl, q⟩⟩
theorem ps_comp (T : List Str) {i : Nat} {x : Str} {pos' spos : Pos} (hN : X.N.Nodup) (hiN : X.N[i]? = some x) (hx : Loc X.env.scope x) (hc : X.calm = true) (C : CompOk X sc cl F js) (hi : PI X tg iter wi)
  (hg : ∀ c : CS, PG (compCx X (T ++ F) sc cl c.s c.H c.fp) tg (g c)) (hif : ∀ c : CS, PIfs (compCx X (T ++ F) sc cl c.s c.H c.fp) ifs (tc c)) (he : ∀ c : CS, PE (compCx X (T ++ F) sc cl c.s c.H c.fp) elt (te c))
  (hsw : swapsWith (.ListComp elt [⟨tg, iter, ifs, 0⟩] sc pos) (some (.Name x pos')) spos.line X.env = pure true := by rfl)
  (hs : ∀ x, foldedSetIterable iter X.env x = pure x := by intro _; rfl) (hf : X.fn x = true ∨ X.env.scope.names.lookup x = some .local := by first | exact .inl rfl | exact .inr rfl | assumption) :
  PS X (.Assign [.Name x pos'] (.ListComp elt [⟨tg, iter, ifs, 0⟩] sc pos) spos) (tAsg (tComp T.length js wi g tc te) (gName i)) := by
 intro pins s σ H D I h
 rw [exec_Assign_Name_used _ _ _ _ hsw]
 refine wpAny_bind (wpAny_standAt (wpAny_bind ?_))
 show wpAny _ X.A (do let _ ← comprehension (.ListComp elt [⟨tg, iter, ifs, 0⟩] sc pos) sc X.env _ (newList []) false (eval iter X.env) (some (assign (.Name x pos') X.env))) _ _ s
 refine wpAny_bind (wpAny_mono (wpAny_comprehension_free (use := some (assign (.Name x pos') X.env)) (Q := fun _ s' => SP X pins D .next s') rfl hs C.clos C.kind C.names ?_) (fun _ s' hq => wpAny_pure (wpAny_pure hq)) fun _ _ e => e)
 refine thn (hi pins s σ H _ I h) fun v s1 h1 => thn h1 fun itv s2 h2 => ?_
 obtain ⟨it, fp, tn, J, H2, e, I2, Tn, st2, f2, hw⟩ := h2
 subst e
 refine comp_block (Q := fun x H1 => gName i x σ H1 D.nx) (RR := fun acc C => compPost (model X.prog X.w) X.A X.xe (some (assign (.Name x pos') X.env)) (fun _ s' => SP X pins D .next s') acc C) hc C hg hif he I2 Tn st2 f2 hw ?_
 intro D' C' H' s6 I6 G ⟨m, hn⟩ q
 show wpAny _ X.A (assign (.Name x pos') X.env (.ref D')) _ _ _
 refine wpAny_assign_Name (store_ok2 I6 hN hiN hx (show RelV (.ref D') (.ref D') from rfl) (fun s7 I7 ⟨a, hs7, ha⟩ => ?_) hf)
 have nC : C' ≠ a := by
  rcases ha with rfl | ha
  ·exact G.loc
  ·exact fun e => G.cell x a ha e.symm
 exact ⟨m, hn.sameBut hs7 nC, fun h' hs' => ⟨_, H', G.let I7 hs', q⟩⟩
end
theorem CompOk.plain {X : Cx} {sc : Scope} (kind : sc.kind = .function) (cell : ∀ y ∈ sc.names, y.2 ≠ .cell) (names : ∀ y ∈ sc.names, y.2 = .local → sc.names.lookup y.1 = some .local) (free : ∀ y ∈ sc.names, y.2 ≠ .free) : CompOk X sc [] [] [] :=
 ⟨kind, cell, names, closureFor_none free, trivial, fun y hy e => absurd e (free y hy), trivial⟩
theorem comp_list {K : PySem.W.Frag} {a D : Addr} {xs : List V} {g : CS → TG} {tc : CS → TT} {te : CS → TE} {σ0 : St} {H0 : Hp} {Q : Hp → Prop} (Pv : Nat → List V → St → Hp → Prop) (hz : xs.length ≤ sizeLine) (h0 : Pv 0 [] σ0 H0)
  (hl : ∀ i ys σ H, i ≤ xs.length → Pv i ys σ H → SqL K H a xs ∧ H D = some (.lst ys) ∧ ys.length ≤ i)
  (hs : ∀ i x ys σ H, xs[i]? = some x → Pv i ys σ H → ∀ c : CS, g c x σ H fun σ2 H2 => tc c σ2 H2 fun b H3 => if b = true then te c σ2 H3 fun v H4 => H4 D = some (.lst ys) ∧ Pv (i + 1) (ys ++ [v]) σ2 (upd H4 D (.lst (ys ++ [v]))) else Pv (i + 1) ys σ2 H3)
  (hd : ∀ ys σ H, Pv xs.length ys σ H → Q H) :
  ∃ W : Nat → Nat → List V → St → Hp → Prop, (∃ m, W 0 m [] σ0 H0) ∧ ∀ i m ys σ' H', W i m ys σ' H' → H' D = some (.lst ys) ∧ (((Itl K a).stop i H' ∧ Q H') ∨ ((Itl K a).go i H' ∧ ys.length < sizeLine ∧ ∃ N : List V → St → Hp → Prop, (∀ ys' σ'' H'', N ys' σ'' H'' → ∃ m', m' < m ∧ W (i + 1) m' ys' σ'' H'') ∧
    ∀ x H2, (Itl K a).yld i H' x H2 → ∀ c : CS, g c x σ' H2 fun σ2 H3 => tc c σ2 H3 fun b H4 => if b = true then te c σ2 H4 fun v H5 => H5 D = some (.lst ys) ∧ N (ys ++ [v]) σ2 (upd H5 D (.lst (ys ++ [v]))) else N ys σ2 H4)) := by
 refine ⟨fun i m ys σ H => m = xs.length - i ∧ i ≤ xs.length ∧ Pv i ys σ H, ⟨xs.length, by simp, Nat.zero_le _, h0⟩, ?_⟩
 rintro i m ys σ H ⟨rfl, hi, p⟩
 obtain ⟨q, qD, ql⟩ := hl i ys σ H hi p
 refine ⟨qD, ?_⟩
 by_cases hlt : i < xs.length
 ·refine .inr ⟨⟨xs, xs[i], q, by simp [hlt]⟩, by omega, Pv (i + 1), fun ys' σ' H' p' => ⟨xs.length - (i + 1), by omega, rfl, hlt, p'⟩, fun x H' y c => ?_⟩
  obtain ⟨e, y⟩ := y
  subst e
  exact hs i x ys σ _ (y xs q) p c
 ·have e : i = xs.length := by omega
  subst e
  exact .inl ⟨⟨xs, q, Nat.le_refl _⟩, hd ys σ H p⟩
theorem comp_range {lo : Int} {n : Nat} {D : Addr} {g : CS → TG} {tc : CS → TT} {te : CS → TE} {σ0 : St} {H0 : Hp} {Q : Hp → Prop} (Pv : Nat → List V → St → Hp → Prop) (hz : n ≤ sizeLine) (h0 : Pv 0 [] σ0 H0)
  (hl : ∀ i ys σ H, i ≤ n → Pv i ys σ H → H D = some (.lst ys) ∧ ys.length ≤ i)
  (hs : ∀ i ys σ H, i < n → Pv i ys σ H → ∀ c : CS, g c (.int (lo + i)) σ H fun σ2 H2 => tc c σ2 H2 fun b H3 => if b = true then te c σ2 H3 fun v H4 => H4 D = some (.lst ys) ∧ Pv (i + 1) (ys ++ [v]) σ2 (upd H4 D (.lst (ys ++ [v]))) else Pv (i + 1) ys σ2 H3)
  (hd : ∀ ys σ H, Pv n ys σ H → Q H) :
  ∃ W : Nat → Nat → List V → St → Hp → Prop, (∃ m, W 0 m [] σ0 H0) ∧ ∀ i m ys σ' H', W i m ys σ' H' → H' D = some (.lst ys) ∧ (((Itr lo n).stop i H' ∧ Q H') ∨ ((Itr lo n).go i H' ∧ ys.length < sizeLine ∧ ∃ N : List V → St → Hp → Prop, (∀ ys' σ'' H'', N ys' σ'' H'' → ∃ m', m' < m ∧ W (i + 1) m' ys' σ'' H'') ∧
    ∀ x H2, (Itr lo n).yld i H' x H2 → ∀ c : CS, g c x σ' H2 fun σ2 H3 => tc c σ2 H3 fun b H4 => if b = true then te c σ2 H4 fun v H5 => H5 D = some (.lst ys) ∧ N (ys ++ [v]) σ2 (upd H5 D (.lst (ys ++ [v]))) else N ys σ2 H4)) := by
 refine ⟨fun i m ys σ H => m = n - i ∧ i ≤ n ∧ Pv i ys σ H, ⟨n, by simp, Nat.zero_le _, h0⟩, ?_⟩
 rintro i m ys σ H ⟨rfl, hi, p⟩
 obtain ⟨qD, ql⟩ := hl i ys σ H hi p
 refine ⟨qD, ?_⟩
 by_cases hlt : i < n
 ·refine .inr ⟨hlt, by omega, Pv (i + 1), fun ys' σ' H' p' => ⟨n - (i + 1), by omega, rfl, hlt, p'⟩, fun x H' y c => ?_⟩
  obtain ⟨e, y⟩ := y
  subst e y
  exact hs i ys σ _ hlt p c
 ·have e : i = n := by omega
  subst e
  exact .inl ⟨Nat.le_refl _, hd ys σ H p⟩
end L2
namespace L2
open PySem PySem.Spec PyProof.Rows
theorem iteN {c A B : Prop} [Decidable c] (hc : ¬ c) (h : B) : if decide c = true then A else B := by
 rw [decide_eq_false hc]
 exact iteF h
theorem iteY {c A B : Prop} [Decidable c] (hc : c) (h : A) : if decide c = true then A else B := by
 rw [decide_eq_true hc]
 exact iteT h
theorem Same.upd {H : Hp} {p : Addr} {o : HO} (h : H p = none) : Same H (upd H p o) := fun b u e => by
 rw [upd_ne (ne_of_none e h)]
 exact e
theorem Same.sqT {K : PySem.W.Frag} {H H' : Hp} {a : Addr} {xs : List V} (e : Same H H') (h : SqT K H a xs) : SqT K H' a xs := by
 rcases h with (h | ⟨o, h⟩) | h
 ·exact .inl (.inl (e _ _ h))
 ·exact .inl (.inr ⟨o, e _ _ h⟩)
 ·exact .inr h
theorem sqT_new {K : PySem.W.Frag} {H : Hp} {p : Addr} {xs : List V} : SqT K (upd H p (.tup xs)) p xs := .of upd_same
theorem sqL_new {K : PySem.W.Frag} {H : Hp} {p : Addr} {xs : List V} : SqL K (upd H p (.lst xs)) p xs := .of upd_same
theorem Sm.mono {i j : Int} (h : Sm j) (e : i.natAbs ≤ j.natAbs) : Sm i := .of_lt (Nat.lt_of_le_of_lt e h.lt)
structure DefAt (K : PySem.W.Frag) (mg : Str → Option Value) (x : Str) (st : Stmt) (ps : List Str) (f : Addr) (fd : FuncData) : Prop where
 fn : Fun K x x st f fd
 nm : mg x = some (.ref f)
 bd : Binds K fd ps []
def Cl (P : Program) (w : World) (K : PySem.W.Frag) (mg : Str → Option Value) (base : Heap) (x : Str) (k : Nat) (ps : List Str) (sp : Sp) : Prop :=
 ∃ (f : Addr) (fd : FuncData), mg x = some (.ref f) ∧ PySem.W.keepIn K (.ref f) = true ∧ Binds K fd ps [] ∧ FnOk P w K mg base CX0 k f fd ps sp
theorem DefAt.cl {P : Program} {w : World} {K : PySem.W.Frag} {mg : Str → Option Value} {base : Heap} {x : Str} {st : Stmt} {ps : List Str} {f : Addr} {fd : FuncData} {k : Nat} {sp : Sp} (D : DefAt K mg x st ps f fd) (h : FnOk P w K mg base CX0 k f fd ps sp) : Cl P w K mg base x k ps sp :=
 ⟨f, fd, D.nm, D.fn.kp, D.bd, h⟩
section
variable {X : Cx} {x : Str} {k : Nat} {ps : List Str} {sp : Sp} {e : Expr} {es : List Expr} {p pos : Pos} {t : TA}
theorem pe_cl (C : Cl X.prog X.w X.K X.mg X.base x k ps sp) (hr : Room k X.A) (hg : Gl X x) (ha : PA X (e :: es) t) (hdb : (x == ("__debug__" : Str)) = false := by decide) (he : starEach (e :: es) X.env = (false, eval e X.env) :: starEach es X.env := by rfl)
  (hpl : (backTo pos (starEach es X.env)).any (·.1) = false := by rfl) : PE X (.Call (.Name x p) (e :: es) [] pos) (tCall sp [] E0 t) := by
 obtain ⟨f, fd, h1, h2, h3, h4⟩ := C
 exact pe_call h4 hr hg h1 h2 h3 .nil pass0 ha hdb he hpl
theorem pe_cl0 (C : Cl X.prog X.w X.K X.mg X.base x k ps sp) (hr : Room k X.A) (hg : Gl X x) (hdb : (x == ("__debug__" : Str)) = false := by decide) : PE X (.Call (.Name x p) [] [] pos) (tCall sp [] E0 tNil) := by
 obtain ⟨f, fd, h1, h2, h3, h4⟩ := C
 exact pe_call0 h4 hr hg h1 h2 h3 .nil pass0 hdb
end
end L2
namespace FK
def G (a b : Int) : Int := (Int.gcd a b : Nat)
theorem G_pos {a b : Int} (h : 0 < b) : 0 < G a b := by
 have : Int.gcd a b ≠ 0 := fun e => by
  have := (Int.gcd_eq_zero_iff.mp e).2
  omega
 unfold G
 omega
theorem G_zero {a : Int} (h : 0 ≤ a) : G a 0 = a := by
 unfold G
 rw [Int.gcd_zero_right]
 omega
theorem G_dvd_left (a b : Int) : G a b ∣ a := Int.gcd_dvd_left ..
theorem G_dvd_right (a b : Int) : G a b ∣ b := Int.gcd_dvd_right ..
theorem G_le {a b : Int} (h : 0 < b) : G a b ≤ b := Int.le_of_dvd h (G_dvd_right a b)
theorem G_step {a b : Int} (ha : 0 ≤ a) (hb : 0 < b) : G b (a % b) = G a b := by
 unfold G
 have : Int.gcd b (a % b) = Int.gcd a b := by
  rw [Int.gcd_comm a b]
  obtain ⟨m, rfl⟩ := Int.eq_ofNat_of_zero_le ha
  obtain ⟨n, rfl⟩ := Int.eq_ofNat_of_zero_le (Int.le_of_lt hb)
  have e : ((m : Int) % (n : Int)) = ((m % n : Nat) : Int) := rfl
  rw [e]
  show Nat.gcd n (m % n) = Nat.gcd n m
  rw [Nat.gcd_rec n m, Nat.gcd_comm]
 rw [this]
def lo (a b : Int) : Int := a / G a b
def hi (a b : Int) : Int := b / G a b
theorem lo_eq (a b : Int) : G a b * lo a b = a := Int.mul_ediv_cancel' (G_dvd_left a b)
theorem hi_eq (a b : Int) : G a b * hi a b = b := Int.mul_ediv_cancel' (G_dvd_right a b)
theorem hi_le {a b : Int} (hb : 0 < b) : hi a b ≤ b := Int.ediv_le_self _ (Int.le_of_lt hb)
end FK
namespace L2
open PySem PySem.Spec PyProof.Rows
section
variable {κ : Type} [DecidableEq κ]
end
theorem kV_is {P : Program} {w : World} {k : Key} {u : Value} (r : RelV (kV k) u) : (mixKind P w).is k u = true := by
 cases k with
 | inl i => obtain ⟨t, e⟩ := (show ∃ t, u = Value.int i t from r); subst e; exact mixKind_int P w i t
 | inr x => obtain ⟨t, e⟩ := (show ∃ t, u = Value.str x t from r); subst e; exact mixKind_str P w x t
theorem items_are {P : Program} {w : World} : ∀ {ks : List Key} {us : List Value}, Vals (ks.map kV) us → ItemsAre (mixKind P w) ks us
 | [], _, r => by rw [List.map_nil] at r; cases r; exact .nil
 | k :: ks, _, r => by
  rw [List.map_cons] at r
  cases r with
  | cons h t => exact .cons (kV_is h) (items_are t)
abbrev KT (H : Hp) : List (List Key × V) → List (List Key × Addr × Value) → Prop := Paired fun p q => p.1 = q.1 ∧ H q.2.1 = some (.tup (p.1.map kV)) ∧ RelV p.2 q.2.2
section
variable {P : Program} {w : World} {H : Hp} {h : Heap} {a : Addr}
theorem rd_of {u : HO} (ok : HOk P w H h) (e : Rd H a u) : ObjOk P w H h a u := e.ok ok
theorem key_of {ks : List Key} (ok : HOk P w H h) (e : H a = some (.tup (ks.map kV))) : (tupleKind (mixKind P w)).is h ks a := by
 obtain ⟨_, its, r, o, h1, h2, n, h3⟩ := (show ObjOk P w H h a (.tup (ks.map kV)) from ok a _ e)
 exact ⟨o, its.toArray, n, h1, h2, h3, by simpa using items_are r⟩
theorem dt_rd {kvs : List (List Key × V)} (ok : HOk P w H h) (e : Rd H a (.dT kvs)) : kvs.length ≤ sizeLine ∧ (a == sysModules) = false ∧
  ∃ xs, KT H kvs xs ∧ h.DictOfH (tupleKind (mixKind P w)) a xs := by
 obtain ⟨z, y, xs, r, o, es, ep, h1, h2, h3, h4, h5⟩ := (show ObjOk P w H h a (.dT kvs) from rd_of ok e)
 refine ⟨z, y, xs, r, o, es, ep, h1, h2, h3, h4, fun x hx => ?_, h5⟩
 have all : ∀ {l : List (List Key × V)} {m : List (List Key × Addr × Value)}, KT H l m → ∀ x ∈ m, (tupleKind (mixKind P w)).is h x.1 x.2.1 := by
  intro l m q
  induction q with
  | nil => intro x hx; exact nomatch hx
  | @cons p q ps qs hq t ih =>
   intro x hx
   rcases List.mem_cons.mp hx with e | hx
   ·subst e
    exact key_of ok (by rw [← hq.1]; exact hq.2.1)
   ·exact ih x hx
 exact all r x hx
theorem dt_of {kvs : List (List Key × V)} (ok : HOk P w H h) (e : H a = some (.dT kvs)) : kvs.length ≤ sizeLine ∧ (a == sysModules) = false ∧
  ∃ xs, KT H kvs xs ∧ h.DictOfH (tupleKind (mixKind P w)) a xs := dt_rd ok (.inl e)
end
section
variable {X : Cx} {pins : List (Addr × Obj)} {σ : St} {H : Hp} {s : Shared} {a : Addr} {y v : V} {u r : Value} {o : Option V} {A : Around} {E : Value → Shared → Prop}
theorem Inv.big (I : Inv X pins σ H s) : sysModules < s.heap.objs.size := by
 have h : mainGlobals < s.heap.objs.size := (I.mod.glob.keeps I.bk).lt
 exact Nat.lt_trans (by decide) h
theorem d_write {h' : Heap} {t' : Nat} {ob : HO} (I : Inv X pins σ H s) (mu : Mut (H a)) (hs : Heap.SameBut a s.heap h') (he : ∃ q, h'.get? a = some q) (new : ObjOk X.prog X.w (upd H a ob) h' a ob) :
  Inv X pins σ (upd H a ob) { s with heap := h', toks := t' } :=
 I.write (x := a) (e := a) mu (.inl rfl) (fun b q hb z => (hs.2 b hb).trans z) he new
end
section
variable {X : Cx} {pins : List (Addr × Obj)} {σ : St} {H : Hp} {s : Shared} {a : Addr} {kvs : List (Key × V)} {k : Key} {u : Value} {A : Around} {E : Value → Shared → Prop}
end
def NoSl (i : Expr) : Prop := ∀ ov iv, subscripted i false ov iv = operate [ov, iv] (getItem ov iv)
theorem subD_of {prog : Program} {w : World} {A : Around} {E : Value → Shared → Prop} {s : Shared} {env : Env} {value slice : Expr} {pos : Pos} {T id : String} {Q : Value → Shared → Prop}
  (hl : typeLookup (.type T) "__getitem__" = pure (some (.builtin id))) (hs : NoSl slice)
  (h : wpAny (model prog w) A (eval value env) (fun o s₁ => wpAny (model prog w) A (eval slice env) (fun i s₂ => s₂.TypeIs o T ∧ wpAny (model prog w) A (getItem o i) Q E s₂) E s₁) E s) :
  wpAny (model prog w) A (eval (.Subscript value slice pos) env) Q E s := by
 refine Subscript_ (wpAny_mono h (fun o s₁ h₁ => wpAny_mono h₁ (fun i s₂ h₂ => ?_) fun _ _ x => x) fun _ _ x => x)
 obtain ⟨hT, h₂⟩ := h₂
 unfold subscriptTail
 refine wpAny_bind ?_
 rw [getitemInPython_of_ne hT.not_modules]
 refine wpAny_bind (wpAny_specialOf hT hl ?_)
 have fin : wpAny (model prog w) A (subscripted slice false o i) (fun r s₃ => wpAny (model prog w) A (letTemporaryGo value o r >>= fun _ => pure r) Q E s₃) E s₂ := by
  rw [hs o i]
  exact wpAny_operating (wpAny_mono h₂ (fun r s₃ h₃ => wpAny_bind (wpAny_letTemporaryGo (wpAny_pure h₃))) fun _ _ x => x)
 first
  | exact wpAny_pure (wpAny_bind fin)
  | exact wpAny_bind (wpAny_pure (wpAny_bind fin))
  | exact wpAny_bind fin
section
variable {X : Cx} {o i e value : Expr} {pos pos' tpos : Pos} {td ty tv : TE}
end
theorem dt_empty {P : Program} {w : World} {H : Hp} (h : Heap) (hb : sysModules < h.objs.size) : ObjOk P w H (h.push { cls := .type "dict", data := .dict #[] }) h.objs.size (.dT []) :=
 ⟨Nat.zero_le _, beq_eq_false_iff_ne.mpr (Ne.symm (Nat.ne_of_lt hb)), [], .nil, _, #[], 0, Heap.get?_push_size _ rfl, ⟨rfl, rfl, rfl⟩, rfl, rfl, List.nodup_nil⟩
def tDNewT : TE := fun _ H Q => ∀ p, H p = none → Q (.ref p) (upd H p (.dT []))
section
variable {X : Cx} {pos : Pos}
theorem pe_dnewT : PE X (.Dict [] [] pos) tDNewT := fun pins s σ H Q I h =>
 wpAny_Dict_empty ⟨.ref s.heap.objs.size, _, I.laid (a := s.heap.objs.size) (o := .dT []) (t' := s.toks) (fun _ _ q => Heap.get?_push_of_some _ q) (Nat.le_refl _) (dt_empty s.heap I.big), rfl, h _ (I.hok.fresh (Nat.le_refl _))⟩
end
end L2
namespace L2
open PySem PySem.Spec PyProof.Rows
theorem key_sq {X : Cx} {pins : List (Addr × Obj)} {σ : St} {H : Hp} {s : Shared} {a : Addr} {ks : List Key} (I : Inv X pins σ H s) (h : SqT X.K H a (ks.map kV)) : (tupleKind (mixKind X.prog X.w)).is s.heap ks a := by
 obtain ⟨its, r, ⟨o, h1, h2, n, h3⟩, _⟩ := I.tuple h
 exact ⟨o, its.toArray, n, h1, h2, h3, by simpa using items_are r⟩
section
variable {X : Cx} {o i : Expr} {pos : Pos} {td ty : TE}
end
theorem iteNN {c A B : Prop} [Decidable c] (hc : ¬ c) (h : A) : if (!decide c) = true then A else B := by
 rw [decide_eq_false hc]
 exact iteT h
abbrev FrR (K : PySem.W.Frag) := rpPair K rpInt rpInt
theorem FrR.sq {K : PySem.W.Frag} {H : Hp} {x : V} {d : Int × Int} (h : FrR K H x d) : ∃ p, x = .ref p ∧ SqT K H p [.int d.1, .int d.2] := by
 obtain ⟨p, y, z, rfl, q, rfl, rfl⟩ := h
 exact ⟨p, rfl, q⟩
theorem FrR.same {K : PySem.W.Frag} {H H' : Hp} {x : V} {d : Int × Int} (s : Same H H') (h : FrR K H x d) : FrR K H' x d := by
 obtain ⟨p, y, z, rfl, q, h1, h2⟩ := h
 exact ⟨p, y, z, rfl, s.sqT q, h1, h2⟩
theorem Paired.get1 {α β : Type} {F : α → β → Prop} : ∀ {xs : List α} {ys : List β}, Paired F xs ys → ∀ (i : Nat) (x : α), xs[i]? = some x → ∃ y, ys[i]? = some y ∧ F x y
 | _, _, .nil, i, x, h => by simp at h
 | _, _, .cons r _, 0, x, h => by
  simp at h
  subst h
  exact ⟨_, rfl, r⟩
 | _, _, .cons _ t, i + 1, x, h => by
  obtain ⟨y, e, r⟩ := Paired.get1 t i x (by simpa using h)
  exact ⟨y, by simpa using e, r⟩
theorem Paired.app {α β : Type} {F : α → β → Prop} : ∀ {xs xs' : List α} {ys ys' : List β}, Paired F xs ys → Paired F xs' ys' → Paired F (xs ++ xs') (ys ++ ys')
 | _, _, _, _, .nil, s => s
 | _, _, _, _, .cons r t, s => .cons r (Paired.app t s)
end L2
namespace FK
end FK
namespace PySem.AutoSeq1
open PySem PySem.Spec
end PySem.AutoSeq1
namespace L2
open PySem PySem.Spec PyProof.Rows
section
variable {X : Cx}
end
end L2
namespace FK
def fr (q : Rat) : Int × Int := (q.num, (q.den : Int))
theorem fr_inj {q r : Rat} (h : fr q = fr r) : q = r := by
 have h1 : q.num = r.num := congrArg Prod.fst h
 have h2 : (q.den : Int) = r.den := congrArg Prod.snd h
 exact Rat.ext h1 (by omega)
theorem fr_dec (q r : Rat) : decide (fr q = fr r) = decide (q = r) := decide_eq_decide.mpr ⟨fr_inj, fun h => by rw [h]⟩
theorem den_pos (q : Rat) : 0 < (q.den : Int) := by have := q.den_pos; omega
theorem num_nn {q : Rat} (h : 0 ≤ q) : 0 ≤ q.num := Rat.num_nonneg.mpr h
theorem fr_cop (q : Rat) : G q.num q.den = 1 := by
 unfold G
 have := q.reduced
 show ((Nat.gcd q.num.natAbs (q.den : Int).natAbs : Nat) : Int) = 1
 rw [Int.natAbs_natCast, this.gcd_eq_one]
 rfl
theorem q_eq (q : Rat) : (q.num : Rat) / ((q.den : Int) : Rat) = q := by
 have := Rat.num_divInt_den q
 rw [Rat.divInt_eq_div] at this
 exact this
theorem den_ne (q : Rat) : ((q.den : Int) : Rat) ≠ 0 := by
 intro h
 have := Rat.intCast_inj.mp (show ((q.den : Int) : Rat) = ((0 : Int) : Rat) from h)
 have := den_pos q
 omega
theorem low_fr {a b : Int} (hb : 0 < b) : lo a b = ((a : Rat) / (b : Rat)).num ∧ hi a b = (((a : Rat) / (b : Rat)).den : Int) := by
 rw [← Rat.divInt_eq_div]
 constructor
 ·rw [Rat.num_divInt, Int.sign_eq_one_of_pos hb, Int.one_mul, Int.gcd_comm]
  rfl
 ·rw [Rat.den_divInt, if_neg (by omega)]
  unfold hi G
  rw [Int.gcd_comm b a, Int.natCast_ediv]
  congr 1
  omega
theorem plus_fr (q r : Rat) : ((q.num * (r.den : Int) + r.num * (q.den : Int) : Int) : Rat) / (((q.den : Int) * (r.den : Int) : Int) : Rat) = q + r := by
 have h1 := q_eq q
 have h2 := q_eq r
 have h3 := den_ne q
 have h4 := den_ne r
 rw [Rat.intCast_add, Rat.intCast_mul, Rat.intCast_mul, Rat.intCast_mul]
 grind
theorem minus_fr (q r : Rat) : ((q.num * (r.den : Int) - r.num * (q.den : Int) : Int) : Rat) / (((q.den : Int) * (r.den : Int) : Int) : Rat) = q - r := by
 have h1 := q_eq q
 have h2 := q_eq r
 have h3 := den_ne q
 have h4 := den_ne r
 rw [Rat.intCast_sub, Rat.intCast_mul, Rat.intCast_mul, Rat.intCast_mul]
 grind
theorem times_fr (q r : Rat) : ((q.num * r.num : Int) : Rat) / (((q.den : Int) * (r.den : Int) : Int) : Rat) = q * r := by
 have h1 := q_eq q
 have h2 := q_eq r
 have h3 := den_ne q
 have h4 := den_ne r
 rw [Rat.intCast_mul, Rat.intCast_mul]
 grind
theorem over_fr {q r : Rat} (h : 0 < r) : ((q.num * (r.den : Int) : Int) : Rat) / (((q.den : Int) * r.num : Int) : Rat) = q / r := by
 have h1 := q_eq q
 have h2 := q_eq r
 have h3 := den_ne q
 have h4 := den_ne r
 have h5 : (r.num : Rat) ≠ 0 := by
  intro z
  rw [z] at h2
  grind
 rw [Rat.intCast_mul, Rat.intCast_mul]
 grind
theorem num_pos {q : Rat} (h : 0 < q) : 0 < q.num := by
 have := (Rat.lt_iff 0 q).mp h
 have e : (0 : Rat).num = 0 := rfl
 have f : ((0 : Rat).den : Int) = 1 := rfl
 rw [e, f, Int.zero_mul, Int.mul_one] at this
 exact this
def Bd (n : Nat) (q : Rat) : Prop := q.num.natAbs < 2 ^ n ∧ q.den < 2 ^ n
theorem Bd.mono {m n : Nat} {q : Rat} (h : Bd m q) (e : m ≤ n) : Bd n q :=
 ⟨Nat.lt_of_lt_of_le h.1 (Nat.pow_le_pow_right (by decide) e), Nat.lt_of_lt_of_le h.2 (Nat.pow_le_pow_right (by decide) e)⟩
theorem Bd.of {a b : Int} {n : Nat} (hb : 0 < b) (ha : a.natAbs < 2 ^ n) (hb2 : b.natAbs < 2 ^ n) : Bd n ((a : Rat) / (b : Rat)) := by
 obtain ⟨e1, e2⟩ := low_fr (a := a) hb
 have g := G_pos (a := a) hb
 have l1 := lo_eq a b
 have l2 := hi_eq a b
 have h1 : (lo a b).natAbs ≤ a.natAbs := by
  conv => rhs; rw [← l1]
  rw [Int.natAbs_mul]
  exact Nat.le_mul_of_pos_left _ (by omega)
 have h2 : (hi a b).natAbs ≤ b.natAbs := by
  conv => rhs; rw [← l2]
  rw [Int.natAbs_mul]
  exact Nat.le_mul_of_pos_left _ (by omega)
 refine ⟨?_, ?_⟩
 ·rw [← e1]
  omega
 ·omega
theorem mul_lt_pow {a b m n : Nat} (h1 : a < 2 ^ m) (h2 : b < 2 ^ n) : a * b < 2 ^ (m + n) := by
 rw [Nat.pow_add]
 rcases Nat.eq_zero_or_pos b with z | z
 ·subst z
  have := Nat.two_pow_pos m
  have := Nat.two_pow_pos n
  rw [Nat.mul_zero]
  exact Nat.mul_pos ‹_› ‹_›
 ·exact Nat.mul_lt_mul_of_lt_of_le h1 (Nat.le_of_lt h2) (Nat.two_pow_pos n)
theorem Bd.add {m n : Nat} {q r : Rat} (h1 : Bd m q) (h2 : Bd n r) : Bd (m + n + 1) (q + r) := by
 rw [← plus_fr q r]
 have d1 := den_pos q
 have d2 := den_pos r
 have a1 := mul_lt_pow h1.1 h2.2
 have a2 := mul_lt_pow h2.1 h1.2
 have a3 := mul_lt_pow h1.2 h2.2
 refine Bd.of (Int.mul_pos d1 d2) ?_ ?_
 ·have : (q.num * (r.den : Int) + r.num * (q.den : Int)).natAbs ≤ q.num.natAbs * r.den + r.num.natAbs * q.den := by
   refine Nat.le_trans (Int.natAbs_add_le _ _) ?_
   rw [Int.natAbs_mul, Int.natAbs_mul, Int.natAbs_natCast, Int.natAbs_natCast]
   exact Nat.le_refl _
  rw [Nat.add_comm n m] at a2
  rw [Nat.pow_succ]
  omega
 ·rw [Int.natAbs_mul, Int.natAbs_natCast, Int.natAbs_natCast, Nat.pow_succ]
  omega
theorem Bd.neg {n : Nat} {q : Rat} (h : Bd n q) : Bd n (-q) := by
 refine ⟨?_, ?_⟩
 ·rw [Rat.neg_num, Int.natAbs_neg]
  exact h.1
 ·rw [Rat.neg_den]
  exact h.2
theorem Bd.sub {m n : Nat} {q r : Rat} (h1 : Bd m q) (h2 : Bd n r) : Bd (m + n + 1) (q - r) := by
 rw [Rat.sub_eq_add_neg]
 exact h1.add h2.neg
theorem Bd.mul {m n : Nat} {q r : Rat} (h1 : Bd m q) (h2 : Bd n r) : Bd (m + n) (q * r) := by
 rw [← times_fr q r]
 refine Bd.of (Int.mul_pos (den_pos q) (den_pos r)) ?_ ?_
 ·rw [Int.natAbs_mul]
  exact mul_lt_pow h1.1 h2.1
 ·rw [Int.natAbs_mul, Int.natAbs_natCast, Int.natAbs_natCast]
  exact mul_lt_pow h1.2 h2.2
theorem Bd.div {m n : Nat} {q r : Rat} (h : 0 < r) (h1 : Bd m q) (h2 : Bd n r) : Bd (m + n) (q / r) := by
 rw [← over_fr h]
 refine Bd.of (Int.mul_pos (den_pos q) (num_pos h)) ?_ ?_
 ·rw [Int.natAbs_mul, Int.natAbs_natCast]
  exact mul_lt_pow h1.1 h2.2
 ·rw [Int.natAbs_mul, Int.natAbs_natCast]
  exact mul_lt_pow h1.2 h2.1
def Gr (D : Nat) (q : Rat) : Prop := ∃ n : Int, q * (D : Rat) = (n : Rat)
theorem Gr.add {D : Nat} {q r : Rat} (h1 : Gr D q) (h2 : Gr D r) : Gr D (q + r) := by
 obtain ⟨a, ha⟩ := h1
 obtain ⟨b, hb⟩ := h2
 exact ⟨a + b, by rw [Rat.intCast_add]; grind⟩
theorem Gr.sub {D : Nat} {q r : Rat} (h1 : Gr D q) (h2 : Gr D r) : Gr D (q - r) := by
 obtain ⟨a, ha⟩ := h1
 obtain ⟨b, hb⟩ := h2
 exact ⟨a - b, by rw [Rat.intCast_sub]; grind⟩
theorem Gr.int (D : Nat) (n : Int) : Gr D (n : Rat) := ⟨n * D, by rw [Rat.intCast_mul]; rfl⟩
theorem Gr.zero (D : Nat) : Gr D 0 := Gr.int D 0
theorem Gr.one (D : Nat) : Gr D 1 := Gr.int D 1
theorem Gr.imul {D : Nat} {q : Rat} (h : Gr D q) (n : Int) : Gr D ((n : Rat) * q) := by
 obtain ⟨a, ha⟩ := h
 exact ⟨n * a, by rw [Rat.intCast_mul]; grind⟩
theorem Gr.up {D E : Nat} {q : Rat} (h : Gr D q) : Gr (D * E) q := by
 obtain ⟨a, ha⟩ := h
 exact ⟨a * E, by rw [Rat.intCast_mul, Rat.natCast_mul, ← ha]; show _ = _ * ((E : Int) : Rat); rw [Rat.intCast_natCast]; grind⟩
theorem Gr.up' {D E : Nat} {q : Rat} (h : Gr E q) : Gr (D * E) q := by
 rw [Nat.mul_comm]
 exact h.up
theorem nat_ne {D : Nat} (h : 0 < D) : (D : Rat) ≠ 0 := by
 intro z
 have := Rat.natCast_inj.mp (show (D : Rat) = ((0 : Nat) : Rat) from z)
 omega
theorem nat_pos {D : Nat} (h : 0 < D) : (0 : Rat) < (D : Rat) := by
 have := Rat.natCast_lt_natCast.mpr h
 exact this
theorem Gr.bd {D n : Nat} {q : Rat} (h : Gr D q) (hD : 0 < D) (h0 : 0 ≤ q) {m : Nat} (hm : q ≤ (m : Rat)) (hs : m * D < 2 ^ n) (hs2 : D < 2 ^ n) : Bd n q := by
 obtain ⟨a, ha⟩ := h
 have e : q = ((a : Rat) / ((D : Int) : Rat)) := by
  rw [Rat.intCast_natCast, ← ha]
  have := nat_ne hD
  grind
 have p := nat_pos hD
 rw [e]
 refine Bd.of (by omega) ?_ (by rw [Int.natAbs_natCast]; exact hs2)
 have a0 : 0 ≤ a := by
  have : (0 : Rat) ≤ (a : Rat) := by
   rw [← ha]
   exact Rat.mul_nonneg h0 (Rat.le_of_lt p)
  exact Rat.intCast_le_intCast.mp this
 have a1 : a ≤ ((m * D : Nat) : Int) := by
  have : (a : Rat) ≤ ((m * D : Nat) : Int) := by
   rw [← ha, Rat.intCast_natCast, Rat.natCast_mul]
   exact Rat.mul_le_mul_of_nonneg_right hm (Rat.le_of_lt p)
  exact Rat.intCast_le_intCast.mp this
 omega
end FK
namespace FK
abbrev Steps := List (Rat × Int)
def A : Rat → Steps → Rat → Rat
 | _, [], _ => 0
 | b, (e, w) :: S, x => (w : Rat) * (max b (min e x) - b) + A e S x
def endOf : Rat → Steps → Rat
 | b, [] => b
 | _, (e, _) :: S => endOf e S
def Rise : Rat → Steps → Prop
 | _, [] => True
 | b, (e, w) :: S => b < e ∧ 0 < w ∧ Rise e S
theorem end_snoc : ∀ (b : Rat) (S : Steps) (e : Rat) (w : Int), endOf b (S ++ [(e, w)]) = e
 | _, [], _, _ => rfl
 | _, (e', _) :: S, e, w => end_snoc e' S e w
theorem w_pos {w : Int} (h : 0 < w) : (0 : Rat) < (w : Rat) := Rat.intCast_pos.mpr h
theorem Rise.le : ∀ {b : Rat} {S : Steps}, Rise b S → b ≤ endOf b S
 | b, [], _ => Rat.le_refl
 | b, (e, w) :: S, h => Rat.le_trans (Rat.le_of_lt h.1) (Rise.le h.2.2)
theorem mul_mono {w x y : Rat} (hw : 0 < w) (h : x ≤ y) : w * x ≤ w * y := Rat.mul_le_mul_of_nonneg_left h (Rat.le_of_lt hw)
theorem mul_smono {w x y : Rat} (hw : 0 < w) (h : x < y) : w * x < w * y := Rat.mul_lt_mul_of_pos_left h hw
theorem A_low : ∀ {b : Rat} {S : Steps} {x : Rat}, Rise b S → x ≤ b → A b S x = 0
 | b, [], x, _, _ => rfl
 | b, (e, w) :: S, x, h, hx => by
  show (w : Rat) * (max b (min e x) - b) + A e S x = 0
  have h1 : b < e := h.1
  rw [A_low h.2.2 (by grind), show max b (min e x) = b by grind]
  grind
theorem A_mono : ∀ {b : Rat} {S : Steps} {x y : Rat}, Rise b S → x ≤ y → A b S x ≤ A b S y
 | b, [], x, y, _, _ => Rat.le_refl
 | b, (e, w) :: S, x, y, h, hx => by
  have h1 := A_mono (x := x) (y := y) h.2.2 hx
  have h2 := mul_mono (w_pos h.2.1) (x := max b (min e x) - b) (y := max b (min e y) - b) (by grind)
  show (w : Rat) * (max b (min e x) - b) + A e S x ≤ (w : Rat) * (max b (min e y) - b) + A e S y
  grind
theorem A_nn {b : Rat} {S : Steps} {x : Rat} (h : Rise b S) : 0 ≤ A b S x := by
 rcases Rat.le_total (a := x) (b := b) with z | z
 ·rw [A_low h z]
  exact Rat.le_refl
 ·have := A_mono (x := b) (y := x) h z
  rw [A_low h Rat.le_refl] at this
  exact this
theorem A_smono : ∀ {b : Rat} {S : Steps} {x y : Rat}, Rise b S → b ≤ x → x < y → y ≤ endOf b S → A b S x < A b S y
 | b, [], x, y, _, h1, h2, h3 => by
  exfalso
  have : y ≤ b := h3
  grind
 | b, (e, w) :: S, x, y, h, h1, h2, h3 => by
  have hw := w_pos h.2.1
  have r1 : b < e := h.1
  show (w : Rat) * (max b (min e x) - b) + A e S x < (w : Rat) * (max b (min e y) - b) + A e S y
  by_cases z : e ≤ x
  ·have := A_smono (x := x) (y := y) h.2.2 z h2 h3
   rw [show max b (min e x) = e by grind, show max b (min e y) = e by grind]
   grind
  ·have m1 := A_mono (x := x) (y := y) h.2.2 (Rat.le_of_lt h2)
   have m2 := mul_smono hw (x := max b (min e x) - b) (y := max b (min e y) - b) (by grind)
   grind
def apt (x y : Rat) : Rat := if x < y then y - x else x - y
def Rch (p q : Rat × Rat) (u : Rat) : Prop := ¬ (p.2 < u ∧ q.2 < u) ∧ ¬ (u < p.2 ∧ u < q.2)
instance (p q : Rat × Rat) (u : Rat) : Decidable (Rch p q u) := inferInstanceAs (Decidable (_ ∧ _))
def crs (p q : Rat × Rat) (u : Rat) : Rat := if p.2 = u then p.1 else p.1 + (q.1 - p.1) * (apt p.2 u / apt p.2 q.2)
def rch : List (Rat × Rat) → Rat → Option Rat
 | p :: q :: L, u => if Rch p q u then some (crs p q u) else rch (q :: L) u
 | _, _ => none
def hl : Rat → Rat → Steps → List (Rat × Rat)
 | b, h, [] => [(b, h)]
 | b, h, (e, w) :: S => (b, h) :: hl e (h + (e - b) * (w : Rat)) S
theorem hl_head : ∀ (b h : Rat) (S : Steps), ∃ T, hl b h S = (b, h) :: T
 | b, h, [] => ⟨[], rfl⟩
 | b, h, (e, w) :: S => ⟨_, rfl⟩
theorem hl_len : ∀ (b h : Rat) (S : Steps), (hl b h S).length = S.length + 1
 | b, h, [] => rfl
 | b, h, (e, w) :: S => by
  show (hl e _ S).length + 1 = S.length + 1 + 1
  rw [hl_len]
theorem hl_snoc : ∀ (b h : Rat) (S : Steps) (e : Rat) (w : Int), Rise b S → hl b h (S ++ [(e, w)]) = hl b h S ++ [(e, h + A b S (endOf b S) + (e - endOf b S) * (w : Rat))]
 | b, h, [], e, w, _ => by
  show [(b, h), (e, h + (e - b) * (w : Rat))] = [(b, h), (e, h + 0 + (e - b) * (w : Rat))]
  rw [show h + 0 = h by grind]
 | b, h, (e', w') :: S, e, w, r => by
  show (b, h) :: hl e' (h + (e' - b) * (w' : Rat)) (S ++ [(e, w)]) = (b, h) :: (hl e' (h + (e' - b) * (w' : Rat)) S ++ [(e, h + ((w' : Rat) * (max b (min e' (endOf e' S)) - b) + A e' S (endOf e' S)) + (e - endOf e' S) * (w : Rat))])
  have h1 := Rise.le r.2.2
  have h2 := r.1
  rw [hl_snoc e' _ S e w r.2.2, show max b (min e' (endOf e' S)) = e' by grind]
  congr 4
  grind
theorem hl_last : ∀ (b h : Rat) (S : Steps), Rise b S → (hl b h S).getLast? = some (endOf b S, h + A b S (endOf b S))
 | b, h, [], _ => by
  show some (b, h) = some (b, h + 0)
  rw [show h + 0 = h by grind]
 | b, h, (e, w) :: S, r => by
  obtain ⟨T, hT⟩ := hl_head e (h + (e - b) * (w : Rat)) S
  have ih := hl_last e (h + (e - b) * (w : Rat)) S r.2.2
  have h1 := Rise.le r.2.2
  have h2 := r.1
  show ((b, h) :: hl e (h + (e - b) * (w : Rat)) S).getLast? = some (endOf e S, h + ((w : Rat) * (max b (min e (endOf e S)) - b) + A e S (endOf e S)))
  rw [hT] at ih ⊢
  rw [List.getLast?_cons_cons, ih, show max b (min e (endOf e S)) = e by grind]
  congr 2
  grind
theorem rch_up : ∀ {b h c x : Rat} {S : Steps}, Rise b S → 0 < c → S ≠ [] → b ≤ x → x ≤ endOf b S → rch ((hl b h S).map fun z => (z.2 / c, z.1)) x = some ((h + A b S x) / c)
 | b, h, c, x, [], _, _, n, _, _ => absurd rfl n
 | b, h, c, x, (e, w) :: S, r, hc, _, h1, h2 => by
  obtain ⟨T, hT⟩ := hl_head e (h + (e - b) * (w : Rat)) S
  have ih := @rch_up e (h + (e - b) * (w : Rat)) c x S r.2.2 hc
  have r1 : b < e := r.1
  have hw := w_pos r.2.1
  show rch (((b, h) :: hl e (h + (e - b) * (w : Rat)) S).map fun z => (z.2 / c, z.1)) x = some ((h + ((w : Rat) * (max b (min e x) - b) + A e S x)) / c)
  rw [hT] at ih ⊢
  show (if Rch (h / c, b) ((h + (e - b) * (w : Rat)) / c, e) x then some (crs (h / c, b) ((h + (e - b) * (w : Rat)) / c, e) x) else rch (((e, h + (e - b) * (w : Rat)) :: T).map fun z => (z.2 / c, z.1)) x) = _
  have cn : c ≠ 0 := by grind
  by_cases hx : x ≤ e
  ·rw [if_pos (by unfold Rch; grind), A_low r.2.2 hx]
   congr 1
   unfold crs apt
   simp only
   by_cases hb : b = x
   ·rw [if_pos hb, show max b (min e x) = b by grind]
    grind
   ·rw [if_neg hb, if_pos (by grind), if_pos r1, show max b (min e x) = x by grind]
    have : e - b ≠ 0 := by grind
    grind
  ·have hS : S ≠ [] := by
    intro z
    subst z
    have : x ≤ e := h2
    exact hx this
   rw [if_neg (by unfold Rch; grind), ih hS (by grind) h2, show max b (min e x) = e by grind]
   congr 2
   grind
end FK
namespace FK
theorem rise_get : ∀ {b : Rat} {S : Steps} {i : Nat} {z : Rat × Int}, Rise b S → S[i]? = some z → endOf b (S.take i) < z.1 ∧ 0 < z.2
 | b, [], i, z, _, h => by simp at h
 | b, (e, w) :: S, 0, z, r, h => by
  have h' : (e, w) = z := by simpa using h
  subst h'
  exact ⟨r.1, r.2.1⟩
 | b, (e, w) :: S, i + 1, z, r, h => by
  have h' : S[i]? = some z := by simpa using h
  show endOf e (S.take i) < z.1 ∧ 0 < z.2
  exact rise_get r.2.2 h'
theorem rise_take : ∀ {b : Rat} {S : Steps} (i : Nat), Rise b S → Rise b (S.take i)
 | b, [], i, _ => by rw [List.take_nil]; trivial
 | b, (e, w) :: S, 0, r => trivial
 | b, (e, w) :: S, i + 1, r => ⟨r.1, r.2.1, rise_take i r.2.2⟩
theorem take_snoc {α : Type} {L : List α} {i : Nat} {z : α} (h : L[i]? = some z) : L.take (i + 1) = L.take i ++ [z] := by
 rw [List.take_succ, h]
 rfl
theorem A_take : ∀ {b : Rat} {S : Steps} (i : Nat), Rise b S → A b (S.take i) (endOf b (S.take i)) = A b S (endOf b (S.take i))
 | b, [], i, _ => by rw [List.take_nil]
 | b, (e, w) :: S, 0, r => by
  show 0 = A b ((e, w) :: S) b
  exact (A_low r Rat.le_refl).symm
 | b, (e, w) :: S, i + 1, r => by
  show (w : Rat) * (max b (min e (endOf e (S.take i))) - b) + A e (S.take i) (endOf e (S.take i)) = (w : Rat) * (max b (min e (endOf e (S.take i))) - b) + A e S (endOf e (S.take i))
  rw [A_take i r.2.2]
theorem end_take_le : ∀ {b : Rat} {S : Steps} (i : Nat), Rise b S → endOf b (S.take i) ≤ endOf b S
 | b, [], i, _ => by rw [List.take_nil]; exact Rat.le_refl
 | b, (e, w) :: S, 0, r => Rise.le r
 | b, (e, w) :: S, i + 1, r => end_take_le i r.2.2
theorem A_up : ∀ {b : Rat} {S : Steps} {x M : Rat}, Rise b S → 0 ≤ M → (∀ z ∈ S, (z.2 : Rat) ≤ M) → b ≤ x → A b S x ≤ M * (x - b)
 | b, [], x, M, _, h0, hM, hx => by
  show (0 : Rat) ≤ M * (x - b)
  exact Rat.mul_nonneg h0 (by grind)
 | b, (e, w) :: S, x, M, r, h0, hM, hx => by
  have r1 : b < e := r.1
  have hw : (w : Rat) ≤ M := hM (e, w) List.mem_cons_self
  show (w : Rat) * (max b (min e x) - b) + A e S x ≤ M * (x - b)
  by_cases z : x ≤ e
  ·rw [A_low r.2.2 z, show max b (min e x) = x by grind]
   have := Rat.mul_le_mul_of_nonneg_right hw (show (0 : Rat) ≤ x - b by grind)
   grind
  ·have ih := A_up (x := x) r.2.2 h0 (fun z hz => hM z (List.mem_cons_of_mem _ hz)) (by grind)
   have := Rat.mul_le_mul_of_nonneg_right hw (show (0 : Rat) ≤ e - b by grind)
   rw [show max b (min e x) = e by grind]
   grind
theorem hl_get : ∀ {b h : Rat} {S : Steps} {i : Nat}, Rise b S → i ≤ S.length → (hl b h S)[i]? = some (endOf b (S.take i), h + A b S (endOf b (S.take i)))
 | b, h, [], i, _, hi => by
  have : i = 0 := by simpa using hi
  subst this
  show some (b, h) = some (b, h + 0)
  rw [show h + 0 = h by grind]
 | b, h, (e, w) :: S, 0, r, _ => by
  show some (b, h) = some (b, h + A b ((e, w) :: S) b)
  rw [A_low r Rat.le_refl, show h + 0 = h by grind]
 | b, h, (e, w) :: S, i + 1, r, hi => by
  have r1 : b < e := r.1
  have hi' : i ≤ S.length := by simpa using hi
  have l1 := Rise.le (rise_take i r.2.2)
  show (hl e (h + (e - b) * (w : Rat)) S)[i]? = some (endOf e (S.take i), h + ((w : Rat) * (max b (min e (endOf e (S.take i))) - b) + A e S (endOf e (S.take i))))
  rw [hl_get r.2.2 hi', show max b (min e (endOf e (S.take i))) = e by grind]
  congr 2
  grind
theorem hl_inv {b h : Rat} {S : Steps} {i : Nat} {z : Rat × Rat} (r : Rise b S) (e : (hl b h S)[i]? = some z) : i ≤ S.length ∧ z = (endOf b (S.take i), h + A b S (endOf b (S.take i))) := by
 have l := (List.getElem?_eq_some_iff.mp e).1
 rw [hl_len] at l
 have hi : i ≤ S.length := by omega
 rw [hl_get r hi] at e
 exact ⟨hi, (Option.some.inj e).symm⟩
theorem Gr.mx {D : Nat} {a b : Rat} (h1 : Gr D a) (h2 : Gr D b) : Gr D (max a b) := by
 by_cases h : a ≤ b
 ·rw [show max a b = b by grind]; exact h2
 ·rw [show max a b = a by grind]; exact h1
theorem Gr.mn {D : Nat} {a b : Rat} (h1 : Gr D a) (h2 : Gr D b) : Gr D (min a b) := by
 by_cases h : a ≤ b
 ·rw [show min a b = a by grind]; exact h1
 ·rw [show min a b = b by grind]; exact h2
theorem A_gr : ∀ {D : Nat} {b : Rat} {S : Steps} {x : Rat}, Gr D b → (∀ z ∈ S, Gr D z.1) → Gr D x → Gr D (A b S x)
 | D, b, [], x, _, _, _ => Gr.zero D
 | D, b, (e, w) :: S, x, hb, hS, hx => by
  have he := hS (e, w) List.mem_cons_self
  exact Gr.add (Gr.imul (Gr.sub (hb.mx (he.mn hx)) hb) w) (A_gr he (fun z hz => hS z (List.mem_cons_of_mem _ hz)) hx)
theorem end_gr : ∀ {D : Nat} {b : Rat} {S : Steps}, Gr D b → (∀ z ∈ S, Gr D z.1) → Gr D (endOf b S)
 | D, b, [], hb, _ => hb
 | D, b, (e, w) :: S, _, hS => end_gr (b := e) (S := S) (hS (e, w) List.mem_cons_self) fun z hz => hS z (List.mem_cons_of_mem _ hz)
structure TsOk (p : Nat) (S : Steps) : Prop where
 pos : 0 < p
 few : p ≤ 1000
 ne : S ≠ []
 len : S.length ≤ 8
 rise : Rise 0 S
 top : endOf 0 S = 1
 gr : ∀ z ∈ S, Gr p z.1
 w : ∀ z ∈ S, z.2 ≤ 1000
def tot (S : Steps) : Rat := A 0 S 1
def F (S : Steps) (x : Rat) : Rat := A 0 S x / tot S
section
variable {p : Nat} {S : Steps}
theorem TsOk.tp (h : TsOk p S) : 0 < tot S := by
 have := A_smono (x := 0) (y := 1) h.rise Rat.le_refl (by decide) (by rw [h.top]; exact Rat.le_refl)
 rw [A_low h.rise Rat.le_refl] at this
 exact this
theorem TsOk.up (h : TsOk p S) {x : Rat} (h0 : 0 ≤ x) (h1 : x ≤ 1) : A 0 S x ≤ 1000 := by
 have := A_up (x := x) (M := 1000) h.rise (by decide) (fun z hz => by
  have := Rat.intCast_le_intCast.mpr (h.w z hz)
  exact this) h0
 grind
theorem TsOk.tg (h : TsOk p S) : Gr p (tot S) := A_gr (Gr.zero p) h.gr (Gr.one p)
theorem TsOk.num (h : TsOk p S) : ∃ N : Nat, 0 < N ∧ N ≤ 1000 * p ∧ tot S * (p : Rat) = (N : Rat) := by
 obtain ⟨n, hn⟩ := h.tg
 have pp := nat_pos h.pos
 have q := Rat.mul_pos h.tp pp
 rw [hn] at q
 have n0 : 0 < n := Rat.intCast_pos.mp q
 have u := Rat.mul_le_mul_of_nonneg_right (h.up (x := 1) (by decide) Rat.le_refl) (Rat.le_of_lt pp)
 have u' : (n : Rat) ≤ ((1000 * p : Nat) : Int) := by
  rw [← hn, Rat.intCast_natCast, Rat.natCast_mul]
  exact u
 have n1 := Rat.intCast_le_intCast.mp u'
 refine ⟨n.toNat, by omega, by omega, ?_⟩
 rw [hn, ← Rat.intCast_natCast]
 congr 1
 omega
theorem F_nn (h : TsOk p S) (x : Rat) : 0 ≤ F S x := by
 unfold F
 have a := A_nn (x := x) h.rise
 have t := h.tp
 have := (Rat.div_lt_iff (a := A 0 S x) (b := tot S) (c := 0) t)
 grind
theorem F_mono (h : TsOk p S) {x y : Rat} (e : x ≤ y) : F S x ≤ F S y := by
 unfold F
 have t := h.tp
 have a := A_mono (x := x) (y := y) h.rise e
 have := (Rat.div_lt_iff (a := A 0 S y) (b := tot S) (c := A 0 S x / tot S) t)
 have e2 : A 0 S x / tot S * tot S = A 0 S x := by grind
 rw [e2] at this
 grind
theorem F_zero (h : TsOk p S) : F S 0 = 0 := by
 unfold F
 rw [A_low h.rise Rat.le_refl]
 grind
theorem F_one (h : TsOk p S) : F S 1 = 1 := by
 have := h.tp
 show tot S / tot S = 1
 grind
theorem F_le (h : TsOk p S) {x : Rat} (h1 : x ≤ 1) : F S x ≤ 1 := by
 have := F_mono h h1
 rw [F_one h] at this
 exact this
theorem F_gr (h : TsOk p S) {N D : Nat} (hN : tot S * (p : Rat) = (N : Rat)) {x : Rat} (hx : Gr D x) : Gr (D * N) (F S x) := by
 obtain ⟨n, hn⟩ := A_gr (D := D * p) (b := 0) (S := S) (x := x) (Gr.zero _) (fun z hz => (h.gr z hz).up') hx.up
 have t := h.tp
 refine ⟨n, ?_⟩
 rw [← hn, Rat.natCast_mul, Rat.natCast_mul, ← hN]
 unfold F
 grind
theorem F_bd (h : TsOk p S) {D n : Nat} {x : Rat} (hx : Gr D x) (hD : 0 < D) (h1 : x ≤ 1) (hs : D * 1000000 < 2 ^ n) : Bd n (F S x) := by
 obtain ⟨N, n0, n1, hN⟩ := h.num
 have f := h.few
 have : D * N ≤ D * 1000000 := Nat.mul_le_mul_left _ (by omega)
 exact (F_gr h hN hx).bd (Nat.mul_pos hD n0) (F_nn h x) (m := 1) (by rw [show ((1 : Nat) : Rat) = 1 from rfl]; exact F_le h h1) (by omega) (by omega)
def wl (S : Steps) : List (Rat × Rat) := (hl 0 0 S).map fun z => (z.1, z.2 / tot S)
def wlF (S : Steps) : List (Rat × Rat) := (hl 0 0 S).map fun z => (z.2 / tot S, z.1)
theorem zero_add' (x : Rat) : 0 + x = x := by grind
theorem wlF_rch (h : TsOk p S) {x : Rat} (h0 : 0 ≤ x) (h1 : x ≤ 1) : rch (wlF S) x = some (F S x) := by
 have := rch_up (h := 0) (x := x) h.rise h.tp h.ne h0 (by rw [h.top]; exact h1)
 rw [zero_add'] at this
 exact this
theorem wl_get (h : TsOk p S) {i : Nat} {z : Rat × Rat} (e : (wl S)[i]? = some z) : i ≤ S.length ∧ z = (endOf 0 (S.take i), F S (endOf 0 (S.take i))) := by
 unfold wl at e
 rw [List.getElem?_map] at e
 cases q : (hl 0 0 S)[i]? with
 | none => rw [q] at e; cases e
 | some y =>
  rw [q] at e
  obtain ⟨a, b⟩ := hl_inv h.rise q
  subst b
  refine ⟨a, ?_⟩
  rw [← Option.some.inj e, zero_add']
  rfl
theorem end_nn (h : TsOk p S) (i : Nat) : 0 ≤ endOf 0 (S.take i) := Rise.le (rise_take i h.rise)
theorem end_le (h : TsOk p S) (i : Nat) : endOf 0 (S.take i) ≤ 1 := by
 have := end_take_le i h.rise
 rw [h.top] at this
 exact this
theorem end_g (h : TsOk p S) (i : Nat) : Gr p (endOf 0 (S.take i)) := end_gr (Gr.zero p) fun z hz => h.gr z (List.mem_of_mem_take hz)
theorem end_bd (h : TsOk p S) (i : Nat) : Bd 10 (endOf 0 (S.take i)) := by
 have f := h.few
 exact (end_g h i).bd h.pos (end_nn h i) (m := 1) (by rw [show ((1 : Nat) : Rat) = 1 from rfl]; exact end_le h i) (by omega) (by omega)
theorem endF_bd (h : TsOk p S) (i : Nat) : Bd 30 (F S (endOf 0 (S.take i))) := by
 have f := h.few
 exact F_bd h (end_g h i) h.pos (end_le h i) (by omega)
theorem end_step (h : TsOk p S) {i : Nat} (hi : i + 1 ≤ S.length) : endOf 0 (S.take i) < endOf 0 (S.take (i + 1)) := by
 obtain ⟨a, _⟩ := rise_get (i := i) (z := S[i]) h.rise (List.getElem?_eq_getElem (by omega))
 rw [take_snoc (z := S[i]) (List.getElem?_eq_getElem (by omega))]
 rw [show S[i] = (S[i].1, S[i].2) from rfl, end_snoc]
 exact a
end
end FK
namespace FK
def Wo (S : Steps) : List (Rat × Rat) → Rat
 | [] => 0
 | p :: L => (F S p.2 - F S p.1) + Wo S L
theorem Wo_snoc (S : Steps) : ∀ (L : List (Rat × Rat)) (p : Rat × Rat), Wo S (L ++ [p]) = Wo S L + (F S p.2 - F S p.1)
 | [], p => by
  show (F S p.2 - F S p.1) + 0 = 0 + (F S p.2 - F S p.1)
  grind
 | q :: L, p => by
  show (F S q.2 - F S q.1) + Wo S (L ++ [p]) = (F S q.2 - F S q.1) + Wo S L + (F S p.2 - F S p.1)
  rw [Wo_snoc S L p]
  grind
theorem Wo_gr {p : Nat} {S : Steps} (h : TsOk p S) {N D : Nat} (hN : tot S * (p : Rat) = (N : Rat)) : ∀ {L : List (Rat × Rat)}, (∀ q ∈ L, Gr D q.1 ∧ Gr D q.2) → Gr (D * N) (Wo S L)
 | [], _ => Gr.zero _
 | q :: L, hL => by
  have g := hL q List.mem_cons_self
  exact Gr.add (Gr.sub (F_gr h hN g.2) (F_gr h hN g.1)) (Wo_gr h hN fun z hz => hL z (List.mem_cons_of_mem _ hz))
theorem Wo_nn {p : Nat} {S : Steps} (h : TsOk p S) : ∀ {L : List (Rat × Rat)}, (∀ q ∈ L, q.1 ≤ q.2) → 0 ≤ Wo S L
 | [], _ => Rat.le_refl
 | q :: L, hL => by
  have g := F_mono h (hL q List.mem_cons_self)
  have := Wo_nn h fun z hz => hL z (List.mem_cons_of_mem _ hz)
  show 0 ≤ (F S q.2 - F S q.1) + Wo S L
  grind
theorem Wo_le {p : Nat} {S : Steps} (h : TsOk p S) : ∀ {L : List (Rat × Rat)} {a : Rat}, (∀ q ∈ L, a ≤ q.1 ∧ q.1 ≤ q.2 ∧ q.2 ≤ 1) → a ≤ 1 → L.Pairwise (fun x y => x.2 ≤ y.1) → Wo S L ≤ 1 - F S a
 | [], a, _, ha, _ => by
  have := F_le h ha
  show (0 : Rat) ≤ 1 - F S a
  grind
 | q :: L, a, hw, ha, hp => by
  have w := hw q List.mem_cons_self
  have pc := List.pairwise_cons.mp hp
  have ih := Wo_le (a := q.2) h (L := L) (fun z hz => ⟨pc.1 z hz, (hw z (List.mem_cons_of_mem _ hz)).2⟩) w.2.2 pc.2
  have m := F_mono h w.1
  show (F S q.2 - F S q.1) + Wo S L ≤ 1 - F S a
  grind
end FK
namespace FK
end FK
namespace FK
end FK
namespace FK
end FK
namespace FK
end FK
namespace L2
open PySem PySem.Spec PyProof.Rows
section
variable {X : Cx} {pins : List (Addr × Obj)} {σ : St} {H : Hp} {s : Shared} {h' : Heap}
theorem Inv.turnedN {t' : Nat} {ch : List Addr} {T : Addr} {o : HO} (I : Inv X pins σ H s) (k : ∀ b o, b ∉ ch → s.heap.get? b = some o → h'.get? b = some o) (hf : ∀ b ∈ ch, FpOk X pins H b)
  (hT : s.heap.objs.size ≤ T) (new : ObjOk X.prog X.w (upd H T o) h' T o) : Inv X pins σ (upd H T o) { s with heap := h', toks := t' } := by
 have hn : H T = none := I.hok.fresh hT
 have nch : ∀ b u, H b = some u → b ∉ ch := fun b u e z => by
  rw [(hf b z).1] at e
  cases e
 refine I.step (g' := s.gens) (d' := s.drawn) (ch := ch) (fun b hb => ?_) (fun b o _ _ hc e _ => k b o hc e) (fun b o _ _ hc e _ => ⟨o.slots, k b o hc e⟩) (fun b o hc e n => ?_)
  (fun b o hc e => ⟨o, k b o hc e⟩) (fun b xs e => by rw [upd_ne (ne_of_none e hn)]; exact e) (fun b u xs e => by rw [upd_ne (ne_of_none e hn)]; exact e) (fun b ps e => ⟨#[], by rw [upd_ne (ne_of_none e hn), e]; simp⟩) (fun m hm => ?_) (fun b u e => ?_) I.bare
 ·obtain ⟨_, f1, _, f3, f4, f5⟩ := hf b hb
  exact ⟨f3, f1, f4, f5⟩
 ·rw [upd_ne (Nat.ne_of_lt (Nat.lt_of_lt_of_le (Heap.lt_size e) hT))]
  exact n
 ·obtain ⟨o, es, ep, ho, r⟩ := hm
  exact ⟨o, es, ep, k _ o (fun z => (hf _ z).2.1 rfl) ho, r⟩
 ·by_cases hb : b = T
  ·subst hb
   rw [upd_same] at e
   cases e
   exact new
  ·rw [upd_ne hb] at e
   refine (I.hok b u e).stay (fun c v hc q => k c v ?_ q) (fun c q => by rw [upd_ne (ne_of_none q hn)]; exact q) fun c xs q => by rw [upd_ne (ne_of_none q hn)]; exact q
   rcases hc with z | z
   ·rw [z]
    exact nch b u e
   ·exact nch c _ z
theorem Inv.turnedL {t' : Nat} {ch : List Addr} (I : Inv X pins σ H s) (k : ∀ b o, b ∉ ch → s.heap.get? b = some o → h'.get? b = some o) (hf : ∀ b ∈ ch, FpOk X pins H b) : Inv X pins σ H { s with heap := h', toks := t' } := by
 have nch : ∀ b u, H b = some u → b ∉ ch := fun b u e z => by
  rw [(hf b z).1] at e
  cases e
 refine I.step (g' := s.gens) (d' := s.drawn) (ch := ch) (fun b hb => ?_) (fun b o _ _ hc e _ => k b o hc e) (fun b o _ _ hc e _ => ⟨o.slots, k b o hc e⟩) (fun b o hc e n => n)
  (fun b o hc e => ⟨o, k b o hc e⟩) (fun b xs e => e) (fun b u xs e => e) (fun b ps e => ⟨#[], by rw [e]; simp⟩) (fun m hm => ?_) (fun b u e => ?_) I.bare
 ·obtain ⟨_, f1, _, f3, f4, f5⟩ := hf b hb
  exact ⟨f3, f1, f4, f5⟩
 ·obtain ⟨o, es, ep, ho, r⟩ := hm
  exact ⟨o, es, ep, k _ o (fun z => (hf _ z).2.1 rfl) ho, r⟩
 ·refine (I.hok b u e).stay (fun c v hc q => k c v ?_ q) (fun _ q => q) fun _ _ q => q
  rcases hc with z | z
  ·rw [z]
   exact nch b u e
  ·exact nch c _ z
end
def Itz (K : PySem.W.Frag) (l1 l2 : Addr) : It :=
  ⟨fun i H => ∃ xs ys x y, SqL K H l1 xs ∧ SqL K H l2 ys ∧ xs[i]? = some x ∧ ys[i]? = some y,
   fun i H v H' => ∃ T x y, v = .ref T ∧ H T = none ∧ H' = upd H T (.tup [x, y]) ∧ (∀ xs, SqL K H l1 xs → xs[i]? = some x) ∧ (∀ ys, SqL K H l2 ys → ys[i]? = some y),
   fun i H => ∃ xs ys, SqL K H l1 xs ∧ SqL K H l2 ys ∧ (xs.length ≤ i ∨ ys.length ≤ i)⟩
def tnZ (z TI TO i1 i2 l1 l2 : Addr) (i : Nat) (h : Heap) : Prop := IsZip h z TI TO .none ∧ IsPair h TI (.ref i1) (.ref i2) ∧ (∃ a b, IsPair h TO a b) ∧ h.IsListIter i1 l1 i ∧ h.IsListIter i2 l2 i
theorem turn_zip {P : Program} {w : World} {K : PySem.W.Frag} {elts : List Expr} {kk : Nat} {tp : Pos} {z TI TO i1 i2 l1 l2 : Addr} (D : ZipApart z TI TO i1 i2 l1 l2) : Turn P w K (.Tuple elts kk tp) (Itz K l1 l2) [z, TI, TO, i1, i2] z (tnZ z TI TO i1 i2 l1 l2) where
 mem := by simp
 obj := fun i h st b hb => by
  obtain ⟨hz, hTI, ⟨a, c, hTO⟩, ⟨o1, e1, _, d1⟩, ⟨o2, e2, _, d2⟩⟩ := st
  simp only [List.mem_cons, List.mem_nil_iff, or_false] at hb
  rcases hb with rfl | rfl | rfl | rfl | rfl
  ·exact ⟨_, hz, fun v z => by cases z⟩
  ·exact ⟨_, hTI, fun v z => by cases z⟩
  ·exact ⟨_, hTO, fun v z => by cases z⟩
  ·exact ⟨_, e1, fun v z => by rw [d1] at z; cases z⟩
  ·exact ⟨_, e2, fun v z => by rw [d2] at z; cases z⟩
 keep := fun i h h' st k => by
  obtain ⟨hz, hTI, ⟨a, c, hTO⟩, h1, h2⟩ := st
  exact ⟨k z (by simp) _ hz, k TI (by simp) _ hTI, ⟨a, c, k TO (by simp) _ hTO⟩, h1.at fun o e => k i1 (by simp) o e, h2.at fun o e => k i2 (by simp) o e⟩
 item := by
  intro X hP hw hK hc i pins s σ H E I hf st hg
  subst hP hw hK
  obtain ⟨xs, ys, x, y, hq1, hq2, hx, hy⟩ := hg
  obtain ⟨its1, rv1, p1, hz1⟩ := I.list hq1
  obtain ⟨its2, rv2, p2, hz2⟩ := I.list hq2
  obtain ⟨u1, hu1, ru1⟩ := rv1.get hx
  obtain ⟨u2, hu2, ru2⟩ := rv2.get hy
  obtain ⟨hz, hTI, ⟨a, c, hTO⟩, h1, h2⟩ := st
  refine wpAny_pyNext_zip_item D hz hTI hTO h1 h2 p1.isList p2.isList (x := u1) (y := u2) (by simpa using hu1) (by simpa using hu2) fun h' a1 a2 a3 a4 a5 a6 a7 => ?_
  refine ⟨_, rfl, wpAny_letOwnedTupleGo_zip a1 fun h'' b1 b2 => ?_⟩
  have lt : ∀ {c o}, s.heap.get? c = some o → s.heap.objs.size ≠ c := fun e => Nat.ne_of_gt (Heap.lt_size e)
  have kp : ∀ b o, b ∉ [z, TO, i1, i2] → s.heap.get? b = some o → h''.get? b = some o := fun b o hb e => by
   simp only [List.mem_cons, List.mem_nil_iff, or_false, not_or] at hb
   exact b2.extBut _ _ hb.1 (a7 b o hb.1 hb.2.1 hb.2.2.1 hb.2.2.2 e)
  have hT : h''.get? s.heap.objs.size = some { cls := .type "tuple", data := .seq #[u1, u2] } := b2.extBut _ _ (lt hz) a5
  have I2 : Inv X pins σ (upd H s.heap.objs.size (.tup [x, y])) { s with heap := h'', toks := s.toks } := by
   refine I.turnedN (ch := [z, TO, i1, i2]) kp (fun b hb => hf b ?_) (Nat.le_refl _) ⟨(by show 2 ≤ sizeLine; decide), [u1, u2], .cons ru1 (.cons ru2 .nil), ⟨_, hT, rfl, _, rfl⟩⟩
   simp only [List.mem_cons, List.mem_nil_iff, or_false] at hb ⊢
   rcases hb with rfl | rfl | rfl | rfl <;> simp
  refine ⟨.ref s.heap.objs.size, _, I2, rfl, ⟨s.heap.objs.size, x, y, rfl, I.hok.fresh (Nat.le_refl _), rfl, fun zs hy' => by rw [I.list_inj hy' hq1]; exact hx, fun zs hy' => by rw [I.list_inj hy' hq2]; exact hy⟩,
   ⟨b1, b2.extBut _ _ D.TIz (a7 _ _ D.TIz D.TITO D.TIi1 D.TIi2 hTI), ⟨_, _, b2.extBut _ _ D.TOz a2⟩, a3.extBut b2.extBut D.i1z, a4.extBut b2.extBut D.i2z⟩, fun b hb => ?_⟩
  have ne : b ≠ s.heap.objs.size := by
   intro e
   subst e
   simp only [List.mem_cons, List.mem_nil_iff, or_false] at hb
   obtain ⟨o1, e1, _⟩ := h1
   obtain ⟨o2, e2, _⟩ := h2
   rcases hb with e | e | e | e | e
   ·exact lt hz e
   ·exact lt hTI e
   ·exact lt hTO e
   ·exact lt e1 e
   ·exact lt e2 e
  rw [upd_ne ne]
  exact (hf b hb).1
 done := by
  intro X hP hw hK hc i pins s σ H E I hf st hg
  subst hP hw hK
  obtain ⟨xs, ys, hq1, hq2, hl⟩ := hg
  obtain ⟨its1, rv1, p1, hz1⟩ := I.list hq1
  obtain ⟨its2, rv2, p2, hz2⟩ := I.list hq2
  have l1' := rv1.length
  have l2' := rv2.length
  obtain ⟨hz, hTI, ⟨a, c, hTO⟩, h1, h2⟩ := st
  refine wpAny_pyNext_zip_end (I.ok.hd hc) D hz hTI hTO h1 h2 p1.isList p2.isList ?_ fun h' k => ⟨rfl, ?_⟩
  ·rcases hl with e | e
   ·exact .inl (by simp; omega)
   ·exact .inr (by simp; omega)
  ·refine I.turnedL (t' := s.toks) (ch := [z, TO, i1, i2]) (fun b o hb e => ?_) fun b hb => hf b ?_
   ·simp only [List.mem_cons, List.mem_nil_iff, or_false, not_or] at hb
    exact k b o hb.1 hb.2.1 hb.2.2.1 hb.2.2.2 e
   ·simp only [List.mem_cons, List.mem_nil_iff, or_false] at hb ⊢
    rcases hb with rfl | rfl | rfl | rfl <;> simp
 self := fun _ _ _ _ _ st h => wpAny_pyIter_zip st.1 h
section
variable {X : Cx}
def iZip (K : PySem.W.Frag) (ta : TA) : TI := fun σ H R => ta σ H fun vs H1 => ∃ l1 l2, vs = [.ref l1, .ref l2] ∧ (∃ xs, SqL K H1 l1 xs) ∧ (∃ ys, SqL K H1 l2 ys) ∧ R (Itz K l1 l2) H1
theorem pi_zip {elts : List Expr} {kk : Nat} {tp : Pos} {a b : Expr} {ta : TA} {p pos : Pos} (hg : Gl X "zip") (hm : X.mg "zip" = none) (ha : PA X [a, b] ta) (hs : starEach [a, b] X.env = (false, eval a X.env) :: starEach [b] X.env := by rfl) (hp : (backTo pos (starEach [b] X.env)).any (·.1) = false := by rfl) :
  PI X (.Tuple elts kk tp) (.Call (.Name "zip" p) [a, b] [] pos) (iZip X.K ta) := by
 intro pins s σ H R I h
 refine Call_ (ld_blt I hg hm boot_zip (PyProof.Rows.callWith_type1 (thn (ha pos pins s σ H _ I h) fun us s1 ⟨vs, H1, I1, r1, q1⟩ => ?_) hs hp))
 obtain ⟨l1, l2, rfl, ⟨xs, hq1⟩, ⟨ys, hq2⟩, q⟩ := q1
 obtain ⟨u1, u2, rfl, e1, e2⟩ := r1.two
 cases (show u1 = Value.ref l1 from e1)
 cases (show u2 = Value.ref l2 from e2)
 obtain ⟨its1, rv1, p1, hz1⟩ := I1.list hq1
 obtain ⟨its2, rv2, p2, hz2⟩ := I1.list hq2
 have lt1 : l1 < s1.heap.objs.size := by obtain ⟨o, e, _⟩ := p1.isList; exact Heap.lt_size e
 have lt2 : l2 < s1.heap.objs.size := by obtain ⟨o, e, _⟩ := p2.isList; exact Heap.lt_size e
 refine call_zip_2 p1.isList p2.isList fun h' a1 a2 a3 a4 a5 a6 a7 => ?_
 have I2 : Inv X pins σ H1 { s1 with heap := h', toks := s1.toks } := I1.kept a7
 refine wpAny_pyIter_zip a1 ⟨s1.heap.objs.size + 4, [s1.heap.objs.size + 4, s1.heap.objs.size + 2, s1.heap.objs.size + 3, s1.heap.objs.size, s1.heap.objs.size + 1], _, _, H1, rfl, I2, turn_zip (l1 := l1) (l2 := l2) ?_, ⟨a1, a2, ⟨_, _, a3⟩, a4, a5⟩, fun b hb => ?_, q⟩
 ·have lt1' : @LT.lt Nat _ l1 s1.heap.objs.size := lt1
  have lt2' : @LT.lt Nat _ l2 s1.heap.objs.size := lt2
  constructor <;> (intro z; have z' : @Eq Nat _ _ := z; omega)
 ·have hb' : s1.heap.objs.size ≤ b := by
   simp only [List.mem_cons, List.mem_nil_iff, or_false] at hb
   rcases hb with rfl | rfl | rfl | rfl | rfl
   ·exact Nat.le_add_right _ _
   ·exact Nat.le_add_right _ _
   ·exact Nat.le_add_right _ _
   ·exact Nat.le_refl _
   ·exact Nat.le_add_right _ _
  have f := I1.fpOk (H' := H1) hb' (I1.hok.fresh hb')
  exact f
end
theorem CompOk.free1 {X : Cx} {sc : Scope} {cl : List (Str × Addr)} {F : List Str} {js : List Nat} (kind : sc.kind = .function) (cell : ∀ y ∈ sc.names, y.2 ≠ .cell) (names : ∀ y ∈ sc.names, y.2 = .local → sc.names.lookup y.1 = some .local)
  (clos : closureFor sc X.env = pure cl) (cls : ClOk X cl) (has : (sc.names.all fun y => !(decide (y.2 = .free)) || (cl.lookup y.1).isSome) = true) (free : FreeOk X sc F js) : CompOk X sc cl F js :=
 ⟨kind, cell, names, clos, cls, fun y hy e => by
  have := List.all_eq_true.mp has y hy
  rw [decide_eq_true e] at this
  exact Option.isSome_iff_exists.mp this, free⟩
theorem comp_zip {K : PySem.W.Frag} {l1 l2 D : Addr} {xs zs : List V} {g : CS → TG} {tc : CS → TT} {te : CS → TE} {σ0 : St} {H0 : Hp} {Q : Hp → Prop} (Pv : Nat → List V → St → Hp → Prop) (hzs : zs.length = xs.length) (hz : xs.length ≤ sizeLine) (h0 : Pv 0 [] σ0 H0)
  (hl : ∀ i ys σ H, i ≤ xs.length → Pv i ys σ H → SqL K H l1 xs ∧ SqL K H l2 zs ∧ H D = some (.lst ys) ∧ ys.length ≤ i)
  (hs : ∀ i x z ys σ H T, xs[i]? = some x → zs[i]? = some z → Pv i ys σ H → H T = none → ∀ c : CS, g c (.ref T) σ (upd H T (.tup [x, z])) fun σ2 H2 => tc c σ2 H2 fun b H3 => if b = true then te c σ2 H3 fun v H4 => H4 D = some (.lst ys) ∧ Pv (i + 1) (ys ++ [v]) σ2 (upd H4 D (.lst (ys ++ [v]))) else Pv (i + 1) ys σ2 H3)
  (hd : ∀ ys σ H, Pv xs.length ys σ H → Q H) :
  ∃ W : Nat → Nat → List V → St → Hp → Prop, (∃ m, W 0 m [] σ0 H0) ∧ ∀ i m ys σ' H', W i m ys σ' H' → H' D = some (.lst ys) ∧ (((Itz K l1 l2).stop i H' ∧ Q H') ∨ ((Itz K l1 l2).go i H' ∧ ys.length < sizeLine ∧ ∃ N : List V → St → Hp → Prop, (∀ ys' σ'' H'', N ys' σ'' H'' → ∃ m', m' < m ∧ W (i + 1) m' ys' σ'' H'') ∧
    ∀ x H2, (Itz K l1 l2).yld i H' x H2 → ∀ c : CS, g c x σ' H2 fun σ2 H3 => tc c σ2 H3 fun b H4 => if b = true then te c σ2 H4 fun v H5 => H5 D = some (.lst ys) ∧ N (ys ++ [v]) σ2 (upd H5 D (.lst (ys ++ [v]))) else N ys σ2 H4)) := by
 refine ⟨fun i m ys σ H => m = xs.length - i ∧ i ≤ xs.length ∧ Pv i ys σ H, ⟨xs.length, by simp, Nat.zero_le _, h0⟩, ?_⟩
 rintro i m ys σ H ⟨rfl, hi, p⟩
 obtain ⟨q1, q2, qD, ql⟩ := hl i ys σ H hi p
 refine ⟨qD, ?_⟩
 by_cases hlt : i < xs.length
 ·refine .inr ⟨⟨xs, zs, xs[i], zs[i]'(by omega), q1, q2, by simp [hlt], by simp [hzs, hlt]⟩, by omega, Pv (i + 1), fun ys' σ' H' p' => ⟨xs.length - (i + 1), by omega, rfl, hlt, p'⟩, fun x H' y c => ?_⟩
  obtain ⟨T, a, b, rfl, hT, rfl, y1, y2⟩ := y
  exact hs i a b ys σ _ T (y1 xs q1) (y2 zs q2) p hT c
 ·have e : i = xs.length := by omega
  subst e
  exact .inl ⟨⟨xs, zs, q1, q2, .inl (Nat.le_refl _)⟩, hd ys σ H p⟩
def Keep (H H' : Hp) : Prop := ∀ b o, H b = some o → (∀ zs, o ≠ .lst zs) → (∀ ps, o ≠ .tbl ps) → H' b = some o
theorem Keep.of {H H' : Hp} (s : Same H H') : Keep H H' := fun b o e _ _ => s b o e
theorem Keep.trans {A B C : Hp} (h : Keep A B) (g : Keep B C) : Keep A C := fun b o e n m => g b o (h b o e n m) n m
theorem Keep.updL {H : Hp} {D : Addr} {zs : List V} {o : HO} (h : H D = some (.lst zs)) : Keep H (upd H D o) := fun b u e n _ => by
 rw [upd_ne (ne_of e h (n zs))]
 exact e
theorem Keep.sqT {K : PySem.W.Frag} {H H' : Hp} {a : Addr} {xs : List V} (s : Keep H H') (h : SqT K H a xs) : SqT K H' a xs := by
 rcases h with (z | ⟨o, z⟩) | z
 ·exact .inl (.inl (s _ _ z (fun _ z => nomatch z) (fun _ z => nomatch z)))
 ·exact .inl (.inr ⟨o, s _ _ z (fun _ z => nomatch z) (fun _ z => nomatch z)⟩)
 ·exact .inr z
theorem Keep.fr {K : PySem.W.Frag} {H H' : Hp} {x : V} {d : Int × Int} (s : Keep H H') (h : FrR K H x d) : FrR K H' x d := by
 obtain ⟨p, y, z, rfl, q, h1, h2⟩ := h
 exact ⟨p, y, z, rfl, s.sqT q, h1, h2⟩
theorem Same.updN {H H' : Hp} {D : Addr} {o : HO} (s : Same H H') (h : H D = none) : Same H (L2.upd H' D o) := fun b u e => by
 rw [upd_ne (ne_of_none e h)]
 exact s b u e
def Ml (P : Program) (w : World) (K : PySem.W.Frag) (mg : Str → Option Value) (base : Heap) (C : Addr) (m : Str) (k : Nat) (ps : List Str) (sp : Sp) : Prop :=
 ∃ (f : Addr) (fd : FuncData), Meth K C m f ∧ Binds K fd ps [] ∧ FnOk P w K mg base CX0 k f fd ps sp
def Mc (P : Program) (w : World) (K : PySem.W.Frag) (mg : Str → Option Value) (base : Heap) (x : Str) (C : Addr) (k : Nat) (ps : List Str) (sp : Sp) : Prop :=
 ∃ (f : Addr) (fd : FuncData), Mk K C f ∧ mg x = some (.ref C) ∧ Binds K fd ps [] ∧ FnOk P w K mg base CX0 k f fd ps sp
section
variable {X : Cx} {k : Nat} {C : Addr} {ps : List Str} {sp : Sp} {x m : Str} {p pos apos : Pos} {e o : Expr} {es : List Expr} {ta : TE} {t : TA}
theorem pe_ml {pl : Sem Bool} (M : Ml X.prog X.w X.K X.mg X.base C m k ps sp) (c : Cls X.K C) (hr : Room k X.A) (he : PE X o ta) (ha : PA X (e :: es) t)
  (hst : starEach (e :: es) X.env = (false, eval e X.env) :: starEach es X.env := by rfl) (hpl : (backTo pos (starEach es X.env)).any (·.1) = false := by rfl)
  (ht : eval (.Call (.Attribute o m apos) (e :: es) [] pos) X.env = (do
   let ov ← eval o X.env
   standAt apos.atName
   let (f, first) ← holding [ov] (getMethod ov m pl)
   callWith pos f first (backTo pos (starEach (e :: es) X.env)) (backToKw pos (keywordEach [] X.env))) := by rfl) :
  PE X (.Call (.Attribute o m apos) (e :: es) [] pos) (tMeth C m sp [] E0 ta t) := by
 obtain ⟨f, fd, h1, h2, h3⟩ := M
 exact pe_meth he c h1 h3 hr h2 .nil pass0 ha hst hpl ht
theorem pe_mk (M : Mc X.prog X.w X.K X.mg X.base x C k ps sp) (hr : Room (k + 1) X.A) (hg : Gl X x) (ha : PA X (e :: es) t) (hdb : (x == ("__debug__" : Str)) = false := by decide) (he : starEach (e :: es) X.env = (false, eval e X.env) :: starEach es X.env := by rfl)
  (hpl : (backTo pos (starEach es X.env)).any (·.1) = false := by rfl) : PE X (.Call (.Name x p) (e :: es) [] pos) (tMake C sp [] E0 t) := by
 obtain ⟨f, fd, h1, h2, h3, h4⟩ := M
 exact pe_make h1 h4 hr hg h2 h3 .nil pass0 ha hdb he hpl
end
theorem atI_of {α : Type} {xs : List α} {i : Int} {v : α} (h0 : 0 ≤ i) (h : xs[i.toNat]? = some v) : atI xs i = some v := by
 obtain ⟨m, rfl⟩ := Int.eq_ofNat_of_zero_le h0
 exact atI_nat (by simpa using h)
end L2
namespace PySem.SeqAt
open PySem.AutoSeq1 (wpAny_loadPart')
open PySem.MeetsSeq
end PySem.SeqAt
namespace L2
open PySem PySem.Spec PyProof.Rows
section
variable {X : Cx}
theorem relV_fn {x y : V} {u : Value} (h1 : RelV x u) (h2 : RelV y u) : x = y := by
 cases x <;> cases y <;> simp only [RelV] at h1 h2
 all_goals first
  | rfl
  | (subst h1; simp at h2 <;> simp [h2])
  | (obtain ⟨t, rfl⟩ := h1; simp at h2 <;> simp [h2])
structure IsC (K : PySem.W.Frag) (C : Addr) : Prop where
 cl : Cls K C
 ha : PySem.W.findIn K (.ref C) "__class__" = some (some (.builtin "object.__class__"))
 hn : PySem.W.specialIn K (.builtin "object.__class__") "__get__" = some (some (.builtin "getset_descriptor.__get__"))
 htk : PySem.W.takesIn K (.builtin "object.__class__") = some true
 hm : PySem.W.mroIn K C (.type "object") = some true
theorem call_isC : CallR X (.builtin "isinstance") (fun xs H Q => ∃ a C dx fs, xs = [.ref a, .ref C] ∧ H a = some (.ins C dx fs) ∧ IsC X.K C ∧ Q (.bl true) H) := by
 intro pins s σ H xs us Q I r h
 obtain ⟨a, C, dx, fs, rfl, hH, ic, q⟩ := h
 obtain ⟨u, v, rfl, ru, rv⟩ := r.two
 cases (show v = Value.ref C from rv)
 exact isinst_ok I ru (TyOf.ins hH ic.cl ic.ha ic.hn ic.htk ic.hm) (by unfold PySem.W.kitOne; rw [if_pos (by simp)]) fun tk => ⟨.bl true, H, I.tok tk, rfl, q⟩
structure MkP (K : PySem.W.Frag) (C : Addr) : Prop where
 makes : PySem.W.makesIn K C = true
 init : PySem.W.findIn K (.ref C) "__init__" = some (some (.builtin "object.__init__"))
 kp : PySem.W.keepIn K (.ref C) = true
def tMakeP (C : Addr) : TE := fun _ H Q => ∀ x dx, H x = none → H dx = none → dx ≠ x → Q (.ref x) (upd (upd H dx (.own x)) x (.ins C dx []))
theorem pe_mkP {x : Str} {C : Addr} {p pos : Pos} (M : MkP X.K C) (hg : Gl X x) (hm : X.mg x = some (.ref C)) (hdb : (x == ("__debug__" : Str)) = false := by decide) : PE X (.Call (.Name x p) [] [] pos) (tMakeP C) := by
 intro pins s σ H Q I h
 refine wpAny_Call_Name_kw (ld_glob I hg hm ?_ hdb)
 refine PySem.W.callWith_K0 I.kIn M.kp ?_
 have hq := h (s.heap.objs.size + 1) s.heap.objs.size (I.hok.fresh (Nat.le_succ _)) (I.hok.fresh (Nat.le_refl _)) (Nat.ne_of_lt (Nat.lt_succ_self _))
 have I2 := Inv.made (C := C) I
 refine wpAny_call (make_map0 I.kIn M.makes M.init (fun self => PySem.W.Looks.of_pure (PySem.W.oi_bind self)) ?_)
 have Y := PySem.W.makes_of (M := model X.prog X.w) I.kIn M.makes
 have e2 : ((s.heap.push PySem.W.emptyDict).push (PySem.W.instObj C s.heap.objs.size)).get? (s.heap.objs.size + 1) = some (PySem.W.instObj C s.heap.objs.size) := by
  have := Heap.get?_push_size (s.heap.push PySem.W.emptyDict) (o := PySem.W.instObj C s.heap.objs.size) rfl
  rwa [Heap.size_push] at this
 have t1 : PySem.W.Looks (model X.prog X.w) ((s.heap.push PySem.W.emptyDict).push (PySem.W.instObj C s.heap.objs.size)) (typeOf (.ref (s.heap.objs.size + 1))) (.ref C) := (PySem.W.Looks.ld e2).andThen .now
 have t2 : PySem.W.Looks (model X.prog X.w) ((s.heap.push PySem.W.emptyDict).push (PySem.W.instObj C s.heap.objs.size)) (isInstance (.ref (s.heap.objs.size + 1)) (.type "object")) true := t1.andThen (Y.top.keeps fun b o e => Heap.get?_push_of_some _ (Heap.get?_push_of_some _ e))
 refine codeAny_call_builtin PySem.W.oi_plain PySem.W.entry_oi (PySem.W.check_slot (rest := []) (kw := []) PySem.W.oi_kind PySem.W.oi_split t2 (PySem.W.oi_args (.ref (s.heap.objs.size + 1))) ?_)
 rw [PySem.W.oi_run]
 exact wpAny_pure ⟨rfl, ⟨.ref (s.heap.objs.size + 1), _, I2, rfl, hq⟩⟩
end
end L2
namespace L2
open PySem PySem.Spec PyProof.Rows
def Ite (K : PySem.W.Frag) (l : Addr) : It :=
  ⟨fun i H => ∃ xs x, SqL K H l xs ∧ xs[i]? = some x,
   fun i H v H' => ∃ T x, v = .ref T ∧ H T = none ∧ H' = upd H T (.tup [.int i, x]) ∧ (∀ xs, SqL K H l xs → xs[i]? = some x),
   fun i H => ∃ xs, SqL K H l xs ∧ xs.length ≤ i⟩
def tnE (e it l : Addr) (i : Nat) (h : Heap) : Prop := (∃ old, IsEnum h e it i old) ∧ h.IsListIter it l i
theorem turn_enum {P : Program} {w : World} {K : PySem.W.Frag} {elts : List Expr} {kk : Nat} {tp : Pos} {e it l : Addr} (hei : e ≠ it) : Turn P w K (.Tuple elts kk tp) (Ite K l) [e, it] e (tnE e it l) where
 mem := by simp
 obj := fun i h st b hb => by
  obtain ⟨⟨old, he⟩, ⟨o1, e1, _, d1⟩⟩ := st
  simp only [List.mem_cons, List.mem_nil_iff, or_false] at hb
  rcases hb with rfl | rfl
  ·exact ⟨_, he, fun v z => by cases z⟩
  ·exact ⟨_, e1, fun v z => by rw [d1] at z; cases z⟩
 keep := fun i h h' st k => by
  obtain ⟨⟨old, he⟩, h1⟩ := st
  exact ⟨⟨old, k e (by simp) _ he⟩, h1.at fun o z => k it (by simp) o z⟩
 item := by
  intro X hP hw hK hc i pins s σ H E I hf st hg
  subst hP hw hK
  obtain ⟨xs, x, hq, hx⟩ := hg
  obtain ⟨its, rv, p, hz⟩ := I.list hq
  obtain ⟨u, hu, ru⟩ := rv.get hx
  obtain ⟨⟨old, he⟩, h1⟩ := st
  have lt : ∀ {c o}, s.heap.get? c = some o → s.heap.objs.size ≠ c := fun z => Nat.ne_of_gt (Heap.lt_size z)
  obtain ⟨o1, e1, _⟩ := id h1
  refine wpAny_pyNext_enum_item he h1 p.isList (x := u) (by simpa using hu) hei fun h' a1 a2 a3 a4 a5 => ?_
  refine ⟨_, rfl, wpAny_letOwnedTupleGo_enum a1 fun h'' b1 b2 => ?_⟩
  have kp : ∀ b o, b ∉ [e, it] → s.heap.get? b = some o → h''.get? b = some o := fun b o hb z => by
   simp only [List.mem_cons, List.mem_nil_iff, or_false, not_or] at hb
   exact b2.extBut _ _ hb.1 (a5 b o hb.1 hb.2 z)
  have hT : h''.get? s.heap.objs.size = some { cls := .type "tuple", data := .seq #[.int i s.toks, u] } := b2.extBut _ _ (lt he) a3
  have I2 : Inv X pins σ (upd H s.heap.objs.size (.tup [.int i, x])) { s with heap := h'', toks := s.toks + 1 } :=
   I.turnedN (ch := [e, it]) kp hf (Nat.le_refl _) ⟨(by show 2 ≤ sizeLine; decide), [.int i s.toks, u], .cons ⟨_, rfl⟩ (.cons ru .nil), ⟨_, hT, rfl, _, rfl⟩⟩
  refine ⟨.ref s.heap.objs.size, _, I2, rfl, ⟨s.heap.objs.size, x, rfl, I.hok.fresh (Nat.le_refl _), rfl, fun zs hy' => by rw [I.list_inj hy' hq]; exact hx⟩,
   ⟨⟨u, by simpa using b1⟩, a2.extBut b2.extBut hei.symm⟩, fun b hb => ?_⟩
  have ne : b ≠ s.heap.objs.size := by
   intro z
   subst z
   simp only [List.mem_cons, List.mem_nil_iff, or_false] at hb
   rcases hb with z | z
   ·exact lt he z
   ·exact lt e1 z
  rw [upd_ne ne]
  exact (hf b hb).1
 done := by
  intro X hP hw hK hc i pins s σ H E I hf st hg
  subst hP hw hK
  obtain ⟨xs, hq, hl⟩ := hg
  obtain ⟨its, rv, p, hz⟩ := I.list hq
  have ll := rv.length
  obtain ⟨⟨old, he⟩, h1⟩ := st
  refine wpAny_pyNext_enum_end (I.ok.hd hc) he h1 p.isList (by simp; omega) fun h' k => ⟨rfl, I.turnedL (t' := s.toks) (ch := [e, it]) (fun b o hb z => k b o (fun y => hb (by simp [y])) z) hf⟩
 self := fun _ _ _ _ _ st h => by
  obtain ⟨⟨old, he⟩, _⟩ := st
  exact wpAny_pyIter_enum he h
section
variable {X : Cx}
def iEnum (K : PySem.W.Frag) (tl : TE) : TI := fun σ H R => tl σ H fun x H1 => ∃ l, x = .ref l ∧ (∃ xs, SqL K H1 l xs) ∧ R (Ite K l) H1
theorem pi_enum {elts : List Expr} {kk : Nat} {tp : Pos} {a : Expr} {ta : TE} {p pos : Pos} (hg : Gl X "enumerate") (hm : X.mg "enumerate" = none) (ha : PE X a ta) (hs : starEach [a] X.env = (false, eval a X.env) :: starEach [] X.env := by rfl) (hp : (backTo pos (starEach [] X.env)).any (·.1) = false := by rfl) :
  PI X (.Tuple elts kk tp) (.Call (.Name "enumerate" p) [a] [] pos) (iEnum X.K ta) := by
 intro pins s σ H R I h
 have hA : PA X [a] (tCons ta tNil) := pa_cons ha pa_nil hs
 refine Call_ (ld_blt I hg hm boot_enumerate (PyProof.Rows.callWith_type1 (thn (hA pos pins s σ H (fun vs H1 => ∃ l, vs = [.ref l] ∧ (∃ xs, SqL X.K H1 l xs) ∧ R (Ite X.K l) H1) I ?_) fun us s1 ⟨vs, H1, I1, r1, q1⟩ => ?_) hs hp))
 ·show ta σ H _
  have mono : ∀ x H1, (∃ l, x = V.ref l ∧ (∃ xs, SqL X.K H1 l xs) ∧ R (Ite X.K l) H1) → tNil σ H1 fun xs H2 => ∃ l, x :: xs = [.ref l] ∧ (∃ xs, SqL X.K H2 l xs) ∧ R (Ite X.K l) H2 := fun x H1 ⟨l, e, h1, h2⟩ => ⟨l, by rw [e], h1, h2⟩
  have : iEnum X.K ta σ H R := h
  unfold iEnum at this
  have eq : (fun x H1 => ∃ l, x = V.ref l ∧ (∃ xs, SqL X.K H1 l xs) ∧ R (Ite X.K l) H1) = (fun x H1 => tNil σ H1 fun xs H2 => ∃ l, x :: xs = [.ref l] ∧ (∃ xs, SqL X.K H2 l xs) ∧ R (Ite X.K l) H2) := by
   funext x H1
   refine propext ⟨mono x H1, fun ⟨l, e, h1, h2⟩ => ⟨l, ?_, h1, h2⟩⟩
   injection e
  rw [eq] at this
  exact this
 ·obtain ⟨l, rfl, ⟨xs, hq⟩, q⟩ := q1
  obtain ⟨u1, rfl, e1⟩ := r1.one
  cases (show u1 = Value.ref l from e1)
  obtain ⟨its, rv, p1, hz⟩ := I1.list hq
  refine call_enumerate_list p1.isList fun h' a1 a2 a3 a4 => ?_
  have I2 : Inv X pins σ H1 { s1 with heap := h', toks := s1.toks } := I1.kept a4
  refine wpAny_pyIter_enum a1 ⟨s1.heap.objs.size + 1, [s1.heap.objs.size + 1, s1.heap.objs.size], _, _, H1, rfl, I2, turn_enum (l := l) (fun z => absurd z (Nat.succ_ne_self _)), ⟨⟨_, a1⟩, a2⟩, fun b hb => ?_, q⟩
  have hb' : s1.heap.objs.size ≤ b := by
   simp only [List.mem_cons, List.mem_nil_iff, or_false] at hb
   rcases hb with rfl | rfl
   ·exact Nat.le_succ _
   ·exact Nat.le_refl _
  exact I1.fpOk (H' := H1) hb' (I1.hok.fresh hb')
end
theorem for_enum {K : PySem.W.Frag} {a : Addr} {xs : List V} {g : TG} {tb : TS} {D : Ends} {σ : St} {H : Hp} (Pv : Nat → St → Hp → Prop) (h0 : Pv 0 σ H) (hl : ∀ i σ H, i ≤ xs.length → Pv i σ H → SqL K H a xs)
  (hs : ∀ i x σ H T, xs[i]? = some x → Pv i σ H → H T = none → g (.ref T) σ (upd H T (.tup [.int i, x])) fun σ2 H2 => tb { D with nx := Pv (i + 1), ct := Pv (i + 1), bk := D.nx } σ2 H2) (hd : ∀ σ H, Pv xs.length σ H → D.nx σ H) :
  ∃ W : Nat → Nat → St → Hp → Prop, (∃ m, W 0 m σ H) ∧ ∀ i m σ H, W i m σ H →
   ((Ite K a).stop i H ∧ D.nx σ H) ∨ ((Ite K a).go i H ∧ ∃ N : St → Hp → Prop, (∀ σ' H', N σ' H' → ∃ m', m' < m ∧ W (i + 1) m' σ' H') ∧ ∀ x H', (Ite K a).yld i H x H' → g x σ H' fun σ2 H2 => tb { D with nx := N, ct := N, bk := D.nx } σ2 H2) := by
 refine ⟨fun i m σ H => m = xs.length - i ∧ i ≤ xs.length ∧ Pv i σ H, ⟨xs.length, by simp, Nat.zero_le _, h0⟩, ?_⟩
 rintro i m σ H ⟨rfl, hi, p⟩
 have q := hl i σ H hi p
 by_cases hlt : i < xs.length
 ·refine .inr ⟨⟨xs, xs[i], q, by simp [hlt]⟩, Pv (i + 1), fun σ' H' p' => ⟨xs.length - (i + 1), by omega, rfl, hlt, p'⟩, fun x H' y => ?_⟩
  obtain ⟨T, v, rfl, hT, rfl, y⟩ := y
  exact hs i v σ _ T (y xs q) p hT
 ·have e : i = xs.length := by omega
  subst e
  exact .inl ⟨⟨xs, q, Nat.le_refl _⟩, hd σ H p⟩
end L2
namespace Stb
open PySem PyProof.Rows
section
variable {prog : Program} {w : World} {A : Around} {E : Value → Shared → Prop} {s : Shared} {b0 : Array Keyed}
end
end Stb
namespace L2
open PySem PySem.Spec PyProof.Rows
def CodeO (c : Addr) (qual : Str) : HO := .ext fun h => h.CodeRec (.ref c) qual
def LamO (f : Addr) (qual : Str) (params : Arguments) (body : Expr) (scope : Scope) (c : Addr) (pm ctv : Value) : HO := .ext fun h => h.get? f = some (PySem.W.kla_obj "<lambda>" qual params body scope [] pm c ctv)
def BM (mg : Str → Option Value) (base : Heap) : Prop := ∃ bm ob, mg "__builtins__" = some (.ref bm) ∧ bm ≠ builtinsNs ∧ bm ≠ mainGlobals ∧ base.get? bm = some ob ∧ ob.cls = .type "module" ∧ ob.dict = some builtinsNs ∧ ob.data = .plain
theorem code_ok {P : Program} {w : World} {H : Hp} {h : Heap} {c : Addr} {qual : Str} (r : h.CodeRec (.ref c) qual) : ObjOk P w H h c (CodeO c qual) := by
 refine ⟨r, ?_, fun h1 h2 q k => ?_⟩
 ·obtain ⟨c', oc, vs, tq, e, ho, _⟩ := r
  cases e
  exact ⟨oc, ho⟩
 ·obtain ⟨c', oc, vs, tq, e, ho, r⟩ := q
  cases e
  exact ⟨c, oc, vs, tq, rfl, k _ ho, r⟩
theorem lam_ok {P : Program} {w : World} {H : Hp} {h : Heap} {f c : Addr} {qual : Str} {params : Arguments} {body : Expr} {scope : Scope} {pm ctv : Value} (e : h.get? f = some (PySem.W.kla_obj "<lambda>" qual params body scope [] pm c ctv)) :
  ObjOk P w H h f (LamO f qual params body scope c pm ctv) :=
 ⟨e, ⟨_, e⟩, fun _ _ e k => k _ e⟩
def tLam (P : Addr) (pos : Pos) (qual : Str) (params : Arguments) (body : Expr) (scope : Scope) : TE := fun _ H Q => ∃ ps, H P = some (.tbl ps) ∧ TriplesOk ps.toList ∧
  ((codeAmong pos ps.toList = none ∧ ∀ c f pm ctv, H c = none → H f = none → f ≠ c → Q (.ref f) (upd (upd (upd H P (.tbl (ps ++ #[rawInt pos.line, rawInt pos.col, .ref c]))) c (CodeO c qual)) f (LamO f qual params body scope c pm ctv))) ∨
   ∃ c, codeAmong pos ps.toList = some (.ref c) ∧ H c = some (CodeO c qual) ∧ ∀ f pm ctv, H f = none → Q (.ref f) (upd H f (LamO f qual params body scope c pm ctv)))
section
variable {X : Cx}
theorem pe_lam {params : Arguments} {body : Expr} {scope : Scope} {pos : Pos} {c P : Addr} (hcode : X.env.code = .ref c) (C : PySem.W.CodeHd X.base c P) (bm : BM X.mg X.base) (hcl : closureFor scope X.env = pure []) (hdef : defaultsOf params X.env = ([], []) := by rfl) :
  PE X (.Lambda params body scope pos) (tLam P pos (X.env.qual ++ "<lambda>") params body scope) := by
 intro pins s σ H Q I h
 obtain ⟨ps, hP, ht, h⟩ := h
 have eP : s.heap.get? P = some (PySem.W.tabObj ps) := I.hok P _ hP
 obtain ⟨bmA, ob, b1, b2, b3, b4, b5, b6, b7⟩ := bm
 have nP : ∀ b o, X.base.get? b = some o → b ≠ P := fun b o e z => by
  have := (I.bs b o e).2
  rw [z, hP] at this
  cases this
 have hgP : mainGlobals ≠ P := by
  obtain ⟨o, es, ep, e, _⟩ := I.mod.glob
  exact nP _ _ e
 have hb : s.heap.BuiltinsAt X.mg P := ⟨bmA, ob, b1, b2, b3, nP _ _ b4, I.bk _ _ b4, b5, b6, b7⟩
 refine PySem.W.kla_eval hdef ?_
 rcases h with ⟨hnf, k⟩ | ⟨c', hf, hc', k⟩
 ·refine PySem.W.kla_makeFunction (mg := X.mg) hcl I.ok.glob (I.mod.glob.keeps I.bk) hcode (C.keeps I.bk) eP ht hnf hgP hb fun c' ctv h' tk hx hge hlt hrec htb => ?_
  have sz : s.heap.objs.size ≤ h'.objs.size := Nat.le_trans hge (Nat.le_of_lt hlt)
  have fc : H c' = none := I.hok.fresh hge
  have ff : H h'.objs.size = none := I.hok.fresh sz
  have nfc : h'.objs.size ≠ c' := Nat.ne_of_gt hlt
  refine ⟨.ref h'.objs.size, _, ?_, rfl, k c' h'.objs.size ((X.mg "__name__").getD .none) ctv fc ff nfc⟩
  have keep3 : ∀ b o, b ≠ P → s.heap.get? b = some o → (h'.push (PySem.W.kla_obj "<lambda>" (X.env.qual ++ "<lambda>") params body scope [] ((X.mg "__name__").getD .none) c' ctv)).get? b = some o := fun b o hb e => Heap.get?_push_of_some _ (hx b o hb e)
  have neP : ∀ b, H b = none → b ≠ P := fun b n z => by
   rw [z, hP] at n
   cases n
  have pP : (h'.push (PySem.W.kla_obj "<lambda>" (X.env.qual ++ "<lambda>") params body scope [] ((X.mg "__name__").getD .none) c' ctv)).get? P = some (PySem.W.tabObj (ps ++ #[rawInt pos.line, rawInt pos.col, .ref c'])) := Heap.get?_push_of_some _ htb
  have nPc : P ≠ c' := ne_of_none hP fc
  have nPf : P ≠ h'.objs.size := ne_of_none hP ff
  have old : ∀ b u, H b = some u → b ≠ P → (upd (upd (upd H P (.tbl (ps ++ #[rawInt pos.line, rawInt pos.col, .ref c']))) c' (CodeO c' (X.env.qual ++ "<lambda>"))) h'.objs.size (LamO h'.objs.size (X.env.qual ++ "<lambda>") params body scope c' ((X.mg "__name__").getD .none) ctv)) b = some u := fun b u e hb => by
   rw [upd_ne (ne_of_none e ff), upd_ne (ne_of_none e fc), upd_ne hb]
   exact e
  refine I.un (t' := tk) ⟨fun b o e n _ _ => keep3 b o (neP b n) e, fun b o e n _ _ => ⟨o.slots, keep3 b o (neP b n) e⟩, fun b o e n _ => ?_, fun b o e _ => ?_, fun b xs e => old b _ e (ne_of e hP fun z => nomatch z), fun b ob u e => old b _ e (ne_of e hP fun z => nomatch z), fun b ps0 e => ?_⟩ fun b u e => ?_
  ·have lb : b < s.heap.objs.size := Heap.lt_size e
   rw [upd_ne (Nat.ne_of_lt (Nat.lt_of_lt_of_le lb sz)), upd_ne (Nat.ne_of_lt (Nat.lt_of_lt_of_le lb hge)), upd_ne (neP b n)]
   exact n
  ·by_cases hb : b = P
   ·rw [hb]
    exact ⟨_, pP⟩
   ·exact ⟨o, keep3 b o hb e⟩
  ·by_cases hb : b = P
   ·subst hb
    rw [hP] at e
    cases e
    exact ⟨#[rawInt pos.line, rawInt pos.col, .ref c'], by rw [upd_ne nPf, upd_ne nPc, upd_same]⟩
   ·exact ⟨#[], by rw [old b _ e hb]; simp⟩
  ·by_cases h1 : b = h'.objs.size
   ·subst h1
    rw [upd_same] at e
    cases e
    exact lam_ok (Heap.get?_push_size _ rfl)
   ·rw [upd_ne h1] at e
    by_cases h2 : b = c'
    ·subst h2
     rw [upd_same] at e
     cases e
     exact code_ok (hrec.keeps fun b o q => Heap.get?_push_of_some _ q)
    ·rw [upd_ne h2] at e
     by_cases h3 : b = P
     ·subst h3
      rw [upd_same] at e
      cases e
      exact pP
     ·rw [upd_ne h3] at e
      refine (I.hok b u e).stay (fun d v hd q => keep3 d v ?_ q) (fun d q => old d _ q (ne_of q hP fun z => nomatch z)) fun d ys q => old d _ q (ne_of q hP fun z => nomatch z)
      rcases hd with hd | hd
      ·rw [hd]
       exact h3
      ·exact ne_of hd hP fun z => nomatch z
 ·refine PySem.W.kla_makeFunctionHit (mg := X.mg) hcl I.ok.glob (I.mod.glob.keeps I.bk) hcode (C.keeps I.bk) eP ht hf hb fun ctv h' tk hk hsz => ?_
  exact ⟨.ref h'.objs.size, _, I.laid (a := h'.objs.size) (o := LamO h'.objs.size (X.env.qual ++ "<lambda>") params body scope c' ((X.mg "__name__").getD .none) ctv) (t' := tk) (fun b u e => Heap.get?_push_of_some _ (hk b u e)) hsz (lam_ok (Heap.get?_push_size _ rfl)), rfl, k _ _ _ (I.hok.fresh hsz)⟩
end
structure Lam where
 f : Addr
 c : Addr
 qual : Str
 params : Arguments
 body : Expr
 scope : Scope
 pm : Value
 ctv : Value
def Lam.At (l : Lam) (H : Hp) : Prop := H l.f = some (LamO l.f l.qual l.params l.body l.scope l.c l.pm l.ctv) ∧ H l.c = some (CodeO l.c l.qual)
section
variable {X : Cx} {x : Str} {k : Nat} {e : Expr} {es : List Expr} {p pos : Pos} {t : TA} {tf : TE}
end
end L2
namespace L2
open PySem PySem.Spec PyProof.Rows
theorem law_callT {P : Program} {w : World} {K : PySem.W.Frag} {mg mb : Str → Option Value} {k : Nat} {fa a : Addr} {fd : FuncData} {x : Str} {sp : Sp} {s₁ : Shared} {vs : List Value} {ns : List Int} {tabs : List (Addr × Addr)}
  (KX : K.In s₁.heap) (hns : s₁.heap.Ns mainGlobals mg) (hb : s₁.heap.Ns builtinsNs mb) (hbb : ∀ x : Str, x ≠ "__name__" → mb x = bootBuiltins x) (hlim : s₁.heap.NoLimit) (hg : s₁.gens = #[])
  (ha : s₁.heap.get? a = some { cls := .type "list", data := .seq vs.toArray }) (hi : IntsAre vs ns) (hl : ns.length ≤ sizeLine) (hr : Room k callerA)
  (nt : PySem.W.noTabs K = true) (hT : ∀ t ∈ tabs, PySem.W.CodeHd s₁.heap t.1 t.2 ∧ s₁.heap.TableAt t.1 t.2 #[]) (hbm : BM mg s₁.heap)
  (F : ∀ base : Heap, K.In base → base.Ns mainGlobals mg → BM mg base → (∀ t ∈ tabs, PySem.W.CodeHd base t.1 t.2) → FnOk P w K mg base CX0 k fa fd [x] sp) (hbind : ∀ (s : Shared) (u : Value), BindsTo s fd ⟨[u], []⟩ [(x, u)])
  (hsp : ∀ H : Hp, SqL K H a (ns.map V.int) → (∀ t ∈ tabs, H t.2 = some (.tbl #[])) → sp [.ref a] H (fun v _ => v = .bl true) E0) :
  codeAny (model P w) callerA (.call (.ref fa) ⟨[.ref a], []⟩) (fun r s' => r = .ok (.ret (.bool true)) ∧ OldK s₁.heap s'.heap ∧ s'.os = s₁.os ∧ AllBare s'.gens) s₁ := by
 have rv := vals_ints hi
 have lenV := hi.length
 have tabAt : ∀ b ∈ tabs.map (·.2), ∃ c, (c, b) ∈ tabs ∧ s₁.heap.get? b = some (PySem.W.tabObj #[]) := fun b hb => by
  obtain ⟨t, ht, rfl⟩ := List.mem_map.mp hb
  exact ⟨t.1, ht, (hT t ht).2.2⟩
 have naT : a ∉ tabs.map (·.2) := fun z => by
  obtain ⟨c, _, e⟩ := tabAt a z
  rw [ha] at e
  cases e
 have core : ∀ sc : Option HO, (∀ u, sc = some u → u = .frz { cls := .type "list", data := .seq vs.toArray } (.lst (ns.map V.int)) ∧ K.lookup a = none) → SqL K (fun b => if b ∈ tabs.map (·.2) then some (.tbl #[]) else if b = a then sc else none) a (ns.map V.int) →
   codeAny (model P w) callerA (.call (.ref fa) ⟨[.ref a], []⟩) (fun r s' => r = .ok (.ret (.bool true)) ∧ OldK s₁.heap s'.heap ∧ s'.os = s₁.os ∧ AllBare s'.gens) s₁ := by
  intro sc hsc hS
  have hH : ∀ b u, (fun b => if b ∈ tabs.map (·.2) then some (HO.tbl #[]) else if b = a then sc else none) b = some u → (b ∈ tabs.map (·.2) ∧ u = .tbl #[]) ∨ (b = a ∧ sc = some u) := fun b u e => by
   have e' : (if b ∈ tabs.map (·.2) then some (HO.tbl #[]) else if b = a then sc else none) = some u := e
   by_cases h1 : b ∈ tabs.map (·.2)
   ·rw [if_pos h1] at e'
    exact .inl ⟨h1, (Option.some.inj e').symm⟩
   ·rw [if_neg h1] at e'
    by_cases h2 : b = a
    ·rw [if_pos h2] at e'
     exact .inr ⟨h2, e'⟩
    ·rw [if_neg h2] at e'
     cases e'
  have hTt : ∀ t ∈ tabs, (fun b => if b ∈ tabs.map (·.2) then some (HO.tbl #[]) else if b = a then sc else none) t.2 = some (.tbl #[]) := fun t ht => if_pos (List.mem_map_of_mem ht)
  generalize (fun b => if b ∈ tabs.map (·.2) then some (HO.tbl #[]) else if b = a then sc else none) = H at hS hH hTt
  have hok : HOk P w H s₁.heap := fun b u e => by
   rcases hH b u e with ⟨h1, rfl⟩ | ⟨rfl, h2⟩
   ·obtain ⟨_, _, e⟩ := tabAt b h1
    exact e
   ·obtain ⟨rfl, _⟩ := hsc u h2
    exact ⟨ha, by rw [List.length_map]; exact hl, vs, _, rv, ha⟩
  have none_of : ∀ {b : Addr} {o : Obj}, s₁.heap.get? b = some o → o.cls ≠ .none → o.cls ≠ .type "list" → H b = none := fun {b o} e h1 h2 => by
   cases q : H b with
   | none => rfl
   | some u =>
    rcases hH b u q with ⟨h3, _⟩ | ⟨rfl, _⟩
    ·obtain ⟨_, _, e'⟩ := tabAt b h3
     rw [e] at e'
     cases e'
     exact absurd rfl h1
    ·rw [e] at ha
     cases ha
     exact absurd rfl h2
  have base_of : ∀ {b : Addr} {o : Obj}, s₁.heap.get? b = some o → H b = none → (hidT s₁.heap H).get? b = some o := fun e n => hidT_get e n
  have noD : ∀ {b : Addr} {o : Obj} {es : Array DictEntry} {ep : Nat}, s₁.heap.get? b = some o → o.data = .dict es ep → H b = none := fun {b o es ep} e d => by
   cases q : H b with
   | none => rfl
   | some u =>
    rcases hH b u q with ⟨h3, _⟩ | ⟨rfl, _⟩
    ·obtain ⟨_, _, e'⟩ := tabAt b h3
     rw [e] at e'
     cases e'
     cases d
    ·rw [e] at ha
     cases ha
     cases d
  have nsK : ∀ {b : Addr} {m : Str → Option Value}, s₁.heap.Ns b m → (hidT s₁.heap H).Ns b m := fun {b m} ⟨o, es, ep, e, d, r⟩ => ⟨o, es, ep, base_of e (noD e d), d, r⟩
  have hKb : K.In (hidT s₁.heap H) := fun b o e => base_of (KX b o e) (by
   cases q : H b with
   | none => rfl
   | some u =>
    rcases hH b u q with ⟨h3, _⟩ | ⟨rfl, h4⟩
    ·obtain ⟨_, _, e'⟩ := tabAt b h3
     rw [KX b o e] at e'
     cases e'
     have h2 := List.all_eq_true.mp nt (b, _) (PySem.W.mem_of_lookupK e)
     exact absurd (show false = true from h2) Bool.false_ne_true
    ·rw [(hsc u h4).2] at e
     cases e)
  have hM : Mod K mg (hidT s₁.heap H) := ⟨hKb, nsK hns, ⟨mb, nsK hb, hbb⟩, let ⟨mc, h1, h2⟩ := hlim; ⟨mc, nsK h1, h2⟩⟩
  have hBM : BM mg (hidT s₁.heap H) := by
   obtain ⟨bm, ob, b1, b2, b3, b4, b5, b6, b7⟩ := hbm
   exact ⟨bm, ob, b1, b2, b3, base_of b4 (none_of b4 (by rw [b5]; exact fun z => nomatch z) (by rw [b5]; decide)), b5, b6, b7⟩
  have hCd : ∀ t ∈ tabs, PySem.W.CodeHd (hidT s₁.heap H) t.1 t.2 := fun t ht => by
   obtain ⟨o, vs, file, tf, flags, tg, inF, text, tt, e, hc, r⟩ := (hT t ht).1
   exact ⟨o, vs, file, tf, flags, tg, inF, text, tt, base_of e (none_of e (by rw [hc]; exact fun z => nomatch z) (by rw [hc]; decide)), hc, r⟩
  have e0 : Env0 P w K mg (hidT s₁.heap H) callerA [] s₁ H := ⟨rfl, hM, fun b o e => of_hidT e, Nat.le_of_eq (hidT_size _ _), trivial, fun b hb => absurd (show b ∈ ([] : List Addr) from hb) (by simp), hok, .of_eq hg⟩
  refine codeAny_mono ((F _ hKb (nsK hns) hBM hCd).run callerA [] s₁ H ⟨[.ref a], []⟩ [.ref a] [.ref a] _ _ hr e0 (hbind s₁ (.ref a)) (.cons rfl .nil) (hsp H hS hTt)) fun r s' h => ?_
  cases r with
  | error e => exact False.elim h
  | ok fl =>
   cases fl with
   | next => exact False.elim h
   | brk => exact False.elim h
   | cont => exact False.elim h
   | ret u =>
    obtain ⟨v, H', os, bare, un, hok', r', q⟩ := h
    have q' : v = .bl true := q
    subst q'
    obtain rfl : u = Value.bool true := r'
    have kept : ∀ b o, s₁.heap.get? b = some o → b ∉ tabs.map (·.2) → s'.heap.get? b = some o := fun b o e hbT => by
     cases q : H b with
     | none => exact un.keep b o e q (by intro z; exact absurd (show b ∈ ([] : List Addr) from z) (by simp)) (by simp)
     | some u =>
      rcases hH b u q with ⟨h3, _⟩ | ⟨_, h4⟩
      ·exact absurd h3 hbT
      ·obtain ⟨rfl, _⟩ := hsc u h4
       have z2 := un.frzs b _ _ q
       obtain ⟨e1, _⟩ := hok b _ q
       obtain ⟨e2, _⟩ := hok' b _ z2
       rw [e] at e1
       cases e1
       exact e2
    have grown : ∀ t ∈ tabs, ∃ more, s'.heap.get? t.2 = some (PySem.W.tabObj (#[] ++ more)) := fun t ht => by
     obtain ⟨more, z⟩ := un.tbls t.2 #[] (hTt t ht)
     exact ⟨more, hok' t.2 _ z⟩
    refine ⟨rfl, ⟨fun b o e => ?_, fun b o e => ?_⟩, os, bare⟩
    ·by_cases hbT : b ∈ tabs.map (·.2)
     ·obtain ⟨t, ht, rfl⟩ := List.mem_map.mp hbT
      obtain ⟨more, z⟩ := grown t ht
      have e' := (hT t ht).2.2
      rw [e] at e'
      cases e'
      exact .inr (.inl ⟨(hT t ht).2.isCodeTable, rfl, #[], more, rfl, z⟩)
     ·exact .inl (kept b o e hbT)
    ·by_cases hbT : b ∈ tabs.map (·.2)
     ·obtain ⟨t, ht, rfl⟩ := List.mem_map.mp hbT
      obtain ⟨more, z⟩ := grown t ht
      exact ⟨_, z⟩
     ·exact ⟨o, kept b o e hbT⟩
 cases hk : K.lookup a with
 | some o =>
  have e := KX a o hk
  rw [ha] at e
  cases e
  exact core none (fun _ z => nomatch z) (.inr ⟨_, vs.toArray, _, hk, rfl, rfl, rfl, by rw [List.size_toArray, lenV]; exact hl, by simpa using rv⟩)
 | none =>
  refine core (some (.frz { cls := .type "list", data := .seq vs.toArray } (.lst (ns.map V.int)))) (fun u z => ⟨(Option.some.inj z).symm, hk⟩) (.inl (.inr ⟨{ cls := .type "list", data := .seq vs.toArray }, ?_⟩))
  show (if a ∈ tabs.map (·.2) then _ else if a = a then _ else _) = _
  rw [if_neg naT, if_pos rfl]
theorem walk_ofT {l : PySem.W.OpenLaw} {n k : Nat} {q : Program} {loose : List Str} {XP : (Str → Option Value) → Heap → Prop} {YP : World → Heap → Prop} {d : DefRec} {K : Params → PySem.W.Frag} {x : Str}
  (hn : l.most = some n) (hn2 : n ≤ sizeLine) (hdf : d.params.defaults = []) (hr : Room k callerA)
  (hY : ∀ (w : World) (h : Heap), YP w h → (K w.params).In h)
  (F : ∀ (w : World) (mg : Str → Option Value) (fa : Addr) (h : Heap), (K w.params).In h → h.Ns mainGlobals mg → mg d.name = some (.ref fa) →
   ∃ (tabs : List (Addr × Addr)) (fd : FuncData) (sp : Sp), (∀ t ∈ tabs, ∃ (y : Str) (e : DefRec), (recsOf q).find? (fun e => e.name == y) = some e ∧ PySem.W.tabIn (K w.params) y = some t) ∧ PySem.W.noTabs (K w.params) = true ∧ (∀ (s : Shared) (u : Value), BindsTo s fd ⟨[u], []⟩ [(x, u)]) ∧
    (∀ base : Heap, (K w.params).In base → base.Ns mainGlobals mg → BM mg base → (∀ t ∈ tabs, PySem.W.CodeHd base t.1 t.2) → FnOk l.prog w (K w.params) mg base CX0 k fa fd [x] sp) ∧
    ∀ (H : Hp) (a : Addr) (ns : List Int), ns.length ≤ n → SqL (K w.params) H a (ns.map V.int) → (∀ t ∈ tabs, H t.2 = some (.tbl #[])) → sp [.ref a] H (fun v _ => v = .bl true) E0) :
  PySem.W.WalkO q loose XP YP l.row.toRowW d [] (fun f vs => PySem.call f vs) := by
 refine Att.attach_call hn hdf fun w s₀ s₁ mg mb fa o pm cd doc a vs ns G Y ho hd hcd hmg hobj hints hlen hg => ?_
 have KX := hY w _ Y
 obtain ⟨tabs, fd, sp, hT, nt, hb, hF, hS⟩ := F w mg fa _ KX G.T.g hmg
 have hT' : ∀ t ∈ tabs, PySem.W.CodeHd s₁.heap t.1 t.2 ∧ s₁.heap.TableAt t.1 t.2 #[] := fun t ht => by
  obtain ⟨y, e, h1, h2⟩ := hT t ht
  have z := PySem.W.tab_of (c := t.1) (P := t.2) G.T KX h1 h2
  exact ⟨z.1, z.1.tab z.2⟩
 have hbm : BM mg s₁.heap := by
  obtain ⟨bm, ob, b1, b2, b3, b4, b5, b6⟩ := G.T.bmain
  refine ⟨bm, ob, b1, b2, fun z => ?_, b3, b4, b5, b6⟩
  obtain ⟨o, es, ep, e, hd, _⟩ := G.T.g
  rw [z, e] at b3
  cases b3
  rw [hd] at b6
  cases b6
 exact law_callT KX G.T.g G.T.b G.T.builtins G.T.nolimit hg hobj hints (Nat.le_trans hlen hn2) hr nt hT' hbm hF hb fun H hq ht => hS H a ns hlen hq ht
end L2
namespace L2
open PySem PySem.Spec PyProof.Rows
end L2
namespace L2
open PySem PySem.Spec PyProof.Rows
section
variable {X : Cx}
end
end L2
namespace L2
open PySem PySem.Spec PyProof.Rows
section
variable {X : Cx} {pins : List (Addr × Obj)} {σ : St} {H H' : Hp} {s s' : Shared} {T : Hp → Prop} {a kS f : Addr} {e e1 n : Nat} {kz : List Int} {ks acc : Array Value} {B : Around} {E : Value → Shared → Prop} {Pq : PySem.Fin → Shared → Prop}
end
end L2
namespace L2
open PySem PySem.Spec PyProof.Rows
section
variable {X : Cx} {pins : List (Addr × Obj)} {σ : St} {H H' : Hp} {s s' : Shared} {T : Hp → Prop} {a kS f : Addr} {n : Nat} {kz : List Int}
end
end L2
namespace L2
open PySem PySem.Spec PyProof.Rows
section
variable {X : Cx}
end
end L2
namespace L2
open PySem PySem.Spec PyProof.Rows
theorem Fun.okC {P : Program} {w : World} {K : PySem.W.Frag} {mg : Str → Option Value} {base : Heap} {x qual : Str} {st : Stmt} {f c : Addr} {fd : FuncData} {N ps : List Str} {k : Nat} {sp : Sp} (F : Fun K x qual st f fd) (hc : fd.code = .ref c) (S : FnScope N ps (defScope st)) (len : ∀ vs H Q E, sp vs H Q E → vs.length = ps.length)
  (hbody : ∀ (A : Around) (outer : List Env) (s : Shared) (H : Hp) (vs : List V) (Q : VK) (E : XK), Room k (A.deeper (PyProof.Rows.envOfC qual (defScope st) s.heap.objs.size f (.ref c))) → sp vs H Q E →
   ∃ t, PSs (cxOf CX0 P w K mg base N qual (defScope st) f (.ref c) A outer s H E).nox (defBody st) t ∧ t { nx := fun _ H' => Q .non H', rt := Q } (start N vs) H) : FnOk P w K mg base CX0 (k + 1) f fd ps sp := by
 obtain ⟨oc, od, kV, doc, pm, an, cdv, ct, osl, rfl, lk, hcd⟩ := F.ex
 have e : cdv = .ref c := hc
 subst e
 refine fn_of lk hcd S len fun A outer s H vs Q E hr hsp => ?_
 obtain ⟨t, h, q⟩ := hbody A outer s H vs Q E hr hsp
 exact ⟨t, h.nox, q⟩
theorem triples_snoc {a b : Int} {t u : Tok} {x : Value} : ∀ (l : List Value), TriplesOk l → TriplesOk (l ++ [.int a t, .int b u, x]) := by
 intro l h
 fun_induction TriplesOk l with
 | case1 => exact trivial
 | case2 a' t' b' u' y rest ih => exact ih h
 | case3 l h1 h2 => exact h.elim
def Ready (P : Addr) (pos : Pos) (qual : Str) (H : Hp) : Prop := ∃ ps : Array Value, H P = some (.tbl ps) ∧ TriplesOk ps.toList ∧ (codeAmong pos ps.toList = none ∨ ∃ c, codeAmong pos ps.toList = some (.ref c) ∧ H c = some (CodeO c qual))
def But (P : Addr) (H H' : Hp) : Prop := ∀ b o, H b = some o → b ≠ P → H' b = some o
theorem ready_same {P : Addr} {pos : Pos} {qual : Str} {H H' : Hp} (r : Ready P pos qual H) (s : Same H H') : Ready P pos qual H' := by
 obtain ⟨ps, h1, h2, h3⟩ := r
 refine ⟨ps, s _ _ h1, h2, ?_⟩
 rcases h3 with h3 | ⟨c, e1, e2⟩
 ·exact .inl h3
 ·exact .inr ⟨c, e1, s _ _ e2⟩
section
variable {P : Addr} {pos : Pos} {qual : Str} {H H' H2 : Hp} {K : PySem.W.Frag}
end
end L2
namespace L2
open PySem PySem.Spec PyProof.Rows
section
variable {X : Cx}
end
end L2
namespace FK
end FK
namespace L2
open PySem PySem.Spec PyProof.Rows
def bas (fs : List Addr) (h : Heap) : Heap := ⟨h.objs.mapIdx fun i o => if i ∈ fs then { o with data := .freed } else o, h.life⟩
theorem bas_get {fs : List Addr} {h : Heap} {b : Addr} (hb : b ∉ fs) : (bas fs h).get? b = h.get? b := by
 unfold bas Heap.get?
 simp only [Array.getElem?_mapIdx]
 cases e : h.objs[b]? with
 | none => rfl
 | some o => simp only [Option.map_some, if_neg hb]
theorem bas_none {fs : List Addr} {h : Heap} {b : Addr} (hb : b ∈ fs) : (bas fs h).get? b = none := by
 unfold bas Heap.get?
 simp only [Array.getElem?_mapIdx]
 cases e : h.objs[b]? with
 | none => rfl
 | some o => simp only [Option.map_some, if_pos hb]
theorem bas_stays {fs : List Addr} {h : Heap} : (bas fs h).StaysIn h := fun b o e => by
 by_cases hb : b ∈ fs
 ·rw [bas_none hb] at e; cases e
 ·rw [bas_get hb] at e; exact e
theorem bas_frames {h h' base : Heap} : ∀ {l : List Env} (all : List Addr), (∀ b ∈ frs l, b ∈ all) → h.FunFrames base l → h.FunFrames (bas all h') l
 | [], _, _, _ => trivial
 | env :: r, all, sub, ⟨hk, ⟨L, o, hf, hn, ho, hd⟩, hr⟩ => by
  have e : frs (env :: r) = L :: frs r := by
   unfold frs
   rw [List.filterMap_cons, hf]
  rw [e] at sub
  exact ⟨hk, ⟨L, o, hf, bas_none (sub L (List.mem_cons_self ..)), ho, hd⟩, bas_frames all (fun b hb => sub b (List.mem_cons_of_mem _ hb)) hr⟩
theorem hok_fly {P : Program} {w : World} {fs : List Addr} {H : Hp} {h h' : Heap} (k : (bas fs h).StaysIn h') (x : HOk P w H h) (hf : ∀ b ∈ fs, H b = none) : HOk P w H h' := fun a o e =>
 (x a o e).stay (fun b u hb q => k b u (by
  rw [bas_get]
  ·exact q
  ·intro z
   have n := hf b z
   rcases hb with rfl | hb
   ·rw [e] at n; cases n
   ·rw [hb] at n; cases n)) (fun _ q => q) fun _ _ q => q
def TrAt (h : Heap) (ea T C : Addr) (a0 : Value) : Prop := ∃ oe vs oT ts, h.get? ea = some oe ∧ (oe.cls = .ref C ∧ vs[0]? = some a0) ∧ oe.data = .fields vs ∧ vs[1]? = some (.ref T) ∧ T ≠ ea ∧ h.get? T = some oT ∧ oT.data = .fields ts ∧ ts[3]? = some .none
theorem TrAt.traced {h b : Heap} {ea T C : Addr} {a0 : Value} (x : TrAt h ea T C a0) (n : b.get? T = none) : h.TracedW b ea (.ref C) a0 := by
 obtain ⟨oe, vs, oT, ts, h1, h2, h3, h4, h5, h6, h7, h8⟩ := x
 exact ⟨oe, vs, T, oT, ts, h1, h2, h3, h4, n, h5, h6, h7, h8⟩
theorem ObjOk.has {P : Program} {w : World} {H : Hp} {h : Heap} {a : Addr} {o : HO} (x : ObjOk P w H h a o) : ∃ u, h.get? a = some u := by
 cases o with
 | lst xs => obtain ⟨_, _, _, _, e⟩ := x; exact ⟨_, e⟩
 | tup xs => obtain ⟨_, _, _, _, e, _⟩ := x; exact ⟨_, e⟩
 | dK kvs => obtain ⟨_, _, _, _, o, _, _, e, _⟩ := x; exact ⟨_, e⟩
 | dT kvs => obtain ⟨_, _, _, _, o, _, _, e, _⟩ := x; exact ⟨_, e⟩
 | set S n => obtain ⟨o, _, _, _, e, _⟩ := x; exact ⟨_, e⟩
 | ins C dx fs => obtain ⟨_, _, _, e, _⟩ := x; exact ⟨_, e⟩
 | own y => exact x
 | xd fs => obtain ⟨_, ⟨_, _, _, e, _⟩, _⟩ := x; exact ⟨_, e⟩
 | rng lo hi => obtain ⟨_, _, _, e⟩ := x; exact ⟨_, e⟩
 | frz ob u => obtain ⟨e, _⟩ := x; exact ⟨_, e⟩
 | tbl ps => exact ⟨_, (show h.get? a = some _ from x)⟩
 | met f y => exact ⟨_, (show h.get? a = some _ from x)⟩
 | ext φ => obtain ⟨_, e, _⟩ := x; exact e
theorem HOk.no {P : Program} {w : World} {H : Hp} {h : Heap} {a : Addr} (x : HOk P w H h) (n : h.get? a = none) : H a = none := by
 cases e : H a with
 | none => rfl
 | some o =>
  obtain ⟨u, q⟩ := (x a o e).has
  rw [n] at q
  cases q
def CX1 (P : Program) (w : World) (C : Addr) : CXT := fun outer H s E e s' => ∃ (ea T : Addr) (a0 : Value) (H' : Hp), e = .ref ea ∧ s'.os = s.os ∧ AllBare s'.gens ∧ Un (frs outer) [] H H' s.heap s'.heap ∧ HOk P w H' s'.heap ∧ TrAt s'.heap ea T C a0 ∧ (s.heap.get? ea = none ∧ s.heap.get? T = none) ∧ (H' ea = none ∧ H' T = none) ∧ E (.ref C) none H'
theorem un_after {fs : List Addr} {H H' : Hp} {h0 h1 h5 : Heap} {ea T : Addr} (u : Un fs [] H H' h0 h1) (k : (bas (ea :: T :: fs) h1).StaysIn h5) (up : h1.UpToSlots h5) (hf : ∀ b ∈ fs, ∃ o, h1.get? b = some o ∧ ∀ vs, o.data ≠ .fields vs) (ne : h0.get? ea = none) (nT : h0.get? T = none) : Un fs [] H H' h0 h5 := by
 have off : ∀ b o, h0.get? b = some o → b ∉ fs → b ∉ ea :: T :: fs := fun b o e nb z => by
  rcases List.mem_cons.mp z with q | q
  ·rw [q, ne] at e; cases e
  ·rcases List.mem_cons.mp q with q | q
   ·rw [q, nT] at e; cases e
   ·exact nb q
 refine ⟨fun b o e n nb nx => k b o (by rw [bas_get (off b o e nb)]; exact u.keep b o e n nb nx), fun b o e n hb nx => ?_, u.free, fun b o e nx => ?_, u.tups, u.frzs, u.tbls⟩
 ·obtain ⟨sl, e1⟩ := u.slot b o e n hb nx
  obtain ⟨o', e', nf⟩ := hf b hb
  rw [e1] at e'; cases e'
  obtain ⟨sl', e2⟩ := up b _ e1 nf
  exact ⟨sl', e2⟩
 ·by_cases hb : b ∈ fs
  ·obtain ⟨o', e', nf⟩ := hf b hb
   obtain ⟨sl, z⟩ := up b o' e' nf
   exact ⟨_, z⟩
  ·obtain ⟨o', e1⟩ := u.there b o e nx
   exact ⟨o', k b o' (by rw [bas_get (off b o e hb)]; exact e1)⟩
structure ExcC (K : PySem.W.Frag) (mg : Str → Option Value) (x : Str) (C : Addr) : Prop where
 bound : mg x = some (.ref C)
 exc : PySem.W.excIn K C [.type "ValueError", .type "Exception", .type "BaseException", .type "object"] "ValueError.__new__" = true
theorem ExcC.own {K : PySem.W.Frag} {mg : Str → Option Value} {x : Str} {C : Addr} {h : Heap} (c : ExcC K mg x C) (X : K.In h) : OwnCls x C [.type "ValueError", .type "Exception", .type "BaseException", .type "object"] "ValueError.__new__" mg h := by
 refine ⟨c.bound, ?_⟩
 have z := c.exc
 unfold PySem.W.excIn at z
 split at z
 case h_2 => cases z
 case h_1 d1 cl sl there =>
  split at z
  case h_2 => cases z
  case h_1 C1 tail g0 g1 g2 g3 made g5 em es =>
   simp only [Bool.and_eq_true, beq_iff_eq, Bool.not_eq_true'] at z
   obtain ⟨⟨⟨⟨⟨ec, en⟩, fd⟩, tl⟩, nso⟩, noi⟩ := z
   obtain ⟨c1, c2, c3, c4, c5, c6, c7, c8, c9, c10, c11⟩ := cl
   dsimp only at em fd nso noi
   subst em fd ec en
   have esl : sl = ⟨[g0, g1, g2, g3, some (.builtin "ValueError.__new__"), g5]⟩ := by
    obtain ⟨sl⟩ := sl
    exact congrArg Array.mk es
   subst esl
   exact ⟨tail, c4, c1, c5, c2, c6, c7, c8, c9, c10, d1, g0, g1, g2, g3, g5, _, X _ _ there, .of_isNs (PySem.W.isNs_of_in X nso), PySem.W.nsMap_none_of_in X nso noi, PySem.W.tail_of_in X tl⟩
theorem ps_raise {P : Program} {w : World} {K : PySem.W.Frag} {mg : Str → Option Value} {base : Heap} {N : List Str} {qual : Str} {scope : Scope} {f C : Addr} {cd : Value} {A : Around} {outer : List Env} {s0 : Shared} {H0 : Hp} {E : XK} {x msg : Str} {np cpos pos mpos : Pos} {j : Nat}
  (c : ExcC K mg x C) (hg : Gl (cxOf (CX1 P w C) P w K mg base N qual scope f cd A outer s0 H0 E) x) (hdb : (x == ("__debug__" : Str)) = false := by decide) :
  PS (cxOf (CX1 P w C) P w K mg base N qual scope f cd A outer s0 H0 E) (.Raise (some (.Call (.Name x np) [.Constant (.str msg) j mpos] [] cpos)) none pos) (fun _ _ H => E (.ref C) none H) := by
 intro pins s σ H D I hE
 obtain ⟨tl, N0, nm, q, bs, hdct, sn, sub, ab, col, dd, k0, k1, k2, k3, k5, mN, hC, hN, hni, tail⟩ := (c.own I.mod.kin).obj
 refine wpAny_Raise_call_subT (C := C) (nm := nm) (q := q) (N := N0) (bs := bs) (bm := tl) (hdct := hdct) (sn := sn) (sub := sub) (ab := ab) (col := col) (dd := dd) (k0 := k0) (k1 := k1) (k2 := k2) (k3 := k3) (k5 := k5)
  PySem.F.excBase_ValueError (mN := mN) (tail.hasType PySem.F.excBase_ValueError.hasBase) (I.ok.hd rfl) rfl hni (ld_glob I hg c.bound ⟨rfl, ?_⟩ hdb)
 refine Calls.evalArgs_plain (spliced_more (thn (pe_str (X := cxOf (CX1 P w C) P w K mg base N qual scope f cd A outer s0 H0 E) pins s σ H (fun v H' => H' = H) I rfl) fun u s2 ⟨v, H2, I2, _, e2⟩ => ?_))
 subst e2
 refine spliced_none ⟨rfl, by show 1 ≤ sizeLine; decide, I2.bk _ _ hC, hN.keeps I2.bk, tail.keeps I2.bk, fun h' e made => ?_⟩
 obtain ⟨t, he, ht0, ht⟩ := made.there
 have stk := I2.stack
 have fr : ∀ b ∈ frs (envOfC qual scope s0.heap.objs.size f cd :: outer), ∃ o, h'.get? b = some o ∧ ∀ vs, o.data ≠ .fields vs := fun b hb => by
  obtain ⟨_, o, ho, nf⟩ := stk.mem hb
  exact ⟨o, made.keeps _ _ ho, nf⟩
 have ef : e ∉ frs (envOfC qual scope s0.heap.objs.size f cd :: outer) := fun hb => by
  obtain ⟨_, o, ho, _⟩ := stk.mem hb
  rw [made.new] at ho
  cases ho
 show wpAny _ _ (leaving (envOfC qual scope s0.heap.objs.size f cd) (.ref e)) _ _ _
 refine wpAny_leaving_firstW (base := bas (e :: frs (envOfC qual scope s0.heap.objs.size f cd :: outer)) h') (a0 := .ref t) I2.ok.frames (bas_frames _ (fun b hb => List.mem_cons_of_mem _ hb) (stk.of_keeps fun b o hb _ => ⟨o, made.keeps _ _ hb, rfl⟩)) rfl he bas_stays (bas_none (List.mem_cons_self ..)) rfl rfl rfl fun h'' left => ?_
 obtain ⟨l1, l2, l3, l4⟩ := left
 obtain ⟨oe, vs, T, oT, ts, r1, r2, r3, r4, r5, r6, r7, r8, r9⟩ := l3
 have nT' : h'.get? T = none := by
  by_cases z : T ∈ e :: frs (envOfC qual scope s0.heap.objs.size f cd :: outer)
  ·rcases List.mem_cons.mp z with q | q
   ·exact absurd q r6
   ·obtain ⟨_, o, ho, nf⟩ := l2.mem q
    rw [r7] at ho
    cases ho
    exact absurd r8 (nf _)
  ·rw [bas_get z] at r5
   exact r5
 have nT2 : s2.heap.get? T = none := by
  cases z : s2.heap.get? T with
  | none => rfl
  | some o => have := made.keeps _ _ z; rw [nT'] at this; cases this
 have back : ∀ b, s2.heap.get? b = none → s0.heap.get? b = none := fun b n => by
  cases z : s0.heap.get? b with
  | none => rfl
  | some o =>
   obtain ⟨o', q⟩ := I2.base.there b o z (fun y => nomatch y)
   rw [n] at q
   cases q
 have He := I2.hok.no made.new
 have HT := I2.hok.no nT2
 refine ⟨e, T, .ref t, H2, rfl, I2.os, I2.bare, ?_, ?_, ⟨oe, vs, oT, ts, r1, r2, r3, r4, r6, r7, r8, r9⟩, ⟨back _ made.new, back _ nT2⟩, ⟨He, HT⟩, hE⟩
 ·have u := I2.base
  refine ⟨fun b o z n nb nx => ?_, fun b o z n hb nx => ?_, u.free, fun b o z nx => ?_, u.tups, u.frzs, u.tbls⟩
  ·have z2 := u.keep b o z n nb nx
   refine l1 b o ?_
   rw [bas_get]
   ·exact made.keeps _ _ z2
   ·intro y
    rcases List.mem_cons.mp y with q | q
    ·rw [q, made.new] at z2; cases z2
    ·rcases List.mem_cons.mp (show b ∈ s0.heap.objs.size :: frs outer from q) with q | q
     ·exact absurd (Heap.lt_size z) (by rw [q]; exact Nat.lt_irrefl _)
     ·exact nb q
  ·obtain ⟨sl, z2⟩ := u.slot b o z n hb nx
   obtain ⟨o', z3, nf⟩ := fr b (List.mem_cons_of_mem _ hb)
   have z4 := made.keeps _ _ z2
   rw [z4] at z3
   cases z3
   obtain ⟨sl', z5⟩ := l4 b _ z4 nf
   exact ⟨sl', z5⟩
  ·obtain ⟨o', z2⟩ := u.there b o z nx
   have z4 := made.keeps _ _ z2
   by_cases y : b ∈ frs (envOfC qual scope s0.heap.objs.size f cd :: outer)
   ·obtain ⟨o'', z3, nf⟩ := fr b y
    obtain ⟨sl, z5⟩ := l4 b _ z3 nf
    exact ⟨_, z5⟩
   ·refine ⟨o', l1 b o' ?_⟩
    rw [bas_get]
    ·exact z4
    ·intro y'
     rcases List.mem_cons.mp y' with q | q
     ·rw [q, made.new] at z2; cases z2
     ·exact y q
 ·refine hok_fly (h := h') l1 (I2.hok.kept made.keeps) fun b hb => ?_
  rcases List.mem_cons.mp hb with q | q
  ·rw [q]; exact He
  ·exact I2.stkFree b q
end L2
namespace L2
open PySem PySem.Spec PyProof.Rows
theorem Fun.okX {P : Program} {w : World} {K : PySem.W.Frag} {mg : Str → Option Value} {base : Heap} {C : Addr} {x qual : Str} {st : Stmt} {f : Addr} {fd : FuncData} {N ps : List Str} {k : Nat} {sp : Sp} (F : Fun K x qual st f fd) (S : FnScope N ps (defScope st)) (len : ∀ vs H Q E, sp vs H Q E → vs.length = ps.length)
  (hb : ∀ (cdv : Value) (A : Around) (outer : List Env) (s : Shared) (H : Hp) (vs : List V) (Q : VK) (E : XK), Room k (A.deeper (envOfC qual (defScope st) s.heap.objs.size f cdv)) → sp vs H Q E →
   ∃ t, PSs (cxOf (CX1 P w C) P w K mg base N qual (defScope st) f cdv A outer s H E) (defBody st) t ∧ t { nx := fun _ H' => Q .non H', rt := Q } (start N vs) H) : FnOk P w K mg base (CX1 P w C) (k + 1) f fd ps sp := by
 obtain ⟨oc, od, kV, doc, pm, an, cdv, ct, osl, rfl, lk, hcd⟩ := F.ex
 exact fn_of lk hcd S len fun A outer s H vs Q E hr hsp => hb cdv A outer s H vs Q E hr hsp
def MlX (P : Program) (w : World) (K : PySem.W.Frag) (mg : Str → Option Value) (base : Heap) (C XC : Addr) (m : Str) (k : Nat) (ps : List Str) (sp : Sp) : Prop :=
 ∃ (f : Addr) (fd : FuncData), Meth K C m f ∧ Binds K fd ps [] ∧ FnOk P w K mg base (CX1 P w XC) k f fd ps sp
def xeW (X : Cx) (XC : Addr) (W : St → Hp → Prop) : Value → Shared → Prop := fun e s' => ∃ (pins : List (Addr × Obj)) (σ : St) (H : Hp) (s : Shared), Inv X pins σ H s ∧ CX1 X.prog X.w XC X.stack H s (fun _ _ H' => W σ H') e s'
abbrev Cx.tryW (X : Cx) (XC : Addr) (W : St → Hp → Prop) : Cx := X.wish (xeW X XC W)
def tMethW (C : Addr) (m : Str) (sp : Sp) (W : St → Hp → Prop) (ta : TE) (t : TA) : TE := fun σ H Q => ta σ H fun x H1 => ∃ a dx fs, x = .ref a ∧ H1 a = some (.ins C dx fs) ∧ fs.lookup m = none ∧
 t σ H1 fun vs H2 => sp (x :: vs) H2 Q (fun _ _ H' => W σ H')
section
variable {X : Cx} {k : Nat} {C XC : Addr} {ps : List Str} {sp : Sp} {m : Str} {pos apos : Pos} {e o : Expr} {es : List Expr} {ta : TE} {t : TA} {W : St → Hp → Prop}
theorem pe_mlX {pl : Sem Bool} (M : MlX X.prog X.w X.K X.mg X.base C XC m k ps sp) (c : Cls X.K C) (hr : Room k X.A) (he : PE (X.tryW XC W) o ta) (ha : PA (X.tryW XC W) (e :: es) t)
  (hst : starEach (e :: es) X.env = (false, eval e X.env) :: starEach es X.env := by rfl) (hpl : (backTo pos (starEach es X.env)).any (·.1) = false := by rfl)
  (ht : eval (.Call (.Attribute o m apos) (e :: es) [] pos) X.env = (do
   let ov ← eval o X.env
   standAt apos.atName
   let (f, first) ← holding [ov] (getMethod ov m pl)
   callWith pos f first (backTo pos (starEach (e :: es) X.env)) (backToKw pos (keywordEach [] X.env))) := by rfl) :
  PE (X.tryW XC W) (.Call (.Attribute o m apos) (e :: es) [] pos) (tMethW C m sp W ta t) := by
 obtain ⟨f, fd, hm, hb, F⟩ := M
 intro pins s σ H Q I h
 refine PySem.W.methodCall_KW (pl := pl) (thn (he pins s σ H _ I h) fun u s1 ⟨x, H1, I1, rx, a, dx, fs, ex, ea, l, q⟩ => ?_) ht
 subst ex
 obtain rfl : u = Value.ref a := rx
 refine getmeth_ok I1 ea c hm l ?_
 refine PySem.W.callWith_K (first := [.ref a]) (h₀ := X.base) I.ok.mod.kin hm.kp (thn (ha pos pins s1 σ H1 _ I1 q) fun us s2 ⟨vs, H2, I2, r, q2⟩ => ⟨I2.kIn, ?_⟩) hst hpl
 have r2 : Vals (V.ref a :: vs) (Value.ref a :: us) := .cons rfl r
 have hl : (Value.ref a :: us).length = ps.length := by rw [← r2.length]; exact F.len _ _ _ _ q2
 have hb2 := hb s2 (Value.ref a :: us) I2.kIn (by rw [List.append_nil]; exact hl)
 rw [List.append_nil] at hb2
 refine wpAny_call (codeAny_mono (F.run X.A X.stack s2 H2 ⟨Value.ref a :: us, []⟩ (Value.ref a :: us) (V.ref a :: vs) Q (fun _ _ H' => W σ H') hr I2.env0 hb2 r2 q2) fun r s' hq => ?_)
 cases r with
 | error e => exact ⟨pins, σ, H2, s2, I2.unwish, hq⟩
 | ok fl =>
  cases fl with
  | ret u => exact I2.after hq
  | next => exact False.elim hq
  | brk => exact False.elim hq
  | cont => exact False.elim hq
end
abbrev Cx.pin (X : Cx) (pins : List (Addr × Obj)) : Cx := { X with pn := X.pn ++ pins }
abbrev Cx.caught (X : Cx) (ea : Addr) : Cx := { X with A := X.A.mark (some (.ref ea)), calm := false, xe := fun _ _ => False }
section
variable {X : Cx} {pins : List (Addr × Obj)} {σ : St} {H : Hp} {s : Shared}
theorem Cx.Ok.pinX (ok : X.Ok) : (X.pin pins).Ok := ⟨ok.mod, ok.kind, ok.glob, ok.blt, ok.above, ok.inj, ok.has, ok.cab, ok.hd, ok.frames, ok.stk, ok.exf, ok.bs, ok.bsz, ok.noex, ok.exfs, ok.funs, ok.frf⟩
theorem Cx.Ok.unpinX (ok : (X.pin pins).Ok) : X.Ok := ⟨ok.mod, ok.kind, ok.glob, ok.blt, ok.above, ok.inj, ok.has, ok.cab, ok.hd, ok.frames, ok.stk, ok.exf, ok.bs, ok.bsz, ok.noex, ok.exfs, ok.funs, ok.frf⟩
theorem Cx.Ok.caught (ok : X.Ok) {ea : Addr} : (X.caught ea).Ok := ⟨ok.mod, ok.kind, ok.glob, ok.blt, ok.above, ok.inj, ok.has, ok.cab, (fun z => nomatch z), ok.frames, ok.stk, ok.exf, ok.bs, ok.bsz, ok.noex, ok.exfs, ok.funs, ok.frf⟩
theorem Inv.pinX (I : Inv X pins σ H s) : Inv (X.pin pins) [] σ H s := ⟨I.ok.pinX, I.os, I.bare, I.base, I.loc, I.cell, I.free, I.freeC, fun p hp => I.pin p (by rw [List.append_nil] at hp; exact hp), I.hok, I.len⟩
theorem Inv.unpinX {p' : List (Addr × Obj)} (I : Inv (X.pin pins) p' σ H s) : Inv X pins σ H s := ⟨I.ok.unpinX, I.os, I.bare, I.base, I.loc, I.cell, I.free, I.freeC, fun p hp => I.pin p (List.mem_append_left _ hp), I.hok, I.len⟩
theorem Inv.caught (I : Inv X pins σ H s) {ea : Addr} : Inv (X.caught ea) pins σ H s := ⟨I.ok.caught, I.os, I.bare, I.base, I.loc, I.cell, I.free, I.freeC, I.pin, I.hok, I.len⟩
theorem Inv.uncaught {ea : Addr} (ok : X.Ok) (I : Inv (X.caught ea) pins σ H s) : Inv X pins σ H s := ⟨ok, I.os, I.bare, I.base, I.loc, I.cell, I.free, I.freeC, I.pin, I.hok, I.len⟩
theorem SP.unpinX {D : Ends} {f : Flow} {s' : Shared} (h : SP (X.pin pins) [] D f s') : SP X pins D f s' := by
 cases f with
 | next => obtain ⟨σ', H', I, q⟩ := h; exact ⟨σ', H', I.unpinX, q⟩
 | brk => obtain ⟨σ', H', I, q⟩ := h; exact ⟨σ', H', I.unpinX, q⟩
 | cont => obtain ⟨σ', H', I, q⟩ := h; exact ⟨σ', H', I.unpinX, q⟩
 | ret u => obtain ⟨v, σ', H', I, r, q⟩ := h; exact ⟨v, σ', H', I.unpinX, r, q⟩
end
end L2
namespace L2
open PySem PySem.Spec PyProof.Rows
abbrev Around.still (A : Around) : Around := { A with handled := none }
abbrev cxH (P : Program) (w : World) (K : PySem.W.Frag) (mg : Str → Option Value) (base : Heap) (N : List Str) (qual : Str) (scope : Scope) (f : Addr) (cd : Value) (A : Around) (outer : List Env) (s : Shared) (H : Hp) (E : XK) : Cx :=
 { cxOf CX0 P w K mg base N qual scope f cd A outer s H E with calm := false, xe := fun _ _ => False }
def FnOkH (P : Program) (w : World) (K : PySem.W.Frag) (mg : Str → Option Value) (base : Heap) (k : Nat) (f : Addr) (fd : FuncData) (ps : List Str) (sp : Sp) : Prop :=
 (∀ vs H Q E, sp vs H Q E → vs.length = ps.length) ∧ ∀ (A : Around) (outer : List Env) (s : Shared) (H : Hp) (args : Args) (us : List Value) (vs : List V) (Q : VK) (E : XK), Room k (Around.still A) → Env0 P w K mg base A outer s H → BindsTo s fd args (ps.zip us) → Vals vs us → sp vs H Q E →
  codeAny (model P w) A (.call (.ref f) args) (CR CX0 outer P w H s Q E) s
theorem Fun.okH {P : Program} {w : World} {K : PySem.W.Frag} {mg : Str → Option Value} {base : Heap} {x qual : Str} {st : Stmt} {f : Addr} {fd : FuncData} {N ps : List Str} {k : Nat} {sp : Sp} (F : Fun K x qual st f fd) (S : FnScope N ps (defScope st)) (len : ∀ vs H Q E, sp vs H Q E → vs.length = ps.length)
  (hbody : ∀ (cdv : Value) (A : Around) (outer : List Env) (s : Shared) (H : Hp) (vs : List V) (Q : VK) (E : XK), Room k (Around.still (A.deeper (envOfC qual (defScope st) s.heap.objs.size f cdv))) → sp vs H Q E →
   ∃ t, PSs (cxH P w K mg base N qual (defScope st) f cdv A outer s H E) (defBody st) t ∧ t { nx := fun _ H' => Q .non H', rt := Q } (start N vs) H) : FnOkH P w K mg base (k + 1) f fd ps sp := by
 obtain ⟨oc, od, kV, doc, pm, an, cdv, ct, osl, rfl, lk, hcd⟩ := F.ex
 refine ⟨len, fun A outer s H args us vs Q E hr e0 hb r hsp => ?_⟩
 have hl := len _ _ _ _ hsp
 have KX : K.In s.heap := e0.mod.kin.keeps fun b o e => (e0.bs b o e).1
 have lim : s.heap.NoLimit := e0.mod.nolimit.keeps fun b o e => (e0.bs b o e).1
 have hkind : ∀ y ∈ ps.zip us, (defScope st).names.lookup y.1 = some .local ∨ ((defScope st).names.lookup y.1 = some .cell ∧ ((cellsFrom (s.heap.objs.size + 1) (defScope st).names []).lookup y.1).isSome = true) := fun ⟨n, v⟩ hy => by
  rcases S.par n (List.of_mem_zip hy).1 with q | q
  ·exact .inl q
  ·exact .inr ⟨q, PySem.W.cellsFrom_some _ _ _ (.inl q)⟩
 refine codeAny_call_function hr.depth (KX _ _ lk) rfl S.co S.gen rfl (PySem.W.codeRec_of KX hcd) (hb _ _ _ _ ?_)
 refine wpAny_newFunctionEnv_cells S.kind hkind fun env he s1 x => ?_
 subst he
 refine ⟨lim.keeps x.toInCall.keep, codeAny_func ?_⟩
 obtain ⟨t, ht, hq⟩ := hbody cdv A outer s H vs Q E (hr.deeper _) hsp
 have e1 : Env0 P w K mg base (Around.still A) outer s H := ⟨e0.frames, e0.mod, e0.bs, e0.bsz, e0.funs, e0.frf, e0.hok, e0.bare⟩
 have I1 : Inv (cxOf CX0 P w K mg base N qual (defScope st) f cdv (Around.still A) outer s H E) [] (start N vs) H s1 := inv_start S rfl e1 hl r x
 have ok := I1.ok
 have I : Inv (cxH P w K mg base N qual (defScope st) f cdv A outer s H E) [] (start N vs) H s1 :=
  ⟨⟨ok.mod, ok.kind, ok.glob, ok.blt, ok.above, ok.inj, ok.has, ok.cab, (fun z => nomatch z), Around.frames_deeper e0.frames, ok.stk, ok.exf, ok.bs, ok.bsz, ok.noex, ok.exfs, ok.funs, ok.frf⟩, I1.os, I1.bare, I1.base, I1.loc, I1.cell, I1.free, I1.freeC, I1.pin, I1.hok, I1.len⟩
 refine wpAny_mono (ht [] s1 (start N vs) H _ I hq) (fun fl s' hs => ?_) fun e s' hs => False.elim hs
 have fin : ∀ {σ' : St} {H' : Hp} {v : V} {u : Value}, Inv (cxH P w K mg base N qual (defScope st) f cdv A outer s H E) [] σ' H' s' → RelV v u → Q v H' → CE outer P w H s Q u s' :=
  fun {σ' H' v u} J rv q => ⟨v, H', J.os, J.bare, J.base, J.hok, rv, q⟩
 cases fl with
 | ret u =>
  obtain ⟨v, σ', H', J, rv, q⟩ := hs
  exact fin J rv q
 | next =>
  obtain ⟨σ', H', J, q⟩ := hs
  exact fin (v := V.non) (u := Value.none) J rfl q
 | brk =>
  obtain ⟨_, _, _, q⟩ := hs
  exact False.elim q
 | cont =>
  obtain ⟨_, _, _, q⟩ := hs
  exact False.elim q
def ClH (P : Program) (w : World) (K : PySem.W.Frag) (mg : Str → Option Value) (base : Heap) (x : Str) (k : Nat) (ps : List Str) (sp : Sp) : Prop :=
 ∃ (f : Addr) (fd : FuncData), mg x = some (.ref f) ∧ PySem.W.keepIn K (.ref f) = true ∧ Binds K fd ps [] ∧ FnOkH P w K mg base k f fd ps sp
theorem DefAt.clH {P : Program} {w : World} {K : PySem.W.Frag} {mg : Str → Option Value} {base : Heap} {x : Str} {st : Stmt} {ps : List Str} {f : Addr} {fd : FuncData} {k : Nat} {sp : Sp} (D : DefAt K mg x st ps f fd) (h : FnOkH P w K mg base k f fd ps sp) : ClH P w K mg base x k ps sp :=
 ⟨f, fd, D.nm, D.fn.kp, D.bd, h⟩
theorem pe_clH {X : Cx} {x : Str} {k : Nat} {ps : List Str} {sp : Sp} {e : Expr} {es : List Expr} {p pos : Pos} {t : TA} (C : ClH X.prog X.w X.K X.mg X.base x k ps sp) (hr : Room k (Around.still X.A)) (hg : Gl X x) (ha : PA X (e :: es) t) (hdb : (x == ("__debug__" : Str)) = false := by decide)
  (he : starEach (e :: es) X.env = (false, eval e X.env) :: starEach es X.env := by rfl) (hpl : (backTo pos (starEach es X.env)).any (·.1) = false := by rfl) : PE X (.Call (.Name x p) (e :: es) [] pos) (tCall sp [] E0 t) := by
 obtain ⟨f, fd, hm, hk, hb, F⟩ := C
 intro pins s σ H Q I h
 refine wpAny_Call_Name_kw (ld_glob I hg hm ?_ hdb)
 refine PySem.W.callWith_K (first := []) (h₀ := X.base) I.ok.mod.kin hk (thn (ha pos pins s σ H _ I h) fun us s2 ⟨vs, H2, I2, r, q2⟩ => ⟨I2.kIn, ?_⟩) he hpl
 have q3 : sp vs H2 Q E0 := by
  have z : sp (vs ++ []) H2 Q E0 := q2
  rw [List.append_nil] at z
  exact z
 have hl : us.length = ps.length := by rw [← r.length]; exact F.1 _ _ _ _ q3
 have hb2 := hb s2 us I2.kIn (by rw [List.append_nil]; exact hl)
 rw [List.append_nil] at hb2
 refine wpAny_call (codeAny_mono (F.2 X.A X.stack s2 H2 ⟨us, []⟩ us vs Q E0 hr I2.env0 hb2 r q3) fun r s' hq => ?_)
 cases r with
 | error e => exact False.elim hq
 | ok fl =>
  cases fl with
  | ret u => exact I2.after hq
  | next => exact False.elim hq
  | brk => exact False.elim hq
  | cont => exact False.elim hq
end L2
namespace L2
open PySem PySem.Spec PyProof.Rows
theorem un_left {fs : List Addr} {H H' : Hp} {h0 h1 h5 : Heap} {ea T L : Addr} (u : Un fs [] H H' h0 h1) (k : (bas (ea :: T :: L :: fs) h1).StaysIn h5) (up : h1.UpToSlots h5) (hf : ∀ b ∈ fs, ∃ o, h1.get? b = some o ∧ ∀ vs, o.data ≠ .fields vs) (ne : h0.get? ea = none) (nT : h0.get? T = none) (nL : h0.get? L = none) : Un fs [] H H' h0 h5 := by
 have stay : ∀ b o o1, h0.get? b = some o → b ∉ fs → h1.get? b = some o1 → h5.get? b = some o1 := fun b o o1 e nb e1 => by
  refine k b o1 ?_
  rw [bas_get]
  ·exact e1
  ·intro z
   simp only [List.mem_cons] at z
   rcases z with q | q | q | q
   ·rw [q, ne] at e; cases e
   ·rw [q, nT] at e; cases e
   ·rw [q, nL] at e; cases e
   ·exact nb q
 refine ⟨fun b o e n nb nx => stay b o o e nb (u.keep b o e n nb nx), fun b o e n hb nx => ?_, u.free, fun b o e nx => ?_, u.tups, u.frzs, u.tbls⟩
 ·obtain ⟨sl, e1⟩ := u.slot b o e n hb nx
  obtain ⟨o', e', nf⟩ := hf b hb
  rw [e1] at e'
  cases e'
  obtain ⟨sl', e2⟩ := up b _ e1 nf
  exact ⟨sl', e2⟩
 ·by_cases hb : b ∈ fs
  ·obtain ⟨o', e', nf⟩ := hf b hb
   obtain ⟨sl, z⟩ := up b o' e' nf
   exact ⟨_, z⟩
  ·obtain ⟨o1, e1⟩ := u.there b o e nx
   exact ⟨o1, stay b o o1 e hb e1⟩
theorem pass1 {P : Program} {w : World} {K : PySem.W.Frag} {mg : Str → Option Value} {base : Heap} {N : List Str} {qual : Str} {scope : Scope} {f C : Addr} {cd : Value} {A : Around} {outer : List Env} {s0 : Shared} {H0 : Hp} {E : XK} :
  Passes (CX1 P w C) (cxOf (CX1 P w C) P w K mg base N qual scope f cd A outer s0 H0 E) E := by
 intro pins σ H s e s1 I0 q
 obtain ⟨ea, T, a0, H', rfl, os, bare, un, hok, tr, ⟨n1, n2⟩, ⟨n3, n4⟩, hw⟩ := q
 have I1 := I0.call' (ch := []) os un hok bare (fun b z => nomatch z)
 have stk := I1.stack
 have fr : ∀ b ∈ frs (envOfC qual scope s0.heap.objs.size f cd :: outer), ∃ o, s1.heap.get? b = some o ∧ ∀ vs, o.data ≠ .fields vs := fun b hb => (stk.mem hb).2
 have back : ∀ b, s.heap.get? b = none → s0.heap.get? b = none := fun b n => by
  cases z : s0.heap.get? b with
  | none => rfl
  | some o =>
   obtain ⟨o', q⟩ := I0.base.there b o z (fun y => nomatch y)
   rw [n] at q
   cases q
 have fly : Heap.FlyingW (bas (ea :: T :: frs (envOfC qual scope s0.heap.objs.size f cd :: outer)) s1.heap) (envOfC qual scope s0.heap.objs.size f cd :: outer) ea (.ref C) a0 s1.heap :=
  ⟨bas_stays, bas_none (List.mem_cons_self ..), bas_frames _ (fun b hb => List.mem_cons_of_mem _ (List.mem_cons_of_mem _ hb)) stk, tr.traced (bas_none (List.mem_cons_of_mem _ (List.mem_cons_self ..)))⟩
 show wpAny _ _ (leaving (envOfC qual scope s0.heap.objs.size f cd) (.ref ea)) _ _ s1
 refine wpAny_leaves_onW I1.ok.frames rfl fly fun h' fly' up => ?_
 obtain ⟨k1, k2, k3, oe, vs, T', oT, ts, r1, r2, r3, r4, r5, r6, r7, r8, r9⟩ := fly'
 have mem : ∀ b, b ∈ frs (envOfC qual scope s0.heap.objs.size f cd :: outer) ↔ b = s0.heap.objs.size ∨ b ∈ frs outer := fun b => by
  show b ∈ s0.heap.objs.size :: frs outer ↔ _
  exact List.mem_cons
 have nT' : s.heap.get? T' = none ∧ H' T' = none := by
  by_cases z : T' ∈ ea :: T :: frs (envOfC qual scope s0.heap.objs.size f cd :: outer)
  ·rcases List.mem_cons.mp z with q | q
   ·exact absurd q r6
   ·rcases List.mem_cons.mp q with q | q
    ·rw [q]; exact ⟨n2, n4⟩
    ·obtain ⟨o, ho, nf⟩ := fr T' q
     obtain ⟨sl, z2⟩ := up T' o ho nf
     rw [r7] at z2
     cases z2
     exact absurd r8 (nf _)
  ·rw [bas_get z] at r5
   refine ⟨?_, hok.no r5⟩
   cases y : s.heap.get? T' with
   | none => rfl
   | some o =>
    obtain ⟨o', q⟩ := un.there T' o y (fun y => nomatch y)
    rw [r5] at q
    cases q
 have L0 : s0.heap.get? s0.heap.objs.size = none := by
  cases y : s0.heap.get? s0.heap.objs.size with
  | none => rfl
  | some o => exact absurd (Heap.lt_size y) (Nat.lt_irrefl _)
 refine ⟨ea, T', a0, H', rfl, I1.os, bare, ?_, ?_, ⟨oe, vs, oT, ts, r1, r2, r3, r4, r6, r7, r8, r9⟩, ⟨back _ n1, back _ nT'.1⟩, ⟨n3, nT'.2⟩, hw⟩
 ·exact un_left I1.base k1 up (fun b hb => fr b ((mem b).mpr (.inr hb))) (back _ n1) (back _ n2) L0
 ·refine hok_fly k1 hok fun b hb => ?_
  rcases List.mem_cons.mp hb with q | q
  ·rw [q]; exact n3
  ·rcases List.mem_cons.mp q with q | q
   ·rw [q]; exact n4
   ·exact I1.stkFree b q
def ClX (P : Program) (w : World) (K : PySem.W.Frag) (mg : Str → Option Value) (base : Heap) (C : Addr) (x : Str) (k : Nat) (ps : List Str) (sp : Sp) : Prop :=
 ∃ (f : Addr) (fd : FuncData), mg x = some (.ref f) ∧ PySem.W.keepIn K (.ref f) = true ∧ Binds K fd ps [] ∧ FnOk P w K mg base (CX1 P w C) k f fd ps sp
theorem DefAt.clX {P : Program} {w : World} {K : PySem.W.Frag} {mg : Str → Option Value} {base : Heap} {C : Addr} {x : Str} {st : Stmt} {ps : List Str} {f : Addr} {fd : FuncData} {k : Nat} {sp : Sp} (D : DefAt K mg x st ps f fd) (h : FnOk P w K mg base (CX1 P w C) k f fd ps sp) : ClX P w K mg base C x k ps sp :=
 ⟨f, fd, D.nm, D.fn.kp, D.bd, h⟩
section
variable {P : Program} {w : World} {K : PySem.W.Frag} {mg : Str → Option Value} {base : Heap} {N : List Str} {qual : Str} {scope : Scope} {f C D : Addr} {cd : Value} {A : Around} {outer : List Env} {s0 : Shared} {H0 : Hp} {E : XK}
variable {x m : Str} {k : Nat} {ps : List Str} {sp : Sp} {e o : Expr} {es : List Expr} {p pos apos : Pos} {t : TA} {ta : TE}
theorem pe_clX (Q : ClX P w K mg base C x k ps sp) (hr : Room k (cxOf (CX1 P w C) P w K mg base N qual scope f cd A outer s0 H0 E).A) (hg : Gl (cxOf (CX1 P w C) P w K mg base N qual scope f cd A outer s0 H0 E) x) (ha : PA (cxOf (CX1 P w C) P w K mg base N qual scope f cd A outer s0 H0 E) (e :: es) t) (hdb : (x == ("__debug__" : Str)) = false := by decide)
  (he : starEach (e :: es) (envOfC qual scope s0.heap.objs.size f cd) = (false, eval e (envOfC qual scope s0.heap.objs.size f cd)) :: starEach es (envOfC qual scope s0.heap.objs.size f cd) := by rfl) (hpl : (backTo pos (starEach es (envOfC qual scope s0.heap.objs.size f cd))).any (·.1) = false := by rfl) :
  PE (cxOf (CX1 P w C) P w K mg base N qual scope f cd A outer s0 H0 E) (.Call (.Name x p) (e :: es) [] pos) (tCall sp [] E t) := by
 obtain ⟨g, fd, hm, hk, hb, F⟩ := Q
 exact pe_call F hr hg hm hk hb .nil pass1 ha hdb he hpl
theorem pe_mlP {pl : Sem Bool} (M : MlX P w K mg base D C m k ps sp) (c : Cls K D) (hr : Room k (cxOf (CX1 P w C) P w K mg base N qual scope f cd A outer s0 H0 E).A) (ho : PE (cxOf (CX1 P w C) P w K mg base N qual scope f cd A outer s0 H0 E) o ta) (ha : PA (cxOf (CX1 P w C) P w K mg base N qual scope f cd A outer s0 H0 E) (e :: es) t)
  (he : starEach (e :: es) (envOfC qual scope s0.heap.objs.size f cd) = (false, eval e (envOfC qual scope s0.heap.objs.size f cd)) :: starEach es (envOfC qual scope s0.heap.objs.size f cd) := by rfl) (hpl : (backTo pos (starEach es (envOfC qual scope s0.heap.objs.size f cd))).any (·.1) = false := by rfl)
  (ht : eval (.Call (.Attribute o m apos) (e :: es) [] pos) (envOfC qual scope s0.heap.objs.size f cd) = (do
   let ov ← eval o (envOfC qual scope s0.heap.objs.size f cd)
   standAt apos.atName
   let (f', first) ← holding [ov] (getMethod ov m pl)
   callWith pos f' first (backTo pos (starEach (e :: es) (envOfC qual scope s0.heap.objs.size f cd))) (backToKw pos (keywordEach [] (envOfC qual scope s0.heap.objs.size f cd)))) := by rfl) :
  PE (cxOf (CX1 P w C) P w K mg base N qual scope f cd A outer s0 H0 E) (.Call (.Attribute o m apos) (e :: es) [] pos) (tMeth D m sp [] E ta t) := by
 obtain ⟨g, fd, hm, hb, F⟩ := M
 exact pe_meth (pl := pl) ho c hm F hr hb .nil pass1 ha he hpl ht
def McX (P : Program) (w : World) (K : PySem.W.Frag) (mg : Str → Option Value) (base : Heap) (C : Addr) (x : Str) (D : Addr) (k : Nat) (ps : List Str) (sp : Sp) : Prop :=
 ∃ (f : Addr) (fd : FuncData), Mk K D f ∧ mg x = some (.ref D) ∧ Binds K fd ps [] ∧ FnOk P w K mg base (CX1 P w C) k f fd ps sp
theorem pe_mkX (M : McX P w K mg base C x D k ps sp) (hr : Room (k + 1) (cxOf (CX1 P w C) P w K mg base N qual scope f cd A outer s0 H0 E).A) (hg : Gl (cxOf (CX1 P w C) P w K mg base N qual scope f cd A outer s0 H0 E) x) (ha : PA (cxOf (CX1 P w C) P w K mg base N qual scope f cd A outer s0 H0 E) (e :: es) t) (hdb : (x == ("__debug__" : Str)) = false := by decide)
  (he : starEach (e :: es) (envOfC qual scope s0.heap.objs.size f cd) = (false, eval e (envOfC qual scope s0.heap.objs.size f cd)) :: starEach es (envOfC qual scope s0.heap.objs.size f cd) := by rfl) (hpl : (backTo pos (starEach es (envOfC qual scope s0.heap.objs.size f cd))).any (·.1) = false := by rfl) :
  PE (cxOf (CX1 P w C) P w K mg base N qual scope f cd A outer s0 H0 E) (.Call (.Name x p) (e :: es) [] pos) (tMake D sp [] E t) := by
 obtain ⟨g, fd, hm, hn, hb, F⟩ := M
 exact pe_make hm F hr hg hn hb .nil pass1 ha hdb he hpl
end
end L2
namespace L2
open PySem PySem.Spec PyProof.Rows PySem.W PySem.Builtin PySem.Builtin.Getset_descriptor
section
variable {prog : Program} {w : World} {A : Around} {E : Value → Shared → Prop} {s : Shared} {K : Frag} {x C : Addr}
structure ExcK (K : Frag) (C : Addr) : Prop where
 ga : findIn K (.ref C) "__getattribute__" = some (some (.builtin "BaseException.__getattribute__"))
 hk : findIn K (.ref C) "__getattr__" = some none
 cl : findIn K (.ref C) "__class__" = some (some (.builtin "object.__class__"))
 get : specialIn K (.builtin "object.__class__") "__get__" = some (some (.builtin "getset_descriptor.__get__"))
 tk : takesIn K (.builtin "object.__class__") = some true
 hm : mroIn K C (.type "object") = some true
 hb : mroIn K C (.type "BaseException") = some true
def ExcAt (h : Heap) (x C : Addr) : Prop := ∃ o, h.get? x = some o ∧ o.cls = .ref C
theorem ExcAt.type {M : Model} {h : Heap} (I : ExcAt h x C) : Looks M h (typeOf (.ref x)) (.ref C) := by
 obtain ⟨o, e, c⟩ := I
 rw [← c]
 exact (Looks.ld e).andThen .now
theorem exc_find {M : Model} {h : Heap} (k : ExcK K C) (X : K.In h) : Looks M h (Builtin.ObjectAttr.find (.ref x) (.ref C) "__class__") (.bind (.builtin "getset_descriptor.__get__") (.builtin "object.__class__")) := by
 have L1 := looks_findIn (M := M) X k.cl
 have L2 := looks_specialIn (M := M) X k.get
 have L3 := looks_takesIn (M := M) X k.tk
 have G : Looks M h (Builtin.ObjectAttr.getOf (some (Value.builtin "object.__class__"))) (some (Value.builtin "getset_descriptor.__get__")) := L2
 have D : Looks M h (Builtin.ObjectAttr.dataDescriptor? (some (Value.builtin "object.__class__")) (some (Value.builtin "getset_descriptor.__get__"))) (some (Value.builtin "getset_descriptor.__get__", Value.builtin "object.__class__")) := L3.andThen .now
 exact L1.andThen (G.andThen (D.andThen (Looks.tag .now)))
theorem exc_get {tp : Value} {R : Result → Shared → Prop} (k : ExcK K C) (X : K.In s.heap) (I : ExcAt s.heap x C)
  (h : R (.ok (.ret (.ref C))) s) : codeAny (model prog w) A (.call (.builtin "getset_descriptor.__get__") ⟨[.builtin "object.__class__", .ref x, tp], []⟩) R s := by
 obtain ⟨hh, g, dr, t, os⟩ := s
 have L0 := I.type (M := model prog w)
 have L1 := looks_mroIn (M := model prog w) X k.hm
 refine codeAny_call_builtin KF.slot_gs.plain KF.entry_gs ?_
 refine KF.slot_gs.check _ _ _ _ _ _ _ _ KF.type_class (KF.args_gs _ _ _) ?_
 unfold Builtin.«getset_descriptor.__get__»
 unfold descrGet
 rw [dga_obj]
 refine wpAny_bind (wpAny_pure ?_)
 unfold descrGetter descrCheckInstance
 unfold descrNameAndClass
 unfold isInstance
 simp only [KF.owner_class]
 repeat lk
 refine ⟨?_, codeAny_builtin KF.entry_class ?_⟩
 ·exact Code.quiet_builtin _ (by decide +kernel)
 unfold Builtin.«object.__class__»
 unfold shownTypeOf
 repeat lk
 exact h
theorem exc_entry {tk : Tok} {Q : Fin → Shared → Prop} (k : ExcK K C) (X : K.In s.heap) (I : ExcAt s.heap x C) (h : Q (.done (.ret (.ref C))) s) :
  wpAny (model prog w) A (Builtin.«object.__getattribute__» ⟨[.ref x, .str "__class__" tk], []⟩) Q E s := by
 obtain ⟨hh, g, d, t, os⟩ := s
 have L0 := I.type (M := model prog w)
 have L1 := exc_find (x := x) (M := model prog w) k X
 unfold Builtin.«object.__getattribute__»
 refine wpAny_bind (wpAny_of_eq (a := (Value.ref x, [Value.str "__class__" tk])) rfl ?_)
 try dsimp only
 refine wpAny_bind ?_
 repeat (first | (with_reducible refine L0.at ?_) | (with_reducible refine L1.at ?_) | wp_step)
 refine exc_get k X I ?_
 exact wpAny_pure h
theorem exc_check {M : Model} {nameV : Value} {Q : Unit → Shared → Prop} (k : ExcK K C) (X : K.In s.heap) (I : ExcAt s.heap x C) (hq : Q () s) : wpAny M A (checkBuiltinCall "BaseException.__getattribute__" ⟨[.ref x, nameV], []⟩) Q E s := by
 obtain ⟨hh, g, d, t, os⟩ := s
 have kd : builtinKind "BaseException.__getattribute__" = some .slot := by decide +kernel
 have sp : splitId "BaseException.__getattribute__" = some ("BaseException", "__getattribute__") := by decide +kernel
 have L0 := I.type (M := M)
 have L1 := looks_mroIn (M := M) X k.hb
 have ao := PySem.F.args_bexc_ga (.ref x) nameV
 simp only [checkBuiltinCall, kd, sp]
 refine wpAny_bind ?_
 unfold isInstance
 repeat (first | (with_reducible refine L0.at ?_) | (with_reducible refine L1.at ?_) | wp_step)
 exact hq
theorem exc_class {Q : Option Value → Shared → Prop} (k : ExcK K C) (X : K.In s.heap) (I : ExcAt s.heap x C) (h : Q (some (.ref C)) { s with toks := s.toks + 1 }) : wpAny (model prog w) A (getAttr? (.ref x) "__class__") Q E s := by
 obtain ⟨hh, g, d, t, os⟩ := s
 have L0 := I.type (M := model prog w)
 have L1 := looks_findIn (M := model prog w) X k.ga
 have L2 := looks_findIn (M := model prog w) X k.hk
 have f3 := PySem.F.excAttr_ValueError.ga.bind (.ref x)
 unfold getAttr? getAttrBy? getAttrBy
 refine wpAny_bind (wpAny_mkText (wpAny_bind (wpAny_attempt (wpAny_holding (wpAny_bind (L0.at (wpAny_bind (L1.at ?_))))))))
 have e1 : (onTheHeap (Value.ref C) && Value.builtin "BaseException.__getattribute__" == Value.builtin "object.__getattribute__") = false := by rw [show (Value.builtin "BaseException.__getattribute__" == Value.builtin "object.__getattribute__") = false by decide +kernel]; rfl
 dsimp only
 rw [if_neg (by rw [e1]; exact Bool.false_ne_true)]
 unfold getAttrByItsOwn hookBefore
 repeat (first | (with_reducible refine L0.at ?_) | (with_reducible refine L2.at ?_) | wp_step)
 refine codeAny_call_builtin PySem.F.excAttr_ValueError.ga.plain PySem.F.entry_bexc_ga (exc_check k X I (exc_entry (s := ⟨hh, g, d, t + 1, os⟩) k X I ?_))
 dsimp only
 repeat (first | assumption | wp_step)
theorem kitx_exc (k : ExcK K C) : KitX K (.ref x) (.ref C) (fun h => ExcAt h x C) where
 ty := fun _ _ _ I => I.type
 it := fun _ h X _ => by
  obtain ⟨cd, hc, _⟩ := Option.bind_eq_some_iff.mp k.hm
  unfold clsIn at hc
  split at hc
  case h_1 there =>
   intro A1 Q1 E1 s1 kp z
   unfold isType loadHead
   refine wpAny_bind (wpAny_loadPart (kp _ _ (X _ _ there)) ?_)
   exact wpAny_pure z
  case h_2 => cases hc
 ne := fun h tp dd its n sl X htp => by
  obtain ⟨cd, hc, _⟩ := Option.bind_eq_some_iff.mp k.hm
  by_cases e : C = tp
  ·subst e
   unfold clsIn at hc
   split at hc
   case h_1 there =>
    have := (X _ _ there).symm.trans htp
    cases this
   case h_2 => cases hc
  ·simp [e]
 ca := fun X I q => exc_class k X I q
end
end L2
namespace L2
open PySem PySem.Spec PyProof.Rows PySem.W
def excO (x C : Addr) : HO := .ext (fun h => ExcAt h x C)
theorem excO_ok {P : Program} {w : World} {H : Hp} {h : Heap} {x C : Addr} (e : ExcAt h x C) : ObjOk P w H h x (excO x C) :=
 ⟨e, (by obtain ⟨o, e, _⟩ := e; exact ⟨o, e⟩), fun h1 h2 ⟨o, e1, c⟩ k => ⟨o, k o e1, c⟩⟩
def valT : V → Value
 | .ref a => .ref a
 | .ty n => .type n
 | _ => .none
section
variable {X : Cx}
theorem call_isX : CallR X (.builtin "isinstance") (fun xs H Q => ∃ a C c b, xs = [.ref a, c] ∧ H a = some (excO a C) ∧ ExcK X.K C ∧ (∀ u, RelV c u → u = valT c) ∧ kitOne X.K (.ref C) (valT c) = some b ∧ Q (.bl b) H) := by
 intro pins s σ H xs us Q I r h
 obtain ⟨a, C, c, b, rfl, hH, k, hc, e, q⟩ := h
 obtain ⟨u, v, rfl, ru, rv⟩ := r.two
 cases (show u = Value.ref a from ru)
 rw [hc v rv]
 obtain ⟨ex, _, _⟩ := (show ObjOk X.prog X.w H s.heap a (excO a C) from I.hok a _ hH)
 exact kia_one (kitx_exc k) I.kIn ex e (fun z => nomatch z) fun tk => ⟨.bl b, H, I.tok tk, rfl, q⟩
end
section
variable {K : Frag} {M : Model} {A : Around} {E : Value → Shared → Prop} {s : Shared}
structure BaseK (K : Frag) (B : Addr) : Prop where
 ty : typeIn K (.ref B) = some (.type "type")
 hb : mroIn K B (.type "BaseException") = some true
theorem BaseK.isType {B : Addr} (b : BaseK K B) {h : Heap} (X : K.In h) : Looks M h (isType (.ref B)) true := by
 obtain ⟨cd, hc, _⟩ := Option.bind_eq_some_iff.mp b.hb
 unfold clsIn at hc
 split at hc
 case h_1 there =>
  intro A1 Q1 E1 s1 kp z
  unfold PySem.isType loadHead
  refine wpAny_bind (wpAny_loadPart (kp _ _ (X _ _ there)) ?_)
  exact wpAny_pure z
 case h_2 => cases hc
theorem exc_match {e B C : Addr} {Q : Bool → Shared → Prop} (X : K.In s.heap) (I : ExcAt s.heap e C) (b : BaseK K B) (hm : mroIn K C (.ref B) = some true) (hq : Q true s) : wpAny M A (excMatches (.ref e) (.ref B)) Q E s := by
 obtain ⟨hh, g, d, t, os⟩ := s
 have L0 := looks_typeIn (M := M) X b.ty
 have L1 := looks_mroIn (M := M) X b.hb
 have L2 := looks_mroIn (M := M) X hm
 have L3 := I.type (M := M)
 have L4 := b.isType (M := M) X
 have f := tc_notTuple
 unfold excMatches isExcClass isInstance
 repeat (first | (with_reducible refine L0.at ?_) | (with_reducible refine L1.at ?_) | (with_reducible refine L2.at ?_) | (with_reducible refine L3.at ?_) | (with_reducible refine L4.at ?_) | wp_step)
 exact hq
end
theorem un_ext {fs : List Addr} {H H' : Hp} {h0 h1 : Heap} {a : Addr} {o : HO} (u : Un fs [] H H' h0 h1) (n : h0.get? a = none) (n' : H' a = none) : Un fs [] H (upd H' a o) h0 h1 := by
 have ne : ∀ b ob, h0.get? b = some ob → b ≠ a := fun b ob e z => by rw [z, n] at e; cases e
 have ne' : ∀ b ob, H' b = some ob → b ≠ a := fun b ob e z => by rw [z, n'] at e; cases e
 refine ⟨u.keep, u.slot, fun b ob e f g => by rw [upd_ne (ne b ob e)]; exact u.free b ob e f g, u.there, fun b xs e => ?_, fun b ob v e => ?_, fun b ps e => ?_⟩
 ·have := u.tups b xs e
  rw [upd_ne (ne' _ _ this)]; exact this
 ·have := u.frzs b ob v e
  rw [upd_ne (ne' _ _ this)]; exact this
 ·obtain ⟨more, this⟩ := u.tbls b ps e
  exact ⟨more, by rw [upd_ne (ne' _ _ this)]; exact this⟩
theorem hok_ext {P : Program} {w : World} {H : Hp} {h : Heap} {a : Addr} {o : HO} (x : HOk P w H h) (n : H a = none) (new : ObjOk P w (upd H a o) h a o) : HOk P w (upd H a o) h := fun b u e => by
 have ne : ∀ c oc, H c = some oc → c ≠ a := fun c oc e z => by rw [z, n] at e; cases e
 by_cases hb : b = a
 ·subst hb
  rw [upd_same] at e
  cases e
  exact new
 ·rw [upd_ne hb] at e
  exact (x b u e).stay (fun _ _ _ q => q) (fun c q => by rw [upd_ne (ne c _ q)]; exact q) fun c xs q => by rw [upd_ne (ne c _ q)]; exact q
theorem Inv.forget {X : Cx} {pins : List (Addr × Obj)} {σ : St} {H : Hp} {s : Shared} {h' : Heap} {m' : Str → Option Value} {t' : Nat} (I : Inv X pins σ H s) (hn : h'.Ns X.env.locals m') (hs : Heap.SameBut X.env.locals s.heap h') : Inv X pins (List.replicate σ.length none) H { s with heap := h', toks := t' } := by
 obtain ⟨m, hn0, _⟩ := I.loc
 obtain ⟨oL, _, _, hoL, _⟩ := id hn0
 have above : ∀ b o, X.s₀.heap.get? b = some o → b ≠ X.env.locals := fun b o e => Nat.ne_of_lt (Nat.lt_of_lt_of_le (Heap.lt_size e) I.ok.above)
 have oth : ∀ b, b ≠ X.env.locals → h'.get? b = s.heap.get? b := fun b hb => hs.2 b hb
 refine ⟨I.ok, I.os, I.bare, ⟨fun b o e n hb hx => ?_, fun b o e n hb hx => ?_, I.base.free, fun b o e hx => ?_, I.base.tups, I.base.frzs, I.base.tbls⟩, ⟨m', hn, fun j y v e1 e2 => ?_⟩, fun y c e => ?_, I.free, I.freeC, fun p hp => ?_, fun b ob e => ?_, by rw [List.length_replicate]; exact I.len⟩
 ·exact (oth b (above b o e)).trans (I.base.keep b o e n hb hx)
 ·obtain ⟨sl, q⟩ := I.base.slot b o e n hb hx
  exact ⟨sl, (oth b (above b o e)).trans q⟩
 ·obtain ⟨o', q⟩ := I.base.there b o e hx
  exact ⟨o', (oth b (above b o e)).trans q⟩
 ·rw [List.getElem?_replicate] at e2
  split at e2 <;> cases e2
 ·obtain ⟨v, o, q1, q2⟩ := I.cell y c e
  exact ⟨v, o, (oth c (I.cne y c e)).trans q1, q2⟩
 ·obtain ⟨p1, p2, p3, p4⟩ := I.pin p hp
  exact ⟨(oth p.1 p3).trans p1, p2, p3, p4⟩
 ·refine (I.hok b ob e).stay (fun c w' hc q => (oth c ?_).trans q) (fun _ q => q) fun _ _ q => q
  rintro rfl
  rcases hc with rfl | hc
  ·rw [I.free] at e; cases e
  ·rw [I.free] at hc; cases hc
def tTryAs (i : Nat) (XC : Addr) (tb : (St → Hp → Prop) → TS) (ts : TS) : TS := fun D σ H => ∃ W : St → Hp → Prop, tb W D σ H ∧ ∀ σ' H', W σ' H' → ∀ ea, H' ea = none → ts { nx := fun _ _ => False, rt := D.rt } (σ'.set i (some (.ref ea))) (upd H' ea (excO ea XC))
theorem ps_tryAs {X : Cx} {XC B : Addr} {x n : Str} {i : Nat} {np hpos pos : Pos} {body suite : List Stmt} {b0 : Stmt} {tb : (St → Hp → Prop) → TS} {ts : TS} (hx : X.mg x = some (.ref B)) (bB : BaseK X.K B) (hm : mroIn X.K XC (.ref B) = some true) (hg : Gl X x) (hs : X.stack = X.env :: X.outer) (hf : X.env.frame = some X.env.locals)
  (hN : X.N.Nodup) (hi : X.N[i]? = some n) (hl : Loc X.env.scope n) (hk : X.env.kindOf n = some .local) (hcl : (X.env.scope.kind == .class || (X.env.scope.kind == .module && X.env.locals != X.env.globals)) = false)
  (hb : ∀ W pins, PSs ((X.pin pins).tryW XC W) body (tb W)) (hh : ∀ ea, PSs (X.caught ea) (b0 :: suite) ts) (hdb : (x == ("__debug__" : Str)) = false := by decide) (hfn : X.fn n = true ∨ X.env.scope.names.lookup n = some .local := by first | exact .inl rfl | exact .inr rfl | assumption) :
  PS X (.Try body [.ExceptHandler (some (.Name x np)) (some n) (b0 :: suite) hpos] [] [] pos) (tTryAs i XC tb ts) := by
 intro pins s σ H D I ⟨W, h, hW⟩
 refine wpAny_Try_except (wpAny_mono (hb W pins [] s σ H D (I.pinX.wish _) h) (fun f s1 q => ?_) (fun e s1 q => ?_))
 ·have q1 : SP X pins D f s1 := (SP.unwish q).unpinX
  cases f with
  | next =>
   obtain ⟨σ', H', I', q'⟩ := q1
   exact pss_nil pins s1 σ' H' D I' q'
  | brk => exact q1
  | cont => exact q1
  | ret u => exact q1
 ·obtain ⟨pins', σ', H1, s0, I0', ea, T, a0, H', rfl, os, bare, un, hok, tr, ⟨n1, n2⟩, ⟨n3, n4⟩, hw⟩ := q
  have I0 : Inv X pins σ' H1 s0 := I0'.unpinX
  have I1 : Inv X pins σ' H' s1 := I0.call' os un hok bare (fun b z => nomatch z)
  have stk := I1.stack
  have fr : ∀ b ∈ frs X.stack, ∃ o, s1.heap.get? b = some o ∧ ∀ vs, o.data ≠ .fields vs := fun b hb => (stk.mem hb).2
  have fly : Heap.FlyingW (bas (ea :: T :: frs X.stack) s1.heap) X.stack ea (.ref XC) a0 s1.heap :=
   ⟨bas_stays, bas_none (List.mem_cons_self ..), bas_frames _ (fun b hb => List.mem_cons_of_mem _ (List.mem_cons_of_mem _ hb)) stk, tr.traced (bas_none (List.mem_cons_of_mem _ (List.mem_cons_self ..)))⟩
  have ns : ∀ b ∈ ea :: T :: frs X.stack, H' b = none := fun b hb => by
   rcases List.mem_cons.mp hb with z | z
   ·rw [z]; exact n3
   ·rcases List.mem_cons.mp z with z | z
    ·rw [z]; exact n4
    ·exact I1.stkFree b z
  have now : ∀ h5 : Heap, (bas (ea :: T :: frs X.stack) s1.heap).StaysIn h5 → s1.heap.UpToSlots h5 → Inv X pins σ' H' { s1 with heap := h5 } := fun h5 k up =>
   I0.call' (s' := { s1 with heap := h5 }) os (un_after un k up fr n1 n2) (hok_fly k hok ns) bare (fun b z => nomatch z)
  have then' : ∀ h5 : Heap, (bas (ea :: T :: frs X.stack) s1.heap).StaysIn h5 → s1.heap.UpToSlots h5 → ExcAt h5 ea XC → Inv X pins σ' (upd H' ea (excO ea XC)) { s1 with heap := h5 } := fun h5 k up ex =>
   I0.call' (s' := { s1 with heap := h5 }) os (un_ext (un_after un k up fr n1 n2) n1 n3) (hok_ext (hok_fly k hok ns) n3 (excO_ok ex)) bare (fun b z => nomatch z)
  rw [hs] at fly
  refine wpAny_looks_onW (by rw [← hs]; exact I.ok.frames) hf fly fun h4 held up4 => ?_
  refine wpAny_landsW held fun h5 fly5 up5 => ?_
  have I5 := now h5 (by rw [hs]; exact fly5.1) (up4.trans up5)
  obtain ⟨ob, hob, hobc⟩ := fly5.there
  refine wpAny_handleBy_cons (codeAny_handlers_test (ld_glob (I5.caught (ea := ea)) hg hx ?_ hdb)) (by intro z; cases z)
  refine exc_match (K := X.K) I5.kIn ⟨ob, hob, hobc⟩ bB hm ?_
  refine codeAny_handlers_suite_as ?_
  refine lands_againW fly5 fun h6 fly6 up6 => ?_
  obtain ⟨ob6, hob6, hobc6⟩ := fly6.there
  have I6 := then' h6 (by rw [hs]; exact fly6.1) ((up4.trans up5).trans up6) ⟨ob6, hob6, hobc6⟩
  refine store_ok (X := X.caught ea) I6.caught hN hi hl (v := .ref ea) rfl (fun s7 I7 => ?_) hfn
  refine wpAny_mono (hh ea pins s7 _ _ { nx := fun _ _ => False, rt := D.rt } I7 (hW σ' H' hw ea n3)) (fun f s8 q => ?_) (fun _ _ z => False.elim z)
  cases f with
  | ret u =>
   obtain ⟨v, σ8, H8, I8, rv, q8⟩ := q
   have I8' := I8.uncaught I.ok
   obtain ⟨m, hn, _⟩ := I8'.loc
   exact wpAny_nameGoes hk hn hcl fun h9 m9 hn9 sb => ⟨v, _, H8, I8'.forget hn9 sb, rv, q8⟩
  | next =>
   obtain ⟨_, _, _, z⟩ := q
   exact False.elim z
  | brk =>
   obtain ⟨_, _, _, z⟩ := q
   exact False.elim z
  | cont =>
   obtain ⟨_, _, _, z⟩ := q
   exact False.elim z
end L2
namespace L2
open PySem PySem.Spec PyProof.Rows
def FnVX (P : Program) (w : World) (K : PySem.W.Frag) (mg : Str → Option Value) (base : Heap) (C : Addr) (k : Nat) (l : Lam) (n : Nat) (sp : Sp) : Prop :=
 ∀ (A : Around) (outer : List Env) (s : Shared) (H : Hp) (us : List Value) (vs : List V) (Q : VK) (E : XK), Room k A → Env0 P w K mg base A outer s H → l.At H → Vals vs us → vs.length = n → sp vs H Q E →
  codeAny (model P w) A (.call (.ref l.f) ⟨us, []⟩) (CR (CX1 P w C) outer P w H s Q E) s
theorem lam_fnVX {P : Program} {w : World} {K : PySem.W.Frag} {mg : Str → Option Value} {base : Heap} {C : Addr} {k : Nat} {l : Lam} {N ps : List Str} {sp : Sp} (S : FnScope N ps l.scope)
  (hb : ∀ us : List Value, us.length = ps.length → bindArgs (PySem.W.kla_fn "<lambda>" l.qual l.params l.body l.scope [] l.pm (.ref l.c) l.ctv) ⟨us, []⟩ = pure (ps.zip us))
  (hbody : ∀ (A : Around) (outer : List Env) (s : Shared) (H : Hp) (vs : List V) (Q : VK) (E : XK), Room k (A.deeper (PyProof.Rows.envOfC l.qual l.scope s.heap.objs.size l.f (.ref l.c))) → sp vs H Q E →
   ∃ t, PE (cxOf (CX1 P w C) P w K mg base N l.qual l.scope l.f (.ref l.c) A outer s H E) l.body t ∧ t (start N vs) H Q) :
  FnVX P w K mg base C (k + 1) l ps.length sp := by
 intro A outer s H us vs Q E hr e0 hf r hl hsp
 obtain ⟨ho, _⟩ := (show ObjOk P w H s.heap l.f (LamO l.f l.qual l.params l.body l.scope l.c l.pm l.ctv) from e0.hok l.f _ hf.1)
 obtain ⟨hrec, _⟩ := (show ObjOk P w H s.heap l.c (CodeO l.c l.qual) from e0.hok l.c _ hf.2)
 have lim : s.heap.NoLimit := e0.mod.nolimit.keeps fun b o e => (e0.bs b o e).1
 have hkind : ∀ y ∈ ps.zip us, l.scope.names.lookup y.1 = some .local ∨ (l.scope.names.lookup y.1 = some .cell ∧ ((cellsFrom (s.heap.objs.size + 1) l.scope.names []).lookup y.1).isSome = true) := fun ⟨n, v⟩ hy => by
  rcases S.par n (List.of_mem_zip hy).1 with q | q
  ·exact .inl q
  ·exact .inr ⟨q, PySem.W.cellsFrom_some _ _ _ (.inl q)⟩
 refine PySem.W.kla_callFunE hr.depth ho rfl S.co S.gen rfl hrec ?_
 rw [hb us (by rw [← r.length]; exact hl)]
 refine wpAny_pure (wpAny_newFunctionEnv_cells S.kind hkind fun env he s1 x => ?_)
 subst he
 refine ⟨lim.keeps x.toInCall.keep, PySem.W.kla_codeExpr ?_⟩
 obtain ⟨t, ht, hq⟩ := hbody A outer s H vs Q E (hr.deeper _) hsp
 have I : Inv (cxOf (CX1 P w C) P w K mg base N l.qual l.scope l.f (.ref l.c) A outer s H E) [] (start N vs) H s1 := inv_start S hr.hd e0 hl r x
 refine wpAny_mono (ht [] s1 (start N vs) H Q I hq) (fun u s' hs => ?_) fun _ _ z => z
 obtain ⟨v, H', J, rv, q⟩ := hs
 exact ⟨v, H', J.os, J.bare, J.base, J.hok, rv, q⟩
def AskX (P : Program) (w : World) (K : PySem.W.Frag) (mg : Str → Option Value) (base : Heap) (C : Addr) (k : Nat) (x : V) (vs : List V) (H : Hp) (Q : VK) (E : XK) : Prop :=
 (∃ (f : Addr) (fd : FuncData) (ps : List Str) (sp : Sp), x = .ref f ∧ PySem.W.keepIn K (.ref f) = true ∧ Binds K fd ps [] ∧ FnOk P w K mg base (CX1 P w C) k f fd ps sp ∧ sp vs H Q E) ∨
 (∃ (l : Lam) (n : Nat) (sp : Sp), x = .ref l.f ∧ FnVX P w K mg base C k l n sp ∧ l.At H ∧ vs.length = n ∧ sp vs H Q E)
theorem askX_run {P : Program} {w : World} {K : PySem.W.Frag} {mg : Str → Option Value} {base : Heap} {C : Addr} {k : Nat} {x : V} {vs : List V} {H : Hp} {Q : VK} {E : XK} {A : Around} {outer : List Env} {s : Shared} {us : List Value} {fa : Addr} (h : AskX P w K mg base C k x vs H Q E) (ex : x = .ref fa) (hr : Room k A) (e0 : Env0 P w K mg base A outer s H) (kin : K.In s.heap) (r : Vals vs us) :
  codeAny (model P w) A (.call (.ref fa) ⟨us, []⟩) (CR (CX1 P w C) outer P w H s Q E) s := by
 subst ex
 rcases h with ⟨f, fd, ps, sp, e, _, hb, F, q⟩ | ⟨l, n, sp, e, F, hat, hn, q⟩
 ·cases e
  have hl : us.length = ps.length := by rw [← r.length]; exact F.len _ _ _ _ q
  have hb2 := hb s us kin (by rw [List.append_nil]; exact hl)
  rw [List.append_nil] at hb2
  exact F.run A outer s H ⟨us, []⟩ us vs Q E hr e0 hb2 r q
 ·cases e
  exact F A outer s H us vs Q E hr e0 hat r hn q
section
variable {X : Cx} {x : Str} {k : Nat} {XC : Addr} {e : Expr} {es : List Expr} {p pos : Pos} {t : TA} {tf : TE} {W : St → Hp → Prop}
theorem pe_askX (hr : Room k X.A) (hf : PE (X.tryW XC W) (.Name x p) tf) (ha : PA (X.tryW XC W) (e :: es) t) (he : starEach (e :: es) X.env = (false, eval e X.env) :: starEach es X.env := by rfl) (hpl : (backTo pos (starEach es X.env)).any (·.1) = false := by rfl) :
  PE (X.tryW XC W) (.Call (.Name x p) (e :: es) [] pos) (fun σ H Q => tf σ H fun x H1 => (∃ f, x = .ref f ∧ PySem.W.keepIn X.K (.ref f) = true ∧ t σ H1 fun vs H2 => AskX X.prog X.w X.K X.mg X.base XC k x vs H2 Q (fun _ _ H' => W σ H')) ∨ (∃ l : Lam, x = .ref l.f ∧ t σ H1 fun vs H2 => l.At H2 ∧ AskX X.prog X.w X.K X.mg X.base XC k x vs H2 Q (fun _ _ H' => W σ H'))) := by
 intro pins s σ H Q I h
 have fin : ∀ {H2 : Hp} {s2 : Shared} {us : List Value} {vs : List V} {v : V} {fa : Addr}, Inv (X.tryW XC W) pins σ H2 s2 → Vals vs us → v = .ref fa → AskX X.prog X.w X.K X.mg X.base XC k v vs H2 Q (fun _ _ H' => W σ H') → wpAny (model X.prog X.w) X.A (call (.ref fa) us) (EP (X.tryW XC W) pins σ Q) (X.tryW XC W).xe s2 := fun {H2 s2 us vs v fa} I2 r ev q => by
  refine wpAny_call (codeAny_mono (askX_run q ev hr I2.env0 I2.kIn r) fun r s' hq => ?_)
  cases r with
  | error e => exact ⟨pins, σ, H2, s2, I2.unwish, hq⟩
  | ok fl =>
   cases fl with
   | ret u => exact I2.after hq
   | next => exact False.elim hq
   | brk => exact False.elim hq
   | cont => exact False.elim hq
 refine wpAny_Call_Name_kw (thn (hf pins s σ H _ I h) fun fv s1 ⟨v, H1, I1, rv, q1⟩ => ?_)
 rcases q1 with ⟨f, ev, hk, q1⟩ | ⟨l, ev, q1⟩
 ·subst ev
  cases (show fv = Value.ref f from rv)
  refine PySem.W.callWith_K (first := []) (h₀ := X.base) I.ok.mod.kin hk (thn (ha pos pins s1 σ H1 _ I1 q1) fun us s2 ⟨vs, H2, I2, r, q2⟩ => ⟨I2.kIn, ?_⟩) he hpl
  exact fin I2 r rfl q2
 ·subst ev
  cases (show fv = Value.ref l.f from rv)
  refine PyProof.Rows.callWith_def (o := PySem.W.kla_obj "<lambda>" l.qual l.params l.body l.scope [] l.pm l.c l.ctv) rfl (thn (ha pos pins s1 σ H1 _ I1 q1) fun us s2 ⟨vs, H2, I2, r2, hat, q2⟩ => ?_) he
  obtain ⟨ho, _⟩ := (show ObjOk X.prog X.w H2 s2.heap l.f (LamO l.f l.qual l.params l.body l.scope l.c l.pm l.ctv) from I2.hok l.f _ hat.1)
  exact ⟨ho, fin I2 r2 rfl q2⟩
end
end L2
namespace FQ
open PySem L2 FK
def top (i : Nat) : Stmt := PySem.Challenge.pw_fairknife_k15_refused.main.body.getD i (.Pass ⟨0, 0, 0, 0⟩)
abbrev s_is_whole : Stmt := top 9
abbrev s_greatest_divisor : Stmt := top 10
abbrev s_is_fraction : Stmt := top 11
abbrev s_made : Stmt := top 12
abbrev s_plus : Stmt := top 13
abbrev s_minus : Stmt := top 14
abbrev s_times : Stmt := top 15
abbrev s_over : Stmt := top 16
abbrev s_below : Stmt := top 17
abbrev s_apart : Stmt := top 20
abbrev s_reaches : Stmt := top 21
abbrev s_crossing : Stmt := top 22
abbrev s_reached : Stmt := top 23
abbrev s_is_span : Stmt := top 28
abbrev s_check_piece : Stmt := top 29
abbrev s_whole : Stmt := top 30
abbrev s_combined : Stmt := top 33
abbrev s_joined : Stmt := top 34
abbrev s_shared : Stmt := top 35
abbrev s_without : Stmt := top 36
abbrev s_deals : Stmt := top 37
abbrev s_check_step : Stmt := top 42
abbrev s_check_steps : Stmt := top 43
abbrev s_check_tastes : Stmt := top 44
abbrev s_worth_line : Stmt := top 45
abbrev m_Taste___init__ : Stmt := inClass (top 46) 0
abbrev m_Taste_worth_up_to : Stmt := inClass (top 46) 3
abbrev m_Taste_span_worth : Stmt := inClass (top 46) 5
abbrev m_Taste_worth : Stmt := inClass (top 46) 6
abbrev m_Taste_cut : Stmt := inClass (top 46) 8
abbrev s_envy : Stmt := top 48
abbrev s_piece_text : Stmt := top 53
abbrev s_check_takers : Stmt := top 57
abbrev m_Way_deal : Stmt := inClass (top 70) 0
abbrev m_Choose_deal : Stmt := inClass (top 71) 0
abbrev m_Last_deal : Stmt := inClass (top 72) 0
abbrev m_Halves_deal : Stmt := inClass (top 73) 0
abbrev m_Three_deal : Stmt := inClass (top 74) 0
abbrev m_Even_deal : Stmt := inClass (top 75) 0
abbrev m_Alike_deal : Stmt := inClass (top 76) 0
abbrev s__law_cell_at : Stmt := top 78
abbrev s__law_bad_steps : Stmt := top 79
abbrev s__law_bad_pieces : Stmt := top 80
abbrev s__law_with_piece : Stmt := top 81
abbrev s__law_with_takers : Stmt := top 82
abbrev s__law_with_numbers : Stmt := top 83
abbrev s__law_with_shares : Stmt := top 84
abbrev s__law_kinds : Stmt := top 85
abbrev s__law_told : Stmt := top 86
abbrev s__law_due : Stmt := top 87
abbrev s_law : Stmt := top 88
end FQ
namespace FQ
open PySem L2 FK
def Fit (q : Rat) : Prop := 0 ≤ q ∧ Bd 1900 q
def FrQ (K : PySem.W.Frag) (H : Hp) (x : V) (q : Rat) : Prop := FrR K H x (fr q)
theorem FrQ.same {K : PySem.W.Frag} {H H' : Hp} {x : V} {q : Rat} (s : Same H H') (h : FrQ K H x q) : FrQ K H' x q := FrR.same s h
theorem FrQ.sq {K : PySem.W.Frag} {H : Hp} {x : V} {q : Rat} (h : FrQ K H x q) : ∃ p, x = .ref p ∧ SqT K H p [.int q.num, .int (q.den : Int)] := FrR.sq h
theorem FrQ.of {K : PySem.W.Frag} {H : Hp} {p : Addr} {a b : Int} {q : Rat} (h : SqT K H p [.int a, .int b]) (ha : a = q.num) (hb : b = (q.den : Int)) : FrQ K H (.ref p) q := ⟨p, _, _, rfl, h, by rw [ha]; rfl, by rw [hb]; rfl⟩
abbrev CoQ (K : PySem.W.Frag) := rpPair K (FrQ K) (FrQ K)
theorem CoQ.same {K : PySem.W.Frag} {H H' : Hp} {x : V} {d : Rat × Rat} (s : Same H H') (h : CoQ K H x d) : CoQ K H' x d := by
 obtain ⟨p, y, z, rfl, q, h1, h2⟩ := h
 exact ⟨p, y, z, rfl, s.sqT q, h1.same s, h2.same s⟩
theorem Fit.nn {q : Rat} (h : Fit q) : 0 ≤ q.num := num_nn h.1
theorem Fit.s1 {q : Rat} (h : Fit q) : Sm q.num := .of_bits h.2.1 (by decide)
theorem Fit.s2 {q : Rat} (h : Fit q) : Sm (q.den : Int) := .of_bits (by rw [Int.natAbs_natCast]; exact h.2.2) (by decide)
theorem Bd.fit {n : Nat} {q : Rat} (h : Bd n q) (h0 : 0 ≤ q) (hn : n ≤ 1900) : Fit q := ⟨h0, h.mono hn⟩
theorem sm_mul {a b : Int} {m n : Nat} (h1 : a.natAbs < 2 ^ m) (h2 : b.natAbs < 2 ^ n) (h : m + n ≤ 4000) : Sm (a * b) := .of_bits (n := m + n) (by rw [Int.natAbs_mul]; exact mul_lt_pow h1 h2) h
theorem Fit.dd {q r : Rat} (h1 : Fit q) (h2 : Fit r) : Sm ((q.den : Int) * (r.den : Int)) := sm_mul (m := 1900) (n := 1900) (by rw [Int.natAbs_natCast]; exact h1.2.2) (by rw [Int.natAbs_natCast]; exact h2.2.2) (by decide)
theorem Fit.dn {q r : Rat} (h1 : Fit q) (h2 : Fit r) : Sm ((q.den : Int) * r.num) := sm_mul (m := 1900) (n := 1900) (by rw [Int.natAbs_natCast]; exact h1.2.2) h2.2.1 (by decide)
def spWhole : Sp := fun vs H Q _ => ∃ i : Int, vs = [.int i] ∧ Q (.bl true) H
def spGcd : Sp := fun vs H Q _ => ∃ a b : Int, vs = [.int a, .int b] ∧ 0 ≤ a ∧ 0 ≤ b ∧ Q (.int (G a b)) H
def spMade : Sp := fun vs H Q _ => ∃ a b : Int, vs = [.int a, .int b] ∧ 0 ≤ a ∧ 0 < b ∧ Sm b ∧ ∀ p, H p = none → Q (.ref p) (upd H p (.tup [.int (lo a b), .int (hi a b)]))
def spMadeQ (K : PySem.W.Frag) : Sp := fun vs H Q _ => ∃ a b : Int, vs = [.int a, .int b] ∧ 0 ≤ a ∧ 0 < b ∧ Sm b ∧ ∀ v H', Same H H' → FrQ K H' v ((a : Rat) / (b : Rat)) → Q v H'
def spTwo (K : PySem.W.Frag) (f g : Int → Int → Int → Int → Int) : Sp := fun vs H Q _ => ∃ (p q : Addr) (a b c d : Int), vs = [.ref p, .ref q] ∧ SqT K H p [.int a, .int b] ∧ SqT K H q [.int c, .int d] ∧ (Sm a ∧ Sm b ∧ Sm c ∧ Sm d) ∧
 (0 ≤ f a b c d ∧ 0 < g a b c d ∧ Sm (g a b c d)) ∧ ∀ r, H r = none → Q (.ref r) (upd H r (.tup [.int (lo (f a b c d) (g a b c d)), .int (hi (f a b c d) (g a b c d))]))
def spOp (K : PySem.W.Frag) (f : Rat → Rat → Rat) (c : Rat → Rat → Prop) : Sp := fun vs H Q _ => ∃ (x y : V) (q r : Rat), vs = [x, y] ∧ FrQ K H x q ∧ FrQ K H y r ∧ Fit q ∧ Fit r ∧ c q r ∧ ∀ v H', Same H H' → FrQ K H' v (f q r) → Q v H'
abbrev spPlus (K : PySem.W.Frag) := spOp K (fun a b => a + b) (fun _ _ => True)
abbrev spMinus (K : PySem.W.Frag) := spOp K (fun a b => a - b) (fun a b => b ≤ a)
abbrev spTimes (K : PySem.W.Frag) := spOp K (fun a b => a * b) (fun _ _ => True)
abbrev spOver (K : PySem.W.Frag) := spOp K (fun a b => a / b) (fun _ b => 0 < b)
def spBelow (K : PySem.W.Frag) : Sp := fun vs H Q _ => ∃ (x y : V) (q r : Rat), vs = [x, y] ∧ FrQ K H x q ∧ FrQ K H y r ∧ Fit q ∧ Fit r ∧ Q (.bl (decide (q < r))) H
def spFrac (K : PySem.W.Frag) : Sp := fun vs H Q _ => ∃ (x : V) (q : Rat), vs = [x] ∧ FrQ K H x q ∧ 0 ≤ q ∧ Q (.bl true) H
structure Txt (K : PySem.W.Frag) (mg : Str → Option Value) (aL aR : Addr) : Prop where
 isi : mg "isinstance" = none
 int : mg "int" = none
 bool : mg "bool" = none
 tuple : mg "tuple" = none
 list : mg "list" = none
 len : mg "len" = none
 range : mg "range" = none
 zip : mg "zip" = none
 sorted : mg "sorted" = none
 any : mg "any" = none
 enumerate : mg "enumerate" = none
 reversed : mg "reversed" = none
 left : mg "LEFT_END" = some (.ref aL)
 leftT : ∀ H : Hp, SqT K H aL [.int 0, .int 1]
 right : mg "RIGHT_END" = some (.ref aR)
 rightT : ∀ H : Hp, SqT K H aR [.int 1, .int 1]
theorem sqK {K : PySem.W.Frag} {a : Addr} {od : Option Addr} {i j : Int} {t u : Tok} {n : Nat} {sl : Array (Option Value)} (h : K.lookup a = some ⟨.type "tuple", od, .seq #[.int i t, .int j u] n, sl⟩) : ∀ H : Hp, SqT K H a [.int i, .int j] :=
 fun _ => .inr ⟨_, _, n, h, rfl, rfl, (by show 2 ≤ sizeLine; decide), .cons ⟨t, rfl⟩ (.cons ⟨u, rfl⟩ .nil)⟩
theorem Txt.l {K : PySem.W.Frag} {mg : Str → Option Value} {aL aR : Addr} (T : Txt K mg aL aR) (H : Hp) : FrQ K H (.ref aL) 0 := .of (T.leftT H) rfl rfl
theorem Txt.r {K : PySem.W.Frag} {mg : Str → Option Value} {aL aR : Addr} (T : Txt K mg aL aR) (H : Hp) : FrQ K H (.ref aR) 1 := .of (T.rightT H) rfl rfl
theorem Fit.one : Fit 1 := ⟨by decide, by show (1 : Nat) < 2 ^ 1900; exact Nat.one_lt_two_pow (by decide), by show (1 : Nat) < 2 ^ 1900; exact Nat.one_lt_two_pow (by decide)⟩
section
variable {P : Program} {w : World} {K : PySem.W.Frag} {mg : Str → Option Value} {base : Heap} {aL aR : Addr}
theorem scWhole : FnScope ["thing"] ["thing"] (defScope s_is_whole) := ⟨rfl, rfl, rfl, by decide +kernel, rfl, by decide +kernel, by decide +kernel⟩
theorem ok_whole {f : Addr} {fd : FuncData} (D : DefAt K mg "is_whole" s_is_whole ["thing"] f fd) (T : Txt K mg aL aR) : FnOk P w K mg base CX0 1 f fd ["thing"] spWhole := by
 refine D.fn.ok scWhole (fun vs H Q E h => ?_) (fun cdv A outer s H vs Q E hr h => ?_)
 ·obtain ⟨i, rfl, _⟩ := h
  rfl
 ·obtain ⟨i, rfl, k⟩ := h
  refine ⟨_, pss_one (ps_ret (pe_and (pe_isi (pv 0) rfl T.isi rfl T.int PyProof.Rows.boot_int) (pe_one (pe_not (pe_isi (pv 0) rfl T.isi rfl T.bool PyProof.Rows.boot_bool))))), ?_⟩
  refine ⟨_, rfl, _, _, .of (.int _), kit_int _, _, rfl, ?_⟩
  refine iteT ?_
  exact ⟨_, rfl, _, _, .of (.int _), kit_int_bool _, _, rfl, k⟩
theorem scGcd : FnScope ["a", "b", "rest"] ["a", "b"] (defScope s_greatest_divisor) := ⟨rfl, rfl, rfl, by decide +kernel, rfl, by decide +kernel, by decide +kernel⟩
def mu1 (σ : St) : Nat := match σ with
 | [_, some (.int b), _] => b.toNat
 | _ => 0
theorem ok_gcd {f : Addr} {fd : FuncData} (D : DefAt K mg "greatest_divisor" s_greatest_divisor ["a", "b"] f fd) : FnOk P w K mg base CX0 1 f fd ["a", "b"] spGcd := by
 refine D.fn.ok scGcd (fun vs H Q E h => ?_) (fun cdv A outer s H vs Q E hr h => ?_)
 ·obtain ⟨a, b, rfl, _⟩ := h
  rfl
 ·obtain ⟨a0, b0, rfl, ha, hb, k⟩ := h
  refine ⟨_, pss_cons (ps_while PassesOwn.never (pt_cmpR op_gt (pv 1) pe_int (nomark _))
   (pss_cons (ps_set (i := 2) scGcd.nd rfl (Or.inl rfl) (pe_op op_mod (pv 0) (pv 1)))
   (pss_cons (ps_set (i := 0) scGcd.nd rfl (Or.inl rfl) (pv 1))
   (pss_one (ps_set (i := 1) scGcd.nd rfl (Or.inl rfl) (pv 2))))))
   (pss_one (ps_ret (pv 0))), ?_⟩
  refine while_by (fun σ H' => H' = H ∧ ∃ (a b : Int) (r : Option V), σ = [some (.int a), some (.int b), r] ∧ 0 ≤ a ∧ 0 ≤ b ∧ G a b = G a0 b0) (fun σ _ => mu1 σ) ⟨rfl, a0, b0, none, rfl, ha, hb, rfl⟩ ?_ ?_
  ·rintro σ H' ⟨rfl, a, b, r, rfl, ha, hb, e⟩
   refine ⟨_, rfl, _, _, rfl, rfl, _, rfl, ?_⟩
   refine ite2 (fun h => ?_) (fun h => ?_)
   ·have hb' : 0 < b := of_decide_eq_true h
    refine ⟨_, rfl, _, rfl, _, _, rfl, rfl, hb', _, rfl, _, rfl, ?_⟩
    refine ⟨⟨rfl, b, a % b, _, rfl, hb, Int.emod_nonneg _ (by omega), (G_step ha hb').trans e⟩, ?_⟩
    show (a % b).toNat < b.toNat
    have := Int.emod_lt_of_pos a hb'
    omega
   ·have hb' : b = 0 := by
     have : ¬ 0 < b := fun z => h (decide_eq_true z)
     omega
    refine ⟨_, rfl, ?_⟩
    have e' : a = G a0 b0 := by rw [← e, hb', G_zero ha]
    rw [e']
    exact k
  ·rintro σ H Q Q' hq ⟨v, e, i, j, e1, e2, z, e3, q⟩
   exact ⟨v, e, i, j, e1, e2, z, e3, hq _ _ q⟩
theorem scMade : FnScope ["a", "b", "common"] ["a", "b"] (defScope s_made) := ⟨rfl, rfl, rfl, by decide +kernel, rfl, by decide +kernel, by decide +kernel⟩
theorem ok_made {f : Addr} {fd : FuncData} (D : DefAt K mg "made" s_made ["a", "b"] f fd) (CW : Cl P w K mg base "is_whole" 1 ["thing"] spWhole) (CG : Cl P w K mg base "greatest_divisor" 1 ["a", "b"] spGcd) :
  FnOk P w K mg base CX0 2 f fd ["a", "b"] spMade := by
 refine D.fn.ok scMade (fun vs H Q E h => ?_) (fun cdv A outer s H vs Q E hr h => ?_)
 ·obtain ⟨a, b, rfl, _⟩ := h
  rfl
 ·obtain ⟨a, b, rfl, ha, hb, hS, k⟩ := h
  refine ⟨_, pss_cons (ps_if (PW.pt (pw_or (pt_not (pt_val (pe_cl CW hr rfl (pa_cons (pv 0) pa_nil)))) (pw_or1 (pt_not (pt_val (pe_cl CW hr rfl (pa_cons (pv 1) pa_nil))))))) pss_never pss_nil)
   (pss_cons (ps_if (PW.pt (pw_or (pt_cmpR op_lt (pv 0) pe_int (nomark _)) (pw_or1 (pt_cmpR op_lt (pv 1) pe_int (nomark _))))) pss_never pss_nil)
   (pss_cons (ps_set (i := 2) scMade.nd rfl (Or.inl rfl) (pe_cl CG hr rfl (pa_cons (pv 0) (pa_cons (pv 1) pa_nil))))
   (pss_one (ps_ret (pe_tup (pa_cons (pe_op op_fdivS (pv 0) (pv 2)) (pa_cons (pe_op op_fdivS (pv 1) (pv 2)) pa_nil))))))), ?_⟩
  refine ⟨_, rfl, a, rfl, _, rfl, iteF ?_⟩
  refine ⟨_, rfl, b, rfl, _, rfl, iteF ?_⟩
  refine ⟨_, rfl, _, _, rfl, rfl, _, rfl, iteN (by omega) ?_⟩
  refine ⟨_, rfl, _, _, rfl, rfl, _, rfl, iteN (by omega) ?_⟩
  have gp := G_pos (a := a) hb
  have gS : Sm (G a b) := hS.mono (by have := G_le (a := a) hb; omega)
  refine ⟨_, rfl, _, rfl, a, b, rfl, ha, Int.le_of_lt hb, ?_⟩
  exact ⟨_, rfl, _, rfl, _, _, rfl, rfl, ⟨gp, gS⟩, _, rfl, _, rfl, _, _, rfl, rfl, ⟨gp, gS⟩, (by show 2 ≤ sizeLine; decide), fun p hp => k p hp⟩
theorem madeQ : ∀ vs H Q E, spMadeQ K vs H Q E → spMade vs H Q E := by
 rintro vs H Q E ⟨a, b, rfl, ha, hb, hS, k⟩
 refine ⟨a, b, rfl, ha, hb, hS, fun p hp => k _ _ (Same.upd hp) ?_⟩
 obtain ⟨e1, e2⟩ := low_fr (a := a) hb
 exact .of sqT_new e1 e2
theorem two_op {f g : Int → Int → Int → Int → Int} {F : Rat → Rat → Rat} {c : Rat → Rat → Prop}
  (h : ∀ q r : Rat, Fit q → Fit r → c q r → (0 ≤ f q.num q.den r.num r.den ∧ 0 < g q.num q.den r.num r.den ∧ Sm (g q.num q.den r.num r.den)) ∧ ((f q.num q.den r.num r.den : Int) : Rat) / ((g q.num q.den r.num r.den : Int) : Rat) = F q r) :
  ∀ vs H Q E, spOp K F c vs H Q E → spTwo K f g vs H Q E := by
 rintro vs H Q E ⟨x, y, q, r, rfl, hx, hy, fq, fr, hc, k⟩
 obtain ⟨p1, rfl, h1⟩ := hx.sq
 obtain ⟨p2, rfl, h2⟩ := hy.sq
 obtain ⟨e1, e2⟩ := h q r fq fr hc
 refine ⟨p1, p2, _, _, _, _, rfl, h1, h2, ⟨fq.s1, fq.s2, fr.s1, fr.s2⟩, e1, fun p hp => k _ _ (Same.upd hp) ?_⟩
 obtain ⟨l1, l2⟩ := low_fr (a := f q.num q.den r.num r.den) e1.2.1
 rw [e2] at l1 l2
 exact .of sqT_new l1 l2
theorem low_nn {q r : Rat} (h1 : Fit q) (h2 : Fit r) : 0 < (q.den : Int) * (r.den : Int) := Int.mul_pos (den_pos q) (den_pos r)
theorem sum_op : ∀ vs H Q E, spPlus K vs H Q E → spTwo K (fun a b c d => a * d + c * b) (fun _ b _ d => b * d) vs H Q E :=
 two_op fun q r h1 h2 _ => ⟨⟨Int.add_nonneg (Int.mul_nonneg h1.nn (Int.le_of_lt (den_pos r))) (Int.mul_nonneg h2.nn (Int.le_of_lt (den_pos q))), low_nn h1 h2, h1.dd h2⟩, plus_fr q r⟩
theorem left_op : ∀ vs H Q E, spMinus K vs H Q E → spTwo K (fun a b c d => a * d - c * b) (fun _ b _ d => b * d) vs H Q E :=
 two_op fun q r h1 h2 h3 => ⟨⟨by
  have := (Rat.le_iff r q).mp h3
  omega, low_nn h1 h2, h1.dd h2⟩, minus_fr q r⟩
theorem times_op : ∀ vs H Q E, spTimes K vs H Q E → spTwo K (fun a _ c _ => a * c) (fun _ b _ d => b * d) vs H Q E :=
 two_op fun q r h1 h2 _ => ⟨⟨Int.mul_nonneg h1.nn h2.nn, low_nn h1 h2, h1.dd h2⟩, times_fr q r⟩
theorem over_op : ∀ vs H Q E, spOver K vs H Q E → spTwo K (fun a _ _ d => a * d) (fun _ b c _ => b * c) vs H Q E :=
 two_op fun q r h1 h2 h3 => ⟨⟨Int.mul_nonneg h1.nn (Int.le_of_lt (den_pos r)), Int.mul_pos (den_pos q) (num_pos h3), h1.dn h2⟩, over_fr h3⟩
theorem scPlus : FnScope ["one", "other"] ["one", "other"] (defScope s_plus) := ⟨rfl, rfl, rfl, by decide +kernel, rfl, by decide +kernel, by decide +kernel⟩
theorem scMinus : FnScope ["one", "other"] ["one", "other"] (defScope s_minus) := ⟨rfl, rfl, rfl, by decide +kernel, rfl, by decide +kernel, by decide +kernel⟩
theorem scTimes : FnScope ["one", "other"] ["one", "other"] (defScope s_times) := ⟨rfl, rfl, rfl, by decide +kernel, rfl, by decide +kernel, by decide +kernel⟩
theorem scOver : FnScope ["one", "other"] ["one", "other"] (defScope s_over) := ⟨rfl, rfl, rfl, by decide +kernel, rfl, by decide +kernel, by decide +kernel⟩
theorem scBelow : FnScope ["one", "other"] ["one", "other"] (defScope s_below) := ⟨rfl, rfl, rfl, by decide +kernel, rfl, by decide +kernel, by decide +kernel⟩
theorem ok_plus {f : Addr} {fd : FuncData} (D : DefAt K mg "plus" s_plus ["one", "other"] f fd) (CM : Cl P w K mg base "made" 2 ["a", "b"] spMade) :
  FnOk P w K mg base CX0 3 f fd ["one", "other"] (spPlus K) := by
 refine FnOk.imp (sp := spTwo K (fun a b c d => a * d + c * b) (fun _ b _ d => b * d)) ?_ sum_op
 refine D.fn.ok scPlus (fun vs H Q E h => ?_) (fun cdv A outer s H vs Q E hr h => ?_)
 ·obtain ⟨p, q, a, b, c, d, rfl, _⟩ := h
  rfl
 ·obtain ⟨p, q, a, b, c, d, rfl, hp, hq, ⟨sa, sb, sc, sd⟩, ⟨n1, n2, n3⟩, k⟩ := h
  refine ⟨_, pss_one (ps_ret (pe_cl CM hr rfl
   (pa_cons (pe_op op_add (pe_op op_mulS (pe_ix ix_tup (pv 0) pe_int (fun _ _ => rfl)) (pe_ix ix_tup (pv 1) pe_int (fun _ _ => rfl))) (pe_op op_mulS (pe_ix ix_tup (pv 1) pe_int (fun _ _ => rfl)) (pe_ix ix_tup (pv 0) pe_int (fun _ _ => rfl))))
   (pa_cons (pe_op op_mulS (pe_ix ix_tup (pv 0) pe_int (fun _ _ => rfl)) (pe_ix ix_tup (pv 1) pe_int (fun _ _ => rfl))) pa_nil)))), ?_⟩
  refine ⟨_, rfl, p, _, _, _, rfl, rfl, hp, rfl, _, rfl, q, _, _, _, rfl, rfl, hq, rfl, _, _, rfl, rfl, ⟨sa, sd⟩, ?_⟩
  refine ⟨_, rfl, q, _, _, _, rfl, rfl, hq, rfl, _, rfl, p, _, _, _, rfl, rfl, hp, rfl, _, _, rfl, rfl, ⟨sc, sb⟩, _, _, rfl, rfl, ?_⟩
  refine ⟨_, rfl, p, _, _, _, rfl, rfl, hp, rfl, _, rfl, q, _, _, _, rfl, rfl, hq, rfl, _, _, rfl, rfl, ⟨sb, sd⟩, ?_⟩
  exact ⟨_, _, rfl, n1, n2, n3, k⟩
theorem ok_minus {f : Addr} {fd : FuncData} (D : DefAt K mg "minus" s_minus ["one", "other"] f fd) (CM : Cl P w K mg base "made" 2 ["a", "b"] spMade) :
  FnOk P w K mg base CX0 3 f fd ["one", "other"] (spMinus K) := by
 refine FnOk.imp (sp := spTwo K (fun a b c d => a * d - c * b) (fun _ b _ d => b * d)) ?_ left_op
 refine D.fn.ok scMinus (fun vs H Q E h => ?_) (fun cdv A outer s H vs Q E hr h => ?_)
 ·obtain ⟨p, q, a, b, c, d, rfl, _⟩ := h
  rfl
 ·obtain ⟨p, q, a, b, c, d, rfl, hp, hq, ⟨sa, sb, sc, sd⟩, ⟨n1, n2, n3⟩, k⟩ := h
  refine ⟨_, pss_one (ps_ret (pe_cl CM hr rfl
   (pa_cons (pe_op op_sub (pe_op op_mulS (pe_ix ix_tup (pv 0) pe_int (fun _ _ => rfl)) (pe_ix ix_tup (pv 1) pe_int (fun _ _ => rfl))) (pe_op op_mulS (pe_ix ix_tup (pv 1) pe_int (fun _ _ => rfl)) (pe_ix ix_tup (pv 0) pe_int (fun _ _ => rfl))))
   (pa_cons (pe_op op_mulS (pe_ix ix_tup (pv 0) pe_int (fun _ _ => rfl)) (pe_ix ix_tup (pv 1) pe_int (fun _ _ => rfl))) pa_nil)))), ?_⟩
  refine ⟨_, rfl, p, _, _, _, rfl, rfl, hp, rfl, _, rfl, q, _, _, _, rfl, rfl, hq, rfl, _, _, rfl, rfl, ⟨sa, sd⟩, ?_⟩
  refine ⟨_, rfl, q, _, _, _, rfl, rfl, hq, rfl, _, rfl, p, _, _, _, rfl, rfl, hp, rfl, _, _, rfl, rfl, ⟨sc, sb⟩, _, _, rfl, rfl, ?_⟩
  refine ⟨_, rfl, p, _, _, _, rfl, rfl, hp, rfl, _, rfl, q, _, _, _, rfl, rfl, hq, rfl, _, _, rfl, rfl, ⟨sb, sd⟩, ?_⟩
  exact ⟨_, _, rfl, n1, n2, n3, k⟩
theorem ok_times {f : Addr} {fd : FuncData} (D : DefAt K mg "times" s_times ["one", "other"] f fd) (CM : Cl P w K mg base "made" 2 ["a", "b"] spMade) :
  FnOk P w K mg base CX0 3 f fd ["one", "other"] (spTimes K) := by
 refine FnOk.imp (sp := spTwo K (fun a _ c _ => a * c) (fun _ b _ d => b * d)) ?_ times_op
 refine D.fn.ok scTimes (fun vs H Q E h => ?_) (fun cdv A outer s H vs Q E hr h => ?_)
 ·obtain ⟨p, q, a, b, c, d, rfl, _⟩ := h
  rfl
 ·obtain ⟨p, q, a, b, c, d, rfl, hp, hq, ⟨sa, sb, sc, sd⟩, ⟨n1, n2, n3⟩, k⟩ := h
  refine ⟨_, pss_one (ps_ret (pe_cl CM hr rfl
   (pa_cons (pe_op op_mulS (pe_ix ix_tup (pv 0) pe_int (fun _ _ => rfl)) (pe_ix ix_tup (pv 1) pe_int (fun _ _ => rfl)))
   (pa_cons (pe_op op_mulS (pe_ix ix_tup (pv 0) pe_int (fun _ _ => rfl)) (pe_ix ix_tup (pv 1) pe_int (fun _ _ => rfl))) pa_nil)))), ?_⟩
  refine ⟨_, rfl, p, _, _, _, rfl, rfl, hp, rfl, _, rfl, q, _, _, _, rfl, rfl, hq, rfl, _, _, rfl, rfl, ⟨sa, sc⟩, ?_⟩
  refine ⟨_, rfl, p, _, _, _, rfl, rfl, hp, rfl, _, rfl, q, _, _, _, rfl, rfl, hq, rfl, _, _, rfl, rfl, ⟨sb, sd⟩, ?_⟩
  exact ⟨_, _, rfl, n1, n2, n3, k⟩
theorem ok_over {f : Addr} {fd : FuncData} (D : DefAt K mg "over" s_over ["one", "other"] f fd) (CM : Cl P w K mg base "made" 2 ["a", "b"] spMade) :
  FnOk P w K mg base CX0 3 f fd ["one", "other"] (spOver K) := by
 refine FnOk.imp (sp := spTwo K (fun a _ _ d => a * d) (fun _ b c _ => b * c)) ?_ over_op
 refine D.fn.ok scOver (fun vs H Q E h => ?_) (fun cdv A outer s H vs Q E hr h => ?_)
 ·obtain ⟨p, q, a, b, c, d, rfl, _⟩ := h
  rfl
 ·obtain ⟨p, q, a, b, c, d, rfl, hp, hq, ⟨sa, sb, sc, sd⟩, ⟨n1, n2, n3⟩, k⟩ := h
  refine ⟨_, pss_one (ps_ret (pe_cl CM hr rfl
   (pa_cons (pe_op op_mulS (pe_ix ix_tup (pv 0) pe_int (fun _ _ => rfl)) (pe_ix ix_tup (pv 1) pe_int (fun _ _ => rfl)))
   (pa_cons (pe_op op_mulS (pe_ix ix_tup (pv 0) pe_int (fun _ _ => rfl)) (pe_ix ix_tup (pv 1) pe_int (fun _ _ => rfl))) pa_nil)))), ?_⟩
  refine ⟨_, rfl, p, _, _, _, rfl, rfl, hp, rfl, _, rfl, q, _, _, _, rfl, rfl, hq, rfl, _, _, rfl, rfl, ⟨sa, sd⟩, ?_⟩
  refine ⟨_, rfl, p, _, _, _, rfl, rfl, hp, rfl, _, rfl, q, _, _, _, rfl, rfl, hq, rfl, _, _, rfl, rfl, ⟨sb, sc⟩, ?_⟩
  exact ⟨_, _, rfl, n1, n2, n3, k⟩
theorem ok_below {f : Addr} {fd : FuncData} (D : DefAt K mg "below" s_below ["one", "other"] f fd) : FnOk P w K mg base CX0 1 f fd ["one", "other"] (spBelow K) := by
 refine D.fn.ok scBelow (fun vs H Q E h => ?_) (fun cdv A outer s H vs Q E hr h => ?_)
 ·obtain ⟨x, y, q, r, rfl, _⟩ := h
  rfl
 ·obtain ⟨x, y, u, v, rfl, hx, hy, fu, fv, k⟩ := h
  obtain ⟨p, rfl, hp⟩ := hx.sq
  obtain ⟨q, rfl, hq⟩ := hy.sq
  refine ⟨_, pss_one (ps_ret (pe_cmpR op_lt (pe_op op_mulS (pe_ix ix_tup (pv 0) pe_int (fun _ _ => rfl)) (pe_ix ix_tup (pv 1) pe_int (fun _ _ => rfl))) (pe_op op_mulS (pe_ix ix_tup (pv 1) pe_int (fun _ _ => rfl)) (pe_ix ix_tup (pv 0) pe_int (fun _ _ => rfl))) (nomark _))), ?_⟩
  refine ⟨_, rfl, p, _, _, _, rfl, rfl, hp, rfl, _, rfl, q, _, _, _, rfl, rfl, hq, rfl, _, _, rfl, rfl, ⟨fu.s1, fv.s2⟩, ?_⟩
  refine ⟨_, rfl, q, _, _, _, rfl, rfl, hq, rfl, _, rfl, p, _, _, _, rfl, rfl, hp, rfl, _, _, rfl, rfl, ⟨fv.s1, fu.s2⟩, _, _, rfl, rfl, ?_⟩
  rw [decide_eq_decide.mpr (Rat.lt_iff u v)] at k
  exact k
theorem scFrac : FnScope ["thing", "a", "b"] ["thing"] (defScope s_is_fraction) := ⟨rfl, rfl, rfl, by decide +kernel, rfl, by decide +kernel, by decide +kernel⟩
theorem ok_frac {f : Addr} {fd : FuncData} (D : DefAt K mg "is_fraction" s_is_fraction ["thing"] f fd) (CW : Cl P w K mg base "is_whole" 1 ["thing"] spWhole) (CG : Cl P w K mg base "greatest_divisor" 1 ["a", "b"] spGcd) (T : Txt K mg aL aR) :
  FnOk P w K mg base CX0 2 f fd ["thing"] (spFrac K) := by
 refine D.fn.ok scFrac (fun vs H Q E h => ?_) (fun cdv A outer s H vs Q E hr h => ?_)
 ·obtain ⟨x, q, rfl, _⟩ := h
  rfl
 ·obtain ⟨x, q, rfl, hx, h0, k⟩ := h
  obtain ⟨p, rfl, hp⟩ := hx.sq
  have ha := num_nn h0
  have hb := den_pos q
  refine ⟨_, pss_cons (ps_if (PW.pt (pw_or (pt_not (pt_val (pe_isi (pv 0) rfl T.isi rfl T.tuple PyProof.Rows.boot_tuple))) (pw_or1 (pt_cmpR op_ne (pe_callB call_len_seq (by rfl) T.len PySem.boot_len (pa_cons (pv 0) pa_nil)) pe_int (nomark _))))) pss_never pss_nil)
   (pss_cons (ps_set (i := 1) scFrac.nd rfl (Or.inl rfl) (pe_ix ix_tup (pv 0) pe_int (fun _ _ => rfl)))
   (pss_cons (ps_set (i := 2) scFrac.nd rfl (Or.inl rfl) (pe_ix ix_tup (pv 0) pe_int (fun _ _ => rfl)))
   (pss_cons (ps_if (PW.pt (pw_or (pt_not (pt_val (pe_cl CW hr rfl (pa_cons (pv 1) pa_nil)))) (pw_or (pt_not (pt_val (pe_cl CW hr rfl (pa_cons (pv 2) pa_nil))))
    (pw_or (pt_cmpR op_lt (pv 1) pe_int (nomark _)) (pw_or1 (pt_cmpR op_lt (pv 2) pe_int (nomark _))))))) pss_never pss_nil)
   (pss_one (ps_ret (pe_cmpR op_eq (pe_cl CG hr rfl (pa_cons (pv 1) (pa_cons (pv 2) pa_nil))) pe_int (nomark _))))))), ?_⟩
  refine ⟨_, rfl, _, _, .sqT hp, kit_tuple _, _, rfl, iteF ?_⟩
  refine ⟨_, rfl, p, _, rfl, .inr hp, rfl, _, rfl, iteNS rfl ?_⟩
  refine ⟨_, rfl, p, _, _, _, rfl, rfl, hp, rfl, _, rfl, p, _, _, _, rfl, rfl, hp, rfl, ?_⟩
  refine ⟨_, rfl, q.num, rfl, _, rfl, iteF ?_⟩
  refine ⟨_, rfl, (q.den : Int), rfl, _, rfl, iteF ?_⟩
  refine ⟨_, rfl, _, _, rfl, rfl, _, rfl, iteN (by omega) ?_⟩
  refine ⟨_, rfl, _, _, rfl, rfl, _, rfl, iteN (by omega) ?_⟩
  refine ⟨_, rfl, _, rfl, q.num, (q.den : Int), rfl, ha, Int.le_of_lt hb, rfl, ?_⟩
  have e : decide (V.int (G q.num q.den) = V.int 1) = true := decide_eq_true (by rw [fr_cop])
  rw [e]
  exact k
end
end FQ
namespace FQ
open PySem L2 FK
abbrev cx (P : Program) (w : World) (K : PySem.W.Frag) (mg : Str → Option Value) (base : Heap) (N : List Str) (q : Str) (st : Stmt) (f : Addr) (cdv : Value) (A : Around) (outer : List Env) (s : Shared) (H : Hp) (E : XK) : Cx := (cxOf CX0 P w K mg base N q (defScope st) f cdv A outer s H E).nox
abbrev spApart (K : PySem.W.Frag) := spOp K apt (fun _ _ => True)
def Ft (n : Nat) (q : Rat) : Prop := 0 ≤ q ∧ Bd n q
theorem Ft.fit {n : Nat} {q : Rat} (h : Ft n q) (hn : n ≤ 1900 := by decide) : Fit q := ⟨h.1, h.2.mono hn⟩
theorem apt_nn (x y : Rat) : 0 ≤ apt x y := by unfold apt; grind
theorem apt_pos {x y : Rat} (h : x ≠ y) : 0 < apt x y := by unfold apt; grind
theorem apt_bd {x y : Rat} {m n : Nat} (h1 : Bd m x) (h2 : Bd n y) : Bd (m + n + 1) (apt x y) := by
 unfold apt
 split
 ·rw [Nat.add_comm m n]
  exact h2.sub h1
 ·exact h1.sub h2
def spReaches (K : PySem.W.Frag) : Sp := fun vs H Q _ => ∃ (x y z : V) (p q : Rat × Rat) (u : Rat), vs = [x, y, z] ∧ CoQ K H x p ∧ CoQ K H y q ∧ FrQ K H z u ∧ Fit p.2 ∧ Fit q.2 ∧ Fit u ∧ Q (.bl (decide (Rch p q u))) H
def spCrossing (K : PySem.W.Frag) : Sp := fun vs H Q _ => ∃ (x y z : V) (p q : Rat × Rat) (u : Rat), vs = [x, y, z] ∧ CoQ K H x p ∧ CoQ K H y q ∧ FrQ K H z u ∧ (Ft 250 p.1 ∧ Ft 250 p.2 ∧ Ft 250 q.1 ∧ Ft 250 q.2 ∧ Ft 250 u) ∧ p.1 ≤ q.1 ∧ Rch p q u ∧
 ∀ v H', Same H H' → FrQ K H' v (crs p q u) → Q v H'
def AnsQ (K : PySem.W.Frag) (H : Hp) (v : V) : Option Rat → Prop
 | none => v = .non
 | some q => FrQ K H v q
structure LnOk (L : List (Rat × Rat)) : Prop where
 few : L.length ≤ 1000
 fit : ∀ p ∈ L, Ft 250 p.1 ∧ Ft 250 p.2
 rise : ∀ (i : Nat) (p q : Rat × Rat), L[i]? = some p → L[i + 1]? = some q → p.1 ≤ q.1
def spReached (K : PySem.W.Frag) : Sp := fun vs H Q _ => ∃ (a : Addr) (xs : List V) (z : V) (L : List (Rat × Rat)) (u : Rat), vs = [.ref a, z] ∧ SqL K H a xs ∧ Paired (CoQ K H) xs L ∧ FrQ K H z u ∧ LnOk L ∧ Ft 250 u ∧
 ∀ v H', Same H H' → AnsQ K H' v (rch L u) → Q v H'
theorem rch_drop {L : List (Rat × Rat)} {u : Rat} {i : Nat} {p q : Rat × Rat} (h1 : L[i]? = some p) (h2 : L[i + 1]? = some q) : rch (L.drop i) u = if Rch p q u then some (crs p q u) else rch (L.drop (i + 1)) u := by
 obtain ⟨l1, e1⟩ := List.getElem?_eq_some_iff.mp h1
 obtain ⟨l2, e2⟩ := List.getElem?_eq_some_iff.mp h2
 rw [List.drop_eq_getElem_cons l1, List.drop_eq_getElem_cons l2, e1, e2]
 rfl
theorem rch_end {L : List (Rat × Rat)} {u : Rat} {i : Nat} (h : L.length ≤ i + 1) : rch (L.drop i) u = none := by
 have : (L.drop i).length ≤ 1 := by rw [List.length_drop]; omega
 match L.drop i, this with
 | [], _ => rfl
 | [_], _ => rfl
section
variable {P : Program} {w : World} {K : PySem.W.Frag} {mg : Str → Option Value} {base : Heap} {aL aR : Addr}
theorem scApart : FnScope ["one", "other"] ["one", "other"] (defScope s_apart) := ⟨rfl, rfl, rfl, by decide +kernel, rfl, by decide +kernel, by decide +kernel⟩
theorem ok_apart {f : Addr} {fd : FuncData} (D : DefAt K mg "apart" s_apart ["one", "other"] f fd) (CB : Cl P w K mg base "below" 1 ["one", "other"] (spBelow K)) (CM : Cl P w K mg base "minus" 3 ["one", "other"] (spMinus K)) :
  FnOk P w K mg base CX0 4 f fd ["one", "other"] (spApart K) := by
 refine D.fn.ok scApart (fun vs H Q E h => ?_) (fun cdv A outer s H vs Q E hr h => ?_)
 ·obtain ⟨x, y, q, r, rfl, _⟩ := h
  rfl
 ·obtain ⟨x, y, q, r, rfl, hx, hy, fq, fr, _, k⟩ := h
  have hr1 : Room 1 _ := hr.mono (by decide)
  refine ⟨_, pss_one (ps_ret (pe_ifExp (pt_val (pe_cl CB hr1 rfl (pa_cons (pv 0) (pa_cons (pv 1) pa_nil)))) (pe_cl CM hr rfl (pa_cons (pv 1) (pa_cons (pv 0) pa_nil))) (pe_cl CM hr rfl (pa_cons (pv 0) (pa_cons (pv 1) pa_nil))))), ?_⟩
  refine ⟨_, rfl, _, rfl, x, y, q, r, rfl, hx, hy, fq, fr, _, rfl, ?_⟩
  refine ite2 (fun h => ?_) (fun h => ?_)
  ·have h' : q < r := of_decide_eq_true h
   refine ⟨_, rfl, _, rfl, y, x, r, q, rfl, hy, hx, fr, fq, Rat.le_of_lt h', fun v H' s hv => k v H' s ?_⟩
   rw [show apt q r = r - q from if_pos h']
   exact hv
  ·have h' : ¬ q < r := fun z => h (decide_eq_true z)
   refine ⟨_, rfl, _, rfl, x, y, q, r, rfl, hx, hy, fq, fr, by grind, fun v H' s hv => k v H' s ?_⟩
   rw [show apt q r = q - r from if_neg h']
   exact hv
theorem scReaches : FnScope ["one", "other", "up"] ["one", "other", "up"] (defScope s_reaches) := ⟨rfl, rfl, rfl, by decide +kernel, rfl, by decide +kernel, by decide +kernel⟩
theorem ok_reaches {f : Addr} {fd : FuncData} (D : DefAt K mg "reaches" s_reaches ["one", "other", "up"] f fd) (CB : Cl P w K mg base "below" 1 ["one", "other"] (spBelow K)) :
  FnOk P w K mg base CX0 2 f fd ["one", "other", "up"] (spReaches K) := by
 refine D.fn.ok scReaches (fun vs H Q E h => ?_) (fun cdv A outer s H vs Q E hr h => ?_)
 ·obtain ⟨x, y, z, p, q, u, rfl, _⟩ := h
  rfl
 ·obtain ⟨x, y, z, p, q, u, rfl, ⟨px, x1, x2, rfl, hx, hx1, hx2⟩, ⟨py, y1, y2, rfl, hy, hy1, hy2⟩, hz, fp, fq, fu, k⟩ := h
  obtain ⟨t, ht, rt⟩ : ∃ t, PSs (cx P w K mg base ["one", "other", "up"] "reaches" s_reaches f cdv A outer s H E) (List.drop 1 (defBody s_reaches)) t ∧ ∀ D : Ends, D.rt = Q → ¬ (p.2 < u ∧ q.2 < u) → t D [some (.ref px), some (.ref py), some z] H := by
   refine ⟨_, pss_one (ps_ret (pe_not (pe_and (pe_cl CB hr rfl (pa_cons (pv 2) (pa_cons (pe_ix ix_tup (pv 0) pe_int (fun _ _ => rfl)) pa_nil))) (pe_one (pe_cl CB hr rfl (pa_cons (pv 2) (pa_cons (pe_ix ix_tup (pv 1) pe_int (fun _ _ => rfl)) pa_nil))))))), fun D hD hn => ?_⟩
   refine ⟨_, rfl, _, rfl, px, _, _, _, rfl, rfl, hx, rfl, z, x2, u, p.2, rfl, hz, hx2, fu, fp, _, rfl, ?_⟩
   refine ite2 (fun h => ?_) (fun h => ?_)
   ·have h' : u < p.2 := of_decide_eq_true h
    refine ⟨_, rfl, _, rfl, py, _, _, _, rfl, rfl, hy, rfl, z, y2, u, q.2, rfl, hz, hy2, fu, fq, _, rfl, ?_⟩
    show D.rt _ H
    rw [hD, show (!decide (u < q.2)) = decide (Rch p q u) by
     by_cases h2 : u < q.2
     ·rw [decide_eq_true h2, decide_eq_false (by unfold Rch; exact fun z => z.2 ⟨h', h2⟩)]
      rfl
     ·rw [decide_eq_false h2, decide_eq_true (by unfold Rch; exact ⟨hn, fun z => h2 z.2⟩)]
      rfl]
    exact k
   ·have h' : ¬ u < p.2 := fun z => h (decide_eq_true z)
    refine ⟨_, rfl, ?_⟩
    show D.rt (.bl true) H
    rw [show true = decide (Rch p q u) from (decide_eq_true (by unfold Rch; exact ⟨hn, fun z => h' z.1⟩)).symm, hD]
    exact k
  refine ⟨_, pss_cons (ps_if (PW.pt (pw_and (pt_val (pe_cl CB hr rfl (pa_cons (pe_ix ix_tup (pv 0) pe_int (fun _ _ => rfl)) (pa_cons (pv 2) pa_nil)))) (pw_and1 (pt_val (pe_cl CB hr rfl (pa_cons (pe_ix ix_tup (pv 1) pe_int (fun _ _ => rfl)) (pa_cons (pv 2) pa_nil))))))) (pss_one (ps_ret pe_bl)) pss_nil) ht, ?_⟩
  refine ⟨_, rfl, px, _, _, _, rfl, rfl, hx, rfl, _, rfl, x2, z, p.2, u, rfl, hx2, hz, fp, fu, _, rfl, ?_⟩
  refine ite2 (fun h => ?_) (fun h => ?_)
  ·have h' : p.2 < u := of_decide_eq_true h
   refine ⟨_, rfl, py, _, _, _, rfl, rfl, hy, rfl, _, rfl, y2, z, q.2, u, rfl, hy2, hz, fq, fu, _, rfl, ?_⟩
   refine ite2 (fun h2 => ?_) (fun h2 => ?_)
   ·have h2' : q.2 < u := of_decide_eq_true h2
    show Q (.bl false) H
    rw [show false = decide (Rch p q u) from (decide_eq_false (by unfold Rch; exact fun z => z.1 ⟨h', h2'⟩)).symm]
    exact k
   ·exact rt _ rfl fun z => h2 (decide_eq_true z.2)
  ·exact iteF (rt _ rfl fun z => h (decide_eq_true z.1))
theorem scCrossing : FnScope ["one", "other", "up", "part"] ["one", "other", "up"] (defScope s_crossing) := ⟨rfl, rfl, rfl, by decide +kernel, rfl, by decide +kernel, by decide +kernel⟩
structure Four (P : Program) (w : World) (K : PySem.W.Frag) (mg : Str → Option Value) (base : Heap) : Prop where
 plus : Cl P w K mg base "plus" 3 ["one", "other"] (spPlus K)
 minus : Cl P w K mg base "minus" 3 ["one", "other"] (spMinus K)
 times : Cl P w K mg base "times" 3 ["one", "other"] (spTimes K)
 over : Cl P w K mg base "over" 3 ["one", "other"] (spOver K)
 below : Cl P w K mg base "below" 1 ["one", "other"] (spBelow K)
theorem ok_crossing {f : Addr} {fd : FuncData} (D : DefAt K mg "crossing" s_crossing ["one", "other", "up"] f fd) (C : Four P w K mg base) (CA : Cl P w K mg base "apart" 4 ["one", "other"] (spApart K)) :
  FnOk P w K mg base CX0 5 f fd ["one", "other", "up"] (spCrossing K) := by
 refine D.fn.ok scCrossing (fun vs H Q E h => ?_) (fun cdv A outer s H vs Q E hr h => ?_)
 ·obtain ⟨x, y, z, p, q, u, rfl, _⟩ := h
  rfl
 ·obtain ⟨x, y, z, p, q, u, rfl, ⟨px, x1, x2, rfl, hx, hx1, hx2⟩, ⟨py, y1, y2, rfl, hy, hy1, hy2⟩, hz, ⟨f1, f2, f3, f4, fu⟩, hle, hR, k⟩ := h
  have hr3 : Room 3 _ := hr.mono (by decide)
  have hu : _ + (0 + 1) < cLine := hu_of hr
  refine ⟨_, pss_cons (ps_if (pt_cmpR (op_eqP rpe_int rpe_int hu) (pe_ix ix_tup (pv 0) pe_int (fun _ _ => rfl)) (pv 2) (nomark _)) (pss_one (ps_ret (pe_ix ix_tup (pv 0) pe_int (fun _ _ => rfl)))) pss_nil)
   (pss_cons (ps_set (i := 3) scCrossing.nd rfl (Or.inl rfl) (pe_cl C.over hr3 rfl (pa_cons (pe_cl CA hr rfl (pa_cons (pe_ix ix_tup (pv 0) pe_int (fun _ _ => rfl)) (pa_cons (pv 2) pa_nil)))
    (pa_cons (pe_cl CA hr rfl (pa_cons (pe_ix ix_tup (pv 0) pe_int (fun _ _ => rfl)) (pa_cons (pe_ix ix_tup (pv 1) pe_int (fun _ _ => rfl)) pa_nil))) pa_nil))))
   (pss_one (ps_ret (pe_cl C.plus hr3 rfl (pa_cons (pe_ix ix_tup (pv 0) pe_int (fun _ _ => rfl)) (pa_cons (pe_cl C.times hr3 rfl
    (pa_cons (pe_cl C.minus hr3 rfl (pa_cons (pe_ix ix_tup (pv 1) pe_int (fun _ _ => rfl)) (pa_cons (pe_ix ix_tup (pv 0) pe_int (fun _ _ => rfl)) pa_nil))) (pa_cons (pv 3) pa_nil))) pa_nil)))))), ?_⟩
  refine ⟨_, rfl, px, _, _, _, rfl, rfl, hx, rfl, _, rfl, _, _, hx2, hz, _, rfl, ?_⟩
  rw [fr_dec]
  refine ite2 (fun h => ?_) (fun h => ?_)
  ·have h' : p.2 = u := of_decide_eq_true h
   refine ⟨_, rfl, px, _, _, _, rfl, rfl, hx, rfl, k _ _ (Same.refl _) ?_⟩
   rw [show crs p q u = p.1 from if_pos h']
   exact hx1
  ·have h' : p.2 ≠ u := fun z => h (decide_eq_true z)
   have hne : p.2 ≠ q.2 := by
    intro e
    have h1 := hR.1
    have h2 := hR.2
    grind
   have bu := apt_bd f2.2 fu.2
   have bq := apt_bd f2.2 f4.2
   have ap := apt_pos hne
   refine ⟨_, rfl, px, _, _, _, rfl, rfl, hx, rfl, _, rfl, x2, z, p.2, u, rfl, hx2, hz, f2.fit, fu.fit, trivial, fun v1 H1 s1 e1 => ?_⟩
   refine ⟨_, rfl, px, _, _, _, rfl, rfl, s1.sqT hx, rfl, _, rfl, py, _, _, _, rfl, rfl, s1.sqT hy, rfl, x2, y2, p.2, q.2, rfl, hx2.same s1, hy2.same s1, f2.fit, f4.fit, trivial, fun v2 H2 s2 e2 => ?_⟩
   refine ⟨v1, v2, _, _, rfl, e1.same s2, e2, ⟨apt_nn _ _, bu.mono (by decide)⟩, ⟨apt_nn _ _, bq.mono (by decide)⟩, ap, fun v3 H3 s3 e3 => ?_⟩
   have s13 := s1.trans (s2.trans s3)
   have bp := Bd.div ap bu bq
   have np : (0 : Rat) ≤ apt p.2 u / apt p.2 q.2 := by
    have := (Rat.div_lt_iff (a := apt p.2 u) (b := apt p.2 q.2) (c := 0) ap)
    have := apt_nn p.2 u
    grind
   refine ⟨_, rfl, px, _, _, _, rfl, rfl, s13.sqT hx, rfl, _, rfl, py, _, _, _, rfl, rfl, s13.sqT hy, rfl, _, rfl, px, _, _, _, rfl, rfl, s13.sqT hx, rfl, y1, x1, q.1, p.1, rfl, hy1.same s13, hx1.same s13, f3.fit, f1.fit, hle, fun v4 H4 s4 e4 => ?_⟩
   have b4 := Bd.sub f3.2 f1.2
   have n4 : (0 : Rat) ≤ q.1 - p.1 := by grind
   refine ⟨_, rfl, v4, v3, _, _, rfl, e4, e3.same s4, ⟨n4, b4.mono (by decide)⟩, ⟨np, bp.mono (by decide)⟩, trivial, fun v5 H5 s5 e5 => ?_⟩
   refine ⟨x1, v5, p.1, _, rfl, hx1.same (s13.trans (s4.trans s5)), e5, f1.fit, ⟨Rat.mul_nonneg n4 np, (b4.mul bp).mono (by decide)⟩, trivial, fun v6 H6 s6 e6 => k v6 H6 (s13.trans (s4.trans (s5.trans s6))) ?_⟩
   rw [show crs p q u = p.1 + (q.1 - p.1) * (apt p.2 u / apt p.2 q.2) from if_neg h']
   exact e6
theorem scReached : FnScope ["line", "up", "k"] ["line", "up"] (defScope s_reached) := ⟨rfl, rfl, rfl, by decide +kernel, rfl, by decide +kernel, by decide +kernel⟩
theorem ok_reached {f : Addr} {fd : FuncData} (D : DefAt K mg "reached" s_reached ["line", "up"] f fd) (CR : Cl P w K mg base "reaches" 2 ["one", "other", "up"] (spReaches K)) (CC : Cl P w K mg base "crossing" 5 ["one", "other", "up"] (spCrossing K)) (T : Txt K mg aL aR) :
  FnOk P w K mg base CX0 6 f fd ["line", "up"] (spReached K) := by
 refine D.fn.ok scReached (fun vs H Q E h => ?_) (fun cdv A outer s H vs Q E hr h => ?_)
 ·obtain ⟨a, xs, z, L, u, rfl, _⟩ := h
  rfl
 ·obtain ⟨a, xs, z, L, u, rfl, ha, hL, hz, ok, fu, k⟩ := h
  have hr2 : Room 2 _ := hr.mono (by decide)
  refine ⟨_, pss_cons (ps_for PassesOwn.never rfl (pi_range2 rfl T.range (pa_cons pe_int (pa_cons (pe_callB call_len_seq (by rfl) T.len PySem.boot_len (pa_cons (pv 0) pa_nil)) pa_nil))) (pg_name (i := 2) scReached.nd rfl (Or.inl rfl))
    (pss_one (ps_if (pt_val (pe_cl CR hr2 rfl (pa_cons (pe_ix ix_list (pv 0) (pe_op op_sub (pv 2) pe_int) (fun _ _ => rfl)) (pa_cons (pe_ix ix_list (pv 0) (pv 2) (fun _ _ => rfl)) (pa_cons (pv 1) pa_nil)))))
     (pss_one (ps_ret (pe_cl CC hr rfl (pa_cons (pe_ix ix_list (pv 0) (pe_op op_sub (pv 2) pe_int) (fun _ _ => rfl)) (pa_cons (pe_ix ix_list (pv 0) (pv 2) (fun _ _ => rfl)) (pa_cons (pv 1) pa_nil)))))) pss_nil)))
   (pss_one (ps_ret pe_non)), ?_⟩
  have lX := hL.length
  have few := ok.few
  refine ⟨_, rfl, a, _, rfl, .inl ha, ?_⟩
  refine ⟨1, (xs.length : Nat), rfl, ⟨by omega, by omega, by omega, by omega⟩, ?_⟩
  refine for_range (lo := 1) (n := ((xs.length : Int) - 1).toNat) (fun i σ H' => H' = H ∧ (∃ x2, σ = [some (.ref a), some z, x2]) ∧ rch (L.drop i) u = rch L u) ⟨rfl, ⟨_, rfl⟩, by rw [List.drop_zero]⟩ ?_ ?_
  ·rintro i σ H' hi ⟨rfl, ⟨x2, rfl⟩, e⟩
   obtain ⟨p, hp, cp⟩ := Paired.get1 hL i xs[i] (List.getElem?_eq_getElem (by omega))
   obtain ⟨q, hq, cq⟩ := Paired.get1 hL (i + 1) xs[i + 1] (List.getElem?_eq_getElem (by omega))
   have a1 : atI xs (1 + (i : Int) - 1) = some xs[i] := atI_of (by omega) (by
    rw [show (1 + (i : Int) - 1).toNat = i by omega]
    exact List.getElem?_eq_getElem (by omega))
   have a2 : atI xs (1 + (i : Int)) = some xs[i + 1] := atI_of (by omega) (by
    rw [show (1 + (i : Int)).toNat = i + 1 by omega]
    exact List.getElem?_eq_getElem (by omega))
   have g1 := ok.fit p (List.mem_of_getElem? hp)
   have g2 := ok.fit q (List.mem_of_getElem? hq)
   rw [rch_drop hp hq] at e
   refine ⟨_, rfl, _, rfl, _, _, rfl, rfl, a, _, _, _, rfl, rfl, ha, a1, _, rfl, _, rfl, a, _, _, _, rfl, rfl, ha, a2, _, rfl, _, _, z, p, q, u, rfl, cp, cq, hz, g1.2.fit, g2.2.fit, fu.fit, _, rfl, ?_⟩
   refine ite2 (fun h => ?_) (fun h => ?_)
   ·have h' : Rch p q u := of_decide_eq_true h
    rw [if_pos h'] at e
    refine ⟨_, rfl, _, rfl, _, _, rfl, rfl, a, _, _, _, rfl, rfl, ha, a1, _, rfl, _, rfl, a, _, _, _, rfl, rfl, ha, a2, _, rfl, _, _, z, p, q, u, rfl, cp, cq, hz, ⟨g1.1, g1.2, g2.1, g2.2, fu⟩, ok.rise i p q hp hq, h', fun v H2 s2 e2 => k v H2 s2 ?_⟩
    rw [← e]
    exact e2
   ·have h' : ¬ Rch p q u := fun z => h (decide_eq_true z)
    rw [if_neg h'] at e
    exact ⟨rfl, ⟨_, rfl⟩, e⟩
  ·rintro σ H' ⟨rfl, ⟨x2, rfl⟩, e⟩
   refine k _ _ (Same.refl _) ?_
   rw [← e, rch_end (by omega)]
   rfl
end
end FQ
namespace FQ
open PySem L2 FK
structure DOk (D : Nat) : Prop where
 pos : 0 < D
 few : D < 2 ^ 220
structure PcOk (D : Nat) (L : List (Rat × Rat)) : Prop where
 d : DOk D
 win : ∀ p ∈ L, 0 ≤ p.1 ∧ p.1 < p.2 ∧ p.2 ≤ 1
 apart : L.Pairwise fun a b => a.2 < b.1
 gr : ∀ p ∈ L, Gr D p.1 ∧ Gr D p.2
 few : L.length ≤ 1000
theorem DOk.bd {D : Nat} (h : DOk D) {q : Rat} (g : Gr D q) (h0 : 0 ≤ q) (h1 : q ≤ 1) : Bd 250 q :=
 (g.bd (n := 220) h.pos h0 (m := 1) (by rw [show ((1 : Nat) : Rat) = 1 from rfl]; exact h1) (by rw [Nat.one_mul]; exact h.few) h.few).mono (by decide)
theorem PcOk.fit {D : Nat} {L : List (Rat × Rat)} (h : PcOk D L) (p : Rat × Rat) (hp : p ∈ L) : Bd 250 p.1 ∧ Bd 250 p.2 := by
 have w := h.win p hp
 have g := h.gr p hp
 exact ⟨h.d.bd g.1 w.1 (by grind), h.d.bd g.2 (by grind) w.2.2⟩
def spSpan (K : PySem.W.Frag) : Sp := fun vs H Q _ => ∃ (x : V) (p : Rat × Rat), vs = [x] ∧ CoQ K H x p ∧ (0 ≤ p.1 ∧ p.1 < p.2 ∧ p.2 ≤ 1) ∧ (Bd 250 p.1 ∧ Bd 250 p.2) ∧ Q (.bl true) H
def spCheck (K : PySem.W.Frag) : Sp := fun vs H Q _ => ∃ (a : Addr) (xs : List V) (D : Nat) (L : List (Rat × Rat)), vs = [.ref a] ∧ SqL K H a xs ∧ Paired (CoQ K H) xs L ∧ PcOk D L ∧ Q .non H
abbrev StQ (K : PySem.W.Frag) := rpPair K (FrQ K) rpInt
theorem StQ.same {K : PySem.W.Frag} {H H' : Hp} {x : V} {d : Rat × Int} (s : Same H H') (h : StQ K H x d) : StQ K H' x d := by
 obtain ⟨p, y, z, rfl, q, h1, h2⟩ := h
 exact ⟨p, y, z, rfl, s.sqT q, h1.same s, h2⟩
theorem FrQ.keep {K : PySem.W.Frag} {H H' : Hp} {x : V} {q : Rat} (s : Keep H H') (h : FrQ K H x q) : FrQ K H' x q := s.fr h
theorem CoQ.keep {K : PySem.W.Frag} {H H' : Hp} {x : V} {d : Rat × Rat} (s : Keep H H') (h : CoQ K H x d) : CoQ K H' x d := by
 obtain ⟨p, y, z, rfl, q, h1, h2⟩ := h
 exact ⟨p, y, z, rfl, s.sqT q, h1.keep s, h2.keep s⟩
structure TxtT (mg : Str → Option Value) : Prop where
 most : ∃ t, mg "MOST_STEPS" = some (.int 8 t)
 second : ∃ t, mg "GREATEST_SECOND_NUMBER" = some (.int 1000 t)
 weight : ∃ t, mg "GREATEST_WEIGHT" = some (.int 1000 t)
def spStep (K : PySem.W.Frag) : Sp := fun vs H Q _ => ∃ (x : V) (z : Rat × Int), vs = [x] ∧ StQ K H x z ∧ 0 ≤ z.1 ∧ z.1.den ≤ 1000 ∧ 1 ≤ z.2 ∧ z.2 ≤ 1000 ∧ Q .non H
def spSteps (K : PySem.W.Frag) : Sp := fun vs H Q _ => ∃ (a : Addr) (xs : List V) (p : Nat) (S : Steps), vs = [.ref a] ∧ SqL K H a xs ∧ Paired (StQ K H) xs S ∧ TsOk p S ∧ Q .non H
def spLine (K : PySem.W.Frag) : Sp := fun vs H Q _ => ∃ (a : Addr) (xs : List V) (p : Nat) (S : Steps), vs = [.ref a] ∧ SqL K H a xs ∧ Paired (StQ K H) xs S ∧ TsOk p S ∧
 ∀ (r : Addr) (ys : List V) (H' : Hp), Same H H' → H r = none → H' r = some (.lst ys) → Paired (CoQ K H') ys (wl S) → Q (.ref r) H'
theorem gr_den {D : Nat} {q : Rat} (h : Gr D q) (hD : 0 < D) : q.den ≤ D := by
 obtain ⟨n, hn⟩ := h
 have e : q = ((n : Rat) / ((D : Int) : Rat)) := by
  rw [Rat.intCast_natCast, ← hn]
  have := nat_ne hD
  grind
 obtain ⟨_, e2⟩ := low_fr (a := n) (b := (D : Int)) (by omega)
 rw [← e] at e2
 have := hi_le (a := n) (b := (D : Int)) (by omega)
 omega
section
variable {P : Program} {w : World} {K : PySem.W.Frag} {mg : Str → Option Value} {base : Heap} {aL aR : Addr}
theorem scSpan : FnScope ["thing"] ["thing"] (defScope s_is_span) := ⟨rfl, rfl, rfl, by decide +kernel, rfl, by decide +kernel, by decide +kernel⟩
theorem ok_span {f : Addr} {fd : FuncData} (D : DefAt K mg "is_span" s_is_span ["thing"] f fd) (CF : Cl P w K mg base "is_fraction" 2 ["thing"] (spFrac K)) (CB : Cl P w K mg base "below" 1 ["one", "other"] (spBelow K)) (T : Txt K mg aL aR) :
  FnOk P w K mg base CX0 3 f fd ["thing"] (spSpan K) := by
 refine D.fn.ok scSpan (fun vs H Q E h => ?_) (fun cdv A outer s H vs Q E hr h => ?_)
 ·obtain ⟨x, q, rfl, _⟩ := h
  rfl
 ·obtain ⟨x, q, rfl, ⟨p, y, z, rfl, hp, hy, hz⟩, ⟨w0, w1, w2⟩, ⟨b1, b2⟩, k⟩ := h
  have hr1 : Room 1 _ := hr.mono (by decide)
  have n2 : 0 ≤ q.2 := by grind
  have f1 : Fit q.1 := Bd.fit b1 w0 (by decide)
  have f2 : Fit q.2 := Bd.fit b2 n2 (by decide)
  refine ⟨_, pss_cons (ps_if (PW.pt (pw_or (pt_not (pt_val (pe_isi (pv 0) rfl T.isi rfl T.tuple PyProof.Rows.boot_tuple))) (pw_or1 (pt_cmpR op_ne (pe_callB call_len_seq (by rfl) T.len PySem.boot_len (pa_cons (pv 0) pa_nil)) pe_int (nomark _))))) pss_never pss_nil)
   (pss_cons (ps_if (PW.pt (pw_or (pt_not (pt_val (pe_cl CF hr rfl (pa_cons (pe_ix ix_tup (pv 0) pe_int (fun _ _ => rfl)) pa_nil)))) (pw_or1 (pt_not (pt_val (pe_cl CF hr rfl (pa_cons (pe_ix ix_tup (pv 0) pe_int (fun _ _ => rfl)) pa_nil))))))) pss_never pss_nil)
   (pss_one (ps_ret (pe_and (pe_cl CB hr1 rfl (pa_cons (pe_ix ix_tup (pv 0) pe_int (fun _ _ => rfl)) (pa_cons (pe_ix ix_tup (pv 0) pe_int (fun _ _ => rfl)) pa_nil)))
    (pe_one (pe_not (pe_cl CB hr1 rfl (pa_cons (pe_glob (v := .ref aR) rfl T.right rfl) (pa_cons (pe_ix ix_tup (pv 0) pe_int (fun _ _ => rfl)) pa_nil))))))))), ?_⟩
  refine ⟨_, rfl, _, _, .sqT hp, kit_tuple _, _, rfl, iteF ?_⟩
  refine ⟨_, rfl, p, _, rfl, .inr hp, rfl, _, rfl, iteNS rfl ?_⟩
  refine ⟨_, rfl, p, _, _, _, rfl, rfl, hp, rfl, y, q.1, rfl, hy, w0, _, rfl, iteF ?_⟩
  refine ⟨_, rfl, p, _, _, _, rfl, rfl, hp, rfl, z, q.2, rfl, hz, n2, _, rfl, iteF ?_⟩
  refine ⟨_, rfl, p, _, _, _, rfl, rfl, hp, rfl, _, rfl, p, _, _, _, rfl, rfl, hp, rfl, y, z, q.1, q.2, rfl, hy, hz, f1, f2, _, rfl, ?_⟩
  refine iteY w1 ?_
  refine ⟨_, rfl, p, _, _, _, rfl, rfl, hp, rfl, .ref aR, z, 1, q.2, rfl, T.r H, hz, Fit.one, f2, _, rfl, ?_⟩
  rw [decide_eq_false (show ¬ (1 : Rat) < q.2 by grind)]
  exact k
theorem scCheck : FnScope ["piece", "reached", "span"] ["piece"] (defScope s_check_piece) := ⟨rfl, rfl, rfl, by decide +kernel, rfl, by decide +kernel, by decide +kernel⟩
theorem ok_check {f : Addr} {fd : FuncData} (D : DefAt K mg "check_piece" s_check_piece ["piece"] f fd) (CS : Cl P w K mg base "is_span" 3 ["thing"] (spSpan K)) (CB : Cl P w K mg base "below" 1 ["one", "other"] (spBelow K)) (T : Txt K mg aL aR) :
  FnOk P w K mg base CX0 4 f fd ["piece"] (spCheck K) := by
 refine D.fn.ok scCheck (fun vs H Q E h => ?_) (fun cdv A outer s H vs Q E hr h => ?_)
 ·obtain ⟨p, xs, D, L, rfl, _⟩ := h
  rfl
 ·obtain ⟨p, xs, D, L, rfl, hp, hL, hG, k⟩ := h
  have hr1 : Room 1 _ := hr.mono (by decide)
  refine ⟨_, pss_cons (ps_if (pt_not (pt_val (pe_isi (pv 0) rfl T.isi rfl T.list PyProof.Rows.boot_list))) pss_never pss_nil)
   (pss_cons (ps_set (i := 1) scCheck.nd rfl (Or.inl rfl) pe_non)
   (pss_one (ps_for PassesOwn.never rfl (pi_list (pv 0)) (pg_name (i := 2) scCheck.nd rfl (Or.inl rfl))
    (pss_cons (ps_if (pt_not (pt_val (pe_cl CS hr rfl (pa_cons (pv 2) pa_nil)))) pss_never pss_nil)
    (pss_cons (ps_if (PW.pt (pw_and (pt_cmpR op_notN (pv 1) pe_non (nomark _)) (pw_and1 (pt_not (pt_val (pe_cl CB hr1 rfl (pa_cons (pv 1) (pa_cons (pe_ix ix_tup (pv 2) pe_int (fun _ _ => rfl)) pa_nil)))))))) pss_never pss_nil)
    (pss_one (ps_set (i := 1) scCheck.nd rfl (Or.inl rfl) (pe_ix ix_tup (pv 2) pe_int (fun _ _ => rfl))))))))), ?_⟩
  refine ⟨_, rfl, _, _, .sqL hp, kit_list _, _, rfl, iteF ?_⟩
  refine ⟨_, rfl, p, rfl, ⟨_, hp⟩, ?_⟩
  refine for_list (K := K) (a := p) (xs := xs) (fun i σ H' => H' = H ∧ ∃ (r : V) (sp : Option V), σ = [some (.ref p), some r, sp] ∧ ((i = 0 ∧ r = .non) ∨ ∃ j q, i = j + 1 ∧ L[j]? = some q ∧ FrQ K H r q.2))
   ⟨rfl, _, _, rfl, .inl ⟨rfl, rfl⟩⟩ (fun i σ H' _ h => by rw [h.1]; exact hp) ?_ ?_
  ·rintro i x σ H' hx ⟨rfl, r, sp, rfl, hR⟩
   obtain ⟨q, hq, hs⟩ := Paired.get1 hL i x hx
   obtain ⟨p0, y, z, rfl, hp0, hy, hz⟩ := id hs
   have wq := hG.win q (List.mem_of_getElem? hq)
   have fq := hG.fit q (List.mem_of_getElem? hq)
   refine ⟨_, rfl, _, q, rfl, hs, wq, fq, _, rfl, iteF ?_⟩
   have fin : H' = H' ∧ ∃ (r : V) (sp : Option V), [some (V.ref p), some z, some (V.ref p0)] = [some (.ref p), some r, sp] ∧ ((i + 1 = 0 ∧ r = .non) ∨ ∃ j q, i + 1 = j + 1 ∧ L[j]? = some q ∧ FrQ K H' r q.2) :=
    ⟨rfl, z, _, rfl, .inr ⟨i, q, rfl, hq, hz⟩⟩
   refine ⟨_, rfl, rfl, _, rfl, ?_⟩
   rcases hR with ⟨_, rfl⟩ | ⟨j, q0, hj, hq0, hr0⟩
   ·refine iteNS rfl (iteF ?_)
    exact ⟨_, rfl, p0, _, _, _, rfl, rfl, hp0, rfl, fin⟩
   ·have w0 := hG.win q0 (List.mem_of_getElem? hq0)
    have f0 := hG.fit q0 (List.mem_of_getElem? hq0)
    have ap : q0.2 < q.1 := by
     obtain ⟨l1, e1⟩ := List.getElem?_eq_some_iff.mp hq0
     obtain ⟨l2, e2⟩ := List.getElem?_eq_some_iff.mp hq
     have := List.pairwise_iff_getElem.mp hG.apart j i l1 l2 (by omega)
     rw [e1, e2] at this
     exact this
    obtain ⟨p2, rfl, h2⟩ := hr0.sq
    refine iteNN (fun z => nomatch z) ?_
    refine ⟨_, rfl, _, rfl, p0, _, _, _, rfl, rfl, hp0, rfl, .ref p2, y, q0.2, q.1, rfl, hr0, hy, Bd.fit f0.2 (by grind) (by decide), Bd.fit fq.1 wq.1 (by decide), _, rfl, ?_⟩
    refine iteNS ap ?_
    exact ⟨_, rfl, p0, _, _, _, rfl, rfl, hp0, rfl, fin⟩
  ·rintro σ H' ⟨rfl, r, sp, rfl, _⟩
   exact k
theorem scStep : FnScope ["step"] ["step"] (defScope s_check_step) := ⟨rfl, rfl, rfl, by decide +kernel, rfl, by decide +kernel, by decide +kernel⟩
theorem ok_step {f : Addr} {fd : FuncData} (D : DefAt K mg "check_step" s_check_step ["step"] f fd) (CF : Cl P w K mg base "is_fraction" 2 ["thing"] (spFrac K)) (CW : Cl P w K mg base "is_whole" 1 ["thing"] spWhole) (T : Txt K mg aL aR) (TT : TxtT mg) :
  FnOk P w K mg base CX0 3 f fd ["step"] (spStep K) := by
 obtain ⟨t2, e2⟩ := TT.second
 obtain ⟨t3, e3⟩ := TT.weight
 refine D.fn.ok scStep (fun vs H Q E h => ?_) (fun cdv A outer s H vs Q E hr h => ?_)
 ·obtain ⟨x, q, rfl, _⟩ := h
  rfl
 ·obtain ⟨x, q, rfl, ⟨p, y, z, rfl, hp, hy, hz⟩, h0, hd, w1, w2, k⟩ := h
  cases (show z = .int q.2 from hz)
  obtain ⟨p1, rfl, h1⟩ := hy.sq
  have hr1 : Room 1 _ := hr.mono (by decide)
  refine ⟨_, pss_cons (ps_if (PW.pt (pw_or (pt_not (pt_val (pe_isi (pv 0) rfl T.isi rfl T.tuple PyProof.Rows.boot_tuple))) (pw_or1 (pt_cmpR op_ne (pe_callB call_len_seq (by rfl) T.len PySem.boot_len (pa_cons (pv 0) pa_nil)) pe_int (nomark _))))) pss_never pss_nil)
   (pss_cons (ps_if (PW.pt (pw_or (pt_not (pt_val (pe_cl CF hr rfl (pa_cons (pe_ix ix_tup (pv 0) pe_int (fun _ _ => rfl)) pa_nil)))) (pw_or1 (pt_cmpR op_gt (pe_ix ix_tup (pe_ix ix_tup (pv 0) pe_int (fun _ _ => rfl)) pe_int (fun _ _ => rfl)) (pe_glob (v := .int 1000) rfl e2 ⟨_, rfl⟩) (nomark _))))) pss_never pss_nil)
   (pss_one (ps_if (PW.pt (pw_or (pt_not (pt_val (pe_cl CW hr1 rfl (pa_cons (pe_ix ix_tup (pv 0) pe_int (fun _ _ => rfl)) pa_nil)))) (pw_or (pt_cmpR op_lt (pe_ix ix_tup (pv 0) pe_int (fun _ _ => rfl)) pe_int (nomark _)) (pw_or1 (pt_cmpR op_gt (pe_ix ix_tup (pv 0) pe_int (fun _ _ => rfl)) (pe_glob (v := .int 1000) rfl e3 ⟨_, rfl⟩) (nomark _)))))) pss_never pss_nil))), ?_⟩
  refine ⟨_, rfl, _, _, .sqT hp, kit_tuple _, _, rfl, iteF ?_⟩
  refine ⟨_, rfl, p, _, rfl, .inr hp, rfl, _, rfl, iteNS rfl ?_⟩
  refine ⟨_, rfl, p, _, _, _, rfl, rfl, hp, rfl, .ref p1, q.1, rfl, hy, h0, _, rfl, iteF ?_⟩
  refine ⟨_, rfl, p, _, _, _, rfl, rfl, hp, rfl, p1, _, _, _, rfl, rfl, h1, rfl, _, _, rfl, rfl, _, rfl, iteN (by omega) ?_⟩
  refine ⟨_, rfl, p, _, _, _, rfl, rfl, hp, rfl, q.2, rfl, _, rfl, iteF ?_⟩
  refine ⟨_, rfl, p, _, _, _, rfl, rfl, hp, rfl, _, _, rfl, rfl, _, rfl, iteN (by omega) ?_⟩
  refine ⟨_, rfl, p, _, _, _, rfl, rfl, hp, rfl, _, _, rfl, rfl, _, rfl, iteN (by omega) ?_⟩
  exact k
theorem scSteps : FnScope ["steps", "start", "step"] ["steps"] (defScope s_check_steps) := ⟨rfl, rfl, rfl, by decide +kernel, rfl, by decide +kernel, by decide +kernel⟩
theorem ok_steps {f : Addr} {fd : FuncData} (D : DefAt K mg "check_steps" s_check_steps ["steps"] f fd) (CT : Cl P w K mg base "check_step" 3 ["step"] (spStep K)) (CB : Cl P w K mg base "below" 1 ["one", "other"] (spBelow K)) (T : Txt K mg aL aR) (TT : TxtT mg) :
  FnOk P w K mg base CX0 4 f fd ["steps"] (spSteps K) := by
 obtain ⟨t1, e1⟩ := TT.most
 refine D.fn.ok scSteps (fun vs H Q E h => ?_) (fun cdv A outer s H vs Q E hr h => ?_)
 ·obtain ⟨a, xs, p, S, rfl, _⟩ := h
  rfl
 ·obtain ⟨a, xs, p, S, rfl, ha, hS, ok, k⟩ := h
  have hr1 : Room 1 _ := hr.mono (by decide)
  have hu : _ + (0 + 1) < cLine := hu_of hr
  have lX := hS.length
  have l8 := ok.len
  have l0 : 0 < S.length := List.length_pos_iff.mpr ok.ne
  have few := ok.few
  refine ⟨_, pss_cons (ps_if (pt_not (pt_val (pe_isi (pv 0) rfl T.isi rfl T.list PyProof.Rows.boot_list))) pss_never pss_nil)
   (pss_cons (ps_if (PW.pt (pw_or (pt_cmpR op_lt (pe_callB call_len_seq (by rfl) T.len PySem.boot_len (pa_cons (pv 0) pa_nil)) pe_int (nomark _)) (pw_or1 (pt_cmpR op_gt (pe_callB call_len_seq (by rfl) T.len PySem.boot_len (pa_cons (pv 0) pa_nil)) (pe_glob (v := .int 8) rfl e1 ⟨_, rfl⟩) (nomark _))))) pss_never pss_nil)
   (pss_cons (ps_set (i := 1) scSteps.nd rfl (Or.inl rfl) (pe_glob (v := .ref aL) rfl T.left rfl))
   (pss_cons (ps_for PassesOwn.never rfl (pi_list (pv 0)) (pg_name (i := 2) scSteps.nd rfl (Or.inl rfl))
    (pss_cons (ps_expr (pe_cl CT hr rfl (pa_cons (pv 2) pa_nil)))
    (pss_cons (ps_if (pt_not (pt_val (pe_cl CB hr1 rfl (pa_cons (pv 1) (pa_cons (pe_ix ix_tup (pv 2) pe_int (fun _ _ => rfl)) pa_nil))))) pss_never pss_nil)
    (pss_one (ps_set (i := 1) scSteps.nd rfl (Or.inl rfl) (pe_ix ix_tup (pv 2) pe_int (fun _ _ => rfl)))))))
   (pss_one (ps_if (pt_cmpR (op_neP rpe_int rpe_int hu) (pv 1) (pe_glob (v := .ref aR) rfl T.right rfl) (nomark _)) pss_never pss_nil))))), ?_⟩
  refine ⟨_, rfl, _, _, .sqL ha, kit_list _, _, rfl, iteF ?_⟩
  refine ⟨_, rfl, a, _, rfl, .inl ha, _, _, rfl, rfl, _, rfl, iteN (by omega) ?_⟩
  refine ⟨_, rfl, a, _, rfl, .inl ha, _, _, rfl, rfl, _, rfl, iteN (by omega) ?_⟩
  refine ⟨_, rfl, a, rfl, ⟨_, ha⟩, ?_⟩
  refine for_list (K := K) (a := a) (xs := xs) (fun i σ H' => H' = H ∧ ∃ (v : V) (x2 : Option V), σ = [some (.ref a), some v, x2] ∧ FrQ K H v (endOf 0 (S.take i)))
   ⟨rfl, _, _, rfl, T.l H⟩ (fun i σ H' _ h => by rw [h.1]; exact ha) ?_ ?_
  ·rintro i x σ H' hx ⟨rfl, v, x2, rfl, hv⟩
   obtain ⟨z, hz, hs⟩ := Paired.get1 hS i x hx
   obtain ⟨r1, r2⟩ := rise_get ok.rise hz
   have mz := List.mem_of_getElem? hz
   have z0 : 0 ≤ z.1 := by
    have := end_nn ok i
    grind
   have zd := gr_den (ok.gr z mz) ok.pos
   have zw := ok.w z mz
   refine ⟨_, rfl, x, z, rfl, hs, z0, by omega, by omega, zw, ?_⟩
   obtain ⟨p0, y, q, rfl, hp0, hy, hq⟩ := id hs
   have nx : endOf 0 (S.take (i + 1)) = z.1 := by
    rw [take_snoc hz, show z = (z.1, z.2) from rfl, end_snoc]
   have zb : Bd 10 z.1 := by
    rw [← nx]
    exact end_bd ok (i + 1)
   refine ⟨_, rfl, _, rfl, p0, _, _, _, rfl, rfl, hp0, rfl, v, y, _, _, rfl, hv, hy, ⟨end_nn ok i, (end_bd ok i).mono (by decide)⟩, ⟨z0, zb.mono (by decide)⟩, _, rfl, ?_⟩
   refine iteNS r1 ?_
   refine ⟨_, rfl, p0, _, _, _, rfl, rfl, hp0, rfl, rfl, y, _, rfl, ?_⟩
   rw [nx]
   exact hy
  ·rintro σ H' ⟨rfl, v, x2, rfl, hv⟩
   rw [List.take_of_length_le (by omega), ok.top] at hv
   refine ⟨_, rfl, _, _, hv, T.r H', _, rfl, iteNS rfl ?_⟩
   exact k
end
end FQ
namespace FQ
open PySem L2 FK
theorem Paired.last {α β : Type} {F : α → β → Prop} : ∀ {xs : List α} {L : List β} {l : β}, Paired F xs (L ++ [l]) → ∃ xs0 v, xs = xs0 ++ [v] ∧ Paired F xs0 L ∧ F v l
 | _, [], _, .cons r .nil => ⟨[], _, rfl, .nil, r⟩
 | _, _ :: L, _, .cons r t => by
  obtain ⟨xs0, v, rfl, h1, h2⟩ := Paired.last (L := L) t
  exact ⟨_ :: xs0, v, rfl, .cons r h1, h2⟩
theorem hl_split {b h : Rat} {S : Steps} (r : Rise b S) : ∃ L, hl b h S = L ++ [(endOf b S, h + A b S (endOf b S))] := List.getLast?_eq_some_iff.mp (hl_last b h S r)
abbrev NW : List Str := ["steps", "ends", "hefts", "step", "length"]
theorem scLine : FnScope NW ["steps"] (defScope s_worth_line) := ⟨rfl, rfl, rfl, by decide +kernel, rfl, by decide +kernel, by decide +kernel⟩
section
variable {P : Program} {w : World} {K : PySem.W.Frag} {mg : Str → Option Value} {base : Heap} {aL aR : Addr}
theorem int_bd {n : Int} (h0 : 0 ≤ n) (h1 : n ≤ 1000) : Bd 10 (n : Rat) := by
 refine ⟨?_, ?_⟩
 ·show n.natAbs < 2 ^ 10
  omega
 ·show (1 : Nat) < 2 ^ 10
  decide
theorem int_nn {n : Int} (h : 0 ≤ n) : (0 : Rat) ≤ (n : Rat) := Rat.intCast_nonneg.mpr h
theorem heft_fit {p : Nat} {S : Steps} (ok : TsOk p S) (i : Nat) : Ft 20 (A 0 (S.take i) (endOf 0 (S.take i))) := by
 have f := ok.few
 rw [A_take i ok.rise]
 refine ⟨A_nn ok.rise, ?_⟩
 refine (A_gr (Gr.zero p) ok.gr (end_g ok i)).bd ok.pos (A_nn ok.rise) (m := 1000) (ok.up (end_nn ok i) (end_le ok i)) ?_ ?_
 ·omega
 ·omega
theorem ok_line {f : Addr} {fd : FuncData} (D : DefAt K mg "worth_line" s_worth_line ["steps"] f fd) (C : Four P w K mg base) (T : Txt K mg aL aR) : FnOk P w K mg base CX0 4 f fd ["steps"] (spLine K) := by
  refine D.fn.ok scLine (fun vs H Q E h => ?_) (fun cdv A0 outer s H vs Q E hr h => ?_)
  · obtain ⟨a, xs, p, S, rfl, _⟩ := h
    rfl
  · obtain ⟨a, xs, p, S, rfl, ha, hS, ok, k⟩ := h
    have lX := hS.length
    have l8 := ok.len
    refine ⟨_, pss_cons (ps_set (i := 1) scLine.nd rfl (Or.inl rfl) (pe_lst (pa_cons (pe_glob (v := .ref aL) rfl T.left rfl) pa_nil)))
      (pss_cons (ps_set (i := 2) scLine.nd rfl (Or.inr rfl) (pe_lst (pa_cons (pe_tup (pa_cons pe_int (pa_cons pe_int pa_nil))) pa_nil)))
      (pss_cons (ps_for PassesOwn.never rfl (pi_list (pv 0)) (pg_name (i := 3) scLine.nd rfl (Or.inl rfl))
        (pss_cons (ps_set (i := 4) scLine.nd rfl (Or.inl rfl) (pe_cl C.minus hr rfl (pa_cons (pe_ix ix_tup (pv 3) pe_int (fun _ _ => rfl)) (pa_cons (pe_ix ix_list (pv 1) (pe_un un_neg pe_int) (fun _ _ => rfl)) pa_nil))))
        (pss_cons (ps_expr (pe_bm PySem.F.plainAttrs_list PySem.F.slot_list_append PySem.F.type_list_append mt_append (pv 2) (pa_cons (pe_cl C.plus hr rfl (pa_cons (pe_ix ix_list (pv 2) (pe_un un_neg pe_int) (fun _ _ => rfl))
          (pa_cons (pe_cl C.times hr rfl (pa_cons (pv 4) (pa_cons (pe_tup (pa_cons (pe_ix ix_tup (pv 3) pe_int (fun _ _ => rfl)) (pa_cons pe_int pa_nil))) pa_nil))) pa_nil))) pa_nil)))
        (pss_one (ps_expr (pe_bm PySem.F.plainAttrs_list PySem.F.slot_list_append PySem.F.type_list_append mt_append (pv 1) (pa_cons (pe_ix ix_tup (pv 3) pe_int (fun _ _ => rfl)) pa_nil)))))))
      (pss_one (ps_ret (pe_comp ["point", "heft"] rfl (CompOk.free1 (F := ["hefts"]) (js := [2]) rfl (by decide +kernel) (by decide +kernel) rfl ⟨rfl, trivial⟩ rfl ⟨⟨rfl, rfl, .inl rfl⟩, trivial⟩) (pi_zip rfl T.zip (pa_cons (pv 1) (pa_cons (pv 2) pa_nil)))
        (fun _ => pg_tup rfl (pgs_cons (pg_name (i := 0) (show [Str.ofString "point", Str.ofString "heft", Str.ofString "hefts"].Nodup by decide +kernel) rfl (Or.inl rfl)) (pgs_cons (pg_name (i := 1) (show [Str.ofString "point", Str.ofString "heft", Str.ofString "hefts"].Nodup by decide +kernel) rfl (Or.inl rfl)) pgs_nil)))
        (fun _ => pifs_nil)
        (fun _ => pe_tup (pa_cons (pv 0) (pa_cons (pe_cl C.over hr rfl (pa_cons (pv 1) (pa_cons (pe_ix ix_list (pv 2) (pe_un un_neg pe_int) (fun _ _ => rfl)) pa_nil))) pa_nil)))))))), ?_⟩
    refine ⟨(by show 1 ≤ sizeLine; decide), fun le hle => ?_⟩
    refine ⟨(by show 2 ≤ sizeLine; decide), fun t ht => ⟨(by show 1 ≤ sizeLine; decide), fun lh hlh => ?_⟩⟩
    have s1 : Same H (upd H le (.lst [.ref aL])) := Same.upd hle
    have s2 := s1.trans (Same.upd (o := .tup [.int 0, .int 1]) ht)
    have s3 := s2.trans (Same.upd (o := .lst [.ref t]) hlh)
    have hlh0 : H lh = none := s2.free hlh
    have e2 : (upd (upd H le (.lst [.ref aL])) t (.tup [.int 0, .int 1])) le = some (.lst [.ref aL]) := Same.upd ht _ _ upd_same
    have ne : le ≠ lh := ne_of_none e2 hlh
    refine ⟨_, rfl, a, rfl, ⟨_, s3.seq ha⟩, ?_⟩
    refine for_list (K := K) (a := a) (xs := xs) (fun i σ H' => Same H H' ∧ ∃ (es hs : List V) (x3 x4 : Option V), σ = [some (.ref a), some (.ref le), some (.ref lh), x3, x4] ∧ H' le = some (.lst es) ∧ H' lh = some (.lst hs) ∧
        Paired (FrQ K H') es ((hl 0 0 (S.take i)).map Prod.fst) ∧ Paired (FrQ K H') hs ((hl 0 0 (S.take i)).map Prod.snd))
      ⟨s3, _, _, _, _, rfl, by rw [upd_ne ne]; exact e2, upd_same, .cons (T.l _) .nil, .cons (.of (.of (Same.upd hlh _ _ upd_same)) rfl rfl) .nil⟩ (fun i σ H' _ h => h.1.seq ha) ?_ ?_
    · rintro i x σ H' hx ⟨s4, es, hs, x3, x4, rfl, hE, hHh, pE, pH⟩
      obtain ⟨z, hz, hs0⟩ := Paired.get1 hS i x hx
      obtain ⟨p0, y, q, rfl, hp0, hy, hq⟩ := id hs0
      cases (show q = .int z.2 from hq)
      obtain ⟨r1, r2⟩ := rise_get ok.rise hz
      have mz := List.mem_of_getElem? hz
      have nx : endOf 0 (S.take (i + 1)) = z.1 := by
        rw [take_snoc hz, show z = (z.1, z.2) from rfl, end_snoc]
      have z0 : 0 ≤ z.1 := by rw [← nx]; exact end_nn ok _
      have zb : Bd 10 z.1 := by rw [← nx]; exact end_bd ok _
      have zw := ok.w z mz
      obtain ⟨L, hL⟩ := hl_split (b := 0) (h := 0) (rise_take i ok.rise)
      rw [zero_add'] at hL
      have hl1 : hl 0 0 (S.take (i + 1)) = L ++ [(endOf 0 (S.take i), A 0 (S.take i) (endOf 0 (S.take i)))] ++ [(z.1, A 0 (S.take i) (endOf 0 (S.take i)) + (z.1 - endOf 0 (S.take i)) * (z.2 : Rat))] := by
        have := hl_snoc 0 0 (S.take i) z.1 z.2 (rise_take i ok.rise)
        rw [zero_add'] at this
        rw [take_snoc hz, show z = (z.1, z.2) from rfl, this, hL]
      have pE' := pE
      have pH' := pH
      rw [hL, List.map_append] at pE' pH'
      obtain ⟨es0, v, rfl, _, hv⟩ := Paired.last pE'
      obtain ⟨hs1, u, rfl, _, hu⟩ := Paired.last pH'
      have hf := heft_fit ok i
      have dl : Bd 21 (z.1 - endOf 0 (S.take i)) := Bd.sub zb (end_bd ok i)
      have dn : 0 ≤ z.1 - endOf 0 (S.take i) := by grind
      have sp0 := s4.sqT hp0
      refine ⟨_, rfl, p0, _, _, _, rfl, rfl, sp0, rfl, _, rfl, _, rfl, le, _, _, _, rfl, rfl, .of hE, atI_last _ _, y, v, z.1, _, rfl, hy.same s4, hv, ⟨z0, zb.mono (by decide)⟩, ⟨end_nn ok i, (end_bd ok i).mono (by decide)⟩, Rat.le_of_lt r1, fun v1 H1 t1 d1 => ?_⟩
      have hE1 := t1 _ _ hE
      have hH1 := t1 _ _ hHh
      refine ⟨_, rfl, .inl ⟨rfl, _, .of hH1⟩, _, rfl, _, rfl, lh, _, _, _, rfl, rfl, .of hH1, atI_last _ _, _, rfl, _, rfl, p0, _, _, _, rfl, rfl, t1.sqT sp0, rfl, (by show 2 ≤ sizeLine; decide), fun t5 ht5 => ?_⟩
      have t2 := Same.upd (o := .tup [.int z.2, .int 1]) ht5
      refine ⟨v1, .ref t5, _, (z.2 : Rat), rfl, d1.same t2, .of sqT_new rfl rfl, ⟨dn, dl.mono (by decide)⟩, ⟨int_nn (by omega), (int_bd (by omega) zw).mono (by decide)⟩, trivial, fun v2 H2 t3 d2 => ?_⟩
      have t13 := t1.trans (t2.trans t3)
      have bm : Bd 31 ((z.1 - endOf 0 (S.take i)) * (z.2 : Rat)) := Bd.mul dl (int_bd (by omega) zw)
      have mn : 0 ≤ (z.1 - endOf 0 (S.take i)) * (z.2 : Rat) := Rat.mul_nonneg dn (int_nn (by omega))
      refine ⟨u, v2, _, _, rfl, (hu.same t13), d2, hf.fit, ⟨mn, bm.mono (by decide)⟩, trivial, fun v3 H3 t4 d3 => ?_⟩
      have t14 := t13.trans t4
      have hE3 := t14 _ _ hE
      have hH3 := t14 _ _ hHh
      have lenH : (hs1 ++ [u]).length ≤ 100 := by
        rw [pH.length, List.length_map, hl_len, List.length_take]
        omega
      have lenE : (es0 ++ [v]).length ≤ 100 := by
        rw [pE.length, List.length_map, hl_len, List.length_take]
        omega
      have big : 1000 ≤ sizeLine := by decide
      refine ⟨lh, _, v3, rfl, rfl, hH3, by omega, ?_⟩
      have k1 : Keep H3 (upd H3 lh (.lst (hs1 ++ [u] ++ [v3]))) := Keep.updL hH3
      have hE4 : (upd H3 lh (.lst (hs1 ++ [u] ++ [v3]))) le = some (.lst (es0 ++ [v])) := by rw [upd_ne ne]; exact hE3
      refine ⟨_, rfl, .inl ⟨rfl, _, .of hE4⟩, _, rfl, p0, _, _, _, rfl, rfl, k1.sqT (t14.sqT sp0), rfl, le, _, _, rfl, rfl, hE4, by omega, ?_⟩
      have k2 : Keep (upd H3 lh (.lst (hs1 ++ [u] ++ [v3]))) (upd (upd H3 lh (.lst (hs1 ++ [u] ++ [v3]))) le (.lst (es0 ++ [v] ++ [y]))) := Keep.updL hE4
      have kk := (Keep.of t14).trans (k1.trans k2)
      refine ⟨((s4.trans t14).updN hlh0).updN hle, _, _, _, _, rfl, upd_same, by rw [upd_ne ne.symm, upd_same], ?_, ?_⟩
      · rw [hl1, List.map_append, ← hL]
        exact Paired.app (Paired.mapP pE fun _ _ z => z.keep kk) (.cons ((hy.same s4).keep kk) .nil)
      · rw [hl1, List.map_append, ← hL]
        exact Paired.app (Paired.mapP pH fun _ _ z => z.keep kk) (.cons (d3.keep (k1.trans k2)) .nil)
    · rintro σ H' ⟨s4, es, hs, x3, x4, rfl, hE, hHh, pE, pH⟩
      rw [List.take_of_length_le (by omega)] at pE pH
      have lE : es.length = S.length + 1 := by rw [pE.length, List.length_map, hl_len]
      have lH : hs.length = S.length + 1 := by rw [pH.length, List.length_map, hl_len]
      obtain ⟨L, hL⟩ := hl_split (b := 0) (h := 0) ok.rise
      rw [zero_add', ok.top] at hL
      have pH' := pH
      rw [hL, List.map_append] at pH'
      obtain ⟨hs1, u, rfl, _, hu⟩ := Paired.last pH'
      refine ⟨_, rfl, _, rfl, le, lh, rfl, ⟨_, .of hE⟩, ⟨_, .of hHh⟩, fun D1 hD1 => ?_⟩
      have neE : le ≠ D1 := ne_of_none hE hD1
      have neH : lh ≠ D1 := ne_of_none hHh hD1
      refine comp_zip (K := K) (l1 := le) (l2 := lh) (D := D1) (xs := es) (zs := hs1 ++ [u]) (fun i ys σ H2 => Same H' H2 ∧ H2 D1 = some (.lst ys) ∧ Paired (CoQ K H2) ys ((wl S).take i) ∧ i ≤ S.length + 1 ∧ ∃ x0 x1, σ = [x0, x1, some (.ref lh)])
        (by omega) (by have : 1000 ≤ sizeLine := by decide
                       omega) ⟨Same.upd hD1, upd_same, .nil, by omega, _, _, rfl⟩ ?_ ?_ ?_
      · rintro i ys σ H2 hi ⟨t1, h1, h2, h3, _⟩
        refine ⟨.of (t1 _ _ hE), .of (t1 _ _ hHh), h1, ?_⟩
        rw [h2.length, List.length_take]
        omega
      · rintro i x y ys σ H2 T0 hx hy ⟨t1, h1, h2, h3, x0, x1, rfl⟩ hT0 c
        obtain ⟨q1, hq1, fq1⟩ := Paired.get1 pE i x hx
        obtain ⟨q2, hq2, fq2⟩ := Paired.get1 pH i y hy
        have i1 : i < S.length + 1 := by have := (List.getElem?_eq_some_iff.mp hx).1; omega
        have hg := hl_get (h := 0) ok.rise (show i ≤ S.length by omega)
        rw [List.getElem?_map, hg] at hq1 hq2
        have eq1 : endOf 0 (S.take i) = q1 := Option.some.inj hq1
        have eq2 : A 0 S (endOf 0 (S.take i)) = q2 := by rw [← Option.some.inj hq2, zero_add']
        have t2 : Same H2 (upd H2 T0 (.tup [x, y])) := Same.upd hT0
        have t12 := t1.trans t2
        have hH2 := t12 _ _ hHh
        have hf := heft_fit ok i
        rw [A_take i ok.rise, eq2] at hf
        have tb : Ft 20 (tot S) := by
          have := heft_fit ok S.length
          rw [List.take_length, ok.top] at this
          exact this
        refine ⟨T0, _, rfl, sqT_new, rfl, x, _, rfl, y, _, rfl, rfl, ?_⟩
        refine ⟨_, rfl, _, rfl, _, rfl, _, rfl, lh, _, _, _, rfl, rfl, .of hH2, atI_last _ _, y, u, q2, tot S, rfl, fq2.same t12, hu.same t12, hf.fit, tb.fit, ok.tp, fun v1 H3 t3 d1 => ?_⟩
        refine ⟨(by show 2 ≤ sizeLine; decide), fun r hr5 => ?_⟩
        have t4 : Same H3 (upd H3 r (.tup [x, v1])) := Same.upd hr5
        have hD4 := (t2.trans (t3.trans t4)) _ _ h1
        refine ⟨hD4, ?_, upd_same, ?_, by omega, _, _, rfl⟩
        · exact (t12.trans (t3.trans t4)).updN hD1
        · have wi : (wl S)[i]? = some (q1, q2 / tot S) := by
            unfold wl
            rw [List.getElem?_map, hg, zero_add', eq2, eq1]
            rfl
          rw [take_snoc wi]
          have k1 := Keep.updL (o := .lst (ys ++ [.ref r])) hD4
          have kk := (Keep.of (t2.trans (t3.trans t4))).trans k1
          refine Paired.app (Paired.mapP h2 fun _ _ z => CoQ.keep kk z) (.cons ⟨r, x, v1, rfl, k1.sqT sqT_new, ?_, (d1.same t4).keep k1⟩ .nil)
          exact (fq1.same (t12.trans (t3.trans t4))).keep k1
      · rintro ys σ H2 ⟨t1, h1, h2, h3, _⟩
        rw [List.take_of_length_le (by unfold wl; rw [List.length_map, hl_len]; omega)] at h2
        exact k D1 ys H2 (s4.trans t1) (s4.free hD1) h1 h2
end
end FQ
namespace FQ
open PySem L2 FK
structure TxtC (K : PySem.W.Frag) (C : Addr) : Prop where
 cl : Cls K C
 nT : NoAttr K C "told"
 nL : NoAttr K C "line"
abbrev fldT (lt ll : Addr) : List (Str × V) := putF "line" (.ref ll) (putF "told" (.ref lt) [])
structure TasteAt (K : PySem.W.Frag) (C : Addr) (H : Hp) (x lt ll : Addr) (S : Steps) : Prop where
 ins : ∃ dx, H x = some (.ins C dx (fldT lt ll))
 told : ∃ ts, H lt = some (.lst ts) ∧ Paired (StQ K H) ts S
 line : ∃ ls, H ll = some (.lst ls) ∧ Paired (CoQ K H) ls (wl S)
theorem TasteAt.same {K : PySem.W.Frag} {C : Addr} {H H' : Hp} {x lt ll : Addr} {S : Steps} (s : Same H H') (h : TasteAt K C H x lt ll S) : TasteAt K C H' x lt ll S := by
 obtain ⟨⟨dx, h1⟩, ⟨ts, h2, h3⟩, ⟨ls, h4, h5⟩⟩ := h
 exact ⟨⟨dx, s _ _ h1⟩, ⟨ts, s _ _ h2, Paired.mapP h3 fun _ _ z => StQ.same s z⟩, ⟨ls, s _ _ h4, Paired.mapP h5 fun _ _ z => CoQ.same s z⟩⟩
def spInit (K : PySem.W.Frag) (C : Addr) : Sp := fun vs H Q _ => ∃ (x dx a : Addr) (xs : List V) (p : Nat) (S : Steps), vs = [.ref x, .ref a] ∧ H x = some (.ins C dx []) ∧ SqL K H a xs ∧ Paired (StQ K H) xs S ∧ TsOk p S ∧
 ∀ (lt ll : Addr) (H' : Hp), (∀ b o, H b = some o → b ≠ x → H' b = some o) → H lt = none → H ll = none → TasteAt K C H' x lt ll S → Q .non H'
def spUpTo (K : PySem.W.Frag) (C : Addr) : Sp := fun vs H Q _ => ∃ (x lt ll : Addr) (z : V) (p : Nat) (S : Steps) (q : Rat), vs = [.ref x, z] ∧ TasteAt K C H x lt ll S ∧ TsOk p S ∧ FrQ K H z q ∧ 0 ≤ q ∧ q ≤ 1 ∧ Bd 250 q ∧
 ∀ v H', Same H H' → FrQ K H' v (F S q) → Q v H'
def spSpanWorth (K : PySem.W.Frag) (C : Addr) : Sp := fun vs H Q _ => ∃ (x lt ll : Addr) (z : V) (p D : Nat) (S : Steps) (q : Rat × Rat), vs = [.ref x, z] ∧ TasteAt K C H x lt ll S ∧ TsOk p S ∧ CoQ K H z q ∧ (0 ≤ q.1 ∧ q.1 ≤ q.2 ∧ q.2 ≤ 1) ∧ DOk D ∧ (Gr D q.1 ∧ Gr D q.2) ∧
 ∀ v H', Same H H' → FrQ K H' v (F S q.2 - F S q.1) → Q v H'
def spWorth (K : PySem.W.Frag) (C : Addr) : Sp := fun vs H Q _ => ∃ (x lt ll a : Addr) (xs : List V) (p D : Nat) (S : Steps) (L : List (Rat × Rat)), vs = [.ref x, .ref a] ∧ TasteAt K C H x lt ll S ∧ TsOk p S ∧ SqL K H a xs ∧ Paired (CoQ K H) xs L ∧ PcOk D L ∧
 ∀ v H', Same H H' → FrQ K H' v (Wo S L) → Q v H'
theorem mk_taste {K : PySem.W.Frag} {C : Addr} {H : Hp} {R : Addr → Hp → Prop} {E : XK} {a : Addr} {xs : List V} {p : Nat} {S : Steps} (ha : SqL K H a xs) (hS : Paired (StQ K H) xs S) (ok : TsOk p S)
  (k : ∀ (x lt ll : Addr) (H' : Hp), Same H H' → H x = none → H lt = none → H ll = none → TasteAt K C H' x lt ll S → R x H') :
  ∀ x dx, H x = none → H dx = none → dx ≠ x → spInit K C [.ref x, .ref a] (upd (upd H dx (.own x)) x (.ins C dx [])) (fun v H2 => v = .non ∧ R x H2) E := by
 intro x dx hx hdx ne
 have s0 : Same H (upd (upd H dx (.own x)) x (.ins C dx [])) := fun b o e => by
  rw [upd_ne (ne_of_none e hx), upd_ne (ne_of_none e hdx)]
  exact e
 refine ⟨x, dx, a, xs, p, S, rfl, upd_same, s0.seq ha, Paired.mapP hS fun _ _ z => StQ.same s0 z, ok, fun lt ll H' h1 h2 h3 h4 => ⟨rfl, k x lt ll H' (fun b o e => h1 b o (s0 b o e) (ne_of_none e hx)) hx (s0.free h2) (s0.free h3) h4⟩⟩
theorem wlF_eq (S : Steps) : wlF S = (wl S).map fun z => (z.2, z.1) := by
 unfold wl wlF
 rw [List.map_map]
 rfl
section
variable {p : Nat} {S : Steps}
theorem wl_ok (h : TsOk p S) : LnOk (wl S) where
 few := by
  have := h.len
  unfold wl
  rw [List.length_map, hl_len]
  omega
 fit := fun z hz => by
  obtain ⟨i, hi⟩ := List.mem_iff_getElem?.mp hz
  obtain ⟨_, rfl⟩ := wl_get h hi
  exact ⟨⟨end_nn h i, (end_bd h i).mono (by decide)⟩, ⟨F_nn h _, (endF_bd h i).mono (by decide)⟩⟩
 rise := fun i a b ha hb => by
  obtain ⟨_, rfl⟩ := wl_get h ha
  obtain ⟨l2, rfl⟩ := wl_get h hb
  exact Rat.le_of_lt (end_step h l2)
theorem wlF_ok (h : TsOk p S) : LnOk (wlF S) := by
 have o := wl_ok h
 rw [wlF_eq]
 refine ⟨by rw [List.length_map]; exact o.few, fun z hz => ?_, fun i a b ha hb => ?_⟩
 ·obtain ⟨y, hy, rfl⟩ := List.mem_map.mp hz
  exact ⟨(o.fit y hy).2, (o.fit y hy).1⟩
 ·rw [List.getElem?_map] at ha hb
  cases qa : (wl S)[i]? with
  | none => rw [qa] at ha; cases ha
  | some a' =>
   cases qb : (wl S)[i + 1]? with
   | none => rw [qb] at hb; cases hb
   | some b' =>
    rw [qa] at ha
    rw [qb] at hb
    cases (Option.some.inj ha)
    cases (Option.some.inj hb)
    obtain ⟨_, rfl⟩ := wl_get h qa
    obtain ⟨l2, rfl⟩ := wl_get h qb
    exact F_mono h (Rat.le_of_lt (end_step h l2))
theorem F_dbd (h : TsOk p S) {D : Nat} (d : DOk D) {x : Rat} (g : Gr D x) (h1 : x ≤ 1) : Bd 250 (F S x) := by
 have := d.few
 exact F_bd h g d.pos h1 (by omega)
end
section
variable {P : Program} {w : World} {K : PySem.W.Frag} {mg : Str → Option Value} {base : Heap} {aL aR C : Addr}
theorem scInit : FnScope ["self", "steps"] ["self", "steps"] (defScope m_Taste___init__) := ⟨rfl, rfl, rfl, by decide +kernel, rfl, by decide +kernel, by decide +kernel⟩
theorem ok_init {f : Addr} {fd : FuncData} (D : Fun K "__init__" "Taste.__init__" m_Taste___init__ f fd) (CS : Cl P w K mg base "check_steps" 4 ["steps"] (spSteps K)) (CL : Cl P w K mg base "worth_line" 4 ["steps"] (spLine K)) (T : Txt K mg aL aR) (TC : TxtC K C) :
  FnOk P w K mg base CX0 5 f fd ["self", "steps"] (spInit K C) := by
 refine D.ok scInit (fun vs H Q E h => ?_) (fun cdv A0 outer s H vs Q E hr h => ?_)
 ·obtain ⟨x, dx, a, xs, p, S, rfl, _⟩ := h
  rfl
 ·obtain ⟨x, dx, a, xs, p, S, rfl, hx, ha, hS, ok, k⟩ := h
  refine ⟨_, pss_cons (ps_expr (pe_cl CS hr rfl (pa_cons (pv 1) pa_nil)))
   (pss_cons (ps_fld (pv 0) (pe_callTy call_list_of rfl T.list PyProof.Rows.boot_list (pa_cons (pv 1) pa_nil)) rfl)
   (pss_one (ps_fld (pv 0) (pe_cl CL hr rfl (pa_cons (pv 1) pa_nil)) rfl))), ?_⟩
  refine ⟨_, rfl, a, xs, p, S, rfl, ha, hS, ok, ?_⟩
  refine ⟨_, rfl, a, xs, rfl, .inl ha, fun lt hlt => ?_⟩
  have s1 : Same H (upd H lt (.lst xs)) := Same.upd hlt
  have nx : x ≠ lt := ne_of_none hx hlt
  refine ⟨_, rfl, x, C, dx, [], rfl, s1 _ _ hx, TC.cl, TC.nT, (by show 0 < 1000; decide), ?_⟩
  have k1 : Keep H (upd (upd H lt (.lst xs)) x (.ins C dx (putF "told" (.ref lt) []))) → True := fun _ => trivial
  have sq2 : SqL K (upd (upd H lt (.lst xs)) x (.ins C dx (putF "told" (.ref lt) []))) a xs := by
   rcases s1.seq ha with (z | ⟨o, z⟩) | z
   ·exact .inl (.inl (by rw [upd_ne (ne_of z (s1 _ _ hx) (fun z => nomatch z))]; exact z))
   ·exact .inl (.inr ⟨o, by rw [upd_ne (ne_of z (s1 _ _ hx) (fun z => nomatch z))]; exact z⟩)
   ·exact .inr z
  have tq : ∀ (b : Addr) (zs : List V), SqT K H b zs → SqT K (upd (upd H lt (.lst xs)) x (.ins C dx (putF "told" (.ref lt) []))) b zs := fun b zs hb => by
   rcases s1.sqT hb with (z | ⟨o, z⟩) | z
   ·exact .inl (.inl (by rw [upd_ne (ne_of z (s1 _ _ hx) (fun z => nomatch z))]; exact z))
   ·exact .inl (.inr ⟨o, by rw [upd_ne (ne_of z (s1 _ _ hx) (fun z => nomatch z))]; exact z⟩)
   ·exact .inr z
  have stq : Paired (StQ K (upd (upd H lt (.lst xs)) x (.ins C dx (putF "told" (.ref lt) [])))) xs S := Paired.mapP hS fun y z ⟨b, u, v, e1, e2, ⟨b2, u2, v2, e4, e5, e6, e7⟩, e3⟩ => ⟨b, u, v, e1, tq _ _ e2, ⟨b2, u2, v2, e4, tq _ _ e5, e6, e7⟩, e3⟩
  refine ⟨_, rfl, a, xs, p, S, rfl, sq2, stq, ok, fun ll ys H' s2 hll hL pL => ?_⟩
  have hx2 : H' x = some (.ins C dx (putF "told" (.ref lt) [])) := s2 _ _ upd_same
  have hlt2 : H' lt = some (.lst xs) := s2 _ _ (by rw [upd_ne nx.symm]; exact upd_same)
  have nxl : x ≠ ll := ne_of hx2 hL (fun z => nomatch z)
  refine ⟨_, rfl, x, C, dx, _, rfl, hx2, TC.cl, TC.nL, (by show 1 < 1000; decide), ?_⟩
  have tq2 : ∀ (b : Addr) (zs : List V), SqT K H' b zs → SqT K (upd H' x (.ins C dx (fldT lt ll))) b zs := fun b zs hb => by
   rcases hb with (z | ⟨o, z⟩) | z
   ·exact .inl (.inl (by rw [upd_ne (ne_of z hx2 (fun z => nomatch z))]; exact z))
   ·exact .inl (.inr ⟨o, by rw [upd_ne (ne_of z hx2 (fun z => nomatch z))]; exact z⟩)
   ·exact .inr z
  refine k lt ll _ (fun b o e hb => ?_) hlt ?_ ⟨⟨dx, upd_same⟩, ⟨xs, ?_, ?_⟩, ⟨ys, ?_, ?_⟩⟩
  ·rw [upd_ne hb]
   exact s2 _ _ (by rw [upd_ne hb]; exact s1 _ _ e)
  ·have : (upd H lt (.lst xs)) ll = none := by
    have := hll
    rw [upd_ne nxl.symm] at this
    exact this
   exact s1.free this
  ·rw [upd_ne nx.symm]
   exact hlt2
  ·exact Paired.mapP stq fun y z ⟨b, u, v, e1, e2, ⟨b2, u2, v2, e4, e5, e6, e7⟩, e3⟩ => ⟨b, u, v, e1, tq2 _ _ (s2.sqT e2), ⟨b2, u2, v2, e4, tq2 _ _ (s2.sqT e5), e6, e7⟩, e3⟩
  ·rw [upd_ne nxl.symm]
   exact hL
  ·exact Paired.mapP pL fun y z ⟨b, u, v, e1, e2, ⟨b2, u2, v2, e4, e5, e6, e7⟩, ⟨b3, u3, v3, g4, g5, g6, g7⟩⟩ => ⟨b, u, v, e1, tq2 _ _ e2, ⟨b2, u2, v2, e4, tq2 _ _ e5, e6, e7⟩, ⟨b3, u3, v3, g4, tq2 _ _ g5, g6, g7⟩⟩
theorem scUpTo : FnScope ["self", "point"] ["self", "point"] (defScope m_Taste_worth_up_to) := ⟨rfl, rfl, rfl, by decide +kernel, rfl, by decide +kernel, by decide +kernel⟩
theorem ok_upto {f : Addr} {fd : FuncData} (D : Fun K "worth_up_to" "Taste.worth_up_to" m_Taste_worth_up_to f fd) (CR : Cl P w K mg base "reached" 6 ["line", "up"] (spReached K)) (TC : TxtC K C) : FnOk P w K mg base CX0 7 f fd ["self", "point"] (spUpTo K C) := by
 refine D.ok scUpTo (fun vs H Q E h => ?_) (fun cdv A0 outer s H vs Q E hr h => ?_)
 ·obtain ⟨x, lt, ll, z, p, S, q, rfl, _⟩ := h
  rfl
 ·obtain ⟨x, lt, ll, z, p, S, q, rfl, ⟨⟨dx, h1⟩, _, ⟨ls, h4, h5⟩⟩, ok, hz, q0, q1, qb, k⟩ := h
  refine ⟨_, pss_one (ps_ret (pe_cl CR hr rfl (pa_cons (pe_comp ["corner"] rfl (CompOk.plain rfl (by decide +kernel) (by decide +kernel) (by decide +kernel)) (pi_list (pe_fld (pv 0) rfl))
   (fun _ => pg_name (i := 0) (show [Str.ofString "corner"].Nodup by decide +kernel) rfl (Or.inl rfl)) (fun _ => pifs_nil)
   (fun _ => pe_tup (pa_cons (pe_ix ix_tup (pv 0) pe_int (fun _ _ => rfl)) (pa_cons (pe_ix ix_tup (pv 0) pe_int (fun _ _ => rfl)) pa_nil)))) (pa_cons (pv 1) pa_nil)))), ?_⟩
  refine ⟨_, rfl, x, C, dx, _, _, rfl, h1, TC.cl, TC.nL, rfl, ll, rfl, ⟨_, .of h4⟩, fun D1 hD1 => ?_⟩
  have ne1 : ll ≠ D1 := ne_of_none h4 hD1
  have lw : (wl S).length ≤ 9 := by
   have := ok.len
   unfold wl
   rw [List.length_map, hl_len]
   omega
  have lL := h5.length
  have big : 1000 ≤ sizeLine := by decide
  refine comp_list (K := K) (a := ll) (D := D1) (xs := ls) (fun i ys σ H2 => Same H H2 ∧ H2 D1 = some (.lst ys) ∧ Paired (CoQ K H2) ys ((wlF S).take i) ∧ i ≤ ls.length ∧ ∃ x0, σ = [x0])
   (by omega) ⟨Same.upd hD1, upd_same, .nil, by omega, _, rfl⟩ ?_ ?_ ?_
  ·rintro i ys σ H2 hi ⟨t1, e1, e2, e3, _⟩
   refine ⟨.of (t1 _ _ h4), e1, ?_⟩
   rw [e2.length, List.length_take]
   omega
  ·rintro i y ys σ H2 hy ⟨t1, e1, e2, e3, x0, rfl⟩ c
   obtain ⟨c0, hc, py, u1, u2, rfl, hp, hu1, hu2⟩ := Paired.get1 h5 i y hy
   refine ⟨_, rfl, py, _, _, _, rfl, rfl, t1.sqT hp, rfl, _, rfl, py, _, _, _, rfl, rfl, t1.sqT hp, rfl, (by show 2 ≤ sizeLine; decide), fun r hr5 => ?_⟩
   have t2 : Same H2 (upd H2 r (.tup [u2, u1])) := Same.upd hr5
   have hD2 := t2 _ _ e1
   refine ⟨hD2, (t1.trans t2).updN hD1, upd_same, ?_, by have := (List.getElem?_eq_some_iff.mp hy).1; omega, _, rfl⟩
   have wi : (wlF S)[i]? = some (c0.2, c0.1) := by
    rw [wlF_eq, List.getElem?_map, hc]
    rfl
   rw [take_snoc wi]
   have k1 := Keep.updL (o := .lst (ys ++ [.ref r])) hD2
   exact Paired.app (Paired.mapP e2 fun _ _ z => CoQ.keep k1 (CoQ.same t2 z)) (.cons ⟨r, u2, u1, rfl, k1.sqT sqT_new, (hu2.same (t1.trans t2)).keep k1, (hu1.same (t1.trans t2)).keep k1⟩ .nil)
  ·rintro ys σ H2 ⟨t1, e1, e2, e3, _⟩
   have lF : (wlF S).length = (wl S).length := by rw [wlF_eq, List.length_map]
   rw [List.take_of_length_le (by omega)] at e2
   refine ⟨_, rfl, D1, ys, z, wlF S, q, rfl, .of e1, e2, hz.same t1, wlF_ok ok, ⟨q0, qb⟩, fun v H3 t3 a3 => k v H3 (t1.trans t3) ?_⟩
   rw [wlF_rch ok q0 q1] at a3
   exact a3
theorem scSpanW : FnScope ["self", "span"] ["self", "span"] (defScope m_Taste_span_worth) := ⟨rfl, rfl, rfl, by decide +kernel, rfl, by decide +kernel, by decide +kernel⟩
theorem ok_spanw {f : Addr} {fd : FuncData} (D : Fun K "span_worth" "Taste.span_worth" m_Taste_span_worth f fd) (CM : Cl P w K mg base "minus" 3 ["one", "other"] (spMinus K)) (MU : Ml P w K mg base C "worth_up_to" 7 ["self", "point"] (spUpTo K C)) (TC : TxtC K C) :
  FnOk P w K mg base CX0 8 f fd ["self", "span"] (spSpanWorth K C) := by
 refine D.ok scSpanW (fun vs H Q E h => ?_) (fun cdv A0 outer s H vs Q E hr h => ?_)
 ·obtain ⟨x, lt, ll, z, p, D, S, q, rfl, _⟩ := h
  rfl
 ·obtain ⟨x, lt, ll, z, p, D, S, q, rfl, ta, ok, ⟨pz, z1, z2, rfl, hp, hz1, hz2⟩, ⟨q0, q1, q2⟩, d, ⟨g1, g2⟩, k⟩ := h
  have hr3 : Room 3 _ := hr.mono (by decide)
  refine ⟨_, pss_one (ps_ret (pe_cl CM hr3 rfl (pa_cons (pe_ml MU TC.cl hr (pv 0) (pa_cons (pe_ix ix_tup (pv 1) pe_int (fun _ _ => rfl)) pa_nil)) (pa_cons (pe_ml MU TC.cl hr (pv 0) (pa_cons (pe_ix ix_tup (pv 1) pe_int (fun _ _ => rfl)) pa_nil)) pa_nil)))), ?_⟩
  obtain ⟨dx, h1⟩ := ta.ins
  have n2 : 0 ≤ q.2 := by grind
  have l1 : q.1 ≤ 1 := by grind
  refine ⟨_, rfl, x, dx, _, rfl, h1, rfl, _, rfl, pz, _, _, _, rfl, rfl, hp, rfl, x, lt, ll, z2, p, S, q.2, rfl, ta, ok, hz2, n2, q2, d.bd g2 n2 q2, fun v1 H1 s1 e1 => ?_⟩
  refine ⟨_, rfl, x, dx, _, rfl, s1 _ _ h1, rfl, _, rfl, pz, _, _, _, rfl, rfl, s1.sqT hp, rfl, x, lt, ll, z1, p, S, q.1, rfl, ta.same s1, ok, hz1.same s1, q0, l1, d.bd g1 q0 l1, fun v2 H2 s2 e2 => ?_⟩
  exact ⟨v1, v2, _, _, rfl, e1.same s2, e2, Bd.fit (F_dbd ok d g2 q2) (F_nn ok _) (by decide), Bd.fit (F_dbd ok d g1 l1) (F_nn ok _) (by decide), F_mono ok q1, fun v3 H3 s3 e3 => k v3 H3 (s1.trans (s2.trans s3)) e3⟩
theorem scWorth : FnScope ["self", "piece", "total", "span"] ["self", "piece"] (defScope m_Taste_worth) := ⟨rfl, rfl, rfl, by decide +kernel, rfl, by decide +kernel, by decide +kernel⟩
theorem Wo_fit {p D : Nat} {S : Steps} {L : List (Rat × Rat)} (ok : TsOk p S) (h : PcOk D L) (i : Nat) : Fit (Wo S (L.take i)) ∧ Wo S (L.take i) ≤ 1 ∧ Bd 250 (Wo S (L.take i)) := by
 have mem : ∀ q ∈ L.take i, q ∈ L := fun q hq => List.mem_of_mem_take hq
 have n0 : 0 ≤ Wo S (L.take i) := Wo_nn ok fun q hq => by
  have := h.win q (mem q hq)
  grind
 have n1 : Wo S (L.take i) ≤ 1 - F S 0 := Wo_le ok (fun q hq => by
  have := h.win q (mem q hq)
  grind) (by decide) ((h.apart.sublist (List.take_sublist _ _)).imp fun {a b} z => Rat.le_of_lt z)
 rw [F_zero ok] at n1
 obtain ⟨N, a, b, hN⟩ := ok.num
 have f := ok.few
 have g := Wo_gr ok hN (D := D) (L := L.take i) fun q hq => h.gr q (mem q hq)
 have dl := h.d.few
 have : D * N ≤ D * 1000000 := Nat.mul_le_mul_left _ (by omega)
 have bd : Bd 250 (Wo S (L.take i)) := g.bd (Nat.mul_pos h.d.pos a) n0 (m := 1) (by rw [show ((1 : Nat) : Rat) = 1 from rfl]; grind) (by omega) (by omega)
 exact ⟨⟨n0, bd.mono (by decide)⟩, by grind, bd⟩
theorem ok_worth {f : Addr} {fd : FuncData} (D : Fun K "worth" "Taste.worth" m_Taste_worth f fd) (CK : Cl P w K mg base "check_piece" 4 ["piece"] (spCheck K)) (CP : Cl P w K mg base "plus" 3 ["one", "other"] (spPlus K)) (MS : Ml P w K mg base C "span_worth" 8 ["self", "span"] (spSpanWorth K C)) (TC : TxtC K C) :
  FnOk P w K mg base CX0 9 f fd ["self", "piece"] (spWorth K C) := by
 refine D.ok scWorth (fun vs H Q E h => ?_) (fun cdv A0 outer s H vs Q E hr h => ?_)
 ·obtain ⟨x, lt, ll, a, xs, p, D, S, L, rfl, _⟩ := h
  rfl
 ·obtain ⟨x, lt, ll, a, xs, p, D, S, L, rfl, ta, ok, ha, hL, pk, k⟩ := h
  have hr3 : Room 3 _ := hr.mono (by decide)
  have hr4 : Room 4 _ := hr.mono (by decide)
  refine ⟨_, pss_cons (ps_expr (pe_cl CK hr4 rfl (pa_cons (pv 1) pa_nil)))
   (pss_cons (ps_set (i := 2) scWorth.nd rfl (Or.inl rfl) (pe_tup (pa_cons pe_int (pa_cons pe_int pa_nil))))
   (pss_cons (ps_for PassesOwn.never rfl (pi_list (pv 1)) (pg_name (i := 3) scWorth.nd rfl (Or.inl rfl))
    (pss_one (ps_set (i := 2) scWorth.nd rfl (Or.inl rfl) (pe_cl CP hr3 rfl (pa_cons (pv 2) (pa_cons (pe_ml MS TC.cl hr (pv 0) (pa_cons (pv 3) pa_nil)) pa_nil))))))
   (pss_one (ps_ret (pv 2))))), ?_⟩
  refine ⟨_, rfl, a, xs, D, L, rfl, ha, hL, pk, ?_⟩
  refine ⟨(by show 2 ≤ sizeLine; decide), fun t ht => ?_⟩
  have s1 : Same H (upd H t (.tup [.int 0, .int 1])) := Same.upd ht
  refine ⟨_, rfl, a, rfl, ⟨_, s1.seq ha⟩, ?_⟩
  have lX := hL.length
  refine for_list (K := K) (a := a) (xs := xs) (fun i σ H' => Same H H' ∧ ∃ (v : V) (x3 : Option V), σ = [some (.ref x), some (.ref a), some v, x3] ∧ FrQ K H' v (Wo S (L.take i)))
   ⟨s1, _, _, rfl, .of sqT_new rfl rfl⟩ (fun i σ H' _ h => h.1.seq ha) ?_ ?_
  ·rintro i y σ H' hy ⟨s2, v, x3, rfl, hv⟩
   obtain ⟨q, hq, cq⟩ := Paired.get1 hL i y hy
   have wq := pk.win q (List.mem_of_getElem? hq)
   have gq := pk.gr q (List.mem_of_getElem? hq)
   obtain ⟨dx, h1⟩ := ta.ins
   refine ⟨_, rfl, _, rfl, x, dx, _, rfl, s2 _ _ h1, rfl, _, rfl, x, lt, ll, y, p, D, S, q, rfl, ta.same s2, ok, CoQ.same s2 cq, ⟨wq.1, Rat.le_of_lt wq.2.1, wq.2.2⟩, pk.d, gq, fun v1 H1 t1 d1 => ?_⟩
   have b1 := F_dbd ok pk.d gq.2 wq.2.2
   have b2 := F_dbd ok pk.d gq.1 (by grind)
   have nn : 0 ≤ F S q.2 - F S q.1 := by
    have := F_mono ok (Rat.le_of_lt wq.2.1)
    grind
   refine ⟨v, v1, _, _, rfl, hv.same t1, d1, (Wo_fit ok pk i).1, ⟨nn, (b1.sub b2).mono (by decide)⟩, trivial, fun v2 H2 t2 d2 => ⟨s2.trans (t1.trans t2), v2, _, rfl, ?_⟩⟩
   rw [take_snoc hq, Wo_snoc]
   exact d2
  ·rintro σ H' ⟨s2, v, x3, rfl, hv⟩
   rw [List.take_of_length_le (by omega)] at hv
   exact ⟨_, rfl, k v H' s2 hv⟩
end
end FQ
namespace FQ
open PySem L2 FK
inductive Tr where
 | non | bl (b : Bool) | int (i : Int) | str (x : Str) | tup (l : List Tr) | lst (l : List Tr)
mutual
def Rd (K : PySem.W.Frag) (H : Hp) : Tr → V → Prop
 | .non, v => v = .non
 | .bl b, v => v = .bl b
 | .int i, v => v = .int i
 | .str x, v => v = .str x
 | .tup l, v => ∃ p xs, v = .ref p ∧ SqT K H p xs ∧ RdL K H l xs
 | .lst l, v => ∃ p xs, v = .ref p ∧ SqL K H p xs ∧ RdL K H l xs
def RdL (K : PySem.W.Frag) (H : Hp) : List Tr → List V → Prop
 | [], xs => xs = []
 | t :: l, xs => ∃ v r, xs = v :: r ∧ Rd K H t v ∧ RdL K H l r
end
mutual
theorem rd_same {K : PySem.W.Frag} {H H' : Hp} (s : Same H H') : ∀ (t : Tr) (v : V), Rd K H t v → Rd K H' t v
 | .non, _, h => h
 | .bl _, _, h => h
 | .int _, _, h => h
 | .str _, _, h => h
 | .tup l, _, ⟨p, xs, e, q, r⟩ => ⟨p, xs, e, s.sqT q, rdL_same s l xs r⟩
 | .lst l, _, ⟨p, xs, e, q, r⟩ => ⟨p, xs, e, s.seq q, rdL_same s l xs r⟩
theorem rdL_same {K : PySem.W.Frag} {H H' : Hp} (s : Same H H') : ∀ (l : List Tr) (xs : List V), RdL K H l xs → RdL K H' l xs
 | [], _, h => h
 | t :: l, _, ⟨v, r, e, h1, h2⟩ => ⟨v, r, e, rd_same s t v h1, rdL_same s l r h2⟩
end
theorem rdL_len {K : PySem.W.Frag} {H : Hp} : ∀ {l : List Tr} {xs : List V}, RdL K H l xs → xs.length = l.length
 | [], _, h => by rw [show _ = [] from h]; rfl
 | t :: l, _, ⟨v, r, e, _, h2⟩ => by rw [e, List.length_cons, List.length_cons, rdL_len h2]
theorem rdL_get {K : PySem.W.Frag} {H : Hp} : ∀ {l : List Tr} {xs : List V} {i : Nat} {v : V}, RdL K H l xs → xs[i]? = some v → ∃ t, l[i]? = some t ∧ Rd K H t v
 | [], _, i, v, h, e => by rw [show _ = [] from h] at e; simp at e
 | t :: l, _, 0, v, ⟨v', r, e, h1, h2⟩, hv => by
  rw [e] at hv
  cases (show some v' = some v by simpa using hv)
  exact ⟨t, rfl, h1⟩
 | t :: l, _, i + 1, v, ⟨v', r, e, h1, h2⟩, hv => by
  rw [e] at hv
  exact rdL_get (l := l) h2 (by simpa using hv)
mutual
def Smt : Tr → Prop
 | .int i => Sm i
 | .tup l => SmL l
 | .lst l => SmL l
 | _ => True
def SmL : List Tr → Prop
 | [] => True
 | t :: l => Smt t ∧ SmL l
end
theorem smL_get : ∀ {l : List Tr} {i : Nat} {t : Tr}, SmL l → l[i]? = some t → Smt t
 | [], i, t, _, e => by simp at e
 | u :: l, 0, t, h, e => by
  cases (show some u = some t by simpa using e)
  exact h.1
 | u :: l, i + 1, t, h, e => smL_get (l := l) h.2 (by simpa using e)
def tyN : Tr → String
 | .non => "NoneType"
 | .bl _ => "bool"
 | .int _ => "int"
 | .str _ => "str"
 | .tup _ => "tuple"
 | .lst _ => "list"
theorem tyo {K : PySem.W.Frag} {H : Hp} : ∀ {t : Tr} {v : V}, Rd K H t v → TyO K H v (.type (tyN t))
 | .non, _, h => by rw [show _ = V.non from h]; exact .of .non
 | .bl b, _, h => by rw [show _ = V.bl b from h]; exact .of (.bl b)
 | .int i, _, h => by rw [show _ = V.int i from h]; exact .of (.int i)
 | .str x, _, h => by rw [show _ = V.str x from h]; exact .of (.str x)
 | .tup l, _, ⟨p, xs, e, q, _⟩ => by rw [e]; exact .sqT q
 | .lst l, _, ⟨p, xs, e, q, _⟩ => by rw [e]; exact .sqL q
def isI : Tr → Bool
 | .int _ => true
 | .bl _ => true
 | _ => false
def isB : Tr → Bool
 | .bl _ => true
 | _ => false
def isTp : Tr → Bool
 | .tup _ => true
 | _ => false
def isLs : Tr → Bool
 | .lst _ => true
 | _ => false
theorem kitI (K : PySem.W.Frag) (t : Tr) : PySem.W.kitOne K (.type (tyN t)) (.type "int") = some (isI t) := by cases t <;> (show PySem.W.kitOne K (.type _) _ = some _; kernel_rfl)
theorem kitB (K : PySem.W.Frag) (t : Tr) : PySem.W.kitOne K (.type (tyN t)) (.type "bool") = some (isB t) := by cases t <;> (show PySem.W.kitOne K (.type _) _ = some _; kernel_rfl)
theorem kitTp (K : PySem.W.Frag) (t : Tr) : PySem.W.kitOne K (.type (tyN t)) (.type "tuple") = some (isTp t) := by cases t <;> (show PySem.W.kitOne K (.type _) _ = some _; kernel_rfl)
theorem kitLs (K : PySem.W.Frag) (t : Tr) : PySem.W.kitOne K (.type (tyN t)) (.type "list") = some (isLs t) := by cases t <;> (show PySem.W.kitOne K (.type _) _ = some _; kernel_rfl)
def isWh : Tr → Bool
 | .int _ => true
 | _ => false
theorem isWh_int {t : Tr} (h : isWh t = true) : ∃ i, t = .int i := by
 cases t with
 | int i => exact ⟨i, rfl⟩
 | _ => cases h
def isFr : Tr → Bool
 | .tup [.int a, .int b] => decide (0 ≤ a) && (decide (1 ≤ b) && decide (G a b = 1))
 | _ => false
def ltT : Tr → Tr → Bool
 | .tup [.int a, .int b], .tup [.int c, .int d] => decide (a * d < c * b)
 | _, _ => false
def isSp : Tr → Bool
 | .tup [x, y] => isFr x && (isFr y && (ltT x y && !(ltT (.tup [.int 1, .int 1]) y)))
 | _ => false
theorem isFr_not {x y : Tr} (h : isWh x = false ∨ isWh y = false) : isFr (.tup [x, y]) = false := by
 rcases h with h | h
 ·cases x <;> first | rfl | cases h
 ·cases x <;> cases y <;> first | rfl | cases h
theorem isFr_two {t : Tr} (h : isFr t = true) : ∃ a b : Int, t = .tup [.int a, .int b] ∧ 0 ≤ a ∧ 1 ≤ b := by
 unfold isFr at h
 split at h
 ·rename_i a b
  simp only [Bool.and_eq_true, decide_eq_true_eq] at h
  exact ⟨a, b, rfl, h.1, h.2.1⟩
 ·cases h
theorem isFr_len {l : List Tr} (h : l.length ≠ 2) : isFr (.tup l) = false := by
 unfold isFr
 split
 ·rename_i e
  cases e
  exact absurd rfl h
 ·rfl
theorem isSp_len {l : List Tr} (h : l.length ≠ 2) : isSp (.tup l) = false := by
 unfold isSp
 split
 ·rename_i e
  cases e
  exact absurd rfl h
 ·rfl
def spWholeT (K : PySem.W.Frag) : Sp := fun vs H Q _ => ∃ (x : V) (t : Tr), vs = [x] ∧ Rd K H t x ∧ Q (.bl (isWh t)) H
def spFracT (K : PySem.W.Frag) : Sp := fun vs H Q _ => ∃ (x : V) (t : Tr), vs = [x] ∧ Rd K H t x ∧ Q (.bl (isFr t)) H
def spBelowT (K : PySem.W.Frag) : Sp := fun vs H Q _ => ∃ (p q : Addr) (a b c d : Int), vs = [.ref p, .ref q] ∧ SqT K H p [.int a, .int b] ∧ SqT K H q [.int c, .int d] ∧ (Sm a ∧ Sm b ∧ Sm c ∧ Sm d) ∧ Q (.bl (decide (a * d < c * b))) H
def spSpanT (K : PySem.W.Frag) : Sp := fun vs H Q _ => ∃ (x : V) (t : Tr), vs = [x] ∧ Rd K H t x ∧ Smt t ∧ Q (.bl (isSp t)) H
section
variable {P : Program} {w : World} {K : PySem.W.Frag} {mg : Str → Option Value} {base : Heap} {aL aR : Addr}
theorem ok_wholeT {f : Addr} {fd : FuncData} (D : DefAt K mg "is_whole" s_is_whole ["thing"] f fd) (T : Txt K mg aL aR) : FnOk P w K mg base CX0 1 f fd ["thing"] (spWholeT K) := by
 refine D.fn.ok scWhole (fun vs H Q E h => ?_) (fun cdv A outer s H vs Q E hr h => ?_)
 ·obtain ⟨x, t, rfl, _⟩ := h
  rfl
 ·obtain ⟨x, t, rfl, hx, k⟩ := h
  refine ⟨_, pss_one (ps_ret (pe_and (pe_isi (pv 0) rfl T.isi rfl T.int PyProof.Rows.boot_int) (pe_one (pe_not (pe_isi (pv 0) rfl T.isi rfl T.bool PyProof.Rows.boot_bool))))), ?_⟩
  refine ⟨_, rfl, _, _, tyo hx, kitI K t, _, rfl, ?_⟩
  cases t with
  | int i => exact iteT ⟨_, rfl, _, _, tyo hx, kitB K (.int i), _, rfl, k⟩
  | bl b => exact iteT ⟨_, rfl, _, _, tyo hx, kitB K (.bl b), _, rfl, k⟩
  | non => exact iteF k
  | str _ => exact iteF k
  | tup _ => exact iteF k
  | lst _ => exact iteF k
theorem ok_belowT {f : Addr} {fd : FuncData} (D : DefAt K mg "below" s_below ["one", "other"] f fd) : FnOk P w K mg base CX0 1 f fd ["one", "other"] (spBelowT K) := by
 refine D.fn.ok scBelow (fun vs H Q E h => ?_) (fun cdv A outer s H vs Q E hr h => ?_)
 ·obtain ⟨p, q, a, b, c, d, rfl, _⟩ := h
  rfl
 ·obtain ⟨p, q, a, b, c, d, rfl, hp, hq, ⟨sa, sb, sc, sd⟩, k⟩ := h
  refine ⟨_, pss_one (ps_ret (pe_cmpR op_lt (pe_op op_mulS (pe_ix ix_tup (pv 0) pe_int (fun _ _ => rfl)) (pe_ix ix_tup (pv 1) pe_int (fun _ _ => rfl))) (pe_op op_mulS (pe_ix ix_tup (pv 1) pe_int (fun _ _ => rfl)) (pe_ix ix_tup (pv 0) pe_int (fun _ _ => rfl))) (nomark _))), ?_⟩
  refine ⟨_, rfl, p, _, _, _, rfl, rfl, hp, rfl, _, rfl, q, _, _, _, rfl, rfl, hq, rfl, _, _, rfl, rfl, ⟨sa, sd⟩, ?_⟩
  exact ⟨_, rfl, q, _, _, _, rfl, rfl, hq, rfl, _, rfl, p, _, _, _, rfl, rfl, hp, rfl, _, _, rfl, rfl, ⟨sc, sb⟩, _, _, rfl, rfl, k⟩
theorem ok_fracT {f : Addr} {fd : FuncData} (D : DefAt K mg "is_fraction" s_is_fraction ["thing"] f fd) (CW : Cl P w K mg base "is_whole" 1 ["thing"] (spWholeT K)) (CG : Cl P w K mg base "greatest_divisor" 1 ["a", "b"] spGcd) (T : Txt K mg aL aR) :
  FnOk P w K mg base CX0 2 f fd ["thing"] (spFracT K) := by
 refine D.fn.ok scFrac (fun vs H Q E h => ?_) (fun cdv A outer s H vs Q E hr h => ?_)
 ·obtain ⟨x, t, rfl, _⟩ := h
  rfl
 ·obtain ⟨x, t, rfl, hx, k⟩ := h
  refine ⟨_, pss_cons (ps_if (PW.pt (pw_or (pt_not (pt_val (pe_isi (pv 0) rfl T.isi rfl T.tuple PyProof.Rows.boot_tuple))) (pw_or1 (pt_cmpR op_ne (pe_callB call_len_seq (by rfl) T.len PySem.boot_len (pa_cons (pv 0) pa_nil)) pe_int (nomark _))))) (pss_one (ps_ret pe_bl)) pss_nil)
   (pss_cons (ps_set (i := 1) scFrac.nd rfl (Or.inl rfl) (pe_ix ix_tup (pv 0) pe_int (fun _ _ => rfl)))
   (pss_cons (ps_set (i := 2) scFrac.nd rfl (Or.inl rfl) (pe_ix ix_tup (pv 0) pe_int (fun _ _ => rfl)))
   (pss_cons (ps_if (PW.pt (pw_or (pt_not (pt_val (pe_cl CW hr rfl (pa_cons (pv 1) pa_nil)))) (pw_or (pt_not (pt_val (pe_cl CW hr rfl (pa_cons (pv 2) pa_nil))))
    (pw_or (pt_cmpR op_lt (pv 1) pe_int (nomark _)) (pw_or1 (pt_cmpR op_lt (pv 2) pe_int (nomark _))))))) (pss_one (ps_ret pe_bl)) pss_nil)
   (pss_one (ps_ret (pe_cmpR op_eq (pe_cl CG hr rfl (pa_cons (pv 1) (pa_cons (pv 2) pa_nil))) pe_int (nomark _))))))), ?_⟩
  refine ⟨_, rfl, _, _, tyo hx, kitTp K t, _, rfl, ?_⟩
  cases t with
  | non => exact iteT k
  | bl _ => exact iteT k
  | int _ => exact iteT k
  | str _ => exact iteT k
  | lst _ => exact iteT k
  | tup l =>
   refine iteF ?_
   obtain ⟨p, xs, rfl, hp, rl⟩ := hx
   have ln := rdL_len rl
   refine ⟨_, rfl, p, _, rfl, .inr hp, rfl, _, rfl, ?_⟩
   match l, rl, k with
   | [], rl, k =>
    rw [show xs = [] from rl]
    exact iteNN (by intro z; cases z) k
   | [u], rl, k =>
    have : xs.length = 1 := rdL_len rl
    rw [isFr_len (by simp)] at k
    exact iteNN (by rw [this]; intro z; cases z) k
   | u :: v :: z :: m, rl, k =>
    have : xs.length = m.length + 3 := rdL_len rl
    rw [isFr_len (by simp)] at k
    refine iteNN (by rw [this]; intro y; have := V.int.inj y; omega) ?_
    exact k
   | [u, v], rl, k =>
    obtain ⟨x1, r1, rfl, h1, x2, r2, rfl, h2, e3⟩ := rl
    cases (show r2 = [] from e3)
    refine iteNS rfl ?_
    refine ⟨_, rfl, p, _, _, _, rfl, rfl, hp, rfl, _, rfl, p, _, _, _, rfl, rfl, hp, rfl, ?_⟩
    refine ⟨_, rfl, x1, u, rfl, h1, _, rfl, ?_⟩
    cases w1 : isWh u with
    | false =>
     rw [isFr_not (.inl w1)] at k
     exact iteT k
    | true =>
     refine iteF ⟨_, rfl, x2, v, rfl, h2, _, rfl, ?_⟩
     cases w2 : isWh v with
     | false =>
      rw [isFr_not (.inr w2)] at k
      exact iteT k
     | true =>
      obtain ⟨a, rfl⟩ := isWh_int w1
      obtain ⟨b, rfl⟩ := isWh_int w2
      have e1 : x1 = .int a := h1
      have e2 : x2 = .int b := h2
      subst e1 e2
      refine iteF ⟨_, rfl, _, _, rfl, rfl, _, rfl, ?_⟩
      have kk : Q (.bl (decide (0 ≤ a) && (decide (1 ≤ b) && decide (G a b = 1)))) H := k
      refine ite2 (fun c => ?_) (fun c => ?_)
      ·have c' : a < 0 := of_decide_eq_true c
       rw [decide_eq_false (show ¬ 0 ≤ a by omega), Bool.false_and] at kk
       exact kk
      ·have c' : 0 ≤ a := by
        have : ¬ a < 0 := fun z => c (decide_eq_true z)
        omega
       rw [decide_eq_true c', Bool.true_and] at kk
       refine ⟨_, rfl, _, _, rfl, rfl, _, rfl, ?_⟩
       refine ite2 (fun d => ?_) (fun d => ?_)
       ·have d' : b < 1 := of_decide_eq_true d
        rw [decide_eq_false (show ¬ 1 ≤ b by omega), Bool.false_and] at kk
        exact kk
       ·have d' : 1 ≤ b := by
         have : ¬ b < 1 := fun z => d (decide_eq_true z)
         omega
        rw [decide_eq_true d', Bool.true_and] at kk
        refine ⟨_, rfl, _, rfl, a, b, rfl, c', by omega, rfl, ?_⟩
        have e : decide (V.int (G a b) = V.int 1) = decide (G a b = 1) := decide_eq_decide.mpr ⟨fun z => V.int.inj z, fun z => by rw [z]⟩
        rw [e]
        exact kk
end
end FQ
namespace FQ
open PySem L2 FK
def fstT : Tr → Tr
 | .tup (x :: _) => x
 | _ => .non
def sndT : Tr → Tr
 | .tup (_ :: y :: _) => y
 | _ => .non
def rOk (r : Option Tr) (t : Tr) : Bool := match r with
 | none => true
 | some e => ltT e (fstT t)
def spansOk : Option Tr → List Tr → Bool
 | _, [] => true
 | r, t :: l => isSp t && (rOk r t && spansOk (some (sndT t)) l)
def pieceOk : Tr → Bool
 | .lst l => spansOk none l
 | _ => false
def denT : Tr → Int
 | .tup [_, .int b] => b
 | _ => 0
def valI : Tr → Int
 | .int i => i
 | _ => 0
def stepOk : Tr → Bool
 | .tup [e, w] => isFr e && (decide (denT e ≤ 1000) && (isWh w && (decide (1 ≤ valI w) && decide (valI w ≤ 1000))))
 | _ => false
def isOne : Tr → Bool
 | .tup [.int a, .int b] => decide (a = 1) && decide (b = 1)
 | _ => false
def stepsUp : Tr → List Tr → Bool
 | r, [] => isOne r
 | r, t :: l => stepOk t && (ltT r (fstT t) && stepsUp (fstT t) l)
def stepsOk : Tr → Bool
 | .lst l => decide (1 ≤ l.length) && (decide (l.length ≤ 8) && stepsUp (.tup [.int 0, .int 1]) l)
 | _ => false
theorem stepOk_len {l : List Tr} (h : l.length ≠ 2) : stepOk (.tup l) = false := by
 unfold stepOk
 split
 ·rename_i e
  cases e
  exact absurd rfl h
 ·rfl
theorem isSp_two {t : Tr} (h : isSp t = true) : ∃ a b c d : Int, t = .tup [.tup [.int a, .int b], .tup [.int c, .int d]] ∧ isFr (.tup [.int c, .int d]) = true := by
 unfold isSp at h
 split at h
 ·rename_i x y
  simp only [Bool.and_eq_true] at h
  obtain ⟨a, b, rfl, _⟩ := isFr_two h.1
  obtain ⟨c, d, rfl, _⟩ := isFr_two h.2.1
  exact ⟨a, b, c, d, rfl, h.2.1⟩
 ·cases h
theorem rd_pair {K : PySem.W.Frag} {H : Hp} {a b : Int} {v : V} (h : Rd K H (.tup [.int a, .int b]) v) : ∃ p, v = .ref p ∧ SqT K H p [.int a, .int b] := by
 obtain ⟨p, xs, e, q, v1, r1, e1, h1, v2, r2, e2, h2, e3⟩ := h
 cases (show v1 = .int a from h1)
 cases (show v2 = .int b from h2)
 cases (show r2 = [] from e3)
 subst e2 e1
 exact ⟨p, e, q⟩
theorem rd_two {K : PySem.W.Frag} {H : Hp} {x y : Tr} {v : V} (h : Rd K H (.tup [x, y]) v) : ∃ p vx vy, v = .ref p ∧ SqT K H p [vx, vy] ∧ Rd K H x vx ∧ Rd K H y vy := by
 obtain ⟨p, xs, e, q, v1, r1, e1, h1, v2, r2, e2, h2, e3⟩ := h
 cases (show r2 = [] from e3)
 subst e2 e1
 exact ⟨p, v1, v2, e, q, h1, h2⟩
theorem sm_pair {a b : Int} (h : Smt (.tup [.int a, .int b])) : Sm a ∧ Sm b := ⟨h.1, h.2.1⟩
theorem ltT_two (a b c d : Int) : ltT (.tup [.int a, .int b]) (.tup [.int c, .int d]) = decide (a * d < c * b) := rfl
def spPieceT (K : PySem.W.Frag) (BP : Addr) : Sp := fun vs H Q E => ∃ (x : V) (t : Tr), vs = [x] ∧ Rd K H t x ∧ Smt t ∧ (pieceOk t = true → Q .non H) ∧ (pieceOk t = false → E (.ref BP) none H)
def spStepT (K : PySem.W.Frag) (BT : Addr) : Sp := fun vs H Q E => ∃ (x : V) (t : Tr), vs = [x] ∧ Rd K H t x ∧ (stepOk t = true → Q .non H) ∧ (stepOk t = false → E (.ref BT) none H)
def spStepsT (K : PySem.W.Frag) (BT : Addr) : Sp := fun vs H Q E => ∃ (x : V) (t : Tr), vs = [x] ∧ Rd K H t x ∧ Smt t ∧ (stepsOk t = true → Q .non H) ∧ (stepsOk t = false → E (.ref BT) none H)
section
variable {P : Program} {w : World} {K : PySem.W.Frag} {mg : Str → Option Value} {base : Heap} {aL aR BP BT : Addr}
theorem ok_spanT {f : Addr} {fd : FuncData} (D : DefAt K mg "is_span" s_is_span ["thing"] f fd) (CF : Cl P w K mg base "is_fraction" 2 ["thing"] (spFracT K)) (CB : Cl P w K mg base "below" 1 ["one", "other"] (spBelowT K)) (T : Txt K mg aL aR) :
  FnOk P w K mg base CX0 3 f fd ["thing"] (spSpanT K) := by
 refine D.fn.ok scSpan (fun vs H Q E h => ?_) (fun cdv A outer s H vs Q E hr h => ?_)
 ·obtain ⟨x, t, rfl, _⟩ := h
  rfl
 ·obtain ⟨x, t, rfl, hx, sm, k⟩ := h
  have hr1 : Room 1 _ := hr.mono (by decide)
  refine ⟨_, pss_cons (ps_if (PW.pt (pw_or (pt_not (pt_val (pe_isi (pv 0) rfl T.isi rfl T.tuple PyProof.Rows.boot_tuple))) (pw_or1 (pt_cmpR op_ne (pe_callB call_len_seq (by rfl) T.len PySem.boot_len (pa_cons (pv 0) pa_nil)) pe_int (nomark _))))) (pss_one (ps_ret pe_bl)) pss_nil)
   (pss_cons (ps_if (PW.pt (pw_or (pt_not (pt_val (pe_cl CF hr rfl (pa_cons (pe_ix ix_tup (pv 0) pe_int (fun _ _ => rfl)) pa_nil)))) (pw_or1 (pt_not (pt_val (pe_cl CF hr rfl (pa_cons (pe_ix ix_tup (pv 0) pe_int (fun _ _ => rfl)) pa_nil))))))) (pss_one (ps_ret pe_bl)) pss_nil)
   (pss_one (ps_ret (pe_and (pe_cl CB hr1 rfl (pa_cons (pe_ix ix_tup (pv 0) pe_int (fun _ _ => rfl)) (pa_cons (pe_ix ix_tup (pv 0) pe_int (fun _ _ => rfl)) pa_nil)))
    (pe_one (pe_not (pe_cl CB hr1 rfl (pa_cons (pe_glob (v := .ref aR) rfl T.right rfl) (pa_cons (pe_ix ix_tup (pv 0) pe_int (fun _ _ => rfl)) pa_nil))))))))), ?_⟩
  refine ⟨_, rfl, _, _, tyo hx, kitTp K t, _, rfl, ?_⟩
  cases t with
  | non => exact iteT k
  | bl _ => exact iteT k
  | int _ => exact iteT k
  | str _ => exact iteT k
  | lst _ => exact iteT k
  | tup l =>
   refine iteF ?_
   by_cases ln : l.length = 2
   ·match l, ln with
    | [u, v], _ =>
     obtain ⟨p, vx, vy, rfl, hp, hu, hv⟩ := rd_two hx
     refine ⟨_, rfl, p, _, rfl, .inr hp, rfl, _, rfl, iteNS rfl ?_⟩
     have kk : Q (.bl (isFr u && (isFr v && (ltT u v && !(ltT (.tup [.int 1, .int 1]) v))))) H := k
     refine ⟨_, rfl, p, _, _, _, rfl, rfl, hp, rfl, vx, u, rfl, hu, _, rfl, ?_⟩
     cases f1 : isFr u with
     | false =>
      rw [f1, Bool.false_and] at kk
      exact iteT kk
     | true =>
      rw [f1, Bool.true_and] at kk
      refine iteF ⟨_, rfl, p, _, _, _, rfl, rfl, hp, rfl, vy, v, rfl, hv, _, rfl, ?_⟩
      cases f2 : isFr v with
      | false =>
       rw [f2, Bool.false_and] at kk
       exact iteT kk
      | true =>
       rw [f2, Bool.true_and] at kk
       refine iteF ?_
       obtain ⟨a, b, rfl, _⟩ := isFr_two f1
       obtain ⟨c, d, rfl, _⟩ := isFr_two f2
       obtain ⟨p1, rfl, h1⟩ := rd_pair hu
       obtain ⟨p2, rfl, h2⟩ := rd_pair hv
       obtain ⟨sa, sb⟩ := sm_pair sm.1
       obtain ⟨sc, sd⟩ := sm_pair sm.2.1
       rw [ltT_two, ltT_two] at kk
       refine ⟨_, rfl, p, _, _, _, rfl, rfl, hp, rfl, _, rfl, p, _, _, _, rfl, rfl, hp, rfl, p1, p2, a, b, c, d, rfl, h1, h2, ⟨sa, sb, sc, sd⟩, _, rfl, ?_⟩
       cases g : decide (a * d < c * b) with
       | false =>
        rw [g, Bool.false_and] at kk
        exact iteF kk
       | true =>
        rw [g, Bool.true_and] at kk
        refine iteT ⟨_, rfl, p, _, _, _, rfl, rfl, hp, rfl, aR, p2, 1, 1, c, d, rfl, T.rightT H, h2, ⟨.of_bits (n := 10) (by decide) (by decide), .of_bits (n := 10) (by decide) (by decide), sc, sd⟩, _, rfl, kk⟩
   ·obtain ⟨p, xs, rfl, hp, rl⟩ := hx
    have lx := rdL_len rl
    rw [isSp_len ln] at k
    exact ⟨_, rfl, p, _, rfl, .inr hp, rfl, _, rfl, iteNN (by rw [lx]; intro z; have := V.int.inj z; omega) k⟩
theorem ok_checkT {f : Addr} {fd : FuncData} (D : DefAt K mg "check_piece" s_check_piece ["piece"] f fd) (CS : Cl P w K mg base "is_span" 3 ["thing"] (spSpanT K)) (CB : Cl P w K mg base "below" 1 ["one", "other"] (spBelowT K)) (T : Txt K mg aL aR) (cX : ExcC K mg "BadPiece" BP) :
  FnOk P w K mg base (CX1 P w BP) 4 f fd ["piece"] (spPieceT K BP) := by
 refine D.fn.okX scCheck (fun vs H Q E h => ?_) (fun cdv A outer s H vs Q E hr h => ?_)
 ·obtain ⟨x, t, rfl, _⟩ := h
  rfl
 ·obtain ⟨x, t, rfl, hx, sm, kQ, kE⟩ := h
  have hr1 : Room 1 _ := hr.mono (by decide)
  refine ⟨_, pss_cons (ps_if (pt_not (pt_val (pe_isi (pv 0) rfl T.isi rfl T.list PyProof.Rows.boot_list))) (pss_one (ps_raise cX rfl)) pss_nil)
   (pss_cons (ps_set (i := 1) scCheck.nd rfl (Or.inl rfl) pe_non)
   (pss_one (ps_for PassesOwn.leaving rfl (pi_list (pv 0)) (pg_name (i := 2) scCheck.nd rfl (Or.inl rfl))
    (pss_cons (ps_if (pt_not (pt_val (pe_cl CS hr rfl (pa_cons (pv 2) pa_nil)))) (pss_one (ps_raise cX rfl)) pss_nil)
    (pss_cons (ps_if (PW.pt (pw_and (pt_cmpR op_notN (pv 1) pe_non (nomark _)) (pw_and1 (pt_not (pt_val (pe_cl CB hr1 rfl (pa_cons (pv 1) (pa_cons (pe_ix ix_tup (pv 2) pe_int (fun _ _ => rfl)) pa_nil)))))))) (pss_one (ps_raise cX rfl)) pss_nil)
    (pss_one (ps_set (i := 1) scCheck.nd rfl (Or.inl rfl) (pe_ix ix_tup (pv 2) pe_int (fun _ _ => rfl))))))))), ?_⟩
  refine ⟨_, rfl, _, _, tyo hx, kitLs K t, _, rfl, ?_⟩
  cases t with
  | non => exact iteT (kE rfl)
  | bl _ => exact iteT (kE rfl)
  | int _ => exact iteT (kE rfl)
  | str _ => exact iteT (kE rfl)
  | tup _ => exact iteT (kE rfl)
  | lst l =>
   refine iteF ?_
   obtain ⟨p, xs, rfl, hp, rl⟩ := hx
   have lx := rdL_len rl
   refine ⟨_, rfl, p, rfl, ⟨_, hp⟩, ?_⟩
   refine for_list (K := K) (a := p) (xs := xs) (fun i σ H' => H' = H ∧ ∃ (ro : Option Tr) (rv : V) (sp : Option V), σ = [some (.ref p), some rv, sp] ∧ ((ro = none ∧ rv = .non) ∨ ∃ a b : Int, ro = some (.tup [.int a, .int b]) ∧ (∃ p2, rv = .ref p2 ∧ SqT K H p2 [.int a, .int b]) ∧ Sm a ∧ Sm b) ∧ spansOk ro (l.drop i) = spansOk none l)
    ⟨rfl, none, _, _, rfl, .inl ⟨rfl, rfl⟩, rfl⟩ (fun i σ H' _ h => by rw [h.1]; exact hp) ?_ ?_
   ·rintro i x σ H' hx ⟨rfl, ro, rv, sp, rfl, hro, hb⟩
    obtain ⟨t, ht, hs⟩ := rdL_get rl hx
    have smt := smL_get sm ht
    have dr : l.drop i = t :: l.drop (i + 1) := by
     obtain ⟨il, e⟩ := List.getElem?_eq_some_iff.mp ht
     rw [List.drop_eq_getElem_cons il, e]
    rw [dr] at hb
    have hb' : (isSp t && (rOk ro t && spansOk (some (sndT t)) (l.drop (i + 1)))) = spansOk none l := hb
    refine ⟨_, rfl, x, t, rfl, hs, smt, _, rfl, ?_⟩
    cases g : isSp t with
    | false =>
     rw [g, Bool.false_and] at hb'
     exact iteT (kE hb'.symm)
    | true =>
     rw [g, Bool.true_and] at hb'
     refine iteF ?_
     obtain ⟨a, b, c, d, rfl, _⟩ := isSp_two g
     obtain ⟨p0, vx, vy, rfl, hp0, hu, hv⟩ := rd_two hs
     obtain ⟨q1, rfl, h1⟩ := rd_pair hu
     obtain ⟨q2, rfl, h2⟩ := rd_pair hv
     obtain ⟨sa, sb⟩ := sm_pair smt.1
     obtain ⟨sc, sd⟩ := sm_pair smt.2.1
     refine ⟨_, rfl, rfl, _, rfl, ?_⟩
     rcases hro with ⟨rfl, rfl⟩ | ⟨a', b', rfl, ⟨p2, rfl, h0⟩, sa', sb'⟩
     ·have hb2 : spansOk (some (.tup [.int c, .int d])) (l.drop (i + 1)) = spansOk none l := hb'
      refine iteNS rfl (iteF ?_)
      exact ⟨_, rfl, p0, _, _, _, rfl, rfl, hp0, rfl, rfl, _, _, _, rfl, .inr ⟨c, d, rfl, ⟨q2, rfl, h2⟩, sc, sd⟩, hb2⟩
     ·have hb2 : (decide (a' * b < a * b') && spansOk (some (.tup [.int c, .int d])) (l.drop (i + 1))) = spansOk none l := hb'
      refine iteNN (fun z => nomatch z) ?_
      refine ⟨_, rfl, _, rfl, p0, _, _, _, rfl, rfl, hp0, rfl, p2, q1, a', b', a, b, rfl, h0, h1, ⟨sa', sb', sa, sb⟩, _, rfl, ?_⟩
      cases e : decide (a' * b < a * b') with
      | false =>
       rw [e, Bool.false_and] at hb2
       exact iteT (kE hb2.symm)
      | true =>
       rw [e, Bool.true_and] at hb2
       refine iteF ?_
       exact ⟨_, rfl, p0, _, _, _, rfl, rfl, hp0, rfl, rfl, _, _, _, rfl, .inr ⟨c, d, rfl, ⟨q2, rfl, h2⟩, sc, sd⟩, hb2⟩
   ·rintro σ H' ⟨rfl, ro, rv, sp, rfl, _, hb⟩
    rw [List.drop_of_length_le (by omega)] at hb
    exact kQ hb.symm
theorem ok_stepT {f : Addr} {fd : FuncData} (D : DefAt K mg "check_step" s_check_step ["step"] f fd) (CF : Cl P w K mg base "is_fraction" 2 ["thing"] (spFracT K)) (CW : Cl P w K mg base "is_whole" 1 ["thing"] (spWholeT K)) (T : Txt K mg aL aR) (TT : TxtT mg) (cX : ExcC K mg "BadTaste" BT) :
  FnOk P w K mg base (CX1 P w BT) 3 f fd ["step"] (spStepT K BT) := by
 obtain ⟨t2, e2⟩ := TT.second
 obtain ⟨t3, e3⟩ := TT.weight
 refine D.fn.okX scStep (fun vs H Q E h => ?_) (fun cdv A outer s H vs Q E hr h => ?_)
 ·obtain ⟨x, t, rfl, _⟩ := h
  rfl
 ·obtain ⟨x, t, rfl, hx, kQ, kE⟩ := h
  have hr1 : Room 1 _ := hr.mono (by decide)
  refine ⟨_, pss_cons (ps_if (PW.pt (pw_or (pt_not (pt_val (pe_isi (pv 0) rfl T.isi rfl T.tuple PyProof.Rows.boot_tuple))) (pw_or1 (pt_cmpR op_ne (pe_callB call_len_seq (by rfl) T.len PySem.boot_len (pa_cons (pv 0) pa_nil)) pe_int (nomark _))))) (pss_one (ps_raise cX rfl)) pss_nil)
   (pss_cons (ps_if (PW.pt (pw_or (pt_not (pt_val (pe_cl CF hr rfl (pa_cons (pe_ix ix_tup (pv 0) pe_int (fun _ _ => rfl)) pa_nil)))) (pw_or1 (pt_cmpR op_gt (pe_ix ix_tup (pe_ix ix_tup (pv 0) pe_int (fun _ _ => rfl)) pe_int (fun _ _ => rfl)) (pe_glob (v := .int 1000) rfl e2 ⟨_, rfl⟩) (nomark _))))) (pss_one (ps_raise cX rfl)) pss_nil)
   (pss_one (ps_if (PW.pt (pw_or (pt_not (pt_val (pe_cl CW hr1 rfl (pa_cons (pe_ix ix_tup (pv 0) pe_int (fun _ _ => rfl)) pa_nil)))) (pw_or (pt_cmpR op_lt (pe_ix ix_tup (pv 0) pe_int (fun _ _ => rfl)) pe_int (nomark _)) (pw_or1 (pt_cmpR op_gt (pe_ix ix_tup (pv 0) pe_int (fun _ _ => rfl)) (pe_glob (v := .int 1000) rfl e3 ⟨_, rfl⟩) (nomark _)))))) (pss_one (ps_raise cX rfl)) pss_nil))), ?_⟩
  refine ⟨_, rfl, _, _, tyo hx, kitTp K t, _, rfl, ?_⟩
  cases t with
  | non => exact iteT (kE rfl)
  | bl _ => exact iteT (kE rfl)
  | int _ => exact iteT (kE rfl)
  | str _ => exact iteT (kE rfl)
  | lst _ => exact iteT (kE rfl)
  | tup l =>
   refine iteF ?_
   by_cases ln : l.length = 2
   ·match l, ln with
    | [u, v], _ =>
     obtain ⟨p, vx, vy, rfl, hp, hu, hv⟩ := rd_two hx
     refine ⟨_, rfl, p, _, rfl, .inr hp, rfl, _, rfl, iteNS rfl ?_⟩
     have kQ' : (isFr u && (decide (denT u ≤ 1000) && (isWh v && (decide (1 ≤ valI v) && decide (valI v ≤ 1000))))) = true → Q .non H := kQ
     have kE' : (isFr u && (decide (denT u ≤ 1000) && (isWh v && (decide (1 ≤ valI v) && decide (valI v ≤ 1000))))) = false → E (.ref BT) none H := kE
     refine ⟨_, rfl, p, _, _, _, rfl, rfl, hp, rfl, vx, u, rfl, hu, _, rfl, ?_⟩
     cases f1 : isFr u with
     | false => exact iteT (kE' (by rw [f1, Bool.false_and]))
     | true =>
      rw [f1, Bool.true_and] at kQ' kE'
      refine iteF ?_
      obtain ⟨a, b, rfl, _⟩ := isFr_two f1
      obtain ⟨p1, rfl, h1⟩ := rd_pair hu
      have ed : denT (.tup [.int a, .int b]) = b := rfl
      rw [ed] at kQ' kE'
      refine ⟨_, rfl, p, _, _, _, rfl, rfl, hp, rfl, p1, _, _, _, rfl, rfl, h1, rfl, _, _, rfl, rfl, _, rfl, ?_⟩
      refine ite2 (fun c => ?_) (fun c => ?_)
      ·have c' : 1000 < b := of_decide_eq_true c
       exact kE' (by rw [decide_eq_false (show ¬ b ≤ 1000 by omega), Bool.false_and])
      ·have c' : b ≤ 1000 := by
        have : ¬ 1000 < b := fun z => c (decide_eq_true z)
        omega
       rw [decide_eq_true c', Bool.true_and] at kQ' kE'
       refine ⟨_, rfl, p, _, _, _, rfl, rfl, hp, rfl, vy, v, rfl, hv, _, rfl, ?_⟩
       cases f2 : isWh v with
       | false => exact iteT (kE' (by rw [f2, Bool.false_and]))
       | true =>
        rw [f2, Bool.true_and] at kQ' kE'
        obtain ⟨i, rfl⟩ := isWh_int f2
        cases (show vy = .int i from hv)
        have ev : valI (.int i) = i := rfl
        rw [ev] at kQ' kE'
        refine iteF ⟨_, rfl, p, _, _, _, rfl, rfl, hp, rfl, _, _, rfl, rfl, _, rfl, ?_⟩
        refine ite2 (fun d => ?_) (fun d => ?_)
        ·have d' : i < 1 := of_decide_eq_true d
         exact kE' (by rw [decide_eq_false (show ¬ 1 ≤ i by omega), Bool.false_and])
        ·have d' : 1 ≤ i := by
          have : ¬ i < 1 := fun z => d (decide_eq_true z)
          omega
         rw [decide_eq_true d', Bool.true_and] at kQ' kE'
         refine ⟨_, rfl, p, _, _, _, rfl, rfl, hp, rfl, _, _, rfl, rfl, _, rfl, ?_⟩
         refine ite2 (fun e => ?_) (fun e => ?_)
         ·have e' : 1000 < i := of_decide_eq_true e
          exact kE' (decide_eq_false (by omega))
         ·have e' : ¬ 1000 < i := fun z => e (decide_eq_true z)
          exact kQ' (decide_eq_true (by omega))
   ·obtain ⟨p, xs, rfl, hp, rl⟩ := hx
    have lx := rdL_len rl
    exact ⟨_, rfl, p, _, rfl, .inr hp, rfl, _, rfl, iteNN (by rw [lx]; intro z; have := V.int.inj z; omega) (kE (stepOk_len ln))⟩
theorem stepOk_two {t : Tr} (h : stepOk t = true) : ∃ (a b : Int) (w : Tr), t = .tup [.tup [.int a, .int b], w] := by
 unfold stepOk at h
 split at h
 ·rename_i x y
  simp only [Bool.and_eq_true] at h
  obtain ⟨a, b, rfl, _⟩ := isFr_two h.1
  exact ⟨a, b, y, rfl⟩
 ·cases h
theorem ok_stepsT {f : Addr} {fd : FuncData} (D : DefAt K mg "check_steps" s_check_steps ["steps"] f fd) (CT : ClX P w K mg base BT "check_step" 3 ["step"] (spStepT K BT)) (CB : Cl P w K mg base "below" 1 ["one", "other"] (spBelowT K)) (T : Txt K mg aL aR) (TT : TxtT mg) (cX : ExcC K mg "BadTaste" BT) :
  FnOk P w K mg base (CX1 P w BT) 4 f fd ["steps"] (spStepsT K BT) := by
 obtain ⟨t1, e1⟩ := TT.most
 refine D.fn.okX scSteps (fun vs H Q E h => ?_) (fun cdv A outer s H vs Q E hr h => ?_)
 ·obtain ⟨x, t, rfl, _⟩ := h
  rfl
 ·obtain ⟨x, t, rfl, hx, sm, kQ, kE⟩ := h
  have hr1 : Room 1 _ := hr.mono (by decide)
  have hu : _ + (0 + 1) < cLine := hu_of hr
  refine ⟨_, pss_cons (ps_if (pt_not (pt_val (pe_isi (pv 0) rfl T.isi rfl T.list PyProof.Rows.boot_list))) (pss_one (ps_raise cX rfl)) pss_nil)
   (pss_cons (ps_if (PW.pt (pw_or (pt_cmpR op_lt (pe_callB call_len_seq (by rfl) T.len PySem.boot_len (pa_cons (pv 0) pa_nil)) pe_int (nomark _)) (pw_or1 (pt_cmpR op_gt (pe_callB call_len_seq (by rfl) T.len PySem.boot_len (pa_cons (pv 0) pa_nil)) (pe_glob (v := .int 8) rfl e1 ⟨_, rfl⟩) (nomark _))))) (pss_one (ps_raise cX rfl)) pss_nil)
   (pss_cons (ps_set (i := 1) scSteps.nd rfl (Or.inl rfl) (pe_glob (v := .ref aL) rfl T.left rfl))
   (pss_cons (ps_for PassesOwn.leaving rfl (pi_list (pv 0)) (pg_name (i := 2) scSteps.nd rfl (Or.inl rfl))
    (pss_cons (ps_expr (pe_clX CT hr rfl (pa_cons (pv 2) pa_nil)))
    (pss_cons (ps_if (pt_not (pt_val (pe_cl CB hr1 rfl (pa_cons (pv 1) (pa_cons (pe_ix ix_tup (pv 2) pe_int (fun _ _ => rfl)) pa_nil))))) (pss_one (ps_raise cX rfl)) pss_nil)
    (pss_one (ps_set (i := 1) scSteps.nd rfl (Or.inl rfl) (pe_ix ix_tup (pv 2) pe_int (fun _ _ => rfl)))))))
   (pss_one (ps_if (pt_cmpR (op_neP rpe_int rpe_int hu) (pv 1) (pe_glob (v := .ref aR) rfl T.right rfl) (nomark _)) (pss_one (ps_raise cX rfl)) pss_nil))))), ?_⟩
  refine ⟨_, rfl, _, _, tyo hx, kitLs K t, _, rfl, ?_⟩
  cases t with
  | non => exact iteT (kE rfl)
  | bl _ => exact iteT (kE rfl)
  | int _ => exact iteT (kE rfl)
  | str _ => exact iteT (kE rfl)
  | tup _ => exact iteT (kE rfl)
  | lst l =>
   refine iteF ?_
   obtain ⟨p, xs, rfl, hp, rl⟩ := hx
   have lx := rdL_len rl
   have kQ' : (decide (1 ≤ l.length) && (decide (l.length ≤ 8) && stepsUp (.tup [.int 0, .int 1]) l)) = true → Q .non H := kQ
   have kE' : (decide (1 ≤ l.length) && (decide (l.length ≤ 8) && stepsUp (.tup [.int 0, .int 1]) l)) = false → E (.ref BT) none H := kE
   refine ⟨_, rfl, p, _, rfl, .inl hp, _, _, rfl, rfl, _, rfl, ?_⟩
   refine ite2 (fun c => ?_) (fun c => ?_)
   ·have c' : (xs.length : Int) < 1 := of_decide_eq_true c
    exact kE' (by rw [decide_eq_false (show ¬ 1 ≤ l.length by omega), Bool.false_and])
   ·have c' : 1 ≤ l.length := by
     have : ¬ (xs.length : Int) < 1 := fun z => c (decide_eq_true z)
     omega
    rw [decide_eq_true c', Bool.true_and] at kQ' kE'
    refine ⟨_, rfl, p, _, rfl, .inl hp, _, _, rfl, rfl, _, rfl, ?_⟩
    refine ite2 (fun d => ?_) (fun d => ?_)
    ·have d' : (8 : Int) < xs.length := of_decide_eq_true d
     exact kE' (by rw [decide_eq_false (show ¬ l.length ≤ 8 by omega), Bool.false_and])
    ·have d' : l.length ≤ 8 := by
      have : ¬ (8 : Int) < xs.length := fun z => d (decide_eq_true z)
      omega
     rw [decide_eq_true d', Bool.true_and] at kQ' kE'
     refine ⟨_, rfl, p, rfl, ⟨_, hp⟩, ?_⟩
     refine for_list (K := K) (a := p) (xs := xs) (fun i σ H' => H' = H ∧ ∃ (a b : Int) (p2 : Addr) (x2 : Option V), σ = [some (.ref p), some (.ref p2), x2] ∧ SqT K H p2 [.int a, .int b] ∧ Sm a ∧ Sm b ∧ stepsUp (.tup [.int a, .int b]) (l.drop i) = stepsUp (.tup [.int 0, .int 1]) l)
      ⟨rfl, 0, 1, aL, _, rfl, T.leftT H, .of_bits (n := 10) (by decide) (by decide), .of_bits (n := 10) (by decide) (by decide), rfl⟩ (fun i σ H' _ h => by rw [h.1]; exact hp) ?_ ?_
     ·rintro i x σ H' hx ⟨rfl, a, b, p2, x2, rfl, h2, sa, sb, hb⟩
      obtain ⟨t, ht, hs⟩ := rdL_get rl hx
      have smt := smL_get sm ht
      have dr : l.drop i = t :: l.drop (i + 1) := by
       obtain ⟨il, e⟩ := List.getElem?_eq_some_iff.mp ht
       rw [List.drop_eq_getElem_cons il, e]
      rw [dr] at hb
      have hb' : (stepOk t && (ltT (.tup [.int a, .int b]) (fstT t) && stepsUp (fstT t) (l.drop (i + 1)))) = stepsUp (.tup [.int 0, .int 1]) l := hb
      refine ⟨_, rfl, x, t, rfl, hs, fun g => ?_, fun g => ?_⟩
      ·rw [g, Bool.true_and] at hb'
       obtain ⟨c, d, w, rfl⟩ := stepOk_two g
       obtain ⟨p0, vx, vy, rfl, hp0, hu', hv⟩ := rd_two hs
       obtain ⟨q1, rfl, h1⟩ := rd_pair hu'
       obtain ⟨sc, sd⟩ := sm_pair smt.1
       have hb2 : (decide (a * d < c * b) && stepsUp (.tup [.int c, .int d]) (l.drop (i + 1))) = stepsUp (.tup [.int 0, .int 1]) l := hb'
       refine ⟨_, rfl, _, rfl, p0, _, _, _, rfl, rfl, hp0, rfl, p2, q1, a, b, c, d, rfl, h2, h1, ⟨sa, sb, sc, sd⟩, _, rfl, ?_⟩
       cases e : decide (a * d < c * b) with
       | false =>
        rw [e, Bool.false_and] at hb2
        exact iteT (kE' hb2.symm)
       | true =>
        rw [e, Bool.true_and] at hb2
        refine iteF ?_
        exact ⟨_, rfl, p0, _, _, _, rfl, rfl, hp0, rfl, rfl, c, d, q1, _, rfl, h1, sc, sd, hb2⟩
      ·rw [g, Bool.false_and] at hb'
       exact kE' hb'.symm
     ·rintro σ H' ⟨rfl, a, b, p2, x2, rfl, h2, sa, sb, hb⟩
      rw [List.drop_of_length_le (by omega)] at hb
      have hb2 : (decide (a = 1) && decide (b = 1)) = stepsUp (.tup [.int 0, .int 1]) l := hb
      refine ⟨_, rfl, (a, b), (1, 1), ⟨p2, _, _, rfl, h2, rfl, rfl⟩, ⟨aR, _, _, rfl, T.rightT H', rfl, rfl⟩, _, rfl, ?_⟩
      by_cases e : (a, b) = ((1 : Int), (1 : Int))
      ·refine iteNS e ?_
       cases e
       exact kQ' hb2.symm
      ·refine iteNN e ?_
       refine kE' ?_
       rw [← hb2]
       by_cases e1 : a = 1
       ·rw [decide_eq_true e1, Bool.true_and]
        exact decide_eq_false fun z => e (by rw [e1, z])
       ·rw [decide_eq_false e1, Bool.false_and]
end
end FQ
namespace FQ
open PySem L2 FK
def TasteS (K : PySem.W.Frag) (C : Addr) (H : Hp) (x : V) (S : Steps) : Prop := ∃ t lt ll p, x = .ref t ∧ TasteAt K C H t lt ll S ∧ TsOk p S
def spTastes (K : PySem.W.Frag) (C : Addr) : Sp := fun vs H Q _ => ∃ (a : Addr) (xs : List V) (Ss : List Steps), vs = [.ref a] ∧ SqL K H a xs ∧ Paired (TasteS K C H) xs Ss ∧ Q .non H
section
variable {P : Program} {w : World} {K : PySem.W.Frag} {mg : Str → Option Value} {base : Heap} {aL aR C : Addr}
theorem scTastes : FnScope ["tastes", "taste"] ["tastes"] (defScope s_check_tastes) := ⟨rfl, rfl, rfl, by decide +kernel, rfl, by decide +kernel, by decide +kernel⟩
theorem ok_tastes {f : Addr} {fd : FuncData} (D : DefAt K mg "check_tastes" s_check_tastes ["tastes"] f fd) (T : Txt K mg aL aR) (IC : IsC K C) (mgC : mg "Taste" = some (.ref C)) : FnOk P w K mg base CX0 1 f fd ["tastes"] (spTastes K C) := by
 refine D.fn.ok scTastes (fun vs H Q E h => ?_) (fun cdv A outer s H vs Q E hr h => ?_)
 ·obtain ⟨a, xs, Ss, rfl, _⟩ := h
  rfl
 ·obtain ⟨a, xs, Ss, rfl, ha, hS, k⟩ := h
  refine ⟨_, pss_cons (ps_if (pt_not (pt_val (pe_isi (pv 0) rfl T.isi rfl T.list PyProof.Rows.boot_list))) pss_never pss_nil)
   (pss_one (ps_for PassesOwn.never rfl (pi_list (pv 0)) (pg_name (i := 1) scTastes.nd rfl (Or.inl rfl))
    (pss_one (ps_if (pt_not (pt_val (pe_callB call_isC (by rfl) T.isi PyProof.Rows.boot_isinstance (pa_cons (pv 1) (pa_cons (pe_glob (v := .ref C) rfl mgC rfl) pa_nil))))) pss_never pss_nil)))), ?_⟩
  refine ⟨_, rfl, _, _, .sqL ha, kit_list _, _, rfl, iteF ?_⟩
  refine ⟨_, rfl, a, rfl, ⟨_, ha⟩, ?_⟩
  refine for_list (K := K) (a := a) (xs := xs) (fun i σ H' => H' = H ∧ ∃ x1, σ = [some (.ref a), x1]) ⟨rfl, _, rfl⟩ (fun i σ H' _ h => by rw [h.1]; exact ha) ?_ ?_
  ·rintro i x σ H' hx ⟨rfl, x1, rfl⟩
   obtain ⟨S, hS', t, lt, ll, p, rfl, ta, ok⟩ := Paired.get1 hS i x hx
   obtain ⟨dx, h1⟩ := ta.ins
   exact ⟨_, rfl, t, C, dx, _, rfl, h1, IC, _, rfl, iteF ⟨rfl, _, rfl⟩⟩
  ·rintro σ H' ⟨rfl, x1, rfl⟩
   exact k
theorem scTakers : FnScope ["tastes", "fewest", "most"] ["tastes", "fewest", "most"] (defScope s_check_takers) := ⟨rfl, rfl, rfl, by decide +kernel, rfl, by decide +kernel, by decide +kernel⟩
end
end FQ
namespace L2
open PySem PySem.Spec PyProof.Rows
theorem call_isM {X : Cx} : CallR X (.builtin "isinstance") (fun xs H Q => ∃ x C, xs = [x, .ref C] ∧ ((∃ a dx fs, x = .ref a ∧ H a = some (.ins C dx fs) ∧ IsC X.K C ∧ Q (.bl true) H) ∨ (∃ T b, TyO X.K H x (.type T) ∧ PySem.W.kitOne X.K (.type T) (.ref C) = some b ∧ Q (.bl b) H))) := by
 intro pins s σ H xs us Q I r h
 obtain ⟨x, C, rfl, h⟩ := h
 rcases h with ⟨a, dx, fs, rfl, hH, ic, q⟩ | ⟨T, b, ty, e, q⟩
 ·exact call_isC pins s σ H _ us Q I r ⟨a, C, dx, fs, rfl, hH, ic, q⟩
 ·obtain ⟨u, v, rfl, ru, rv⟩ := r.two
  cases (show v = Value.ref C from rv)
  have fin : ∀ tk, EP X pins σ Q (.bool b) { s with toks := tk } := fun tk => ⟨.bl b, H, I.tok tk, rfl, q⟩
  generalize et : Value.type T = t at ty e
  cases ty with
  | of h => exact isinst_ok I ru h e fin
  | @sqT a ys h =>
   cases (show u = Value.ref a from ru)
   obtain ⟨its, _, p, _⟩ := I.tuple h
   obtain ⟨o, h1, h2, _⟩ := p
   exact PySem.W.kia_one PySem.W.kitx_tuple I.kIn ⟨o, h1, h2⟩ e (fun z => nomatch z) fin
  | @sqL a ys h =>
   cases (show u = Value.ref a from ru)
   obtain ⟨its, _, p, _⟩ := I.list h
   obtain ⟨o, n, h1, h2, _⟩ := p
   exact PySem.W.kia_one PySem.W.kitx_list I.kIn ⟨o, h1, h2⟩ e (fun z => nomatch z) fin
end L2
namespace FQ
open PySem L2 FK
def wholeT : Tr := .lst [.tup [.tup [.int 0, .int 1], .tup [.int 1, .int 1]]]
def spMadeX (K : PySem.W.Frag) (BF : Addr) : Sp := fun vs H _ E => ∃ (x y : V) (t u : Tr), vs = [x, y] ∧ Rd K H t x ∧ Rd K H u y ∧ (isWh t = false ∨ isWh u = false ∨ valI t < 0 ∨ valI u < 1) ∧ E (.ref BF) none H
def spInitX (K : PySem.W.Frag) (BT : Addr) : Sp := fun vs H _ E => ∃ (x y : V) (t : Tr), vs = [x, y] ∧ Rd K H t y ∧ Smt t ∧ stepsOk t = false ∧ E (.ref BT) none H
def spOneX (K : PySem.W.Frag) (BP : Addr) : Sp := fun vs H _ E => ∃ (y : V) (t : Tr), vs = [y] ∧ Rd K H t y ∧ Smt t ∧ pieceOk t = false ∧ E (.ref BP) none H
def spWorthX (K : PySem.W.Frag) (BP : Addr) : Sp := fun vs H _ E => ∃ (x y : V) (t : Tr), vs = [x, y] ∧ Rd K H t y ∧ Smt t ∧ pieceOk t = false ∧ E (.ref BP) none H
def spCutX (K : PySem.W.Frag) (C BP : Addr) : Sp := fun vs H _ E => ∃ (x dx lt ll : Addr) (y z : V) (t : Tr), vs = [.ref x, y, z] ∧ H x = some (.ins C dx (fldT lt ll)) ∧ Rd K H t y ∧ Smt t ∧ pieceOk t = false ∧ E (.ref BP) none H
def spCutL (K : PySem.W.Frag) (C TL : Addr) : Sp := fun vs H _ E => ∃ (x lt ll a : Addr) (xs : List V) (z : V) (p D : Nat) (S : Steps) (L : List (Rat × Rat)) (y : Rat), vs = [.ref x, .ref a, z] ∧ TasteAt K C H x lt ll S ∧ TsOk p S ∧ SqL K H a xs ∧ Paired (CoQ K H) xs L ∧ PcOk D L ∧ FrQ K H z y ∧ Fit y ∧ Wo S L < y ∧ ∀ H', Same H H' → E (.ref TL) none H'
def spCombX (K : PySem.W.Frag) (BP : Addr) : Sp := fun vs H _ E => ∃ (x y z : V) (t u : Tr), vs = [x, y, z] ∧ Rd K H t x ∧ Rd K H u y ∧ Smt t ∧ Smt u ∧ (pieceOk t = false ∨ pieceOk u = false) ∧ E (.ref BP) none H
def IsT (K : PySem.W.Frag) (C : Addr) (H : Hp) (x : V) (b : Bool) : Prop := (b = true ∧ ∃ a dx fs, x = .ref a ∧ H a = some (.ins C dx fs)) ∨ (b = false ∧ ∃ T, TyO K H x (.type T) ∧ PySem.W.kitOne K (.type T) (.ref C) = some false)
def TsL (K : PySem.W.Frag) (C : Addr) (H : Hp) (x : V) (n : Nat) (b : Bool) : Prop := (b = false ∧ ∃ T, TyO K H x (.type T) ∧ PySem.W.kitOne K (.type T) (.type "list") = some false) ∨ ∃ a xs bs, x = .ref a ∧ SqL K H a xs ∧ Paired (IsT K C H) xs bs ∧ xs.length = n ∧ bs.all id = b
def spTastesT (K : PySem.W.Frag) (C BK : Addr) : Sp := fun vs H Q E => ∃ (x : V) (n : Nat) (b : Bool), vs = [x] ∧ TsL K C H x n b ∧ (b = true → Q .non H) ∧ (b = false → E (.ref BK) none H)
def spTakersX (K : PySem.W.Frag) (C BK : Addr) : Sp := fun vs H _ E => ∃ (x : V) (n : Nat) (b : Bool) (i j : Int), vs = [x, .int i, .int j] ∧ TsL K C H x n b ∧ (b = false ∨ (n : Int) < i ∨ j < n) ∧ E (.ref BK) none H
def spDealX (K : PySem.W.Frag) (C BK : Addr) (i j : Int) : Sp := fun vs H _ E => ∃ (se x : V) (n : Nat) (b : Bool), vs = [se, x] ∧ TsL K C H x n b ∧ (b = false ∨ (n : Int) < i ∨ j < n) ∧ E (.ref BK) none H
section
variable {P : Program} {w : World} {K : PySem.W.Frag} {mg : Str → Option Value} {base : Heap} {aL aR C BF BT BP BK TL : Addr}
theorem ok_madeX {f : Addr} {fd : FuncData} (D : DefAt K mg "made" s_made ["a", "b"] f fd) (CW : Cl P w K mg base "is_whole" 1 ["thing"] (spWholeT K)) (cX : ExcC K mg "BadFraction" BF) : FnOk P w K mg base (CX1 P w BF) 2 f fd ["a", "b"] (spMadeX K BF) := by
 refine D.fn.okX scMade (fun vs H Q E h => ?_) (fun cdv A outer s H vs Q E hr h => ?_)
 ·obtain ⟨x, y, t, u, rfl, _⟩ := h
  rfl
 ·obtain ⟨x, y, t, u, rfl, hx, hy, bad, k⟩ := h
  refine ⟨_, pss_cons (ps_if (PW.pt (pw_or (pt_not (pt_val (pe_cl CW hr rfl (pa_cons (pv 0) pa_nil)))) (pw_or1 (pt_not (pt_val (pe_cl CW hr rfl (pa_cons (pv 1) pa_nil))))))) (pss_one (ps_raise cX rfl)) pss_nil)
   (pss_cons (ps_if (PW.pt (pw_or (pt_cmpR op_lt (pv 0) pe_int (nomark _)) (pw_or1 (pt_cmpR op_lt (pv 1) pe_int (nomark _))))) (pss_one (ps_raise cX rfl)) pss_nil) pss_never), ?_⟩
  refine ⟨_, rfl, x, t, rfl, hx, _, rfl, ?_⟩
  cases w1 : isWh t with
  | false => exact iteT k
  | true =>
   refine iteF ⟨_, rfl, y, u, rfl, hy, _, rfl, ?_⟩
   cases w2 : isWh u with
   | false => exact iteT k
   | true =>
    obtain ⟨a, rfl⟩ := isWh_int w1
    obtain ⟨b, rfl⟩ := isWh_int w2
    cases (show x = .int a from hx)
    cases (show y = .int b from hy)
    have bad' : a < 0 ∨ b < 1 := by
     rcases bad with z | z | z | z
     ·cases z
     ·cases z
     ·exact .inl z
     ·exact .inr z
    refine iteF ⟨_, rfl, _, _, rfl, rfl, _, rfl, ?_⟩
    refine ite2 (fun _ => k) (fun c => ?_)
    refine ⟨_, rfl, _, _, rfl, rfl, _, rfl, ?_⟩
    refine iteY ?_ k
    rcases bad' with z | z
    ·exact absurd (decide_eq_true z) c
    ·exact z
theorem ok_initX {f : Addr} {fd : FuncData} (D : Fun K "__init__" "Taste.__init__" m_Taste___init__ f fd) (CS : ClX P w K mg base BT "check_steps" 4 ["steps"] (spStepsT K BT)) : FnOk P w K mg base (CX1 P w BT) 5 f fd ["self", "steps"] (spInitX K BT) := by
 refine D.okX scInit (fun vs H Q E h => ?_) (fun cdv A outer s H vs Q E hr h => ?_)
 ·obtain ⟨x, y, t, rfl, _⟩ := h
  rfl
 ·obtain ⟨x, y, t, rfl, hy, sm, bad, k⟩ := h
  exact ⟨_, pss_cons (ps_expr (pe_clX CS hr rfl (pa_cons (pv 1) pa_nil))) pss_never, _, rfl, y, t, rfl, hy, sm, (fun z => by rw [bad] at z; cases z), fun _ => k⟩
theorem ok_worthX {f : Addr} {fd : FuncData} (D : Fun K "worth" "Taste.worth" m_Taste_worth f fd) (CK : ClX P w K mg base BP "check_piece" 4 ["piece"] (spPieceT K BP)) : FnOk P w K mg base (CX1 P w BP) 5 f fd ["self", "piece"] (spWorthX K BP) := by
 refine D.okX scWorth (fun vs H Q E h => ?_) (fun cdv A outer s H vs Q E hr h => ?_)
 ·obtain ⟨x, y, t, rfl, _⟩ := h
  rfl
 ·obtain ⟨x, y, t, rfl, hy, sm, bad, k⟩ := h
  exact ⟨_, pss_cons (ps_expr (pe_clX CK hr rfl (pa_cons (pv 1) pa_nil))) pss_never, _, rfl, y, t, rfl, hy, sm, (fun z => by rw [bad] at z; cases z), fun _ => k⟩
abbrev NCu : List Str := ["self", "piece", "share", "first", "second", "left", "span", "worth", "point"]
theorem scCu : FnScope NCu ["self", "piece", "share"] (defScope m_Taste_cut) := ⟨rfl, rfl, rfl, by decide +kernel, rfl, by decide +kernel, by decide +kernel⟩
theorem ok_cutX {f : Addr} {fd : FuncData} (D : Fun K "cut" "Taste.cut" m_Taste_cut f fd) (MW : MlX P w K mg base C BP "worth" 5 ["self", "piece"] (spWorthX K BP)) (CB : Cl P w K mg base "below" 1 ["one", "other"] (spBelowT K)) (TC : TxtC K C) : FnOk P w K mg base (CX1 P w BP) 6 f fd ["self", "piece", "share"] (spCutX K C BP) := by
 refine D.okX scCu (fun vs H Q E h => ?_) (fun cdv A outer s H vs Q E hr h => ?_)
 ·obtain ⟨x, dx, lt, ll, y, z, t, rfl, _⟩ := h
  rfl
 ·obtain ⟨x, dx, lt, ll, y, z, t, rfl, hx, hy, sm, bad, k⟩ := h
  have hr1 : Room 1 _ := hr.mono (by decide)
  exact ⟨_, pss_cons (ps_if (pt_val (pe_cl CB hr1 rfl (pa_cons (pe_mlP MW TC.cl hr (pv 0) (pa_cons (pv 1) pa_nil)) (pa_cons (pv 2) pa_nil)))) pss_never pss_nil) pss_never, _, rfl, x, dx, _, rfl, hx, rfl, _, rfl, .ref x, y, t, rfl, hy, sm, bad, k⟩
theorem ok_cutL {f : Addr} {fd : FuncData} (D : Fun K "cut" "Taste.cut" m_Taste_cut f fd) (MW : Ml P w K mg base C "worth" 9 ["self", "piece"] (spWorth K C)) (CB : Cl P w K mg base "below" 1 ["one", "other"] (spBelow K)) (TC : TxtC K C) (cX : ExcC K mg "TooLittle" TL) : FnOk P w K mg base (CX1 P w TL) 10 f fd ["self", "piece", "share"] (spCutL K C TL) := by
 refine D.okX scCu (fun vs H Q E h => ?_) (fun cdv A outer s H vs Q E hr h => ?_)
 ·obtain ⟨x, lt, ll, a, xs, z, p, D, S, L, y, rfl, _⟩ := h
  rfl
 ·obtain ⟨x, lt, ll, a, xs, z, p, Dg, S, L, y, rfl, ta, ok, ha, pL, pc, hz, fy, lt', k⟩ := h
  have hr1 : Room 1 _ := hr.mono (by decide)
  obtain ⟨dx, hx⟩ := ta.ins
  refine ⟨_, pss_cons (ps_if (pt_val (pe_cl CB hr1 rfl (pa_cons (pe_ml MW TC.cl hr (pv 0) (pa_cons (pv 1) pa_nil)) (pa_cons (pv 2) pa_nil)))) (pss_one (ps_raise cX rfl)) pss_nil) pss_never, ?_⟩
  refine ⟨_, rfl, x, dx, _, rfl, hx, rfl, _, rfl, x, lt, ll, a, xs, p, Dg, S, L, rfl, ta, ok, ha, pL, pc, fun v1 H1 s1 d1 => ?_⟩
  have fW := (Wo_fit ok pc L.length).1
  rw [List.take_length] at fW
  exact ⟨_, rfl, v1, z, _, y, rfl, d1, hz.same s1, fW, fy, _, rfl, iteY lt' (k H1 s1)⟩
abbrev NCb : List Str := ["one", "other", "keeps", "ones", "others", "i", "j", "start", "spans", "point", "kept"]
theorem scComb : FnScope NCb ["one", "other", "keeps"] (defScope s_combined) := ⟨rfl, rfl, rfl, by decide +kernel, rfl, by decide +kernel, by decide +kernel⟩
theorem ok_combX {f : Addr} {fd : FuncData} (D : DefAt K mg "combined" s_combined ["one", "other", "keeps"] f fd) (CK : ClX P w K mg base BP "check_piece" 4 ["piece"] (spPieceT K BP)) : FnOk P w K mg base (CX1 P w BP) 5 f fd ["one", "other", "keeps"] (spCombX K BP) := by
 refine D.fn.okX scComb (fun vs H Q E h => ?_) (fun cdv A outer s H vs Q E hr h => ?_)
 ·obtain ⟨x, y, z, t, u, rfl, _⟩ := h
  rfl
 ·obtain ⟨x, y, z, t, u, rfl, hx, hy, st, su, bad, k⟩ := h
  refine ⟨_, pss_cons (ps_expr (pe_clX CK hr rfl (pa_cons (pv 0) pa_nil))) (pss_cons (ps_expr (pe_clX CK hr rfl (pa_cons (pv 1) pa_nil))) pss_never), ?_⟩
  refine ⟨_, rfl, x, t, rfl, hx, st, fun g => ?_, fun _ => k⟩
  refine ⟨_, rfl, y, u, rfl, hy, su, fun g2 => ?_, fun _ => k⟩
  rcases bad with z | z
  ·rw [g] at z; cases z
  ·rw [g2] at z; cases z
theorem scPT : FnScope ["piece"] ["piece"] (defScope s_piece_text) := ⟨rfl, rfl, rfl, by decide +kernel, rfl, by decide +kernel, by decide +kernel⟩
theorem ok_ptextX {f : Addr} {fd : FuncData} (D : DefAt K mg "piece_text" s_piece_text ["piece"] f fd) (CK : ClX P w K mg base BP "check_piece" 4 ["piece"] (spPieceT K BP)) : FnOk P w K mg base (CX1 P w BP) 5 f fd ["piece"] (spOneX K BP) := by
 refine D.fn.okX scPT (fun vs H Q E h => ?_) (fun cdv A outer s H vs Q E hr h => ?_)
 ·obtain ⟨y, t, rfl, _⟩ := h
  rfl
 ·obtain ⟨y, t, rfl, hy, sm, bad, k⟩ := h
  exact ⟨_, pss_cons (ps_expr (pe_clX CK hr rfl (pa_cons (pv 0) pa_nil))) pss_never, _, rfl, y, t, rfl, hy, sm, (fun z => by rw [bad] at z; cases z), fun _ => k⟩
theorem ok_tastesT {f : Addr} {fd : FuncData} (D : DefAt K mg "check_tastes" s_check_tastes ["tastes"] f fd) (T : Txt K mg aL aR) (IC : IsC K C) (mgC : mg "Taste" = some (.ref C)) (cX : ExcC K mg "BadTakers" BK) : FnOk P w K mg base (CX1 P w BK) 1 f fd ["tastes"] (spTastesT K C BK) := by
 refine D.fn.okX scTastes (fun vs H Q E h => ?_) (fun cdv A outer s H vs Q E hr h => ?_)
 ·obtain ⟨x, n, b, rfl, _⟩ := h
  rfl
 ·obtain ⟨x, n, b, rfl, hx, kQ, kE⟩ := h
  refine ⟨_, pss_cons (ps_if (pt_not (pt_val (pe_isi (pv 0) rfl T.isi rfl T.list PyProof.Rows.boot_list))) (pss_one (ps_raise cX rfl)) pss_nil)
   (pss_one (ps_for PassesOwn.leaving rfl (pi_list (pv 0)) (pg_name (i := 1) scTastes.nd rfl (Or.inl rfl))
    (pss_one (ps_if (pt_not (pt_val (pe_callB call_isM (by rfl) T.isi PyProof.Rows.boot_isinstance (pa_cons (pv 1) (pa_cons (pe_glob (v := .ref C) rfl mgC rfl) pa_nil))))) (pss_one (ps_raise cX rfl)) pss_nil)))), ?_⟩
  rcases hx with ⟨rfl, Ty, ty, kt⟩ | ⟨a, xs, bs, rfl, ha, pb, ln, eb⟩
  ·exact ⟨_, rfl, _, _, ty, kt, _, rfl, iteT (kE rfl)⟩
  ·refine ⟨_, rfl, _, _, .sqL ha, kit_list _, _, rfl, iteF ?_⟩
   have lb := pb.length
   refine ⟨_, rfl, a, rfl, ⟨_, ha⟩, ?_⟩
   refine for_list (K := K) (a := a) (xs := xs) (fun i σ H' => H' = H ∧ (bs.drop i).all id = b ∧ ∃ x1, σ = [some (.ref a), x1]) ⟨rfl, eb, _, rfl⟩ (fun i σ H' _ h => by rw [h.1]; exact ha) ?_ ?_
   ·rintro i x σ H' hx ⟨rfl, hb, x1, rfl⟩
    obtain ⟨c, hc, hs⟩ := Paired.get1 pb i x hx
    have dr : bs.drop i = c :: bs.drop (i + 1) := by
     obtain ⟨il, e⟩ := List.getElem?_eq_some_iff.mp hc
     rw [List.drop_eq_getElem_cons il, e]
    rw [dr, List.all_cons] at hb
    rcases hs with ⟨rfl, t, dx, fs, rfl, h1⟩ | ⟨rfl, Ty, ty, kt⟩
    ·rw [show (id true && (List.drop (i + 1) bs).all id) = (List.drop (i + 1) bs).all id from Bool.true_and _] at hb
     exact ⟨_, rfl, _, C, rfl, .inl ⟨t, dx, fs, rfl, h1, IC, _, rfl, iteF ⟨rfl, hb, _, rfl⟩⟩⟩
    ·rw [show (id false && (List.drop (i + 1) bs).all id) = false from Bool.false_and _] at hb
     exact ⟨_, rfl, _, C, rfl, .inr ⟨Ty, false, ty, kt, _, rfl, iteT (kE hb.symm)⟩⟩
   ·rintro σ H' ⟨rfl, hb, x1, rfl⟩
    rw [List.drop_of_length_le (by omega)] at hb
    exact kQ hb.symm
theorem ok_takersX {f : Addr} {fd : FuncData} (D : DefAt K mg "check_takers" s_check_takers ["tastes", "fewest", "most"] f fd) (CT : ClX P w K mg base BK "check_tastes" 1 ["tastes"] (spTastesT K C BK)) (T : Txt K mg aL aR) (cX : ExcC K mg "BadTakers" BK) : FnOk P w K mg base (CX1 P w BK) 2 f fd ["tastes", "fewest", "most"] (spTakersX K C BK) := by
 refine D.fn.okX scTakers (fun vs H Q E h => ?_) (fun cdv A outer s H vs Q E hr h => ?_)
 ·obtain ⟨x, n, b, i, j, rfl, _⟩ := h
  rfl
 ·obtain ⟨x, n, b, i, j, rfl, hx, bad, k⟩ := h
  refine ⟨_, pss_cons (ps_expr (pe_clX CT hr rfl (pa_cons (pv 0) pa_nil)))
   (pss_one (ps_if (PW.pt (pw_or (pt_cmpR op_lt (pe_callB call_len_seq (by rfl) T.len PySem.boot_len (pa_cons (pv 0) pa_nil)) (pv 1) (nomark _)) (pw_or1 (pt_cmpR op_gt (pe_callB call_len_seq (by rfl) T.len PySem.boot_len (pa_cons (pv 0) pa_nil)) (pv 2) (nomark _))))) (pss_one (ps_raise cX rfl)) pss_nil)), ?_⟩
  refine ⟨_, rfl, x, n, b, rfl, hx, fun g => ?_, fun _ => k⟩
  rcases hx with ⟨rfl, _⟩ | ⟨a, xs, bs, rfl, ha, pb, ln, eb⟩
  ·cases g
  ·refine ⟨_, rfl, a, _, rfl, .inl ha, _, rfl, _, _, rfl, rfl, _, rfl, ?_⟩
   refine ite2 (fun _ => k) (fun c => ?_)
   refine ⟨_, rfl, a, _, rfl, .inl ha, _, rfl, _, _, rfl, rfl, _, rfl, ?_⟩
   refine iteY ?_ k
   have c' : ¬ (xs.length : Int) < i := fun z => c (decide_eq_true z)
   rcases bad with z | z | z
   ·rw [g] at z; cases z
   ·omega
   ·omega
end
end FQ
namespace FQ
open PySem L2 FK
section
variable {P : Program} {w : World} {K : PySem.W.Frag} {mg : Str → Option Value} {base : Heap} {aL aR C BP BK : Addr}
theorem scChooseX : FnScope ["self", "tastes", "middle", "left", "right"] ["self", "tastes"] (defScope m_Choose_deal) := ⟨rfl, rfl, rfl, by decide +kernel, rfl, by decide +kernel, by decide +kernel⟩
theorem ok_chooseX {f : Addr} {fd : FuncData} (D : Fun K "deal" "Choose.deal" m_Choose_deal f fd) (CT : ClX P w K mg base BK "check_takers" 2 ["tastes", "fewest", "most"] (spTakersX K C BK)) : FnOk P w K mg base (CX1 P w BK) 3 f fd ["self", "tastes"] (spDealX K C BK 2 2) := by
 refine D.okX scChooseX (fun vs H Q E h => ?_) (fun cdv A outer s H vs Q E hr h => ?_)
 ·obtain ⟨se, x, n, b, rfl, _⟩ := h
  rfl
 ·obtain ⟨se, x, n, b, rfl, hx, bad, k⟩ := h
  exact ⟨_, pss_cons (ps_expr (pe_clX CT hr rfl (pa_cons (pv 1) (pa_cons pe_int (pa_cons pe_int pa_nil))))) pss_never, _, rfl, x, n, b, 2, 2, rfl, hx, bad, k⟩
theorem scLastX : FnScope ["self", "tastes", "spans"] ["self", "tastes"] (defScope m_Last_deal) := ⟨rfl, rfl, rfl, by decide +kernel, rfl, by decide +kernel, by decide +kernel⟩
theorem ok_lastX {f : Addr} {fd : FuncData} (D : Fun K "deal" "Last.deal" m_Last_deal f fd) (CT : ClX P w K mg base BK "check_takers" 2 ["tastes", "fewest", "most"] (spTakersX K C BK)) : FnOk P w K mg base (CX1 P w BK) 3 f fd ["self", "tastes"] (spDealX K C BK 1 8) := by
 refine D.okX scLastX (fun vs H Q E h => ?_) (fun cdv A outer s H vs Q E hr h => ?_)
 ·obtain ⟨se, x, n, b, rfl, _⟩ := h
  rfl
 ·obtain ⟨se, x, n, b, rfl, hx, bad, k⟩ := h
  exact ⟨_, pss_cons (ps_expr (pe_clX CT hr rfl (pa_cons (pv 1) (pa_cons pe_int (pa_cons pe_int pa_nil))))) pss_never, _, rfl, x, n, b, 1, 8, rfl, hx, bad, k⟩
theorem scHalvesX : FnScope ["self", "tastes", "spans"] ["self", "tastes"] (defScope m_Halves_deal) := ⟨rfl, rfl, rfl, by decide +kernel, rfl, by decide +kernel, by decide +kernel⟩
theorem ok_halvesX {f : Addr} {fd : FuncData} (D : Fun K "deal" "Halves.deal" m_Halves_deal f fd) (CT : ClX P w K mg base BK "check_takers" 2 ["tastes", "fewest", "most"] (spTakersX K C BK)) : FnOk P w K mg base (CX1 P w BK) 3 f fd ["self", "tastes"] (spDealX K C BK 1 8) := by
 refine D.okX scHalvesX (fun vs H Q E h => ?_) (fun cdv A outer s H vs Q E hr h => ?_)
 ·obtain ⟨se, x, n, b, rfl, _⟩ := h
  rfl
 ·obtain ⟨se, x, n, b, rfl, hx, bad, k⟩ := h
  exact ⟨_, pss_cons (ps_expr (pe_clX CT hr rfl (pa_cons (pv 1) (pa_cons pe_int (pa_cons pe_int pa_nil))))) pss_never, _, rfl, x, n, b, 1, 8, rfl, hx, bad, k⟩
theorem scThreeX : FnScope ["self", "tastes"] ["self", "tastes"] (defScope m_Three_deal) := ⟨rfl, rfl, rfl, by decide +kernel, rfl, by decide +kernel, by decide +kernel⟩
theorem ok_threeX {f : Addr} {fd : FuncData} (D : Fun K "deal" "Three.deal" m_Three_deal f fd) (CT : ClX P w K mg base BK "check_takers" 2 ["tastes", "fewest", "most"] (spTakersX K C BK)) : FnOk P w K mg base (CX1 P w BK) 3 f fd ["self", "tastes"] (spDealX K C BK 3 3) := by
 refine D.okX scThreeX (fun vs H Q E h => ?_) (fun cdv A outer s H vs Q E hr h => ?_)
 ·obtain ⟨se, x, n, b, rfl, _⟩ := h
  rfl
 ·obtain ⟨se, x, n, b, rfl, hx, bad, k⟩ := h
  exact ⟨_, pss_cons (ps_expr (pe_clX CT hr rfl (pa_cons (pv 1) (pa_cons pe_int (pa_cons pe_int pa_nil))))) pss_never, _, rfl, x, n, b, 3, 3, rfl, hx, bad, k⟩
theorem scEvenX : FnScope ["self", "tastes", "start", "piece"] ["self", "tastes"] (defScope m_Even_deal) := ⟨rfl, rfl, rfl, by decide +kernel, rfl, by decide +kernel, by decide +kernel⟩
theorem ok_evenX {f : Addr} {fd : FuncData} (D : Fun K "deal" "Even.deal" m_Even_deal f fd) (CT : ClX P w K mg base BK "check_takers" 2 ["tastes", "fewest", "most"] (spTakersX K C BK)) : FnOk P w K mg base (CX1 P w BK) 3 f fd ["self", "tastes"] (spDealX K C BK 2 2) := by
 refine D.okX scEvenX (fun vs H Q E h => ?_) (fun cdv A outer s H vs Q E hr h => ?_)
 ·obtain ⟨se, x, n, b, rfl, _⟩ := h
  rfl
 ·obtain ⟨se, x, n, b, rfl, hx, bad, k⟩ := h
  exact ⟨_, pss_cons (ps_expr (pe_clX CT hr rfl (pa_cons (pv 1) (pa_cons pe_int (pa_cons pe_int pa_nil))))) pss_never, _, rfl, x, n, b, 2, 2, rfl, hx, bad, k⟩
theorem scAlikeX : FnScope ["self", "tastes", "share", "pieces", "start", "taste", "stop"] ["self", "tastes"] (defScope m_Alike_deal) := ⟨rfl, rfl, rfl, by decide +kernel, rfl, by decide +kernel, by decide +kernel⟩
theorem ok_alikeX {f : Addr} {fd : FuncData} (D : Fun K "deal" "Alike.deal" m_Alike_deal f fd) (CT : ClX P w K mg base BK "check_takers" 2 ["tastes", "fewest", "most"] (spTakersX K C BK)) : FnOk P w K mg base (CX1 P w BK) 3 f fd ["self", "tastes"] (spDealX K C BK 1 6) := by
 refine D.okX scAlikeX (fun vs H Q E h => ?_) (fun cdv A outer s H vs Q E hr h => ?_)
 ·obtain ⟨se, x, n, b, rfl, _⟩ := h
  rfl
 ·obtain ⟨se, x, n, b, rfl, hx, bad, k⟩ := h
  exact ⟨_, pss_cons (ps_expr (pe_clX CT hr rfl (pa_cons (pv 1) (pa_cons pe_int (pa_cons pe_int pa_nil))))) pss_never, _, rfl, x, n, b, 1, 6, rfl, hx, bad, k⟩
def spWayX (BK : Addr) : Sp := fun vs H _ E => ∃ (se x : V), vs = [se, x] ∧ E (.ref BK) none H
theorem scWayX : FnScope ["self", "tastes"] ["self", "tastes"] (defScope m_Way_deal) := ⟨rfl, rfl, rfl, by decide +kernel, rfl, by decide +kernel, by decide +kernel⟩
theorem ok_wayX {f : Addr} {fd : FuncData} (D : Fun K "deal" "Way.deal" m_Way_deal f fd) (cX : ExcC K mg "BadTakers" BK) : FnOk P w K mg base (CX1 P w BK) 1 f fd ["self", "tastes"] (spWayX BK) := by
 refine D.okX (k := 0) scWayX (fun vs H Q E h => ?_) (fun cdv A outer s H vs Q E hr h => ?_)
 ·obtain ⟨se, x, rfl, _⟩ := h
  rfl
 ·obtain ⟨se, x, rfl, k⟩ := h
  exact ⟨_, pss_one (ps_raise cX rfl), k⟩
def spDealsX (K : PySem.W.Frag) (BP : Addr) : Sp := fun vs H _ E => (∃ (x : V) (t : Tr), vs = [x] ∧ Rd K H t x ∧ isLs t = false ∧ E (.ref BP) none H) ∨
 ∃ (a : Addr) (gs : List Addr) (y : V) (u : Tr), vs = [.ref a] ∧ SqL K H a (gs.map V.ref ++ [y]) ∧ gs.length ≤ 2 ∧ (∀ g ∈ gs, ∃ zs t, H g = some (.lst zs) ∧ zs.length ≤ 8 ∧ Rd K H t (.ref g) ∧ Smt t ∧ pieceOk t = true) ∧ Rd K H u y ∧ Smt u ∧ pieceOk u = false ∧ ∀ H', Same H H' → E (.ref BP) none H'
abbrev NDl : List Str := ["pieces", "spans", "piece", "ends", "span", "point", "chained"]
theorem scDeals : FnScope NDl ["pieces"] (defScope s_deals) := ⟨rfl, rfl, rfl, by decide +kernel, rfl, by decide +kernel, by decide +kernel⟩
theorem ok_dealsX {f : Addr} {fd : FuncData} (D : DefAt K mg "deals" s_deals ["pieces"] f fd) (CK : ClX P w K mg base BP "check_piece" 4 ["piece"] (spPieceT K BP)) (T : Txt K mg aL aR) (cX : ExcC K mg "BadPiece" BP) : FnOk P w K mg base (CX1 P w BP) 5 f fd ["pieces"] (spDealsX K BP) := by
 refine D.fn.okX scDeals (fun vs H Q E h => ?_) (fun cdv A outer s H vs Q E hr h => ?_)
 ·rcases h with ⟨x, t, rfl, _⟩ | ⟨a, gs, y, u, rfl, _⟩ <;> rfl
 ·refine ⟨_, pss_cons (ps_if (pt_not (pt_val (pe_isi (pv 0) rfl T.isi rfl T.list PyProof.Rows.boot_list))) (pss_one (ps_raise cX rfl)) pss_nil)
   (pss_cons (ps_set (i := 1) scDeals.nd rfl (Or.inl rfl) (pe_lst pa_nil))
   (pss_cons (ps_for PassesOwn.leaving rfl (pi_list (pv 0)) (pg_name (i := 2) scDeals.nd rfl (Or.inl rfl))
    (pss_cons (ps_expr (pe_clX CK hr rfl (pa_cons (pv 2) pa_nil)))
    (pss_one (ps_expr (pe_bm PySem.F.plainAttrs_list PySem.F.slot_list_extend PySem.F.type_list_extend mt_extend (pv 1) (pa_cons (pv 2) pa_nil)))))) pss_never)), ?_⟩
  rcases h with ⟨x, t, rfl, hx, nl, k⟩ | ⟨a, gs, y, u, rfl, ha, g2, hg, hy, su, bad, k⟩
  ·refine ⟨_, rfl, _, _, tyo hx, kitLs K t, _, rfl, ?_⟩
   rw [nl]
   exact iteT k
  ·refine ⟨_, rfl, _, _, .sqL ha, kit_list _, _, rfl, iteF ?_⟩
   refine ⟨Nat.zero_le _, fun r hr0 => ?_⟩
   have s1 := Same.upd (o := .lst []) hr0
   refine ⟨_, rfl, a, rfl, ⟨_, s1.seq ha⟩, ?_⟩
   refine for_list (K := K) (a := a) (xs := gs.map V.ref ++ [y]) (fun i σ H' => i ≤ gs.length ∧ Same H H' ∧ ∃ (ws : List V) (x2 : Option V), σ = [some (.ref a), some (.ref r), x2, none, none, none, none] ∧ H' r = some (.lst ws) ∧ ws.length ≤ 8 * i)
    ⟨Nat.zero_le _, s1, [], _, rfl, upd_same, Nat.le_refl _⟩ (fun i σ H' _ h => h.2.1.seq ha) ?_ ?_
   ·rintro i x σ H' hx ⟨il, u1, ws, x2, rfl, hw, lw⟩
    by_cases c : i < gs.length
    ·rw [List.getElem?_append_left (by rw [List.length_map]; exact c), List.getElem?_map, List.getElem?_eq_getElem c] at hx
     cases (show some (V.ref gs[i]) = some x from hx)
     obtain ⟨zs, t, h1, h2, h3, h4, h5⟩ := hg gs[i] (List.getElem_mem c)
     refine ⟨_, rfl, _, t, rfl, rd_same u1 _ _ h3, h4, fun _ => ?_, (fun z => by rw [h5] at z; cases z)⟩
     have big : 1000 ≤ sizeLine := by decide
     refine ⟨_, rfl, .inl ⟨rfl, _, .of hw⟩, _, rfl, r, gs[i], ws, zs, rfl, rfl, hw, u1 _ _ h1, by omega, c, u1.updN hr0, _, _, rfl, upd_same, ?_⟩
     rw [List.length_append]
     omega
    ·have e : i = gs.length := by omega
     subst e
     rw [List.getElem?_append_right (by rw [List.length_map]; exact Nat.le_refl _), List.length_map, Nat.sub_self] at hx
     cases (show some y = some x from hx)
     exact ⟨_, rfl, _, u, rfl, rd_same u1 _ _ hy, su, (fun z => by rw [bad] at z; cases z), fun _ => k H' u1⟩
   ·rintro σ H' ⟨il, _⟩
    rw [List.length_append, List.length_map] at il
    exact absurd il (by simp)
def spEnvyK (K : PySem.W.Frag) (C BK : Addr) : Sp := fun vs H _ E => ∃ (x y : V) (n : Nat) (b : Bool), vs = [x, y] ∧ TsL K C H y n b ∧ (b = false ∨ (∃ T, TyO K H x (.type T) ∧ PySem.W.kitOne K (.type T) (.type "list") = some false) ∨ ∃ a xs, x = .ref a ∧ SqL K H a xs ∧ xs.length ≠ n) ∧ E (.ref BK) none H
abbrev NEy : List Str := ["pieces", "tastes", "found", "taker", "taste", "worths", "other", "worth"]
theorem scEnvy : FnScope NEy ["pieces", "tastes"] (defScope s_envy) := ⟨rfl, rfl, rfl, by decide +kernel, rfl, by decide +kernel, by decide +kernel⟩
theorem ok_envyK {f : Addr} {fd : FuncData} (D : DefAt K mg "envy" s_envy ["pieces", "tastes"] f fd) (CT : ClX P w K mg base BK "check_tastes" 1 ["tastes"] (spTastesT K C BK)) (T : Txt K mg aL aR) (cX : ExcC K mg "BadTakers" BK) : FnOk P w K mg base (CX1 P w BK) 2 f fd ["pieces", "tastes"] (spEnvyK K C BK) := by
 refine D.fn.okX scEnvy (fun vs H Q E h => ?_) (fun cdv A outer s H vs Q E hr h => ?_)
 ·obtain ⟨x, y, n, b, rfl, _⟩ := h
  rfl
 ·obtain ⟨x, y, n, b, rfl, hy, bad, k⟩ := h
  refine ⟨_, pss_cons (ps_expr (pe_clX CT hr rfl (pa_cons (pv 1) pa_nil)))
   (pss_cons (ps_if (PW.pt (pw_or (pt_not (pt_val (pe_isi (pv 0) rfl T.isi rfl T.list PyProof.Rows.boot_list))) (pw_or1 (pt_cmpR op_ne (pe_callB call_len_seq (by rfl) T.len PySem.boot_len (pa_cons (pv 0) pa_nil)) (pe_callB call_len_seq (by rfl) T.len PySem.boot_len (pa_cons (pv 1) pa_nil)) (nomark _))))) (pss_one (ps_raise cX rfl)) pss_nil) pss_never), ?_⟩
  refine ⟨_, rfl, y, n, b, rfl, hy, fun g => ?_, fun _ => k⟩
  rcases bad with z | ⟨Ty, ty, kt⟩ | ⟨a, xs, rfl, ha, ln⟩
  ·rw [g] at z; cases z
  ·exact ⟨_, rfl, _, _, ty, kt, _, rfl, iteT k⟩
  ·refine ⟨_, rfl, _, _, .sqL ha, kit_list _, _, rfl, iteF ?_⟩
   rcases hy with ⟨z, _⟩ | ⟨a2, ys, bs, rfl, ha2, pb, ln2, eb⟩
   ·rw [g] at z; cases z
   ·exact ⟨_, rfl, a, _, rfl, .inl ha, _, rfl, a2, _, rfl, .inl ha2, rfl, _, rfl, iteNN (fun z => ln (by have := V.int.inj z; omega)) k⟩
end
end FQ
namespace L2
open PySem PySem.Spec PyProof.Rows
theorem Fun.okXC {P : Program} {w : World} {K : PySem.W.Frag} {mg : Str → Option Value} {base : Heap} {C : Addr} {x qual : Str} {st : Stmt} {f c : Addr} {fd : FuncData} {N ps : List Str} {k : Nat} {sp : Sp} (F : Fun K x qual st f fd) (hc : fd.code = .ref c) (S : FnScope N ps (defScope st)) (len : ∀ vs H Q E, sp vs H Q E → vs.length = ps.length)
  (hb : ∀ (A : Around) (outer : List Env) (s : Shared) (H : Hp) (vs : List V) (Q : VK) (E : XK), Room k (A.deeper (envOfC qual (defScope st) s.heap.objs.size f (.ref c))) → sp vs H Q E →
   ∃ t, PSs (cxOf (CX1 P w C) P w K mg base N qual (defScope st) f (.ref c) A outer s H E) (defBody st) t ∧ t { nx := fun _ H' => Q .non H', rt := Q } (start N vs) H) : FnOk P w K mg base (CX1 P w C) (k + 1) f fd ps sp := by
 obtain ⟨oc, od, kV, doc, pm, an, cdv, ct, osl, rfl, lk, hcd⟩ := F.ex
 cases (show cdv = .ref c from hc)
 exact fn_of lk hcd S len fun A outer s H vs Q E hr hsp => hb A outer s H vs Q E hr hsp
end L2
namespace FQ
open PySem L2 FK
def lamPos2 (st : Stmt) : Pos := match defBody st with
 | [.Return (some (.Call _ [_, _, .Lambda _ _ _ p] _ _)) _] => p
 | _ => ⟨0, 0, 0, 0⟩
def lq (x : Str) : Str := (x ++ ".<locals>.") ++ "<lambda>"
def spPairX (K : PySem.W.Frag) (BP Pt : Addr) (pos : Pos) (qual : Str) : Sp := fun vs H _ E => ∃ (x y : V) (t u : Tr), vs = [x, y] ∧ Rd K H t x ∧ Rd K H u y ∧ Smt t ∧ Smt u ∧ (pieceOk t = false ∨ pieceOk u = false) ∧ Ready Pt pos qual H ∧ ∀ H', But Pt H H' → Ready Pt pos qual H' → E (.ref BP) none H'
theorem lam_new {H : Hp} {P c f : Addr} {ps ps' : Array Value} {o1 o2 : HO} (hP : H P = some (.tbl ps)) (hc : H c = none) (hf : H f = none) : But P H (upd (upd (upd H P (.tbl ps')) c o1) f o2) := fun b o e n => by
 rw [upd_ne (ne_of_none e hf), upd_ne (ne_of_none e hc), upd_ne n]
 exact e
theorem but_sqT {K : PySem.W.Frag} {P : Addr} {H H' : Hp} {ps : Array Value} (h : But P H H') (hP : H P = some (.tbl ps)) {a : Addr} {xs : List V} (q : SqT K H a xs) : SqT K H' a xs := by
 rcases q with (z | ⟨o, z⟩) | z
 ·exact .inl (.inl (h _ _ z (ne_of z hP fun z => nomatch z)))
 ·exact .inl (.inr ⟨o, h _ _ z (ne_of z hP fun z => nomatch z)⟩)
 ·exact .inr z
theorem but_sqL {K : PySem.W.Frag} {P : Addr} {H H' : Hp} {ps : Array Value} (h : But P H H') (hP : H P = some (.tbl ps)) {a : Addr} {xs : List V} (q : SqL K H a xs) : SqL K H' a xs := by
 rcases q with (z | ⟨o, z⟩) | z
 ·exact .inl (.inl (h _ _ z (ne_of z hP fun z => nomatch z)))
 ·exact .inl (.inr ⟨o, h _ _ z (ne_of z hP fun z => nomatch z)⟩)
 ·exact .inr z
mutual
theorem rd_map {K : PySem.W.Frag} {H H' : Hp} (s : ∀ a xs, SqT K H a xs → SqT K H' a xs) (s' : ∀ a xs, SqL K H a xs → SqL K H' a xs) : ∀ (t : Tr) (v : V), Rd K H t v → Rd K H' t v
 | .non, _, h => h
 | .bl _, _, h => h
 | .int _, _, h => h
 | .str _, _, h => h
 | .tup l, _, ⟨p, xs, e, q, r⟩ => ⟨p, xs, e, s _ _ q, rdL_map s s' l xs r⟩
 | .lst l, _, ⟨p, xs, e, q, r⟩ => ⟨p, xs, e, s' _ _ q, rdL_map s s' l xs r⟩
theorem rdL_map {K : PySem.W.Frag} {H H' : Hp} (s : ∀ a xs, SqT K H a xs → SqT K H' a xs) (s' : ∀ a xs, SqL K H a xs → SqL K H' a xs) : ∀ (l : List Tr) (xs : List V), RdL K H l xs → RdL K H' l xs
 | [], _, h => h
 | t :: l, _, ⟨v, r, e, h1, h2⟩ => ⟨v, r, e, rd_map s s' t v h1, rdL_map s s' l r h2⟩
end
section
variable {P : Program} {w : World} {K : PySem.W.Frag} {mg : Str → Option Value} {base : Heap} {BP : Addr}
theorem scL_joined : FnScope ["one", "other"] ["one", "other"] (defScope s_joined) := ⟨rfl, rfl, rfl, by decide +kernel, rfl, by decide +kernel, by decide +kernel⟩
theorem ok_joinedX {f c Pt : Addr} {fd : FuncData} (D : DefAt K mg "joined" s_joined ["one", "other"] f fd) (hcd : fd.code = .ref c) (C : PySem.W.CodeHd base c Pt) (bm : BM mg base) (CB : ClX P w K mg base BP "combined" 5 ["one", "other", "keeps"] (spCombX K BP)) :
  FnOk P w K mg base (CX1 P w BP) 6 f fd ["one", "other"] (spPairX K BP Pt (lamPos2 s_joined) (lq "joined")) := by
 refine D.fn.okXC hcd scL_joined (fun vs H Q E h => ?_) (fun A outer s H vs Q E hr h => ?_)
 ·obtain ⟨x, y, t, u, rfl, _⟩ := h
  rfl
 ·obtain ⟨x, y, t, u, rfl, hx, hy, st, su, bad, ⟨ps, hP, ht, hc⟩, k⟩ := h
  refine ⟨_, pss_one (ps_ret (pe_clX CB hr rfl (pa_cons (pv 0) (pa_cons (pv 1) (pa_cons (pe_lam (c := c) (P := Pt) rfl C bm rfl) pa_nil))))), ?_⟩
  refine ⟨_, rfl, _, rfl, ps, hP, ht, ?_⟩
  rcases hc with hc | ⟨c', hc1, hc2⟩
  ·refine .inl ⟨hc, fun c' f' pm ctv hc' hf' hne => ?_⟩
   have bt : ∀ o2, But Pt H (upd (upd (upd H Pt (.tbl (ps ++ #[rawInt (lamPos2 s_joined).line, rawInt (lamPos2 s_joined).col, .ref c']))) c' (CodeO c' (lq "joined"))) f' o2) := fun _ => lam_new hP hc' hf'
   have nPc : Pt ≠ c' := ne_of_none hP hc'
   have nPf : Pt ≠ f' := ne_of_none hP hf'
   refine ⟨x, y, .ref f', t, u, rfl, rd_map (fun _ _ => but_sqT (bt _) hP) (fun _ _ => but_sqL (bt _) hP) _ _ hx, rd_map (fun _ _ => but_sqT (bt _) hP) (fun _ _ => but_sqL (bt _) hP) _ _ hy, st, su, bad, k _ (bt _) ⟨ps ++ #[rawInt (lamPos2 s_joined).line, rawInt (lamPos2 s_joined).col, .ref c'], ?_, ?_, .inr ⟨c', ?_, ?_⟩⟩⟩
   ·rw [upd_ne nPf, upd_ne nPc]
    exact upd_same
   ·rw [Array.toList_append]
    exact triples_snoc _ ht
   ·rw [Array.toList_append]
    exact codeAmong_snoc _ ht hc
   ·rw [upd_ne (Ne.symm hne)]
    exact upd_same
  ·refine .inr ⟨c', hc1, hc2, fun f' pm ctv hf' => ?_⟩
   have s0 : ∀ o2, Same H (upd H f' o2) := fun _ => Same.upd hf'
   exact ⟨x, y, .ref f', t, u, rfl, rd_same (s0 _) _ _ hx, rd_same (s0 _) _ _ hy, st, su, bad, k _ (fun b o e _ => s0 _ _ _ e) ⟨ps, s0 _ _ _ hP, ht, .inr ⟨c', hc1, s0 _ _ _ hc2⟩⟩⟩
theorem scL_shared : FnScope ["one", "other"] ["one", "other"] (defScope s_shared) := ⟨rfl, rfl, rfl, by decide +kernel, rfl, by decide +kernel, by decide +kernel⟩
theorem ok_sharedX {f c Pt : Addr} {fd : FuncData} (D : DefAt K mg "shared" s_shared ["one", "other"] f fd) (hcd : fd.code = .ref c) (C : PySem.W.CodeHd base c Pt) (bm : BM mg base) (CB : ClX P w K mg base BP "combined" 5 ["one", "other", "keeps"] (spCombX K BP)) :
  FnOk P w K mg base (CX1 P w BP) 6 f fd ["one", "other"] (spPairX K BP Pt (lamPos2 s_shared) (lq "shared")) := by
 refine D.fn.okXC hcd scL_shared (fun vs H Q E h => ?_) (fun A outer s H vs Q E hr h => ?_)
 ·obtain ⟨x, y, t, u, rfl, _⟩ := h
  rfl
 ·obtain ⟨x, y, t, u, rfl, hx, hy, st, su, bad, ⟨ps, hP, ht, hc⟩, k⟩ := h
  refine ⟨_, pss_one (ps_ret (pe_clX CB hr rfl (pa_cons (pv 0) (pa_cons (pv 1) (pa_cons (pe_lam (c := c) (P := Pt) rfl C bm rfl) pa_nil))))), ?_⟩
  refine ⟨_, rfl, _, rfl, ps, hP, ht, ?_⟩
  rcases hc with hc | ⟨c', hc1, hc2⟩
  ·refine .inl ⟨hc, fun c' f' pm ctv hc' hf' hne => ?_⟩
   have bt : ∀ o2, But Pt H (upd (upd (upd H Pt (.tbl (ps ++ #[rawInt (lamPos2 s_shared).line, rawInt (lamPos2 s_shared).col, .ref c']))) c' (CodeO c' (lq "shared"))) f' o2) := fun _ => lam_new hP hc' hf'
   have nPc : Pt ≠ c' := ne_of_none hP hc'
   have nPf : Pt ≠ f' := ne_of_none hP hf'
   refine ⟨x, y, .ref f', t, u, rfl, rd_map (fun _ _ => but_sqT (bt _) hP) (fun _ _ => but_sqL (bt _) hP) _ _ hx, rd_map (fun _ _ => but_sqT (bt _) hP) (fun _ _ => but_sqL (bt _) hP) _ _ hy, st, su, bad, k _ (bt _) ⟨ps ++ #[rawInt (lamPos2 s_shared).line, rawInt (lamPos2 s_shared).col, .ref c'], ?_, ?_, .inr ⟨c', ?_, ?_⟩⟩⟩
   ·rw [upd_ne nPf, upd_ne nPc]
    exact upd_same
   ·rw [Array.toList_append]
    exact triples_snoc _ ht
   ·rw [Array.toList_append]
    exact codeAmong_snoc _ ht hc
   ·rw [upd_ne (Ne.symm hne)]
    exact upd_same
  ·refine .inr ⟨c', hc1, hc2, fun f' pm ctv hf' => ?_⟩
   have s0 : ∀ o2, Same H (upd H f' o2) := fun _ => Same.upd hf'
   exact ⟨x, y, .ref f', t, u, rfl, rd_same (s0 _) _ _ hx, rd_same (s0 _) _ _ hy, st, su, bad, k _ (fun b o e _ => s0 _ _ _ e) ⟨ps, s0 _ _ _ hP, ht, .inr ⟨c', hc1, s0 _ _ _ hc2⟩⟩⟩
theorem scL_without : FnScope ["one", "other"] ["one", "other"] (defScope s_without) := ⟨rfl, rfl, rfl, by decide +kernel, rfl, by decide +kernel, by decide +kernel⟩
theorem ok_withoutX {f c Pt : Addr} {fd : FuncData} (D : DefAt K mg "without" s_without ["one", "other"] f fd) (hcd : fd.code = .ref c) (C : PySem.W.CodeHd base c Pt) (bm : BM mg base) (CB : ClX P w K mg base BP "combined" 5 ["one", "other", "keeps"] (spCombX K BP)) :
  FnOk P w K mg base (CX1 P w BP) 6 f fd ["one", "other"] (spPairX K BP Pt (lamPos2 s_without) (lq "without")) := by
 refine D.fn.okXC hcd scL_without (fun vs H Q E h => ?_) (fun A outer s H vs Q E hr h => ?_)
 ·obtain ⟨x, y, t, u, rfl, _⟩ := h
  rfl
 ·obtain ⟨x, y, t, u, rfl, hx, hy, st, su, bad, ⟨ps, hP, ht, hc⟩, k⟩ := h
  refine ⟨_, pss_one (ps_ret (pe_clX CB hr rfl (pa_cons (pv 0) (pa_cons (pv 1) (pa_cons (pe_lam (c := c) (P := Pt) rfl C bm rfl) pa_nil))))), ?_⟩
  refine ⟨_, rfl, _, rfl, ps, hP, ht, ?_⟩
  rcases hc with hc | ⟨c', hc1, hc2⟩
  ·refine .inl ⟨hc, fun c' f' pm ctv hc' hf' hne => ?_⟩
   have bt : ∀ o2, But Pt H (upd (upd (upd H Pt (.tbl (ps ++ #[rawInt (lamPos2 s_without).line, rawInt (lamPos2 s_without).col, .ref c']))) c' (CodeO c' (lq "without"))) f' o2) := fun _ => lam_new hP hc' hf'
   have nPc : Pt ≠ c' := ne_of_none hP hc'
   have nPf : Pt ≠ f' := ne_of_none hP hf'
   refine ⟨x, y, .ref f', t, u, rfl, rd_map (fun _ _ => but_sqT (bt _) hP) (fun _ _ => but_sqL (bt _) hP) _ _ hx, rd_map (fun _ _ => but_sqT (bt _) hP) (fun _ _ => but_sqL (bt _) hP) _ _ hy, st, su, bad, k _ (bt _) ⟨ps ++ #[rawInt (lamPos2 s_without).line, rawInt (lamPos2 s_without).col, .ref c'], ?_, ?_, .inr ⟨c', ?_, ?_⟩⟩⟩
   ·rw [upd_ne nPf, upd_ne nPc]
    exact upd_same
   ·rw [Array.toList_append]
    exact triples_snoc _ ht
   ·rw [Array.toList_append]
    exact codeAmong_snoc _ ht hc
   ·rw [upd_ne (Ne.symm hne)]
    exact upd_same
  ·refine .inr ⟨c', hc1, hc2, fun f' pm ctv hf' => ?_⟩
   have s0 : ∀ o2, Same H (upd H f' o2) := fun _ => Same.upd hf'
   exact ⟨x, y, .ref f', t, u, rfl, rd_same (s0 _) _ _ hx, rd_same (s0 _) _ _ hy, st, su, bad, k _ (fun b o e _ => s0 _ _ _ e) ⟨ps, s0 _ _ _ hP, ht, .inr ⟨c', hc1, s0 _ _ _ hc2⟩⟩⟩
end
end FQ
namespace FQ
open PySem L2 FK
def getI (σ : St) (i : Nat) : Int := match σ[i]? with
 | some (some (.int n)) => n
 | _ => 0
def RdF (K : PySem.W.Frag) (H H' : Hp) (t : Tr) (v : V) : Prop := ∀ Hx : Hp, (∀ b o, H' b = some o → H b = none → Hx b = some o) → Rd K Hx t v
def RdFL (K : PySem.W.Frag) (H H' : Hp) (l : List Tr) (vs : List V) : Prop := ∀ Hx : Hp, (∀ b o, H' b = some o → H b = none → Hx b = some o) → RdL K Hx l vs
theorem RdF.now {K : PySem.W.Frag} {H H' : Hp} {t : Tr} {v : V} (h : RdF K H H' t v) : Rd K H' t v := h H' fun _ _ e _ => e
theorem RdFL.now {K : PySem.W.Frag} {H H' : Hp} {t : List Tr} {v : List V} (h : RdFL K H H' t v) : RdL K H' t v := h H' fun _ _ e _ => e
def tPL (K : PySem.W.Frag) (C : St → Prop) (f : St → Tr) : TE := fun σ H Q => C σ ∧ ∀ v H', Same H H' → RdF K H H' (f σ) v → Q v H'
def tPLs (K : PySem.W.Frag) (C : St → Prop) (f : St → List Tr) : TA := fun σ H Q => C σ ∧ ∀ vs H', Same H H' → RdFL K H H' (f σ) vs → vs.length = (f σ).length → Q vs H'
section
variable {X : Cx} {C D : St → Prop} {f g : St → Tr} {fs : St → List Tr} {e : Expr} {es : List Expr} {pos p2 : Pos}
theorem pl_of {t : TE} (h : PE X e t) (k : ∀ σ H Q, (C σ ∧ ∀ v H', Same H H' → RdF X.K H H' (f σ) v → Q v H') → t σ H Q) : PE X e (tPL X.K C f) := fun pins s σ H Q I q => h pins s σ H Q I (k σ H Q q)
theorem pl_int {i : Int} {j : Nat} : PE X (.Constant (.int i) j pos) (tPL X.K (fun _ => True) (fun _ => .int i)) := pl_of pe_int fun σ H Q h => h.2 _ H (Same.refl _) fun _ _ => rfl
theorem pl_str {x : Str} {j : Nat} : PE X (.Constant (.str x) j pos) (tPL X.K (fun _ => True) (fun _ => .str x)) := pl_of pe_str fun σ H Q h => h.2 _ H (Same.refl _) fun _ _ => rfl
theorem pl_bl {b : Bool} {j : Nat} : PE X (.Constant (.bool b) j pos) (tPL X.K (fun _ => True) (fun _ => .bl b)) := pl_of pe_bl fun σ H Q h => h.2 _ H (Same.refl _) fun _ _ => rfl
theorem pl_non {j : Nat} : PE X (.Constant .none j pos) (tPL X.K (fun _ => True) (fun _ => .non)) := pl_of pe_non fun σ H Q h => h.2 _ H (Same.refl _) fun _ _ => rfl
theorem pl_neg {i : Int} {j : Nat} : PE X (.UnaryOp .USub (.Constant (.int i) j p2) pos) (tPL X.K (fun _ => True) (fun _ => .int (-i))) := pl_of (pe_un un_neg pe_int) fun σ H Q h => ⟨i, rfl, h.2 _ H (Same.refl _) fun _ _ => rfl⟩
theorem pl_nil : PA X [] (tPLs X.K (fun _ => True) (fun _ => [])) := fun p pins s σ H Q I q => pa_nil p pins s σ H Q I (q.2 [] H (Same.refl _) (fun _ _ => rfl) rfl)
theorem pl_cons (h : PE X e (tPL X.K C f)) (hs : PA X es (tPLs X.K D fs)) (hst : starEach (e :: es) X.env = (false, eval e X.env) :: starEach es X.env := by rfl) : PA X (e :: es) (tPLs X.K (fun σ => C σ ∧ D σ) (fun σ => f σ :: fs σ)) := fun p pins s σ H Q I q =>
 pa_cons h hs hst p pins s σ H Q I ⟨q.1.1, fun v H1 s1 r1 => ⟨q.1.2, fun vs H2 s2 r2 l2 => q.2 (v :: vs) H2 (s1.trans s2) (fun Hx hx => ⟨v, vs, rfl, r1 Hx fun b o e n => hx b o (s2 _ _ e) n, r2 Hx fun b o e n => hx b o e (s1.free n)⟩) (by rw [List.length_cons, List.length_cons, l2])⟩⟩
theorem pl_tup {x1 : Nat} (h : PA X es (tPLs X.K D fs)) (hl : ∀ σ, (fs σ).length ≤ 1000 := by intro _; decide) : PE X (.Tuple es x1 pos) (tPL X.K D (fun σ => .tup (fs σ))) := pl_of (pe_tup h) fun σ H Q q => ⟨q.1, fun vs H1 s1 r1 l1 => ⟨by rw [l1]; exact Nat.le_trans (hl σ) (by decide), fun p hp => by
 have s2 := Same.upd (o := .tup vs) hp
 exact q.2 _ _ (s1.trans s2) fun Hx hx => ⟨p, vs, rfl, .of (hx p _ upd_same (s1.free hp)), r1 Hx fun b o e n => hx b o (s2 _ _ e) n⟩⟩⟩
theorem pl_lst (h : PA X es (tPLs X.K D fs)) (hl : ∀ σ, (fs σ).length ≤ 1000 := by intro _; decide) : PE X (.List es pos) (tPL X.K D (fun σ => .lst (fs σ))) := pl_of (pe_lst h) fun σ H Q q => ⟨q.1, fun vs H1 s1 r1 l1 => ⟨by rw [l1]; exact Nat.le_trans (hl σ) (by decide), fun p hp => by
 have s2 := Same.upd (o := .lst vs) hp
 exact q.2 _ _ (s1.trans s2) fun Hx hx => ⟨p, vs, rfl, .of (hx p _ upd_same (s1.free hp)), r1 Hx fun b o e n => hx b o (s2 _ _ e) n⟩⟩⟩
theorem pl_var {i : Nat} {x : Str} (h : PE X (.Name x pos) (tVar i)) : PE X (.Name x pos) (tPL X.K (fun σ => ∃ n, σ[i]? = some (some (.int n))) (fun σ => .int (getI σ i))) := pl_of h fun σ H Q q => by
 obtain ⟨⟨n, e⟩, k⟩ := q
 refine ⟨.int n, e, k _ H (Same.refl _) fun _ _ => ?_⟩
 show V.int n = .int (getI σ i)
 unfold getI
 rw [e]
theorem pl_add {i : Nat} {x : Str} {c : Int} {j : Nat} {p3 : Pos} (h : PE X (.Name x p2) (tVar i)) : PE X (.BinOp (.Constant (.int c) j p3) .Add (.Name x p2) pos) (tPL X.K (fun σ => ∃ n, σ[i]? = some (some (.int n))) (fun σ => .int (c + getI σ i))) := pl_of (pe_op op_add pe_int h) fun σ H Q q => by
 obtain ⟨⟨n, e⟩, k⟩ := q
 refine ⟨.int n, e, c, n, rfl, rfl, k _ H (Same.refl _) fun _ _ => ?_⟩
 show V.int (c + n) = .int (c + getI σ i)
 unfold getI
 rw [e]
theorem pl_sub {i : Nat} {x : Str} {c : Int} {j : Nat} {p3 : Pos} (h : PE X (.Name x p2) (tVar i)) : PE X (.BinOp (.Constant (.int c) j p3) .Sub (.Name x p2) pos) (tPL X.K (fun σ => ∃ n, σ[i]? = some (some (.int n))) (fun σ => .int (c - getI σ i))) := pl_of (pe_op op_sub pe_int h) fun σ H Q q => by
 obtain ⟨⟨n, e⟩, k⟩ := q
 refine ⟨.int n, e, c, n, rfl, rfl, k _ H (Same.refl _) fun _ _ => ?_⟩
 show V.int (c - n) = .int (c - getI σ i)
 unfold getI
 rw [e]
theorem pl_negsub {i : Nat} {x : Str} {c : Int} {j : Nat} {p3 p4 : Pos} (h : PE X (.Name x p2) (tVar i)) : PE X (.BinOp (.UnaryOp .USub (.Constant (.int c) j p3) p4) .Sub (.Name x p2) pos) (tPL X.K (fun σ => ∃ n, σ[i]? = some (some (.int n))) (fun σ => .int (-c - getI σ i))) := pl_of (pe_op op_sub (pe_un un_neg pe_int) h) fun σ H Q q => by
 obtain ⟨⟨n, e⟩, k⟩ := q
 refine ⟨c, rfl, .int n, e, -c, n, rfl, rfl, k _ H (Same.refl _) fun _ _ => ?_⟩
 show V.int (-c - n) = .int (-c - getI σ i)
 unfold getI
 rw [e]
end
end FQ
namespace FQ
open PySem L2 FK
def elevenths : Nat → List Tr
 | 0 => []
 | n + 1 => elevenths n ++ [.tup [.tup [.int (1 + (n : Nat)), .int 11], .int 1]]
theorem elevenths_len : ∀ n, (elevenths n).length = n
 | 0 => rfl
 | n + 1 => by rw [elevenths, List.length_append, elevenths_len n]; rfl
structure Coll (K : PySem.W.Frag) (H0 H : Hp) (l : Addr) (ts : List Tr) (xs : List V) : Prop where
 old : Same H0 H
 free : H0 l = none
 is : H l = some (.lst xs)
 rd : ∀ Hx : Hp, (∀ b o, H b = some o → H0 b = none → b ≠ l → Hx b = some o) → RdL K Hx ts xs
theorem Coll.len {K : PySem.W.Frag} {H0 H : Hp} {l : Addr} {ts : List Tr} {xs : List V} (C : Coll K H0 H l ts xs) : xs.length = ts.length := rdL_len (C.rd H fun _ _ e _ _ => e)
theorem Coll.rdF {K : PySem.W.Frag} {H0 H : Hp} {l : Addr} {ts : List Tr} {xs : List V} (C : Coll K H0 H l ts xs) : RdFL K H0 H ts xs := fun Hx hx => C.rd Hx fun b o e n _ => hx b o e n
theorem coll_new {K : PySem.W.Frag} {H0 H : Hp} {p : Addr} {ts : List Tr} {xs : List V} (s : Same H0 H) (r : RdFL K H0 H ts xs) (hp : H p = none) : Coll K H0 (upd H p (.lst xs)) p ts xs :=
 ⟨s.trans (Same.upd hp), s.free hp, upd_same, fun Hx hx => r Hx fun b o e n => hx b o (by rw [upd_ne (ne_of_none e hp)]; exact e) n (ne_of_none e hp)⟩
theorem rdL_app {K : PySem.W.Frag} {H : Hp} : ∀ {ts us : List Tr} {xs ys : List V}, RdL K H ts xs → RdL K H us ys → RdL K H (ts ++ us) (xs ++ ys)
 | [], us, xs, ys, h, k => by rw [show xs = [] from h]; exact k
 | t :: ts, us, xs, ys, ⟨v, r, e, h1, h2⟩, k => by
  rw [e]
  exact ⟨v, r ++ ys, rfl, h1, rdL_app h2 k⟩
theorem Coll.cat {K : PySem.W.Frag} {H0 H H2 : Hp} {l b p : Addr} {ts us : List Tr} {xs ys : List V} (C : Coll K H0 H l ts xs) (s : Same H H2) (r : RdFL K H H2 us ys) (hb : H2 b = none) (hp : upd H2 b (.lst ys) p = none) : Coll K H0 (upd (upd H2 b (.lst ys)) p (.lst (xs ++ ys))) p (ts ++ us) (xs ++ ys) := by
 have s1 := Same.upd (o := HO.lst ys) hb
 have s2 := Same.upd (o := HO.lst (xs ++ ys)) hp
 refine ⟨((C.old.trans s).trans s1).trans s2, ((C.old.trans s).trans s1).free hp, upd_same, fun Hx hx => rdL_app (C.rd Hx fun a o e n h => ?_) (r Hx fun a o e n => ?_)⟩
 ·exact hx a o (s2 _ _ (s1 _ _ (s _ _ e))) n (ne_of_none (s1 _ _ (s _ _ e)) hp)
 ·exact hx a o (s2 _ _ (s1 _ _ e)) (C.old.free n) (ne_of_none (s1 _ _ e) hp)
theorem Coll.app {K : PySem.W.Frag} {H0 H H2 : Hp} {l : Addr} {ts : List Tr} {t : Tr} {xs : List V} {v : V} (C : Coll K H0 H l ts xs) (s : Same H H2) (r : RdF K H H2 t v) : Coll K H0 (upd H2 l (.lst (xs ++ [v]))) l (ts ++ [t]) (xs ++ [v]) := by
 refine ⟨fun a o e => ?_, C.free, upd_same, fun Hx hx => rdL_app (C.rd Hx fun a o e n h => ?_) ⟨v, [], rfl, r Hx fun a o e n => ?_, rfl⟩⟩
 ·rw [upd_ne (ne_of_none e C.free)]
  exact s _ _ (C.old _ _ e)
 ·exact hx a o (by rw [upd_ne h]; exact s _ _ e) n h
 ·have h : a ≠ l := fun z => by rw [z, C.is] at n; cases n
  exact hx a o (by rw [upd_ne h]; exact e) (C.old.free n) h
structure EL (K : PySem.W.Frag) (H1 H : Hp) (D : Addr) (i : Nat) (zs : List V) : Prop where
 old : Same H1 H
 free : H1 D = none
 is : H D = some (.lst zs)
 rd : ∀ Hx : Hp, (∀ b o, H b = some o → H1 b = none → b ≠ D → Hx b = some o) → RdL K Hx (elevenths i) zs
theorem EL.len {K : PySem.W.Frag} {H1 H : Hp} {D : Addr} {i : Nat} {zs : List V} (e : EL K H1 H D i zs) : zs.length = i := (rdL_len (e.rd H fun _ _ e _ _ => e)).trans (elevenths_len i)
theorem el_new {K : PySem.W.Frag} {H1 : Hp} {D : Addr} (h : H1 D = none) : EL K H1 (upd H1 D (.lst [])) D 0 [] := ⟨Same.upd h, h, upd_same, fun _ _ => rfl⟩
theorem EL.go {K : PySem.W.Frag} {H1 H H3 : Hp} {D : Addr} {i : Nat} {zs : List V} {v : V} (e : EL K H1 H D i zs) (s : Same H H3) (r : RdF K H H3 (.tup [.tup [.int (1 + (i : Nat)), .int 11], .int 1]) v) : EL K H1 (upd H3 D (.lst (zs ++ [v]))) D (i + 1) (zs ++ [v]) := by
 refine ⟨fun a o e' => ?_, e.free, upd_same, fun Hx hx => rdL_app (e.rd Hx fun a o e' n h => ?_) ⟨v, [], rfl, r Hx fun a o e' n => ?_, rfl⟩⟩
 ·rw [upd_ne (ne_of_none e' e.free)]
  exact s _ _ (e.old _ _ e')
 ·exact hx a o (by rw [upd_ne h]; exact s _ _ e') n h
 ·have h : a ≠ D := fun z => by rw [z, e.is] at n; cases n
  exact hx a o (by rw [upd_ne h]; exact e') (e.old.free n) h
theorem EL.done {K : PySem.W.Frag} {H1 H H3 : Hp} {D b p : Addr} {i : Nat} {zs us : List V} {ts : List Tr} (e : EL K H1 H D i zs) (s : Same H H3) (r : RdFL K H H3 ts us) (hb : H3 b = none) (hp : upd H3 b (.lst us) p = none) :
  Same H1 (upd (upd H3 b (.lst us)) p (.lst (zs ++ us))) ∧ RdF K H1 (upd (upd H3 b (.lst us)) p (.lst (zs ++ us))) (.lst (elevenths i ++ ts)) (.ref p) := by
 have s1 := Same.upd (o := HO.lst us) hb
 have s2 := Same.upd (o := HO.lst (zs ++ us)) hp
 refine ⟨((e.old.trans s).trans s1).trans s2, fun Hx hx => ⟨p, _, rfl, .of (hx p _ upd_same (((e.old.trans s).trans s1).free hp)), rdL_app (e.rd Hx fun a o e' n h => ?_) (r Hx fun a o e' n => ?_)⟩⟩
 ·exact hx a o (s2 _ _ (s1 _ _ (s _ _ e'))) n
 ·exact hx a o (s2 _ _ (s1 _ _ e')) (e.old.free n)
def spBad (K : PySem.W.Frag) (B : Int → List Tr) : Sp := fun vs H Q _ => ∃ far : Int, vs = [.int far] ∧ ∀ (r : Addr) (xs : List V) (H' : Hp), Same H H' → H r = none → H' r = some (.lst xs) → RdFL K H H' (B far) xs → Q (.ref r) H'
end FQ
namespace FQ
open PySem L2 FK
mutual
def lit (far : Int) : Nat → Expr → Option Tr
 | 0, _ => none
 | _ + 1, .Constant (.int i) _ _ => some (.int i)
 | _ + 1, .Constant (.str y) _ _ => some (.str y)
 | _ + 1, .Constant (.bool b) _ _ => some (.bl b)
 | _ + 1, .Constant .none _ _ => some .non
 | _ + 1, .UnaryOp .USub (.Constant (.int i) _ _) _ => some (.int (-i))
 | _ + 1, .Name _ _ => some (.int far)
 | _ + 1, .BinOp (.Constant (.int c) _ _) .Add (.Name _ _) _ => some (.int (c + far))
 | _ + 1, .BinOp (.Constant (.int c) _ _) .Sub (.Name _ _) _ => some (.int (c - far))
 | _ + 1, .BinOp (.UnaryOp .USub (.Constant (.int c) _ _) _) .Sub (.Name _ _) _ => some (.int (-c - far))
 | n + 1, .Tuple es _ _ => match lits far n es with
  | some ts => if ts.length ≤ 1000 then some (.tup ts) else none
  | none => none
 | n + 1, .List es _ => match lits far n es with
  | some ts => if ts.length ≤ 1000 then some (.lst ts) else none
  | none => none
 | _, _ => none
def lits (far : Int) : Nat → List Expr → Option (List Tr)
 | 0, _ => none
 | _ + 1, [] => some []
 | n + 1, e :: es => match lit far n e, lits far n es with
  | some t, some ts => some (t :: ts)
  | _, _ => none
end
mutual
def nms : Nat → Expr → List Str
 | 0, _ => []
 | _ + 1, .Name y _ => [y]
 | _ + 1, .BinOp _ _ (.Name y _) _ => [y]
 | n + 1, .Tuple es _ _ => nmss n es
 | n + 1, .List es _ => nmss n es
 | _, _ => []
def nmss : Nat → List Expr → List Str
 | 0, _ => []
 | _ + 1, [] => []
 | n + 1, e :: es => nms n e ++ nmss n es
end
section
variable {X : Cx} {i : Nat} {x : Str} {far : Int}
abbrev cFar (i : Nat) (far : Int) : St → Prop := fun σ => σ[i]? = some (some (.int far))
theorem pl_sub' {C D : St → Prop} {f g : St → Tr} {e : Expr} (h : PE X e (tPL X.K C f)) (k : ∀ σ, D σ → C σ ∧ f σ = g σ) : PE X e (tPL X.K D g) := pl_of h fun σ H Q q => ⟨(k σ q.1).1, fun v H' s r => q.2 v H' s (by rw [← (k σ q.1).2]; exact r)⟩
theorem pls_sub' {C D : St → Prop} {f g : St → List Tr} {es : List Expr} (h : PA X es (tPLs X.K C f)) (k : ∀ σ, D σ → C σ ∧ f σ = g σ) : PA X es (tPLs X.K D g) := fun p pins s σ H Q I q => h p pins s σ H Q I ⟨(k σ q.1).1, fun v H' s r l => q.2 v H' s (by rw [← (k σ q.1).2]; exact r) (by rw [← (k σ q.1).2]; exact l)⟩
theorem getI_far {σ : St} (h : cFar i far σ) : getI σ i = far := by
 unfold getI
 rw [h]
theorem lit_star {n : Nat} {e : Expr} {t : Tr} {es : List Expr} {env : Env} (h : lit far n e = some t) : starEach (e :: es) env = (false, eval e env) :: starEach es env := by
 cases n with
 | zero => simp [lit] at h
 | succ n =>
  cases e <;> first | rfl | (simp [lit] at h)
mutual
theorem pl_lit (hv : ∀ pos, PE X (.Name x pos) (tVar i)) : ∀ (n : Nat) (e : Expr) (t : Tr), (∀ y ∈ nms n e, y = x) → lit far n e = some t → PE X e (tPL X.K (cFar i far) (fun _ => t)) := by
 intro n e t hn h
 unfold lit at h
 split at h
 ·cases h
 ·cases h
  exact pl_sub' pl_int fun _ _ => ⟨trivial, rfl⟩
 ·cases h
  exact pl_sub' pl_str fun _ _ => ⟨trivial, rfl⟩
 ·cases h
  exact pl_sub' pl_bl fun _ _ => ⟨trivial, rfl⟩
 ·cases h
  exact pl_sub' pl_non fun _ _ => ⟨trivial, rfl⟩
 ·cases h
  exact pl_sub' pl_neg fun _ _ => ⟨trivial, rfl⟩
 ·cases h
  cases hn _ (by unfold nms; exact List.mem_singleton.mpr rfl)
  exact pl_sub' (pl_var (hv _)) fun σ c => ⟨⟨far, c⟩, by rw [getI_far c]⟩
 ·cases h
  cases hn _ (by unfold nms; exact List.mem_singleton.mpr rfl)
  exact pl_sub' (pl_add (hv _)) fun σ c => ⟨⟨far, c⟩, by rw [getI_far c]⟩
 ·cases h
  cases hn _ (by unfold nms; exact List.mem_singleton.mpr rfl)
  exact pl_sub' (pl_sub (hv _)) fun σ c => ⟨⟨far, c⟩, by rw [getI_far c]⟩
 ·cases h
  cases hn _ (by unfold nms; exact List.mem_singleton.mpr rfl)
  exact pl_sub' (pl_negsub (hv _)) fun σ c => ⟨⟨far, c⟩, by rw [getI_far c]⟩
 ·split at h
  ·rename_i ts hs
   split at h
   ·rename_i hl
    cases h
    exact pl_tup (pl_lits hv _ _ _ (fun y hy => hn y (by unfold nms; exact hy)) hs) (fun _ => hl)
   ·cases h
  ·cases h
 ·split at h
  ·rename_i ts hs
   split at h
   ·rename_i hl
    cases h
    exact pl_lst (pl_lits hv _ _ _ (fun y hy => hn y (by unfold nms; exact hy)) hs) (fun _ => hl)
   ·cases h
  ·cases h
 ·cases h
theorem pl_lits (hv : ∀ pos, PE X (.Name x pos) (tVar i)) : ∀ (n : Nat) (es : List Expr) (ts : List Tr), (∀ y ∈ nmss n es, y = x) → lits far n es = some ts → PA X es (tPLs X.K (cFar i far) (fun _ => ts)) := by
 intro n es ts hn h
 unfold lits at h
 split at h
 ·cases h
 ·cases h
  exact pls_sub' pl_nil fun _ _ => ⟨trivial, rfl⟩
 ·split at h
  ·rename_i h1 h2
   cases h
   exact pls_sub' (pl_cons (pl_lit hv _ _ _ (fun y hy => hn y (by unfold nmss; exact List.mem_append_left _ hy)) h1) (pl_lits hv _ _ _ (fun y hy => hn y (by unfold nmss; exact List.mem_append_right _ hy)) h2) (lit_star h1)) fun σ c => ⟨⟨c, c⟩, rfl⟩
  ·cases h
end
end
end FQ
namespace L2
open PySem PySem.Spec PyProof.Rows
@[irreducible] def PEi (X : Cx) (e : Expr) (t : TE) : Prop := PE X e t
@[irreducible] def PAi (X : Cx) (es : List Expr) (t : TA) : Prop := PA X es t
@[irreducible] def PSi (X : Cx) (st : Stmt) (t : TS) : Prop := PS X st t
@[irreducible] def PSsi (X : Cx) (sts : List Stmt) (t : TS) : Prop := PSs X sts t
section
variable {X : Cx} {e a b : Expr} {es : List Expr} {st : Stmt} {sts : List Stmt} {te ta tb : TE} {t : TA} {ts us : TS} {pos : Pos}
theorem PEi.mk (h : PE X e te) : PEi X e te := by unfold PEi; exact h
theorem PEi.get (h : PEi X e te) : PE X e te := by unfold PEi at h; exact h
theorem PAi.mk (h : PA X es t) : PAi X es t := by unfold PAi; exact h
theorem PAi.get (h : PAi X es t) : PA X es t := by unfold PAi at h; exact h
theorem PSi.mk (h : PS X st ts) : PSi X st ts := by unfold PSi; exact h
theorem PSi.get (h : PSi X st ts) : PS X st ts := by unfold PSi at h; exact h
theorem PSsi.mk (h : PSs X sts ts) : PSsi X sts ts := by unfold PSsi; exact h
theorem PSsi.get (h : PSsi X sts ts) : PSs X sts ts := by unfold PSsi at h; exact h
theorem PSsi.wit {R : TS → Prop} (h : PSsi X sts ts) (k : R ts) : ∃ t, PSs X sts t ∧ R t := ⟨ts, h.get, k⟩
theorem i_cons (h : PSi X st ts) (k : PSsi X sts us) : PSsi X (st :: sts) (tSeq ts us) := .mk (pss_cons h.get k.get)
theorem i_one (h : PSi X st ts) : PSsi X [st] ts := .mk (pss_one h.get)
theorem i_set {i : Nat} {x : Str} {pos' : Pos} (hN : X.N.Nodup) (hi : X.N[i]? = some x) (hx : Loc X.env.scope x) (he : PEi X e te) (hs : swapsWith e (some (.Name x pos')) pos.line X.env = pure false := by rfl) (hf : X.fn x = true ∨ X.env.scope.names.lookup x = some .local := by first | exact .inl rfl | exact .inr rfl | assumption) :
  PSi X (.Assign [.Name x pos'] e pos) (tAsg te (gName i)) := .mk (ps_set hN hi hx he.get hs hf)
theorem i_ret (he : PEi X e te) : PSi X (.Return (some e) pos) (tRet te) := .mk (ps_ret he.get)
theorem i_expr (he : PEi X e te) (hs : swapsWith e none pos.line X.env = pure false := by rfl) : PSi X (.Expr e pos) (tDrop te) := .mk (ps_expr he.get hs)
theorem i_op {op : Operator} {r : R2} (ho : OpR X (binaryOp op) r) (ha : PEi X a ta) (hb : PEi X b tb) : PEi X (.BinOp a op b pos) (tOp r ta tb) := .mk (pe_op ho ha.get hb.get)
theorem i_lst (h : PAi X es t) : PEi X (.List es pos) (tLst t) := .mk (pe_lst h.get)
theorem i_app {o : Expr} {to : TE} {apos cpos : Pos} (ho : PEi X o to) (ha : PEi X e te) (hs1 : starEach [e] X.env = [(false, eval e X.env)] := by rfl) (hbase : attributeBase o "append" X.env (eval o X.env) = eval o X.env := by rfl) (hline : (apos.endLine == cpos.line) = true := by rfl) :
  PEi X (.Call (.Attribute o "append" apos) [e] [] cpos) (tBM X.K "list" rAppend to (tCons te tNil)) := by
 refine .mk (pe_bm PySem.F.plainAttrs_list PySem.F.slot_list_append PySem.F.type_list_append mt_append ho.get (pa_cons ha.get pa_nil hs1) hbase ?_ hline hs1 ?_)
 ·rw [hs1]
  rfl
 ·rfl
end
end L2
namespace FQ
open PySem L2 FK
theorem i_lit {X : Cx} {x : Str} {far : Int} {i n : Nat} {e : Expr} {t : Tr} (hn : ∀ y ∈ nms n e, y = x) (h : lit far n e = some t) (hv : ∀ pos, PE X (.Name x pos) (tVar i)) : PEi X e (tPL X.K (cFar i far) (fun _ => t)) := .mk (pl_lit hv n e t hn h)
theorem i_lits {X : Cx} {x : Str} {far : Int} {i n : Nat} {es : List Expr} {ts : List Tr} (hn : ∀ y ∈ nmss n es, y = x) (h : lits far n es = some ts) (hv : ∀ pos, PE X (.Name x pos) (tVar i)) : PAi X es (tPLs X.K (cFar i far) (fun _ => ts)) := .mk (pl_lits hv n es ts hn h)
end FQ
namespace FQ
open PySem L2 FK
section
variable {P : Program} {w : World} {K : PySem.W.Frag} {mg : Str → Option Value} {base : Heap} {aL aR : Addr}
def lsAt (l : List Stmt) (k : Nat) : Stmt := l.getD k (.Pass ⟨0, 0, 0, 0⟩)
def lt0 (far : Int) : List Tr := [.lst [], .non, .str (Str.ofString "1@1"), .tup [.tup [.int 1, .int 1], .int 1], .lst [.tup [.tup [.int 1, .int 2], .int 1]], .lst [.tup [.tup [.int 1, .int 2], .int 1], .tup [.tup [.int 1, .int 2], .int 1], .tup [.tup [.int 1, .int 1], .int 1]], .lst [.tup [.tup [.int 1, .int 1], .int 0]]]
def lt1 (far : Int) : List Tr := [.lst [.tup [.tup [.int 1, .int 1], .int (1001 + far)]], .lst [.tup [.tup [.int 2, .int 2], .int 1]], .lst [.tup [.tup [.int 1, .int 1], .bl true]], .lst [.tup [.tup [.int 1, .int 1], .str (Str.ofString "1")]], .lst [.tup [.tup [.int 1, .int 1], .int 1, .int 1]]]
def lt2 (far : Int) : List Tr := [.lst [.lst [.tup [.int 1, .int 1], .int 1]], .lst [.tup [.tup [.int 0, .int 1], .int 1], .tup [.tup [.int 1, .int 1], .int 1]], .lst [.tup [.tup [.int 1, .int 1], .int 1], .tup [.tup [.int 2, .int 1], .int 1]], .lst [.tup [.tup [.int 2, .int 1], .int 1]]]
def lt3 (far : Int) : Tr := (.lst [.tup [.tup [.int 1, .int (1001 + far)], .int 1], .tup [.tup [.int 1, .int 1], .int 1]])
def lt4 (far : Int) : List Tr := [.tup [.tup [.int 1, .int 1], .int 1]]
def lt5 (far : Int) : List Tr := [.lst [.tup [.tup [.bl true, .int 1], .int 1]], .lst [.tup [.tup [.int 3, .int 4], .int 1], .tup [.tup [.int 1, .int 2], .int 1], .tup [.tup [.int 1, .int 1], .int 1]], .lst [.tup [.tup [.int (-1), .int 2], .int 1], .tup [.tup [.int 1, .int 1], .int 1]], .lst [.non]]
def lt6 (far : Int) : List Tr := [.non, .str (Str.ofString "0-1"), .tup [.tup [.int 0, .int 1], .tup [.int 1, .int 1]], .lst [.tup [.tup [.int 0, .int 1], .tup [.int 0, .int 1]]], .lst [.tup [.tup [.int 1, .int 2], .tup [.int 1, .int 3]]], .lst [.tup [.tup [.int 0, .int 1], .tup [.int (2 + far), .int 1]]]]
def lt7 (far : Int) : Tr := (.lst [.tup [.tup [.int 0, .int 2], .tup [.int 1, .int 1]]])
def lt8 (far : Int) : List Tr := [.lst [.tup [.tup [.int 0, .int 1], .tup [.int 1, .int 2]], .tup [.tup [.int 1, .int 2], .tup [.int 1, .int 1]]], .lst [.tup [.tup [.int 1, .int 2], .tup [.int 1, .int 1]], .tup [.tup [.int 0, .int 1], .tup [.int 1, .int 4]]], .lst [.tup [.tup [.int 0, .int 1], .tup [.int 1, .int 2], .tup [.int 1, .int 1]]]]
def lt9 (far : Int) : List Tr := [.lst [.tup [.tup [.int 0, .int 1], .tup [.int 3, .int 4]], .tup [.tup [.int 1, .int 2], .tup [.int 1, .int 1]]], .lst [.tup [.int 0, .int 1]], .lst [.lst [.tup [.int 0, .int 1], .tup [.int 1, .int 1]]], .lst [.tup [.tup [.int 0, .int 1], .tup [.bl true, .int 1]]]]
def lt10 (far : Int) : Tr := (.lst [.tup [.tup [.int (-1), .int 2], .tup [.int 1, .int 1]]])
def lt11 (far : Int) : List Tr := [.lst [.non], .lst [.tup [.tup [.int 0, .int 1], .tup [.int 1, .int 1]], .int 5], .lst [.tup [.tup [.int 0, .int 1], .tup [.int 1, .int 0]]]]
def badSteps (far : Int) : List Tr := (((((lt0 far ++ lt1 far) ++ lt2 far) ++ [lt3 far]) ++ [.lst (elevenths 8 ++ lt4 far)]) ++ lt5 far)
theorem scBS : FnScope ["_law_far", "_law_bad"] ["_law_far"] (defScope s__law_bad_steps) := ⟨rfl, rfl, rfl, by decide +kernel, rfl, by decide +kernel, by decide +kernel⟩
theorem bs0 {f : Addr} {cdv : Value} {A : Around} {outer : List Env} {s : Shared} {H : Hp} {E : XK} (far : Int) : PSi (cx P w K mg base ["_law_far", "_law_bad"] "_law_bad_steps" s__law_bad_steps f cdv A outer s H E) (lsAt (defBody s__law_bad_steps) 0) (tAsg (tLst (tPLs K (cFar 0 far) (fun _ => lt0 far))) (gName 1)) := by
 exact i_set (i := 1) (x := "_law_bad") scBS.nd rfl (Or.inl rfl) (i_lst (i_lits (x := "_law_far") (far := far) (i := 0) (n := 40) (ts := lt0 far) (by decide +kernel) rfl (fun _ => pv 0)))
theorem bs1 {f : Addr} {cdv : Value} {A : Around} {outer : List Env} {s : Shared} {H : Hp} {E : XK} (far : Int) : PSi (cx P w K mg base ["_law_far", "_law_bad"] "_law_bad_steps" s__law_bad_steps f cdv A outer s H E) (lsAt (defBody s__law_bad_steps) 1) (tAsg (tOp rCat (tVar 1) (tLst (tPLs K (cFar 0 far) (fun _ => lt1 far)))) (gName 1)) := by
 exact i_set (i := 1) (x := "_law_bad") scBS.nd rfl (Or.inl rfl) (i_op op_cat (.mk (pv 1)) (i_lst (i_lits (x := "_law_far") (far := far) (i := 0) (n := 40) (ts := lt1 far) (by decide +kernel) rfl (fun _ => pv 0))))
theorem bs2 {f : Addr} {cdv : Value} {A : Around} {outer : List Env} {s : Shared} {H : Hp} {E : XK} (far : Int) : PSi (cx P w K mg base ["_law_far", "_law_bad"] "_law_bad_steps" s__law_bad_steps f cdv A outer s H E) (lsAt (defBody s__law_bad_steps) 2) (tAsg (tOp rCat (tVar 1) (tLst (tPLs K (cFar 0 far) (fun _ => lt2 far)))) (gName 1)) := by
 exact i_set (i := 1) (x := "_law_bad") scBS.nd rfl (Or.inl rfl) (i_op op_cat (.mk (pv 1)) (i_lst (i_lits (x := "_law_far") (far := far) (i := 0) (n := 40) (ts := lt2 far) (by decide +kernel) rfl (fun _ => pv 0))))
theorem bs3 {f : Addr} {cdv : Value} {A : Around} {outer : List Env} {s : Shared} {H : Hp} {E : XK} (far : Int) : PSi (cx P w K mg base ["_law_far", "_law_bad"] "_law_bad_steps" s__law_bad_steps f cdv A outer s H E) (lsAt (defBody s__law_bad_steps) 3) (tDrop (tBM K "list" rAppend (tVar 1) (tCons (tPL K (cFar 0 far) (fun _ => lt3 far)) tNil))) := by
 exact i_expr (i_app (.mk (pv 1)) (i_lit (x := "_law_far") (far := far) (i := 0) (n := 40) (t := lt3 far) (by decide +kernel) rfl (fun _ => pv 0)))
theorem bs5 {f : Addr} {cdv : Value} {A : Around} {outer : List Env} {s : Shared} {H : Hp} {E : XK} (far : Int) : PSi (cx P w K mg base ["_law_far", "_law_bad"] "_law_bad_steps" s__law_bad_steps f cdv A outer s H E) (lsAt (defBody s__law_bad_steps) 5) (tRet (tOp rCat (tVar 1) (tLst (tPLs K (cFar 0 far) (fun _ => lt5 far))))) := by
 exact i_ret (i_op op_cat (.mk (pv 1)) (i_lst (i_lits (x := "_law_far") (far := far) (i := 0) (n := 40) (ts := lt5 far) (by decide +kernel) rfl (fun _ => pv 0))))
theorem ok_badSteps {f : Addr} {fd : FuncData} (D : DefAt K mg "_law_bad_steps" s__law_bad_steps ["_law_far"] f fd) (T : Txt K mg aL aR) : FnOk P w K mg base CX0 1 f fd ["_law_far"] (spBad K badSteps) := by
 refine D.fn.ok scBS (fun vs H Q E h => ?_) (fun cdv A outer s H vs Q E hr h => ?_)
 ·obtain ⟨far, rfl, _⟩ := h
  rfl
 ·obtain ⟨far, rfl, k⟩ := h
  have q4 : PSi (cx P w K mg base ["_law_far", "_law_bad"] "_law_bad_steps" s__law_bad_steps f cdv A outer s H E) (lsAt (defBody s__law_bad_steps) 4) _ := (i_expr (i_app (.mk (pv 1)) (i_op op_cat (.mk (pe_comp ["_law_k"] rfl (CompOk.plain rfl (by decide +kernel) (by decide +kernel) (by decide +kernel)) (pi_range2 rfl T.range (pa_cons pe_int (pa_cons pe_int pa_nil))) (fun _ => pg_name (i := 0) (show [Str.ofString "_law_k"].Nodup by decide +kernel) rfl (Or.inl rfl)) (fun _ => pifs_nil) (fun _ => (pl_tup (pl_cons (pl_tup (pl_cons (pl_var (pv 0)) (pl_cons pl_int pl_nil)) (fun _ => Nat.le_of_ble_eq_true rfl)) (pl_cons pl_int pl_nil)) (fun _ => Nat.le_of_ble_eq_true rfl))))) (i_lst (i_lits (x := "_law_far") (far := far) (i := 0) (n := 40) (ts := lt4 far) (by decide +kernel) rfl (fun _ => pv 0))))))
  have q := i_cons (bs0 (P := P) (w := w) (K := K) (mg := mg) (base := base) (f := f) (cdv := cdv) (A := A) (outer := outer) (s := s) (H := H) (E := E) far) (i_cons (bs1 (P := P) (w := w) (K := K) (mg := mg) (base := base) (f := f) (cdv := cdv) (A := A) (outer := outer) (s := s) (H := H) (E := E) far) (i_cons (bs2 (P := P) (w := w) (K := K) (mg := mg) (base := base) (f := f) (cdv := cdv) (A := A) (outer := outer) (s := s) (H := H) (E := E) far) (i_cons (bs3 (P := P) (w := w) (K := K) (mg := mg) (base := base) (f := f) (cdv := cdv) (A := A) (outer := outer) (s := s) (H := H) (E := E) far) (i_cons (q4) (i_one (bs5 (P := P) (w := w) (K := K) (mg := mg) (base := base) (f := f) (cdv := cdv) (A := A) (outer := outer) (s := s) (H := H) (E := E) far))))))
  rw [show [lsAt (defBody s__law_bad_steps) 0, lsAt (defBody s__law_bad_steps) 1, lsAt (defBody s__law_bad_steps) 2, lsAt (defBody s__law_bad_steps) 3, lsAt (defBody s__law_bad_steps) 4, lsAt (defBody s__law_bad_steps) 5] = defBody s__law_bad_steps from by kernel_rfl] at q
  refine PSsi.wit q ?_
  refine ⟨rfl, fun vs H1 s1 r1 l1 => ⟨by rw [l1]; exact Nat.le_trans (Nat.le_of_ble_eq_true rfl : _ ≤ 1000) (by decide), fun p hp => ?_⟩⟩
  have C := coll_new s1 r1 hp
  clear s1 r1 l1
  refine ⟨_, rfl, rfl, fun us H2 s2 r2 l2 => ⟨by rw [l2]; exact Nat.le_trans (Nat.le_of_ble_eq_true rfl : _ ≤ 1000) (by decide), fun b hb => ⟨_, b, _, us, rfl, rfl, (upd_ne (ne_of_none (s2 _ _ C.is) hb)).trans (s2 _ _ C.is), upd_same, ?_, fun p hp => ?_⟩⟩⟩
  ·rw [C.len, l2]
   exact Nat.le_trans (Nat.le_of_ble_eq_true rfl : _ ≤ 1000) (by decide)
  have C := C.cat s2 r2 hb hp
  refine ⟨_, rfl, rfl, fun us H2 s2 r2 l2 => ⟨by rw [l2]; exact Nat.le_trans (Nat.le_of_ble_eq_true rfl : _ ≤ 1000) (by decide), fun b hb => ⟨_, b, _, us, rfl, rfl, (upd_ne (ne_of_none (s2 _ _ C.is) hb)).trans (s2 _ _ C.is), upd_same, ?_, fun p hp => ?_⟩⟩⟩
  ·rw [C.len, l2]
   exact Nat.le_trans (Nat.le_of_ble_eq_true rfl : _ ≤ 1000) (by decide)
  have C := C.cat s2 r2 hb hp
  refine ⟨_, rfl, .inl ⟨rfl, _, .of C.is⟩, rfl, fun v H2 s2 r2 => ⟨_, _, v, rfl, rfl, s2 _ _ C.is, ?_, ?_⟩⟩
  ·rw [C.len]
   exact Nat.lt_of_lt_of_le (Nat.le_of_ble_eq_true rfl : Nat.succ _ ≤ 1000) (by decide)
  have C := C.app s2 r2
  refine ⟨_, rfl, .inl ⟨rfl, _, .of C.is⟩, 1, 9, rfl, by decide, fun D1 hD1 => ?_⟩
  refine comp_range (lo := 1) (n := 8) (D := D1) (fun i zs σ H2 => EL K _ H2 D1 i zs ∧ ∃ v, σ = [v]) (by decide) ⟨el_new hD1, _, rfl⟩ ?_ ?_ ?_
  ·rintro i zs σ H2 _ ⟨e, _⟩
   exact ⟨e.is, Nat.le_of_eq e.len⟩
  ·rintro i zs σ H2 hi ⟨e, v, rfl⟩ c
   refine ⟨⟨⟨⟨_, rfl⟩, trivial, trivial⟩, trivial, trivial⟩, fun v H3 s3 r3 => ⟨s3 _ _ e.is, e.go s3 ?_, _, rfl⟩⟩
   exact r3
  rintro zs σ H2 ⟨e, _⟩
  refine ⟨rfl, fun us H3 s3 r3 l3 => ⟨by rw [l3]; exact Nat.le_trans (Nat.le_of_ble_eq_true rfl : _ ≤ 1000) (by decide), fun b hb => ⟨_, b, _, us, rfl, rfl, (upd_ne (ne_of_none (s3 _ _ e.is) hb)).trans (s3 _ _ e.is), upd_same, ?_, fun p hp => ?_⟩⟩⟩
  ·rw [e.len, l3]
   exact Nat.le_trans (Nat.le_of_ble_eq_true rfl : _ ≤ 1000) (by decide)
  obtain ⟨s4, r4⟩ := e.done s3 r3 hb hp
  refine ⟨_, _, _, rfl, rfl, s4 _ _ C.is, ?_, ?_⟩
  ·rw [C.len]
   exact Nat.lt_of_lt_of_le (Nat.le_of_ble_eq_true rfl : Nat.succ _ ≤ 1000) (by decide)
  have C := C.app s4 r4
  refine ⟨_, rfl, rfl, fun us H2 s2 r2 l2 => ⟨by rw [l2]; exact Nat.le_trans (Nat.le_of_ble_eq_true rfl : _ ≤ 1000) (by decide), fun b hb => ⟨_, b, _, us, rfl, rfl, (upd_ne (ne_of_none (s2 _ _ C.is) hb)).trans (s2 _ _ C.is), upd_same, ?_, fun p hp => ?_⟩⟩⟩
  ·rw [C.len, l2]
   exact Nat.le_trans (Nat.le_of_ble_eq_true rfl : _ ≤ 1000) (by decide)
  have C := C.cat s2 r2 hb hp
  exact k _ _ _ C.old (C.free) C.is C.rdF
def badPieces (far : Int) : List Tr := (((((lt6 far ++ [lt7 far]) ++ lt8 far) ++ lt9 far) ++ [lt10 far]) ++ lt11 far)
theorem scBP : FnScope ["_law_far", "_law_bad"] ["_law_far"] (defScope s__law_bad_pieces) := ⟨rfl, rfl, rfl, by decide +kernel, rfl, by decide +kernel, by decide +kernel⟩
theorem bp0 {f : Addr} {cdv : Value} {A : Around} {outer : List Env} {s : Shared} {H : Hp} {E : XK} (far : Int) : PSi (cx P w K mg base ["_law_far", "_law_bad"] "_law_bad_pieces" s__law_bad_pieces f cdv A outer s H E) (lsAt (defBody s__law_bad_pieces) 0) (tAsg (tLst (tPLs K (cFar 0 far) (fun _ => lt6 far))) (gName 1)) := by
 exact i_set (i := 1) (x := "_law_bad") scBP.nd rfl (Or.inl rfl) (i_lst (i_lits (x := "_law_far") (far := far) (i := 0) (n := 40) (ts := lt6 far) (by decide +kernel) rfl (fun _ => pv 0)))
theorem bp1 {f : Addr} {cdv : Value} {A : Around} {outer : List Env} {s : Shared} {H : Hp} {E : XK} (far : Int) : PSi (cx P w K mg base ["_law_far", "_law_bad"] "_law_bad_pieces" s__law_bad_pieces f cdv A outer s H E) (lsAt (defBody s__law_bad_pieces) 1) (tDrop (tBM K "list" rAppend (tVar 1) (tCons (tPL K (cFar 0 far) (fun _ => lt7 far)) tNil))) := by
 exact i_expr (i_app (.mk (pv 1)) (i_lit (x := "_law_far") (far := far) (i := 0) (n := 40) (t := lt7 far) (by decide +kernel) rfl (fun _ => pv 0)))
theorem bp2 {f : Addr} {cdv : Value} {A : Around} {outer : List Env} {s : Shared} {H : Hp} {E : XK} (far : Int) : PSi (cx P w K mg base ["_law_far", "_law_bad"] "_law_bad_pieces" s__law_bad_pieces f cdv A outer s H E) (lsAt (defBody s__law_bad_pieces) 2) (tAsg (tOp rCat (tVar 1) (tLst (tPLs K (cFar 0 far) (fun _ => lt8 far)))) (gName 1)) := by
 exact i_set (i := 1) (x := "_law_bad") scBP.nd rfl (Or.inl rfl) (i_op op_cat (.mk (pv 1)) (i_lst (i_lits (x := "_law_far") (far := far) (i := 0) (n := 40) (ts := lt8 far) (by decide +kernel) rfl (fun _ => pv 0))))
theorem bp3 {f : Addr} {cdv : Value} {A : Around} {outer : List Env} {s : Shared} {H : Hp} {E : XK} (far : Int) : PSi (cx P w K mg base ["_law_far", "_law_bad"] "_law_bad_pieces" s__law_bad_pieces f cdv A outer s H E) (lsAt (defBody s__law_bad_pieces) 3) (tAsg (tOp rCat (tVar 1) (tLst (tPLs K (cFar 0 far) (fun _ => lt9 far)))) (gName 1)) := by
 exact i_set (i := 1) (x := "_law_bad") scBP.nd rfl (Or.inl rfl) (i_op op_cat (.mk (pv 1)) (i_lst (i_lits (x := "_law_far") (far := far) (i := 0) (n := 40) (ts := lt9 far) (by decide +kernel) rfl (fun _ => pv 0))))
theorem bp4 {f : Addr} {cdv : Value} {A : Around} {outer : List Env} {s : Shared} {H : Hp} {E : XK} (far : Int) : PSi (cx P w K mg base ["_law_far", "_law_bad"] "_law_bad_pieces" s__law_bad_pieces f cdv A outer s H E) (lsAt (defBody s__law_bad_pieces) 4) (tDrop (tBM K "list" rAppend (tVar 1) (tCons (tPL K (cFar 0 far) (fun _ => lt10 far)) tNil))) := by
 exact i_expr (i_app (.mk (pv 1)) (i_lit (x := "_law_far") (far := far) (i := 0) (n := 40) (t := lt10 far) (by decide +kernel) rfl (fun _ => pv 0)))
theorem bp5 {f : Addr} {cdv : Value} {A : Around} {outer : List Env} {s : Shared} {H : Hp} {E : XK} (far : Int) : PSi (cx P w K mg base ["_law_far", "_law_bad"] "_law_bad_pieces" s__law_bad_pieces f cdv A outer s H E) (lsAt (defBody s__law_bad_pieces) 5) (tRet (tOp rCat (tVar 1) (tLst (tPLs K (cFar 0 far) (fun _ => lt11 far))))) := by
 exact i_ret (i_op op_cat (.mk (pv 1)) (i_lst (i_lits (x := "_law_far") (far := far) (i := 0) (n := 40) (ts := lt11 far) (by decide +kernel) rfl (fun _ => pv 0))))
theorem ok_badPieces {f : Addr} {fd : FuncData} (D : DefAt K mg "_law_bad_pieces" s__law_bad_pieces ["_law_far"] f fd) (T : Txt K mg aL aR) : FnOk P w K mg base CX0 1 f fd ["_law_far"] (spBad K badPieces) := by
 refine D.fn.ok scBP (fun vs H Q E h => ?_) (fun cdv A outer s H vs Q E hr h => ?_)
 ·obtain ⟨far, rfl, _⟩ := h
  rfl
 ·obtain ⟨far, rfl, k⟩ := h
  have q := i_cons (bp0 (P := P) (w := w) (K := K) (mg := mg) (base := base) (f := f) (cdv := cdv) (A := A) (outer := outer) (s := s) (H := H) (E := E) far) (i_cons (bp1 (P := P) (w := w) (K := K) (mg := mg) (base := base) (f := f) (cdv := cdv) (A := A) (outer := outer) (s := s) (H := H) (E := E) far) (i_cons (bp2 (P := P) (w := w) (K := K) (mg := mg) (base := base) (f := f) (cdv := cdv) (A := A) (outer := outer) (s := s) (H := H) (E := E) far) (i_cons (bp3 (P := P) (w := w) (K := K) (mg := mg) (base := base) (f := f) (cdv := cdv) (A := A) (outer := outer) (s := s) (H := H) (E := E) far) (i_cons (bp4 (P := P) (w := w) (K := K) (mg := mg) (base := base) (f := f) (cdv := cdv) (A := A) (outer := outer) (s := s) (H := H) (E := E) far) (i_one (bp5 (P := P) (w := w) (K := K) (mg := mg) (base := base) (f := f) (cdv := cdv) (A := A) (outer := outer) (s := s) (H := H) (E := E) far))))))
  rw [show [lsAt (defBody s__law_bad_pieces) 0, lsAt (defBody s__law_bad_pieces) 1, lsAt (defBody s__law_bad_pieces) 2, lsAt (defBody s__law_bad_pieces) 3, lsAt (defBody s__law_bad_pieces) 4, lsAt (defBody s__law_bad_pieces) 5] = defBody s__law_bad_pieces from by kernel_rfl] at q
  refine PSsi.wit q ?_
  refine ⟨rfl, fun vs H1 s1 r1 l1 => ⟨by rw [l1]; exact Nat.le_trans (Nat.le_of_ble_eq_true rfl : _ ≤ 1000) (by decide), fun p hp => ?_⟩⟩
  have C := coll_new s1 r1 hp
  clear s1 r1 l1
  refine ⟨_, rfl, .inl ⟨rfl, _, .of C.is⟩, rfl, fun v H2 s2 r2 => ⟨_, _, v, rfl, rfl, s2 _ _ C.is, ?_, ?_⟩⟩
  ·rw [C.len]
   exact Nat.lt_of_lt_of_le (Nat.le_of_ble_eq_true rfl : Nat.succ _ ≤ 1000) (by decide)
  have C := C.app s2 r2
  refine ⟨_, rfl, rfl, fun us H2 s2 r2 l2 => ⟨by rw [l2]; exact Nat.le_trans (Nat.le_of_ble_eq_true rfl : _ ≤ 1000) (by decide), fun b hb => ⟨_, b, _, us, rfl, rfl, (upd_ne (ne_of_none (s2 _ _ C.is) hb)).trans (s2 _ _ C.is), upd_same, ?_, fun p hp => ?_⟩⟩⟩
  ·rw [C.len, l2]
   exact Nat.le_trans (Nat.le_of_ble_eq_true rfl : _ ≤ 1000) (by decide)
  have C := C.cat s2 r2 hb hp
  refine ⟨_, rfl, rfl, fun us H2 s2 r2 l2 => ⟨by rw [l2]; exact Nat.le_trans (Nat.le_of_ble_eq_true rfl : _ ≤ 1000) (by decide), fun b hb => ⟨_, b, _, us, rfl, rfl, (upd_ne (ne_of_none (s2 _ _ C.is) hb)).trans (s2 _ _ C.is), upd_same, ?_, fun p hp => ?_⟩⟩⟩
  ·rw [C.len, l2]
   exact Nat.le_trans (Nat.le_of_ble_eq_true rfl : _ ≤ 1000) (by decide)
  have C := C.cat s2 r2 hb hp
  refine ⟨_, rfl, .inl ⟨rfl, _, .of C.is⟩, rfl, fun v H2 s2 r2 => ⟨_, _, v, rfl, rfl, s2 _ _ C.is, ?_, ?_⟩⟩
  ·rw [C.len]
   exact Nat.lt_of_lt_of_le (Nat.le_of_ble_eq_true rfl : Nat.succ _ ≤ 1000) (by decide)
  have C := C.app s2 r2
  refine ⟨_, rfl, rfl, fun us H2 s2 r2 l2 => ⟨by rw [l2]; exact Nat.le_trans (Nat.le_of_ble_eq_true rfl : _ ≤ 1000) (by decide), fun b hb => ⟨_, b, _, us, rfl, rfl, (upd_ne (ne_of_none (s2 _ _ C.is) hb)).trans (s2 _ _ C.is), upd_same, ?_, fun p hp => ?_⟩⟩⟩
  ·rw [C.len, l2]
   exact Nat.le_trans (Nat.le_of_ble_eq_true rfl : _ ≤ 1000) (by decide)
  have C := C.cat s2 r2 hb hp
  exact k _ _ _ C.old (C.free) C.is C.rdF
end
end FQ
namespace FQ
open PySem L2 FK
theorem sm_low {i : Int} (h : -100000000 ≤ i ∧ i ≤ 100000000) : Sm i := Sm.of_bits (n := 32) (by omega) (by decide)
theorem badSteps_far1 {far : Int} (h : 0 ≤ far) : stepsOk (.lst [.tup [.tup [.int 1, .int 1], .int (1001 + far)]]) = false := by
 simp [stepsOk, stepsUp, stepOk, denT, valI, show ¬ (1001 + far ≤ 1000) by omega]
theorem badSteps_far2 {far : Int} (h : 0 ≤ far) : stepsOk (.lst [.tup [.tup [.int 1, .int (1001 + far)], .int 1], .tup [.tup [.int 1, .int 1], .int 1]]) = false := by
 simp [stepsOk, stepsUp, stepOk, denT, valI, show ¬ (1001 + far ≤ 1000) by omega]
theorem badPieces_far {far : Int} (h : 0 ≤ far) : pieceOk (.lst [.tup [.tup [.int 0, .int 1], .tup [.int (2 + far), .int 1]]]) = false := by
 simp [pieceOk, spansOk, isSp, ltT, show (1 : Int) < 2 + far by omega]
theorem el_lit : elevenths 8 ++ [.tup [.tup [.int 1, .int 1], .int 1]] = [.tup [.tup [.int 1, .int 11], .int 1], .tup [.tup [.int 2, .int 11], .int 1], .tup [.tup [.int 3, .int 11], .int 1], .tup [.tup [.int 4, .int 11], .int 1], .tup [.tup [.int 5, .int 11], .int 1], .tup [.tup [.int 6, .int 11], .int 1], .tup [.tup [.int 7, .int 11], .int 1], .tup [.tup [.int 8, .int 11], .int 1], .tup [.tup [.int 1, .int 1], .int 1]] := rfl
theorem badSteps_ok {far : Int} (h0 : 0 ≤ far) (h1 : far < 1000000) : ∀ t ∈ badSteps far, Smt t ∧ stepsOk t = false := by
 unfold badSteps lt0 lt1 lt2 lt3 lt4 lt5
 rw [el_lit]
 intro t ht
 simp only [List.mem_append, List.mem_cons, List.not_mem_nil, or_false, or_assoc] at ht
 rcases ht with rfl | rfl | rfl | rfl | rfl | rfl | rfl | rfl | rfl | rfl | rfl | rfl | rfl | rfl | rfl | rfl | rfl | rfl | rfl | rfl | rfl | rfl
 all_goals refine ⟨by (repeat (first | exact trivial | exact sm_low (by omega) | refine ⟨?_, ?_⟩)), ?_⟩
 all_goals first | exact badSteps_far1 h0 | exact badSteps_far2 h0 | decide +kernel
theorem badPieces_ok {far : Int} (h0 : 0 ≤ far) (h1 : far < 1000000) : ∀ t ∈ badPieces far, Smt t ∧ pieceOk t = false := by
 unfold badPieces lt6 lt7 lt8 lt9 lt10 lt11
 intro t ht
 simp only [List.mem_append, List.mem_cons, List.not_mem_nil, or_false, or_assoc] at ht
 rcases ht with rfl | rfl | rfl | rfl | rfl | rfl | rfl | rfl | rfl | rfl | rfl | rfl | rfl | rfl | rfl | rfl | rfl | rfl
 all_goals refine ⟨by (repeat (first | exact trivial | exact sm_low (by omega) | refine ⟨?_, ?_⟩)), ?_⟩
 all_goals first | exact badPieces_far h0 | decide +kernel
end FQ
namespace L2
open PySem PySem.Spec PyProof.Rows
theorem pe_askK {X : Cx} {P : Program} {w : World} {K : PySem.W.Frag} {mg : Str → Option Value} {base : Heap} {x : Str} {k : Nat} {XC : Addr} {e : Expr} {es : List Expr} {p pos : Pos} {t : TA} {tf : TE} {W : St → Hp → Prop} (hP : X.prog = P) (hw : X.w = w) (hK : X.K = K) (hm : X.mg = mg) (hb : X.base = base) (hr : Room k X.A) (hf : PE (X.tryW XC W) (.Name x p) tf) (ha : PA (X.tryW XC W) (e :: es) t) (he : starEach (e :: es) X.env = (false, eval e X.env) :: starEach es X.env := by rfl) (hpl : (backTo pos (starEach es X.env)).any (·.1) = false := by rfl) :
  PE (X.tryW XC W) (.Call (.Name x p) (e :: es) [] pos) (fun σ H Q => tf σ H fun x H1 => (∃ f, x = .ref f ∧ PySem.W.keepIn K (.ref f) = true ∧ t σ H1 fun vs H2 => AskX P w K mg base XC k x vs H2 Q (fun _ _ H' => W σ H')) ∨ (∃ l : Lam, x = .ref l.f ∧ t σ H1 fun vs H2 => l.At H2 ∧ AskX P w K mg base XC k x vs H2 Q (fun _ _ H' => W σ H'))) := by
 subst hP hw hK hm hb
 exact pe_askX hr hf ha he hpl
end L2
namespace FQ
open PySem L2 FK
theorem Room.stillX {k : Nat} {A : Around} (r : Room k A) : Room k (Around.still A) := ⟨rfl, r.dp, r.un⟩
structure Kinds (K : PySem.W.Frag) (mg : Str → Option Value) (cF cT cP cK cL cX cB : Addr) : Prop where
 isi : mg "isinstance" = none
 kF : mg "BadFraction" = some (.ref cF)
 kT : mg "BadTaste" = some (.ref cT)
 kP : mg "BadPiece" = some (.ref cP)
 kK : mg "BadTakers" = some (.ref cK)
 kL : mg "TooLittle" = some (.ref cL)
 kX : mg "BadText" = some (.ref cX)
 kB : mg "CakeError" = some (.ref cB)
 kV : mg "ValueError" = none
 base : BaseK K cB
structure OfKind (K : PySem.W.Frag) (cF cT cP cK cL cX cB : Addr) (C : Addr) (k : Nat) : Prop where
 ex : ExcK K C
 kF : PySem.W.kitOne K (.ref C) (.ref cF) = some (decide ((k : Int) = 0))
 kT : PySem.W.kitOne K (.ref C) (.ref cT) = some (decide ((k : Int) = 1))
 kP : PySem.W.kitOne K (.ref C) (.ref cP) = some (decide ((k : Int) = 2))
 kK : PySem.W.kitOne K (.ref C) (.ref cK) = some (decide ((k : Int) = 3))
 kL : PySem.W.kitOne K (.ref C) (.ref cL) = some (decide ((k : Int) = 4))
 kV : PySem.W.kitOne K (.ref C) (.type "ValueError") = some true
 kX : PySem.W.kitOne K (.ref C) (.ref cX) = some false
 kB : PySem.W.mroIn K C (.ref cB) = some true
theorem le1000 {n : Nat} (h : Nat.ble n 1000 = true) : n ≤ sizeLine := Nat.le_trans (Nat.le_of_ble_eq_true h) (by decide)
theorem dI (k : Nat) (j : Int) : decide (V.int k = V.int j) = decide ((k : Int) = j) := decide_eq_decide.mpr ⟨V.int.inj, congrArg _⟩
def dueL (k : Nat) : List V := [.bl (decide ((k : Int) = 0)), .bl (decide ((k : Int) = 1)), .bl (decide ((k : Int) = 2)), .bl (decide ((k : Int) = 3)), .bl (decide ((k : Int) = 4)), .bl true, .bl false]
def spDue : Sp := fun vs H Q _ => ∃ k : Nat, vs = [.int k] ∧ ∀ p, H p = none → Q (.ref p) (upd H p (.lst (dueL k)))
def spKinds (K : PySem.W.Frag) (cF cT cP cK cL cX cB : Addr) : Sp := fun vs H Q _ => ∃ (ea C : Addr) (k : Nat), vs = [.ref ea] ∧ H ea = some (excO ea C) ∧ OfKind K cF cT cP cK cL cX cB C k ∧ ∀ p H', Same H H' → H' p = some (.lst (dueL k)) → Q (.ref p) H'
def spToldX (P : Program) (w : World) (K : PySem.W.Frag) (mg : Str → Option Value) (base : Heap) (n : Nat) (cF cT cP cK cL cX cB : Addr) : Sp := fun vs H Q _ => ∃ (x y z : V) (C : Addr) (k : Nat), vs = [x, y, z] ∧ OfKind K cF cT cP cK cL cX cB C k ∧
 ((∃ f, x = .ref f ∧ PySem.W.keepIn K (.ref f) = true) ∨ ∃ l : Lam, x = .ref l.f ∧ l.At H) ∧ ∀ (Q' : VK) (E' : XK), (∀ H', (∀ p H'', Same H' H'' → H'' p = some (.lst (dueL k)) → Q (.ref p) H'') → E' (.ref C) none H') → AskX P w K mg base C n x [y, z] H Q' E'
section
variable {P : Program} {w : World} {K : PySem.W.Frag} {mg : Str → Option Value} {base : Heap} {cF cT cP cK cL cX cB : Addr}
theorem scDue : FnScope ["_law_kind"] ["_law_kind"] (defScope s__law_due) := ⟨rfl, rfl, rfl, by decide +kernel, rfl, by decide +kernel, by decide +kernel⟩
theorem ok_due {f : Addr} {fd : FuncData} (D : DefAt K mg "_law_due" s__law_due ["_law_kind"] f fd) : FnOk P w K mg base CX0 1 f fd ["_law_kind"] spDue := by
 refine D.fn.ok scDue (fun vs H Q E h => ?_) (fun cdv A outer s H vs Q E hr h => ?_)
 ·obtain ⟨k, rfl, _⟩ := h
  rfl
 ·obtain ⟨k, rfl, q⟩ := h
  refine ⟨_, pss_one (ps_ret (pe_lst (pa_cons (pe_cmpR op_eq (pv 0) pe_int (nomark _)) (pa_cons (pe_cmpR op_eq (pv 0) pe_int (nomark _)) (pa_cons (pe_cmpR op_eq (pv 0) pe_int (nomark _)) (pa_cons (pe_cmpR op_eq (pv 0) pe_int (nomark _)) (pa_cons (pe_cmpR op_eq (pv 0) pe_int (nomark _)) (pa_cons pe_bl (pa_cons pe_bl pa_nil))))))))), ?_⟩
  refine ⟨_, rfl, rfl, _, rfl, rfl, _, rfl, rfl, _, rfl, rfl, _, rfl, rfl, le1000 rfl, fun p hp => ?_⟩
  rw [dI, dI, dI, dI, dI]
  exact q p hp
theorem scKinds : FnScope ["_law_error", "_law_found"] ["_law_error"] (defScope s__law_kinds) := ⟨rfl, rfl, rfl, by decide +kernel, rfl, by decide +kernel, by decide +kernel⟩
theorem ok_kinds {f : Addr} {fd : FuncData} (D : DefAt K mg "_law_kinds" s__law_kinds ["_law_error"] f fd) (Ks : Kinds K mg cF cT cP cK cL cX cB) : FnOkH P w K mg base 1 f fd ["_law_error"] (spKinds K cF cT cP cK cL cX cB) := by
 refine D.fn.okH scKinds (fun vs H Q E h => ?_) (fun cdv A outer s H vs Q E hr h => ?_)
 ·obtain ⟨ea, C, k, rfl, _⟩ := h
  rfl
 ·obtain ⟨ea, C, k, rfl, he, o, q⟩ := h
  refine ⟨_, pss_cons (ps_set (i := 1) scKinds.nd rfl (Or.inl rfl) (pe_lst (pa_cons (pe_callB call_isX (by rfl) Ks.isi PyProof.Rows.boot_isinstance (pa_cons (pv 0) (pa_cons (pe_glob (v := .ref cF) rfl Ks.kF rfl) pa_nil))) (pa_cons (pe_callB call_isX (by rfl) Ks.isi PyProof.Rows.boot_isinstance (pa_cons (pv 0) (pa_cons (pe_glob (v := .ref cT) rfl Ks.kT rfl) pa_nil))) (pa_cons (pe_callB call_isX (by rfl) Ks.isi PyProof.Rows.boot_isinstance (pa_cons (pv 0) (pa_cons (pe_glob (v := .ref cP) rfl Ks.kP rfl) pa_nil))) pa_nil)))))
   (pss_cons (ps_set (i := 1) scKinds.nd rfl (Or.inl rfl) (pe_op op_cat (pv 1) (pe_lst (pa_cons (pe_callB call_isX (by rfl) Ks.isi PyProof.Rows.boot_isinstance (pa_cons (pv 0) (pa_cons (pe_glob (v := .ref cK) rfl Ks.kK rfl) pa_nil))) (pa_cons (pe_callB call_isX (by rfl) Ks.isi PyProof.Rows.boot_isinstance (pa_cons (pv 0) (pa_cons (pe_glob (v := .ref cL) rfl Ks.kL rfl) pa_nil))) (pa_cons (pe_callB call_isX (by rfl) Ks.isi PyProof.Rows.boot_isinstance (pa_cons (pv 0) (pa_cons (pe_bltn (v := .ty "ValueError") rfl Ks.kV (by rfl) rfl) pa_nil))) pa_nil))))))
   (pss_one (ps_ret (pe_op op_cat (pv 1) (pe_lst (pa_cons (pe_callB call_isX (by rfl) Ks.isi PyProof.Rows.boot_isinstance (pa_cons (pv 0) (pa_cons (pe_glob (v := .ref cX) rfl Ks.kX rfl) pa_nil))) pa_nil)))))), ?_⟩
  have rr : ∀ a u, RelV (.ref a) u → u = valT (.ref a) := fun a u r => r
  refine ⟨_, rfl, ea, C, _, _, rfl, he, o.ex, rr _, o.kF, _, rfl, ea, C, _, _, rfl, he, o.ex, rr _, o.kT, _, rfl, ea, C, _, _, rfl, he, o.ex, rr _, o.kP, le1000 rfl, fun p1 h1 => ?_⟩
  have s1 := Same.upd (o := .lst [.bl (decide ((k : Int) = 0)), .bl (decide ((k : Int) = 1)), .bl (decide ((k : Int) = 2))]) h1
  have e1 := s1 _ _ he
  refine ⟨_, rfl, _, rfl, ea, C, _, _, rfl, e1, o.ex, rr _, o.kK, _, rfl, ea, C, _, _, rfl, e1, o.ex, rr _, o.kL, _, rfl, ea, C, _, _, rfl, e1, o.ex, (fun u r => r), o.kV, le1000 rfl, fun p2 h2 => ⟨_, _, _, _, rfl, rfl, (upd_ne (ne_of_none upd_same h2)).trans upd_same, upd_same, le1000 rfl, fun p3 h3 => ?_⟩⟩
  have s2 := Same.upd (o := .lst [.bl (decide ((k : Int) = 3)), .bl (decide ((k : Int) = 4)), .bl true]) h2
  have s3 := Same.upd (o := .lst ([.bl (decide ((k : Int) = 0)), .bl (decide ((k : Int) = 1)), .bl (decide ((k : Int) = 2))] ++ [.bl (decide ((k : Int) = 3)), .bl (decide ((k : Int) = 4)), .bl true])) h3
  have e3 := s3 _ _ (s2 _ _ e1)
  refine ⟨_, rfl, _, rfl, ea, C, _, _, rfl, e3, o.ex, rr _, o.kX, le1000 rfl, fun p4 h4 => ⟨_, _, _, _, rfl, rfl, (upd_ne (ne_of_none upd_same h4)).trans upd_same, upd_same, le1000 rfl, fun p5 h5 => ?_⟩⟩
  have s4 := Same.upd (o := .lst [.bl false]) h4
  exact q p5 _ ((((s1.trans s2).trans s3).trans s4).trans (Same.upd h5)) upd_same
theorem scToldX : FnScope ["_law_ask", "_law_one", "_law_other", "_law_error"] ["_law_ask", "_law_one", "_law_other"] (defScope s__law_told) := ⟨rfl, rfl, rfl, by decide +kernel, rfl, by decide +kernel, by decide +kernel⟩
theorem ok_toldX {n : Nat} {f : Addr} {fd : FuncData} (D : DefAt K mg "_law_told" s__law_told ["_law_ask", "_law_one", "_law_other"] f fd) (Ks : Kinds K mg cF cT cP cK cL cX cB) (hn : 1 ≤ n) (CK : ClH P w K mg base "_law_kinds" 1 ["_law_error"] (spKinds K cF cT cP cK cL cX cB)) : FnOk P w K mg base CX0 (n + 1) f fd ["_law_ask", "_law_one", "_law_other"] (spToldX P w K mg base n cF cT cP cK cL cX cB) := by
 refine D.fn.ok scToldX (fun vs H Q E h => ?_) (fun cdv A outer s H vs Q E hr h => ?_)
 ·obtain ⟨x, y, z, C, k, rfl, _⟩ := h
  rfl
 ·obtain ⟨x, y, z, C, k, rfl, o, at', ask⟩ := h
  have hrH := Room.stillX (hr.mono hn)
  refine ⟨_, pss_cons (ps_tryAs (XC := C) (B := cB) (i := 3) Ks.kB Ks.base o.kB rfl rfl rfl scToldX.nd rfl (Or.inl rfl) rfl rfl
    (fun W pins => pss_one (ps_expr (pe_askK (P := P) (w := w) (K := K) (mg := mg) (base := base) (XC := C) (W := W) (k := n) rfl rfl rfl rfl rfl hr (pv 0) (pa_cons (pv 1) (pa_cons (pv 2) pa_nil)))))
    (fun ea => pss_one (ps_ret (pe_clH CK hrH rfl (pa_cons (pv 3) pa_nil)))))
   (pss_one (ps_ret (pe_lst pa_nil))), ?_⟩
  refine ⟨fun σ' H' => σ' = [some x, some y, some z, none] ∧ ∀ p H'', Same H' H'' → H'' p = some (.lst (dueL k)) → Q (.ref p) H'', ?_, ?_⟩
  ·rcases at' with ⟨g, rfl, kp⟩ | ⟨l, rfl, la⟩
   ·exact ⟨_, rfl, .inl ⟨g, rfl, kp, _, rfl, _, rfl, ask _ _ fun H' h => ⟨rfl, h⟩⟩⟩
   ·exact ⟨_, rfl, .inr ⟨l, rfl, _, rfl, _, rfl, la, ask _ _ fun H' h => ⟨rfl, h⟩⟩⟩
  ·rintro σ' H' ⟨rfl, h⟩ ea he
   exact ⟨_, rfl, ea, C, k, rfl, upd_same, o, fun p H'' s' hp => h p H'' ((Same.upd he).trans s') hp⟩
end
end FQ
namespace FQ
open PySem L2 FK
def badNums (far : Int) : List Tr := [.tup [.int (-1 - far), .int 1], .tup [.int 1, .int (0 - far)], .tup [.bl true, .int 1], .tup [.int 1, .bl true], .tup [.str "1", .int 2], .tup [.int 1, .non], .tup [.lst [.int 1], .int 2]]
theorem badNums_ok {far : Int} (h0 : 0 ≤ far) : ∀ t ∈ badNums far, ∃ a b, t = .tup [a, b] ∧ (isWh a = false ∨ isWh b = false ∨ valI a < 0 ∨ valI b < 1) := by
 unfold badNums
 intro t ht
 simp only [List.mem_cons, List.not_mem_nil, or_false] at ht
 rcases ht with rfl | rfl | rfl | rfl | rfl | rfl | rfl
 ·exact ⟨_, _, rfl, .inr (.inr (.inl (show -1 - far < 0 by omega)))⟩
 ·exact ⟨_, _, rfl, .inr (.inr (.inr (show 0 - far < 1 by omega)))⟩
 ·exact ⟨_, _, rfl, .inl rfl⟩
 ·exact ⟨_, _, rfl, .inr (.inl rfl)⟩
 ·exact ⟨_, _, rfl, .inl rfl⟩
 ·exact ⟨_, _, rfl, .inr (.inl rfl)⟩
 ·exact ⟨_, _, rfl, .inl rfl⟩
def spNumX (BF : Addr) : Sp := fun vs H _ E => ∃ (d : Nat) (far : Int), vs = [.int d, .int far] ∧ d < 7 ∧ 0 ≤ far ∧ ∀ H', Same H H' → E (.ref BF) none H'
section
variable {P : Program} {w : World} {K : PySem.W.Frag} {mg : Str → Option Value} {base : Heap} {BF : Addr}
theorem scNum : FnScope ["_law_door", "_law_far", "_law_bad"] ["_law_door", "_law_far"] (defScope s__law_with_numbers) := ⟨rfl, rfl, rfl, by decide +kernel, rfl, by decide +kernel, by decide +kernel⟩
theorem ok_numX {f : Addr} {fd : FuncData} (D : DefAt K mg "_law_with_numbers" s__law_with_numbers ["_law_door", "_law_far"] f fd) (CM : ClX P w K mg base BF "made" 2 ["a", "b"] (spMadeX K BF)) : FnOk P w K mg base (CX1 P w BF) 3 f fd ["_law_door", "_law_far"] (spNumX BF) := by
 refine D.fn.okX scNum (fun vs H Q E h => ?_) (fun cdv A outer s H vs Q E hr h => ?_)
 ·obtain ⟨d, far, rfl, _⟩ := h
  rfl
 ·obtain ⟨d, far, rfl, hd, h0, k⟩ := h
  refine ⟨_, pss_cons (ps_set (i := 2) scNum.nd rfl (Or.inl rfl) (pe_lst (pl_lits (x := "_law_far") (far := far) (i := 1) (fun _ => pv 1) 40 _ (badNums far) (by decide +kernel) rfl)))
   (pss_one (ps_ret (pe_clX CM hr rfl (pa_cons (pe_ix ix_tup (pe_ix ix_list (pv 2) (pv 0) (fun _ _ => rfl)) pe_int (fun _ _ => rfl)) (pa_cons (pe_ix ix_tup (pe_ix ix_list (pv 2) (pv 0) (fun _ _ => rfl)) pe_int (fun _ _ => rfl)) pa_nil))))), ?_⟩
  refine ⟨rfl, fun xs H1 s1 r1 l1 => ⟨by rw [l1]; exact le1000 rfl, fun p hp => ?_⟩⟩
  have s2 := Same.upd (o := .lst xs) hp
  have hx : d < xs.length := by
   rw [l1]
   exact hd
  have hv : xs[d]? = some xs[d] := List.getElem?_eq_getElem hx
  obtain ⟨t, ht, rt⟩ := rdL_get r1.now hv
  obtain ⟨a, b, rfl, bad⟩ := badNums_ok h0 t (List.mem_of_getElem? ht)
  obtain ⟨q, va, vb, e, hq, ra, rb⟩ := rd_two (rd_same s2 _ _ rt)
  exact ⟨_, rfl, _, rfl, p, _, _, _, rfl, rfl, .of upd_same, atI_nat (v := xs[d]) hv, q, _, _, va, e, rfl, hq, rfl, _, rfl, _, rfl, p, _, _, _, rfl, rfl, .of upd_same, atI_nat (v := xs[d]) hv, q, _, _, vb, e, rfl, hq, rfl, va, vb, a, b, rfl, ra, rb, bad, k _ (s1.trans s2)⟩
end
end FQ
namespace FQ
open PySem L2 FK
theorem rd_fr {K : PySem.W.Frag} {H : Hp} {a b : Int} {v : V} {q : Rat} (h : Rd K H (.tup [.int a, .int b]) v) (ha : a = q.num) (hb : b = (q.den : Int)) : FrQ K H v q := by
 obtain ⟨p, rfl, s⟩ := rd_pair h
 exact .of s ha hb
theorem rd_st {K : PySem.W.Frag} {H : Hp} {a b z : Int} {v : V} {q : Rat} (h : Rd K H (.tup [.tup [.int a, .int b], .int z]) v) (ha : a = q.num) (hb : b = (q.den : Int)) : StQ K H v (q, z) := by
 obtain ⟨p, vx, vy, rfl, s, r1, r2⟩ := rd_two h
 exact ⟨p, vx, vy, rfl, s, rd_fr r1 ha hb, r2⟩
theorem rd_co {K : PySem.W.Frag} {H : Hp} {a b c d : Int} {v : V} {q r : Rat} (h : Rd K H (.tup [.tup [.int a, .int b], .tup [.int c, .int d]]) v) (ha : a = q.num) (hb : b = (q.den : Int)) (hc : c = r.num) (hd : d = (r.den : Int)) : CoQ K H v (q, r) := by
 obtain ⟨p, vx, vy, rfl, s, r1, r2⟩ := rd_two h
 exact ⟨p, vx, vy, rfl, s, rd_fr r1 ha hb, rd_fr r2 hc hd⟩
theorem one_ts {z : Int} (h0 : 1 ≤ z) (h1 : z ≤ 1000) : TsOk 1 [((1 : Rat), z)] where
 pos := by decide
 few := by decide
 ne := fun h => nomatch h
 len := by show 1 ≤ 8; decide
 rise := ⟨by decide, by omega, trivial⟩
 top := rfl
 gr := fun y hy => by
  rw [List.mem_singleton.mp hy]
  exact Gr.one 1
 w := fun y hy => by
  rw [List.mem_singleton.mp hy]
  exact h1
theorem F_one {z : Int} (h0 : 1 ≤ z) {x : Rat} (x0 : 0 ≤ x) (x1 : x ≤ 1) : F [((1 : Rat), z)] x = x := by
 have hz : (z : Rat) ≠ 0 := fun e => by
  have : z = 0 := by exact_mod_cast e
  omega
 have e : ∀ y : Rat, 0 ≤ y → y ≤ 1 → A 0 [((1 : Rat), z)] y = (z : Rat) * y := fun y y0 y1 => by
  show (z : Rat) * (max 0 (min 1 y) - 0) + 0 = (z : Rat) * y
  have : max 0 (min 1 y) = y := by grind
  rw [this]
  grind
 unfold F tot
 rw [e x x0 x1, e 1 (by decide) Rat.le_refl]
 grind
theorem Wo_third {z : Int} (h0 : 1 ≤ z) : Wo [((1 : Rat), z)] [((0 : Rat), (1 / 3 : Rat))] = 1 / 3 := by
 show (F _ (1 / 3) - F _ 0) + 0 = 1 / 3
 rw [F_one h0 (by decide +kernel) (by decide +kernel), F_one h0 (by decide +kernel) (by decide +kernel)]
 decide +kernel
def badShares (far : Int) : List Tr := [.tup [.int 1, .int 2], .tup [.int (2 + far), .int 1], .tup [.int 5, .int 13]]
theorem badShares_ok {far : Int} (h0 : 0 ≤ far) (h1 : far < 1000000) : ∀ t ∈ badShares far, ∃ (a b : Int) (q : Rat), t = .tup [.int a, .int b] ∧ a = q.num ∧ b = (q.den : Int) ∧ Fit q ∧ 1 / 3 < q := by
 unfold badShares
 intro t ht
 simp only [List.mem_cons, List.not_mem_nil, or_false] at ht
 rcases ht with rfl | rfl | rfl
 ·exact ⟨1, 2, 1 / 2, rfl, by decide +kernel, by decide +kernel, ⟨by decide +kernel, by decide +kernel, by decide +kernel⟩, by decide +kernel⟩
 ·refine ⟨2 + far, 1, ((2 + far : Int) : Rat), rfl, (Rat.num_intCast _).symm, by rw [Rat.den_intCast]; rfl, ⟨?_, ?_, ?_⟩, ?_⟩
  ·exact Rat.intCast_nonneg.mpr (by omega)
  ·rw [Rat.num_intCast]
   exact Nat.lt_of_lt_of_le (show (2 + far).natAbs < 2 ^ 32 by omega) (Nat.pow_le_pow_right (by decide) (by decide))
  ·rw [Rat.den_intCast]
   exact Nat.lt_of_lt_of_le (show 1 < 2 ^ 1 by decide) (Nat.pow_le_pow_right (by decide) (by decide))
  ·have : (1 : Rat) ≤ ((2 + far : Int) : Rat) := by
    have h := Rat.intCast_le_intCast.mpr (show (1 : Int) ≤ 2 + far by omega)
    exact h
   have h3 : (1 / 3 : Rat) < 1 := by decide +kernel
   grind
 ·exact ⟨5, 13, 5 / 13, rfl, by decide +kernel, by decide +kernel, ⟨by decide +kernel, by decide +kernel, by decide +kernel⟩, by decide +kernel⟩
def spShareX (TL : Addr) : Sp := fun vs H _ E => ∃ (d : Nat) (far : Int), vs = [.int d, .int far] ∧ d < 3 ∧ 0 ≤ far ∧ far < 1000000 ∧ ∀ H', Same H H' → E (.ref TL) none H'
theorem third_pc : PcOk 3 [((0 : Rat), (1 / 3 : Rat))] where
 d := ⟨by decide, by decide⟩
 win := fun p hp => by
  rw [List.mem_singleton.mp hp]
  decide +kernel
 apart := List.pairwise_singleton _ _
 gr := fun p hp => by
  rw [List.mem_singleton.mp hp]
  exact ⟨Gr.zero 3, 1, by decide +kernel⟩
 few := by show 1 ≤ 1000; decide
section
variable {P : Program} {w : World} {K : PySem.W.Frag} {mg : Str → Option Value} {base : Heap} {C TL : Addr}
theorem scShr : FnScope ["_law_door", "_law_far"] ["_law_door", "_law_far"] (defScope s__law_with_shares) := ⟨rfl, rfl, rfl, by decide +kernel, rfl, by decide +kernel, by decide +kernel⟩
theorem ok_shareX {f : Addr} {fd : FuncData} (D : DefAt K mg "_law_with_shares" s__law_with_shares ["_law_door", "_law_far"] f fd) (MK : Mc P w K mg base "Taste" C 5 ["self", "steps"] (spInit K C)) (MC : MlX P w K mg base C TL "cut" 10 ["self", "piece", "share"] (spCutL K C TL)) (TC : TxtC K C) : FnOk P w K mg base (CX1 P w TL) 11 f fd ["_law_door", "_law_far"] (spShareX TL) := by
 refine D.fn.okX scShr (fun vs H Q E h => ?_) (fun cdv A outer s H vs Q E hr h => ?_)
 ·obtain ⟨d, far, rfl, _⟩ := h
  rfl
 ·obtain ⟨d, far, rfl, hd, h0, h1, k⟩ := h
  have hr6 : Room 6 _ := hr.mono (by decide)
  refine ⟨_, pss_one (ps_ret (pe_mlP MC TC.cl hr (pe_mk MK hr6 rfl (pa_cons (pe_lst (pa_cons (pe_tup (pa_cons (pe_tup (pa_cons pe_int (pa_cons pe_int pa_nil))) (pa_cons (pe_op op_add pe_int (pe_op op_mod (pv 1) pe_int)) pa_nil))) pa_nil)) pa_nil))
   (pa_cons (pl_lit (x := "_law_far") (far := far) (i := 1) (fun _ => pv 1) 40 _ (.lst [.tup [.tup [.int 0, .int 1], .tup [.int 1, .int 3]]]) (by decide +kernel) rfl)
    (pa_cons (pe_ix ix_list (pe_lst (pl_lits (x := "_law_far") (far := far) (i := 1) (fun _ => pv 1) 40 _ (badShares far) (by decide +kernel) rfl)) (pv 0) (fun _ _ => rfl)) pa_nil)))), ?_⟩
  refine ⟨le1000 rfl, fun p1 q1 => ⟨_, rfl, _, _, rfl, rfl, (by show (0 : Int) < 1000; decide), _, _, rfl, rfl, le1000 rfl, fun p2 q2 => ⟨le1000 rfl, fun p3 q3 => ?_⟩⟩⟩
  have z0 : (1 : Int) ≤ 1 + far % 1000 := by omega
  have z1 : 1 + far % 1000 ≤ 1000 := by omega
  have s1 := Same.upd (o := .tup [.int 1, .int 1]) q1
  have s2 := Same.upd (o := .tup [.ref p1, .int (1 + far % 1000)]) q2
  have s3 := Same.upd (o := .lst [.ref p2]) q3
  have fr1 : FrQ K (upd (upd (upd H p1 (.tup [.int 1, .int 1])) p2 (.tup [.ref p1, .int (1 + far % 1000)])) p3 (.lst [.ref p2])) (.ref p1) 1 := (FrQ.of (q := 1) sqT_new rfl rfl).same (s2.trans s3)
  refine mk_taste (C := C) (p := 1) (S := [((1 : Rat), 1 + far % 1000)]) sqL_new (.cons ⟨p2, .ref p1, .int (1 + far % 1000), rfl, s3.sqT sqT_new, fr1, rfl⟩ .nil) (one_ts z0 z1) fun x lt ll H4 s4 hx hlt hll ta => ?_
  obtain ⟨dx, hx2⟩ := ta.ins
  refine ⟨x, dx, _, rfl, hx2, rfl, rfl, fun vp H5 s5 r5 => ⟨rfl, fun xs H6 s6 r6 l6 => ⟨by rw [l6]; exact le1000 rfl, fun p7 q7 => ?_⟩⟩⟩
  have s7 := Same.upd (o := .lst xs) q7
  have hx' : d < xs.length := by
   rw [l6]
   exact hd
  have hv : xs[d]? = some xs[d] := List.getElem?_eq_getElem hx'
  obtain ⟨t, ht, rt⟩ := rdL_get r6.now hv
  obtain ⟨a, b, q, rfl, ea, eb, fq, lq⟩ := badShares_ok h0 h1 t (List.mem_of_getElem? ht)
  have rp := rd_same (s6.trans s7) _ _ r5.now
  obtain ⟨ap, ys, rfl, hs, v, r, rfl, rv, hr'⟩ := rp
  cases (show r = [] from hr')
  exact ⟨_, rfl, p7, _, _, _, rfl, rfl, .of upd_same, atI_nat (v := xs[d]) hv, x, lt, ll, ap, [v], xs[d], 1, 3, _, _, q, rfl, ta.same ((s5.trans s6).trans s7), one_ts z0 z1, hs, .cons (rd_co (q := 0) (r := 1 / 3) rv rfl rfl (by decide +kernel) (by decide +kernel)) .nil, third_pc, rd_fr (rd_same s7 _ _ rt) ea eb, fq, (by rw [Wo_third z0]; exact lq), fun H' s' => k H' (((((((s1.trans s2).trans s3).trans s4).trans s5).trans s6).trans s7).trans s')⟩
end
end FQ
namespace L2
open PySem PySem.Spec PyProof.Rows
theorem pe_either {X : Cx} {e : Expr} {t u : TE} (h : PE X e t) (k : PE X e u) : PE X e (fun σ H Q => t σ H Q ∨ u σ H Q) := fun pins s σ H Q I q => q.elim (h pins s σ H Q I) (k pins s σ H Q I)
theorem comp_rep {ti : TA} {σ : St} {H : Hp} {Q : VK} {x : V} (hx : compSt 1 [2] σ = [none, some x]) (h : ti σ H fun vs H1 => ∃ n : Nat, vs = [.int n] ∧ n ≤ 1000 ∧ ∀ D H2, H1 D = none → Same H1 H2 → H2 D = some (.lst (List.replicate n x)) → Q (.ref D) H2)
  (mono : ∀ {Q1 Q2 : List V → Hp → Prop}, (∀ vs H1, Q1 vs H1 → Q2 vs H1) → ti σ H Q1 → ti σ H Q2) : tComp 1 [2] (iRng1 ti) (fun _ => gName 0) (fun _ => tNoIf) (fun _ => tVar 1) σ H Q := by
 refine mono (fun vs H1 ⟨n, e, hn, q⟩ => ⟨(n : Int), e, by omega, by omega, fun D hD => ?_⟩) h
 rw [hx]
 refine comp_range (lo := 0) (n := n) (D := D) (fun i zs σ' H' => Same H1 H' ∧ H' D = some (.lst zs) ∧ zs = List.replicate i x ∧ ∃ v, σ' = [v, some x]) (Nat.le_trans hn (by decide)) ⟨Same.upd hD, upd_same, rfl, _, rfl⟩ ?_ ?_ ?_
 ·rintro i zs σ' H' _ ⟨_, h2, rfl, _⟩
  exact ⟨h2, by rw [List.length_replicate]; exact Nat.le_refl _⟩
 ·rintro i zs σ' H' hi ⟨s2, h2, rfl, v, rfl⟩ c
  refine ⟨_, rfl, h2, fun b o e => ?_, upd_same, ?_, _, rfl⟩
  ·rw [upd_ne (ne_of_none e hD)]
   exact s2 _ _ e
  ·rw [List.replicate_succ']
 ·rintro zs σ' H' ⟨s2, h2, rfl, _⟩
  exact q D H' hD s2 h2
end L2
namespace FQ
open PySem L2 FK
theorem tsl_rep {K : PySem.W.Frag} {C : Addr} {H : Hp} {D x dx : Addr} {fs : List (Str × V)} {n : Nat} (h : H D = some (.lst (List.replicate n (.ref x)))) (hx : H x = some (.ins C dx fs)) : TsL K C H (.ref D) n true := by
 refine .inr ⟨D, _, List.replicate n true, rfl, .of h, ?_, List.length_replicate, ?_⟩
 ·induction n with
  | zero => exact .nil
  | succ n _ =>
   clear h
   have : ∀ m, Paired (IsT K C H) (List.replicate m (.ref x)) (List.replicate m true) := fun m => by
    induction m with
    | zero => exact .nil
    | succ m ih => exact .cons (.inl ⟨rfl, x, dx, fs, rfl, hx⟩) ih
   exact this _
 ·simp
end FQ
namespace FQ
open PySem L2 FK
def doorE (st : Stmt) (k : Nat) : Expr := match (defBody st).getD (k + 1) (.Pass ⟨0, 0, 0, 0⟩) with
 | .If _ [.Return (some e) _] _ _ => e
 | .Return (some e) _ => e
 | _ => .Constant .none 0 ⟨0, 0, 0, 0⟩
theorem comp_repK {σ : St} {H : Hp} {Q : VK} {x : V} {n : Nat} (hx : compSt 1 [2] σ = [none, some x]) (hn : n ≤ 1000) (q : ∀ D H2, H D = none → Same H H2 → H2 D = some (.lst (List.replicate n x)) → Q (.ref D) H2) : tComp 1 [2] (iRng1 (fun _ H Q => Q [.int n] H)) (fun _ => gName 0) (fun _ => tNoIf) (fun _ => tVar 1) σ H Q := comp_rep hx ⟨n, rfl, hn, q⟩ (fun m h => m _ _ h)
theorem two_new {H : Hp} {y dy W : Addr} (hy : H y = none) (hd : H dy = none) : Same H (upd (upd H dy (.own y)) y (.ins W dy [])) := fun b o e => by
 rw [upd_ne (ne_of_none e hy), upd_ne (ne_of_none e hd)]
 exact e
theorem tsl_two {K : PySem.W.Frag} {C : Addr} {H : Hp} {q x dx : Addr} {fs : List (Str × V)} {v : V} {T : String} (h : H q = some (.lst [.ref x, v])) (hx : H x = some (.ins C dx fs)) (ty : TyO K H v (.type T)) (kt : PySem.W.kitOne K (.type T) (.ref C) = some false) : TsL K C H (.ref q) 2 false :=
 .inr ⟨q, _, [true, false], rfl, .of h, .cons (.inl ⟨rfl, x, dx, fs, rfl, hx⟩) (.cons (.inr ⟨rfl, T, ty, kt⟩) .nil), rfl, rfl⟩
theorem tsl_bad1 {K : PySem.W.Frag} {C : Addr} {H : Hp} {t : Tr} {v : V} (h : Rd K H (.lst [t]) v) (kt : PySem.W.kitOne K (.type (tyN t)) (.ref C) = some false) : TsL K C H v 1 false := by
 obtain ⟨p, xs, rfl, hs, u, r, rfl, ru, hr⟩ := h
 cases (show r = [] from hr)
 exact .inr ⟨p, _, [false], rfl, hs, .cons (.inr ⟨rfl, _, tyo ru, kt⟩) .nil, rfl, rfl⟩
def TasteX (C : Addr) (H : Hp) (x : Addr) : Prop := ∃ dx fs, H x = some (.ins C dx fs)
structure WayX (P : Program) (w : World) (K : PySem.W.Frag) (mg : Str → Option Value) (base : Heap) (BK : Addr) (x : Str) (W : Addr) (k : Nat) (sp : Sp) : Prop where
 mkp : MkP K W
 nm : mg x = some (.ref W)
 deal : MlX P w K mg base W BK "deal" k ["self", "tastes"] sp
 cls : Cls K W
def spWholeR (K : PySem.W.Frag) : Sp := fun vs H Q _ => vs = [] ∧ ∀ (r : Addr) (zs : List V) (H' : Hp), Same H H' → H r = none → H' r = some (.lst zs) → zs.length = 1 → Rd K H' wholeT (.ref r) → Q (.ref r) H'
structure TkC (P : Program) (w : World) (K : PySem.W.Frag) (mg : Str → Option Value) (base : Heap) (C BK W0 W1 W2 W3 W4 W5 W6 : Addr) : Prop where
 w0 : WayX P w K mg base BK "Choose" W0 3 (spDealX K C BK 2 2)
 w1 : WayX P w K mg base BK "Last" W1 3 (spDealX K C BK 1 8)
 w2 : WayX P w K mg base BK "Halves" W2 3 (spDealX K C BK 1 8)
 w3 : WayX P w K mg base BK "Three" W3 3 (spDealX K C BK 3 3)
 w4 : WayX P w K mg base BK "Even" W4 3 (spDealX K C BK 2 2)
 w5 : WayX P w K mg base BK "Alike" W5 3 (spDealX K C BK 1 6)
 w6 : WayX P w K mg base BK "Way" W6 1 (spWayX BK)
 envy : ClX P w K mg base BK "envy" 2 ["pieces", "tastes"] (spEnvyK K C BK)
 all : Cl P w K mg base "whole" 1 [] (spWholeR K)
 kL : PySem.W.kitOne K (.type "list") (.ref C) = some false
 kN : PySem.W.kitOne K (.type "NoneType") (.ref C) = some false
section
variable {P : Program} {w : World} {K : PySem.W.Frag} {mg : Str → Option Value} {base : Heap} {aL aR C BK v0 v1 v2 v3 v4 v5 v6 : Addr}
theorem door0 (CC : TkC P w K mg base C BK v0 v1 v2 v3 v4 v5 v6) (T : Txt K mg aL aR) {f : Addr} {cdv : Value} {A : Around} {outer : List Env} {s : Shared} {H : Hp} {E : XK} (hr : Room 6 (cxOf (CX1 P w BK) P w K mg base ["_law_door", "_law_far", "_law_one"] "_law_with_takers" (defScope s__law_with_takers) f cdv A outer s H E).A) (far : Int) : ∃ t, PE (cxOf (CX1 P w BK) P w K mg base ["_law_door", "_law_far", "_law_one"] "_law_with_takers" (defScope s__law_with_takers) f cdv A outer s H E) (doorE s__law_with_takers 0) t ∧ ∀ (Q : VK) (x : Addr) (d : V) (H1 : Hp), TasteX C H1 x → 0 ≤ far → far < 1000000 → (∀ H', Same H1 H' → E (.ref BK) none H') → t [some d, some (.int far), some (.ref x)] H1 Q := by
 have hr1 : Room 1 _ := hr.mono (by decide)
 have hr2 : Room 2 _ := hr.mono (by decide)
 have hr3 : Room 3 _ := hr.mono (by decide)
 obtain ⟨W0, W1, W2, W3, W4, W5, W6, CE, CA, kL, kN⟩ := CC
 refine ⟨_, pe_mlP W0.deal W0.cls hr3 (pe_mkP W0.mkp rfl W0.nm) (pa_cons (pe_comp ["_law_k"] rfl (CompOk.free1 (F := ["_law_one"]) (js := [2]) rfl (by decide +kernel) (by decide +kernel) rfl ⟨rfl, trivial⟩ rfl ⟨⟨rfl, rfl, .inl rfl⟩, trivial⟩) (pi_range1 rfl T.range (pa_cons (pe_ix ix_list (pe_lst (pa_cons pe_int (pa_cons (pe_op op_add pe_int (pe_op op_mod (pv 1) pe_int)) pa_nil))) (pe_op op_mod (pv 1) pe_int) (fun _ _ => rfl)) pa_nil)) (fun _ => pg_name (i := 0) (show [Str.ofString "_law_k", Str.ofString "_law_one"].Nodup by decide +kernel) rfl (Or.inl rfl)) (fun _ => pifs_nil) (fun _ => pv 1)) pa_nil), ?_⟩
 intro Q x d H1 tx h0 h1 k
 obtain ⟨dx, fs, hx⟩ := tx
 intro y dy hy hdy ne
 have s0 : Same H1 (upd (upd H1 dy (.own y)) y (.ins v0 dy [])) := fun b o e => by
  rw [upd_ne (ne_of_none e hy), upd_ne (ne_of_none e hdy)]
  exact e
 refine ⟨y, dy, [], rfl, upd_same, rfl, ?_⟩
 refine ⟨_, rfl, _, _, rfl, rfl, (by show (0 : Int) < 9; decide), _, _, rfl, rfl, le1000 rfl, fun p hp => ⟨_, rfl, _, _, rfl, rfl, (by show (0 : Int) < 2; decide), ?_⟩⟩
 have s1 := Same.upd (o := .lst [.int 1, .int (3 + far % 9)]) hp
 rcases (show far % 2 = 0 ∨ far % 2 = 1 by omega) with e | e
 ·refine ⟨p, _, _, .int 1, rfl, rfl, .of upd_same, (by rw [e]; rfl), ?_⟩
  exact comp_repK (σ := [some d, some (.int far), some (.ref x)]) (x := .ref x) (Q := fun v H' => spDealX K C BK 2 2 (.ref y :: ([v] ++ [])) H' Q E) (n := 1) rfl (by decide) fun D H2 n1 s2 hD => ⟨.ref y, .ref D, 1, true, rfl, tsl_rep hD (s2 _ _ (s1 _ _ (s0 _ _ hx))), .inr (.inl (by decide)), k _ ((s0.trans s1).trans s2)⟩
 ·refine ⟨p, _, _, .int ((3 + far % 9).toNat : Nat), rfl, rfl, .of upd_same, (by rw [e, Int.toNat_of_nonneg (by omega)]; rfl), ?_⟩
  exact comp_repK (σ := [some d, some (.int far), some (.ref x)]) (x := .ref x) (Q := fun v H' => spDealX K C BK 2 2 (.ref y :: ([v] ++ [])) H' Q E) (n := (3 + far % 9).toNat) rfl (by omega) fun D H2 n1 s2 hD => ⟨.ref y, .ref D, _, true, rfl, tsl_rep hD (s2 _ _ (s1 _ _ (s0 _ _ hx))), .inr (.inr (by omega)), k _ ((s0.trans s1).trans s2)⟩
theorem door1 (CC : TkC P w K mg base C BK v0 v1 v2 v3 v4 v5 v6) (T : Txt K mg aL aR) {f : Addr} {cdv : Value} {A : Around} {outer : List Env} {s : Shared} {H : Hp} {E : XK} (hr : Room 6 (cxOf (CX1 P w BK) P w K mg base ["_law_door", "_law_far", "_law_one"] "_law_with_takers" (defScope s__law_with_takers) f cdv A outer s H E).A) (far : Int) : ∃ t, PE (cxOf (CX1 P w BK) P w K mg base ["_law_door", "_law_far", "_law_one"] "_law_with_takers" (defScope s__law_with_takers) f cdv A outer s H E) (doorE s__law_with_takers 1) t ∧ ∀ (Q : VK) (x : Addr) (d : V) (H1 : Hp), TasteX C H1 x → 0 ≤ far → far < 1000000 → (∀ H', Same H1 H' → E (.ref BK) none H') → t [some d, some (.int far), some (.ref x)] H1 Q := by
 have hr1 : Room 1 _ := hr.mono (by decide)
 have hr2 : Room 2 _ := hr.mono (by decide)
 have hr3 : Room 3 _ := hr.mono (by decide)
 obtain ⟨W0, W1, W2, W3, W4, W5, W6, CE, CA, kL, kN⟩ := CC
 refine ⟨_, pe_mlP W1.deal W1.cls hr3 (pe_mkP W1.mkp rfl W1.nm) (pa_cons (pe_comp ["_law_k"] rfl (CompOk.free1 (F := ["_law_one"]) (js := [2]) rfl (by decide +kernel) (by decide +kernel) rfl ⟨rfl, trivial⟩ rfl ⟨⟨rfl, rfl, .inl rfl⟩, trivial⟩) (pi_range1 rfl T.range (pa_cons (pe_ix ix_list (pe_lst (pa_cons pe_int (pa_cons (pe_op op_add pe_int (pe_op op_mod (pv 1) pe_int)) pa_nil))) (pe_op op_mod (pv 1) pe_int) (fun _ _ => rfl)) pa_nil)) (fun _ => pg_name (i := 0) (show [Str.ofString "_law_k", Str.ofString "_law_one"].Nodup by decide +kernel) rfl (Or.inl rfl)) (fun _ => pifs_nil) (fun _ => pv 1)) pa_nil), ?_⟩
 intro Q x d H1 tx h0 h1 k
 obtain ⟨dx, fs, hx⟩ := tx
 intro y dy hy hdy ne
 have s0 : Same H1 (upd (upd H1 dy (.own y)) y (.ins v1 dy [])) := fun b o e => by
  rw [upd_ne (ne_of_none e hy), upd_ne (ne_of_none e hdy)]
  exact e
 refine ⟨y, dy, [], rfl, upd_same, rfl, ?_⟩
 refine ⟨_, rfl, _, _, rfl, rfl, (by show (0 : Int) < 9; decide), _, _, rfl, rfl, le1000 rfl, fun p hp => ⟨_, rfl, _, _, rfl, rfl, (by show (0 : Int) < 2; decide), ?_⟩⟩
 have s1 := Same.upd (o := .lst [.int 0, .int (9 + far % 9)]) hp
 rcases (show far % 2 = 0 ∨ far % 2 = 1 by omega) with e | e
 ·refine ⟨p, _, _, .int 0, rfl, rfl, .of upd_same, (by rw [e]; rfl), ?_⟩
  exact comp_repK (σ := [some d, some (.int far), some (.ref x)]) (x := .ref x) (Q := fun v H' => spDealX K C BK 1 8 (.ref y :: ([v] ++ [])) H' Q E) (n := 0) rfl (by decide) fun D H2 n1 s2 hD => ⟨.ref y, .ref D, 0, true, rfl, tsl_rep hD (s2 _ _ (s1 _ _ (s0 _ _ hx))), .inr (.inl (by decide)), k _ ((s0.trans s1).trans s2)⟩
 ·refine ⟨p, _, _, .int ((9 + far % 9).toNat : Nat), rfl, rfl, .of upd_same, (by rw [e, Int.toNat_of_nonneg (by omega)]; rfl), ?_⟩
  exact comp_repK (σ := [some d, some (.int far), some (.ref x)]) (x := .ref x) (Q := fun v H' => spDealX K C BK 1 8 (.ref y :: ([v] ++ [])) H' Q E) (n := (9 + far % 9).toNat) rfl (by omega) fun D H2 n1 s2 hD => ⟨.ref y, .ref D, _, true, rfl, tsl_rep hD (s2 _ _ (s1 _ _ (s0 _ _ hx))), .inr (.inr (by omega)), k _ ((s0.trans s1).trans s2)⟩
theorem door2 (CC : TkC P w K mg base C BK v0 v1 v2 v3 v4 v5 v6) (T : Txt K mg aL aR) {f : Addr} {cdv : Value} {A : Around} {outer : List Env} {s : Shared} {H : Hp} {E : XK} (hr : Room 6 (cxOf (CX1 P w BK) P w K mg base ["_law_door", "_law_far", "_law_one"] "_law_with_takers" (defScope s__law_with_takers) f cdv A outer s H E).A) (far : Int) : ∃ t, PE (cxOf (CX1 P w BK) P w K mg base ["_law_door", "_law_far", "_law_one"] "_law_with_takers" (defScope s__law_with_takers) f cdv A outer s H E) (doorE s__law_with_takers 2) t ∧ ∀ (Q : VK) (x : Addr) (d : V) (H1 : Hp), TasteX C H1 x → 0 ≤ far → far < 1000000 → (∀ H', Same H1 H' → E (.ref BK) none H') → t [some d, some (.int far), some (.ref x)] H1 Q := by
 have hr1 : Room 1 _ := hr.mono (by decide)
 have hr2 : Room 2 _ := hr.mono (by decide)
 have hr3 : Room 3 _ := hr.mono (by decide)
 obtain ⟨W0, W1, W2, W3, W4, W5, W6, CE, CA, kL, kN⟩ := CC
 refine ⟨_, pe_mlP W2.deal W2.cls hr3 (pe_mkP W2.mkp rfl W2.nm) (pa_cons (pe_comp ["_law_k"] rfl (CompOk.free1 (F := ["_law_one"]) (js := [2]) rfl (by decide +kernel) (by decide +kernel) rfl ⟨rfl, trivial⟩ rfl ⟨⟨rfl, rfl, .inl rfl⟩, trivial⟩) (pi_range1 rfl T.range (pa_cons (pe_ix ix_list (pe_lst (pa_cons pe_int (pa_cons (pe_op op_add pe_int (pe_op op_mod (pv 1) pe_int)) pa_nil))) (pe_op op_mod (pv 1) pe_int) (fun _ _ => rfl)) pa_nil)) (fun _ => pg_name (i := 0) (show [Str.ofString "_law_k", Str.ofString "_law_one"].Nodup by decide +kernel) rfl (Or.inl rfl)) (fun _ => pifs_nil) (fun _ => pv 1)) pa_nil), ?_⟩
 intro Q x d H1 tx h0 h1 k
 obtain ⟨dx, fs, hx⟩ := tx
 intro y dy hy hdy ne
 have s0 : Same H1 (upd (upd H1 dy (.own y)) y (.ins v2 dy [])) := fun b o e => by
  rw [upd_ne (ne_of_none e hy), upd_ne (ne_of_none e hdy)]
  exact e
 refine ⟨y, dy, [], rfl, upd_same, rfl, ?_⟩
 refine ⟨_, rfl, _, _, rfl, rfl, (by show (0 : Int) < 9; decide), _, _, rfl, rfl, le1000 rfl, fun p hp => ⟨_, rfl, _, _, rfl, rfl, (by show (0 : Int) < 2; decide), ?_⟩⟩
 have s1 := Same.upd (o := .lst [.int 0, .int (9 + far % 9)]) hp
 rcases (show far % 2 = 0 ∨ far % 2 = 1 by omega) with e | e
 ·refine ⟨p, _, _, .int 0, rfl, rfl, .of upd_same, (by rw [e]; rfl), ?_⟩
  exact comp_repK (σ := [some d, some (.int far), some (.ref x)]) (x := .ref x) (Q := fun v H' => spDealX K C BK 1 8 (.ref y :: ([v] ++ [])) H' Q E) (n := 0) rfl (by decide) fun D H2 n1 s2 hD => ⟨.ref y, .ref D, 0, true, rfl, tsl_rep hD (s2 _ _ (s1 _ _ (s0 _ _ hx))), .inr (.inl (by decide)), k _ ((s0.trans s1).trans s2)⟩
 ·refine ⟨p, _, _, .int ((9 + far % 9).toNat : Nat), rfl, rfl, .of upd_same, (by rw [e, Int.toNat_of_nonneg (by omega)]; rfl), ?_⟩
  exact comp_repK (σ := [some d, some (.int far), some (.ref x)]) (x := .ref x) (Q := fun v H' => spDealX K C BK 1 8 (.ref y :: ([v] ++ [])) H' Q E) (n := (9 + far % 9).toNat) rfl (by omega) fun D H2 n1 s2 hD => ⟨.ref y, .ref D, _, true, rfl, tsl_rep hD (s2 _ _ (s1 _ _ (s0 _ _ hx))), .inr (.inr (by omega)), k _ ((s0.trans s1).trans s2)⟩
theorem door3 (CC : TkC P w K mg base C BK v0 v1 v2 v3 v4 v5 v6) (T : Txt K mg aL aR) {f : Addr} {cdv : Value} {A : Around} {outer : List Env} {s : Shared} {H : Hp} {E : XK} (hr : Room 6 (cxOf (CX1 P w BK) P w K mg base ["_law_door", "_law_far", "_law_one"] "_law_with_takers" (defScope s__law_with_takers) f cdv A outer s H E).A) (far : Int) : ∃ t, PE (cxOf (CX1 P w BK) P w K mg base ["_law_door", "_law_far", "_law_one"] "_law_with_takers" (defScope s__law_with_takers) f cdv A outer s H E) (doorE s__law_with_takers 3) t ∧ ∀ (Q : VK) (x : Addr) (d : V) (H1 : Hp), TasteX C H1 x → 0 ≤ far → far < 1000000 → (∀ H', Same H1 H' → E (.ref BK) none H') → t [some d, some (.int far), some (.ref x)] H1 Q := by
 have hr1 : Room 1 _ := hr.mono (by decide)
 have hr2 : Room 2 _ := hr.mono (by decide)
 have hr3 : Room 3 _ := hr.mono (by decide)
 obtain ⟨W0, W1, W2, W3, W4, W5, W6, CE, CA, kL, kN⟩ := CC
 refine ⟨_, pe_mlP W3.deal W3.cls hr3 (pe_mkP W3.mkp rfl W3.nm) (pa_cons (pe_comp ["_law_k"] rfl (CompOk.free1 (F := ["_law_one"]) (js := [2]) rfl (by decide +kernel) (by decide +kernel) rfl ⟨rfl, trivial⟩ rfl ⟨⟨rfl, rfl, .inl rfl⟩, trivial⟩) (pi_range1 rfl T.range (pa_cons (pe_ix ix_list (pe_lst (pa_cons pe_int (pa_cons (pe_op op_add pe_int (pe_op op_mod (pv 1) pe_int)) pa_nil))) (pe_op op_mod (pv 1) pe_int) (fun _ _ => rfl)) pa_nil)) (fun _ => pg_name (i := 0) (show [Str.ofString "_law_k", Str.ofString "_law_one"].Nodup by decide +kernel) rfl (Or.inl rfl)) (fun _ => pifs_nil) (fun _ => pv 1)) pa_nil), ?_⟩
 intro Q x d H1 tx h0 h1 k
 obtain ⟨dx, fs, hx⟩ := tx
 intro y dy hy hdy ne
 have s0 : Same H1 (upd (upd H1 dy (.own y)) y (.ins v3 dy [])) := fun b o e => by
  rw [upd_ne (ne_of_none e hy), upd_ne (ne_of_none e hdy)]
  exact e
 refine ⟨y, dy, [], rfl, upd_same, rfl, ?_⟩
 refine ⟨_, rfl, _, _, rfl, rfl, (by show (0 : Int) < 9; decide), _, _, rfl, rfl, le1000 rfl, fun p hp => ⟨_, rfl, _, _, rfl, rfl, (by show (0 : Int) < 2; decide), ?_⟩⟩
 have s1 := Same.upd (o := .lst [.int 2, .int (4 + far % 9)]) hp
 rcases (show far % 2 = 0 ∨ far % 2 = 1 by omega) with e | e
 ·refine ⟨p, _, _, .int 2, rfl, rfl, .of upd_same, (by rw [e]; rfl), ?_⟩
  exact comp_repK (σ := [some d, some (.int far), some (.ref x)]) (x := .ref x) (Q := fun v H' => spDealX K C BK 3 3 (.ref y :: ([v] ++ [])) H' Q E) (n := 2) rfl (by decide) fun D H2 n1 s2 hD => ⟨.ref y, .ref D, 2, true, rfl, tsl_rep hD (s2 _ _ (s1 _ _ (s0 _ _ hx))), .inr (.inl (by decide)), k _ ((s0.trans s1).trans s2)⟩
 ·refine ⟨p, _, _, .int ((4 + far % 9).toNat : Nat), rfl, rfl, .of upd_same, (by rw [e, Int.toNat_of_nonneg (by omega)]; rfl), ?_⟩
  exact comp_repK (σ := [some d, some (.int far), some (.ref x)]) (x := .ref x) (Q := fun v H' => spDealX K C BK 3 3 (.ref y :: ([v] ++ [])) H' Q E) (n := (4 + far % 9).toNat) rfl (by omega) fun D H2 n1 s2 hD => ⟨.ref y, .ref D, _, true, rfl, tsl_rep hD (s2 _ _ (s1 _ _ (s0 _ _ hx))), .inr (.inr (by omega)), k _ ((s0.trans s1).trans s2)⟩
theorem door4 (CC : TkC P w K mg base C BK v0 v1 v2 v3 v4 v5 v6) (T : Txt K mg aL aR) {f : Addr} {cdv : Value} {A : Around} {outer : List Env} {s : Shared} {H : Hp} {E : XK} (hr : Room 6 (cxOf (CX1 P w BK) P w K mg base ["_law_door", "_law_far", "_law_one"] "_law_with_takers" (defScope s__law_with_takers) f cdv A outer s H E).A) (far : Int) : ∃ t, PE (cxOf (CX1 P w BK) P w K mg base ["_law_door", "_law_far", "_law_one"] "_law_with_takers" (defScope s__law_with_takers) f cdv A outer s H E) (doorE s__law_with_takers 4) t ∧ ∀ (Q : VK) (x : Addr) (d : V) (H1 : Hp), TasteX C H1 x → 0 ≤ far → far < 1000000 → (∀ H', Same H1 H' → E (.ref BK) none H') → t [some d, some (.int far), some (.ref x)] H1 Q := by
 have hr1 : Room 1 _ := hr.mono (by decide)
 have hr2 : Room 2 _ := hr.mono (by decide)
 have hr3 : Room 3 _ := hr.mono (by decide)
 obtain ⟨W0, W1, W2, W3, W4, W5, W6, CE, CA, kL, kN⟩ := CC
 refine ⟨_, pe_mlP W4.deal W4.cls hr3 (pe_mkP W4.mkp rfl W4.nm) (pa_cons (pe_comp ["_law_k"] rfl (CompOk.free1 (F := ["_law_one"]) (js := [2]) rfl (by decide +kernel) (by decide +kernel) rfl ⟨rfl, trivial⟩ rfl ⟨⟨rfl, rfl, .inl rfl⟩, trivial⟩) (pi_range1 rfl T.range (pa_cons (pe_ix ix_list (pe_lst (pa_cons pe_int (pa_cons (pe_op op_add pe_int (pe_op op_mod (pv 1) pe_int)) pa_nil))) (pe_op op_mod (pv 1) pe_int) (fun _ _ => rfl)) pa_nil)) (fun _ => pg_name (i := 0) (show [Str.ofString "_law_k", Str.ofString "_law_one"].Nodup by decide +kernel) rfl (Or.inl rfl)) (fun _ => pifs_nil) (fun _ => pv 1)) pa_nil), ?_⟩
 intro Q x d H1 tx h0 h1 k
 obtain ⟨dx, fs, hx⟩ := tx
 intro y dy hy hdy ne
 have s0 : Same H1 (upd (upd H1 dy (.own y)) y (.ins v4 dy [])) := fun b o e => by
  rw [upd_ne (ne_of_none e hy), upd_ne (ne_of_none e hdy)]
  exact e
 refine ⟨y, dy, [], rfl, upd_same, rfl, ?_⟩
 refine ⟨_, rfl, _, _, rfl, rfl, (by show (0 : Int) < 9; decide), _, _, rfl, rfl, le1000 rfl, fun p hp => ⟨_, rfl, _, _, rfl, rfl, (by show (0 : Int) < 2; decide), ?_⟩⟩
 have s1 := Same.upd (o := .lst [.int 1, .int (3 + far % 9)]) hp
 rcases (show far % 2 = 0 ∨ far % 2 = 1 by omega) with e | e
 ·refine ⟨p, _, _, .int 1, rfl, rfl, .of upd_same, (by rw [e]; rfl), ?_⟩
  exact comp_repK (σ := [some d, some (.int far), some (.ref x)]) (x := .ref x) (Q := fun v H' => spDealX K C BK 2 2 (.ref y :: ([v] ++ [])) H' Q E) (n := 1) rfl (by decide) fun D H2 n1 s2 hD => ⟨.ref y, .ref D, 1, true, rfl, tsl_rep hD (s2 _ _ (s1 _ _ (s0 _ _ hx))), .inr (.inl (by decide)), k _ ((s0.trans s1).trans s2)⟩
 ·refine ⟨p, _, _, .int ((3 + far % 9).toNat : Nat), rfl, rfl, .of upd_same, (by rw [e, Int.toNat_of_nonneg (by omega)]; rfl), ?_⟩
  exact comp_repK (σ := [some d, some (.int far), some (.ref x)]) (x := .ref x) (Q := fun v H' => spDealX K C BK 2 2 (.ref y :: ([v] ++ [])) H' Q E) (n := (3 + far % 9).toNat) rfl (by omega) fun D H2 n1 s2 hD => ⟨.ref y, .ref D, _, true, rfl, tsl_rep hD (s2 _ _ (s1 _ _ (s0 _ _ hx))), .inr (.inr (by omega)), k _ ((s0.trans s1).trans s2)⟩
theorem door5 (CC : TkC P w K mg base C BK v0 v1 v2 v3 v4 v5 v6) (T : Txt K mg aL aR) {f : Addr} {cdv : Value} {A : Around} {outer : List Env} {s : Shared} {H : Hp} {E : XK} (hr : Room 6 (cxOf (CX1 P w BK) P w K mg base ["_law_door", "_law_far", "_law_one"] "_law_with_takers" (defScope s__law_with_takers) f cdv A outer s H E).A) (far : Int) : ∃ t, PE (cxOf (CX1 P w BK) P w K mg base ["_law_door", "_law_far", "_law_one"] "_law_with_takers" (defScope s__law_with_takers) f cdv A outer s H E) (doorE s__law_with_takers 5) t ∧ ∀ (Q : VK) (x : Addr) (d : V) (H1 : Hp), TasteX C H1 x → 0 ≤ far → far < 1000000 → (∀ H', Same H1 H' → E (.ref BK) none H') → t [some d, some (.int far), some (.ref x)] H1 Q := by
 have hr1 : Room 1 _ := hr.mono (by decide)
 have hr2 : Room 2 _ := hr.mono (by decide)
 have hr3 : Room 3 _ := hr.mono (by decide)
 obtain ⟨W0, W1, W2, W3, W4, W5, W6, CE, CA, kL, kN⟩ := CC
 refine ⟨_, pe_mlP W5.deal W5.cls hr3 (pe_mkP W5.mkp rfl W5.nm) (pa_cons (pe_comp ["_law_k"] rfl (CompOk.free1 (F := ["_law_one"]) (js := [2]) rfl (by decide +kernel) (by decide +kernel) rfl ⟨rfl, trivial⟩ rfl ⟨⟨rfl, rfl, .inl rfl⟩, trivial⟩) (pi_range1 rfl T.range (pa_cons (pe_ix ix_list (pe_lst (pa_cons pe_int (pa_cons (pe_op op_add pe_int (pe_op op_mod (pv 1) pe_int)) pa_nil))) (pe_op op_mod (pv 1) pe_int) (fun _ _ => rfl)) pa_nil)) (fun _ => pg_name (i := 0) (show [Str.ofString "_law_k", Str.ofString "_law_one"].Nodup by decide +kernel) rfl (Or.inl rfl)) (fun _ => pifs_nil) (fun _ => pv 1)) pa_nil), ?_⟩
 intro Q x d H1 tx h0 h1 k
 obtain ⟨dx, fs, hx⟩ := tx
 intro y dy hy hdy ne
 have s0 : Same H1 (upd (upd H1 dy (.own y)) y (.ins v5 dy [])) := fun b o e => by
  rw [upd_ne (ne_of_none e hy), upd_ne (ne_of_none e hdy)]
  exact e
 refine ⟨y, dy, [], rfl, upd_same, rfl, ?_⟩
 refine ⟨_, rfl, _, _, rfl, rfl, (by show (0 : Int) < 9; decide), _, _, rfl, rfl, le1000 rfl, fun p hp => ⟨_, rfl, _, _, rfl, rfl, (by show (0 : Int) < 2; decide), ?_⟩⟩
 have s1 := Same.upd (o := .lst [.int 0, .int (7 + far % 9)]) hp
 rcases (show far % 2 = 0 ∨ far % 2 = 1 by omega) with e | e
 ·refine ⟨p, _, _, .int 0, rfl, rfl, .of upd_same, (by rw [e]; rfl), ?_⟩
  exact comp_repK (σ := [some d, some (.int far), some (.ref x)]) (x := .ref x) (Q := fun v H' => spDealX K C BK 1 6 (.ref y :: ([v] ++ [])) H' Q E) (n := 0) rfl (by decide) fun D H2 n1 s2 hD => ⟨.ref y, .ref D, 0, true, rfl, tsl_rep hD (s2 _ _ (s1 _ _ (s0 _ _ hx))), .inr (.inl (by decide)), k _ ((s0.trans s1).trans s2)⟩
 ·refine ⟨p, _, _, .int ((7 + far % 9).toNat : Nat), rfl, rfl, .of upd_same, (by rw [e, Int.toNat_of_nonneg (by omega)]; rfl), ?_⟩
  exact comp_repK (σ := [some d, some (.int far), some (.ref x)]) (x := .ref x) (Q := fun v H' => spDealX K C BK 1 6 (.ref y :: ([v] ++ [])) H' Q E) (n := (7 + far % 9).toNat) rfl (by omega) fun D H2 n1 s2 hD => ⟨.ref y, .ref D, _, true, rfl, tsl_rep hD (s2 _ _ (s1 _ _ (s0 _ _ hx))), .inr (.inr (by omega)), k _ ((s0.trans s1).trans s2)⟩
theorem door6 (CC : TkC P w K mg base C BK v0 v1 v2 v3 v4 v5 v6) (T : Txt K mg aL aR) {f : Addr} {cdv : Value} {A : Around} {outer : List Env} {s : Shared} {H : Hp} {E : XK} (hr : Room 6 (cxOf (CX1 P w BK) P w K mg base ["_law_door", "_law_far", "_law_one"] "_law_with_takers" (defScope s__law_with_takers) f cdv A outer s H E).A) (far : Int) : ∃ t, PE (cxOf (CX1 P w BK) P w K mg base ["_law_door", "_law_far", "_law_one"] "_law_with_takers" (defScope s__law_with_takers) f cdv A outer s H E) (doorE s__law_with_takers 6) t ∧ ∀ (Q : VK) (x : Addr) (d : V) (H1 : Hp), TasteX C H1 x → 0 ≤ far → far < 1000000 → (∀ H', Same H1 H' → E (.ref BK) none H') → t [some d, some (.int far), some (.ref x)] H1 Q := by
 have hr1 : Room 1 _ := hr.mono (by decide)
 have hr2 : Room 2 _ := hr.mono (by decide)
 have hr3 : Room 3 _ := hr.mono (by decide)
 obtain ⟨W0, W1, W2, W3, W4, W5, W6, CE, CA, kL, kN⟩ := CC
 refine ⟨_, pe_mlP W6.deal W6.cls hr1 (pe_mkP W6.mkp rfl W6.nm) (pa_cons (pe_lst (pa_cons (pv 2) pa_nil)) pa_nil), ?_⟩
 intro Q x d H1 tx h0 h1 k
 obtain ⟨dx, fs, hx⟩ := tx
 intro y dy hy hdy ne
 have s0 : Same H1 (upd (upd H1 dy (.own y)) y (.ins v6 dy [])) := fun b o e => by
  rw [upd_ne (ne_of_none e hy), upd_ne (ne_of_none e hdy)]
  exact e
 exact ⟨y, dy, [], rfl, upd_same, rfl, _, rfl, le1000 rfl, fun p hp => ⟨.ref y, .ref p, rfl, k _ (s0.trans (Same.upd hp))⟩⟩
theorem door7 (CC : TkC P w K mg base C BK v0 v1 v2 v3 v4 v5 v6) (T : Txt K mg aL aR) {f : Addr} {cdv : Value} {A : Around} {outer : List Env} {s : Shared} {H : Hp} {E : XK} (hr : Room 6 (cxOf (CX1 P w BK) P w K mg base ["_law_door", "_law_far", "_law_one"] "_law_with_takers" (defScope s__law_with_takers) f cdv A outer s H E).A) (far : Int) : ∃ t, PE (cxOf (CX1 P w BK) P w K mg base ["_law_door", "_law_far", "_law_one"] "_law_with_takers" (defScope s__law_with_takers) f cdv A outer s H E) (doorE s__law_with_takers 7) t ∧ ∀ (Q : VK) (x : Addr) (d : V) (H1 : Hp), TasteX C H1 x → 0 ≤ far → far < 1000000 → (∀ H', Same H1 H' → E (.ref BK) none H') → t [some d, some (.int far), some (.ref x)] H1 Q := by
 have hr1 : Room 1 _ := hr.mono (by decide)
 have hr2 : Room 2 _ := hr.mono (by decide)
 have hr3 : Room 3 _ := hr.mono (by decide)
 obtain ⟨W0, W1, W2, W3, W4, W5, W6, CE, CA, kL, kN⟩ := CC
 refine ⟨_, pe_either (pe_mlP W0.deal W0.cls hr3 (pe_ix ix_list (pe_lst (pa_cons (pe_mkP W0.mkp rfl W0.nm) (pa_cons (pe_mkP W4.mkp rfl W4.nm) pa_nil))) (pe_op op_mod (pv 1) pe_int) (fun _ _ => rfl)) (pa_cons (pe_lst (pa_cons (pv 2) (pa_cons (pl_lit (x := "_law_far") (far := far) (i := 1) (fun _ => pv 1) 40 _ (.lst [.tup [.tup [.int 1, .int 1], .int 1]]) (by decide +kernel) rfl) pa_nil))) pa_nil)) (pe_mlP W4.deal W4.cls hr3 (pe_ix ix_list (pe_lst (pa_cons (pe_mkP W0.mkp rfl W0.nm) (pa_cons (pe_mkP W4.mkp rfl W4.nm) pa_nil))) (pe_op op_mod (pv 1) pe_int) (fun _ _ => rfl)) (pa_cons (pe_lst (pa_cons (pv 2) (pa_cons (pl_lit (x := "_law_far") (far := far) (i := 1) (fun _ => pv 1) 40 _ (.lst [.tup [.tup [.int 1, .int 1], .int 1]]) (by decide +kernel) rfl) pa_nil))) pa_nil)), ?_⟩
 intro Q x d H1 tx h0 h1 k
 obtain ⟨dx, fs, hx⟩ := tx
 rcases (show far % 2 = 0 ∨ far % 2 = 1 by omega) with e | e
 ·refine .inl fun y dy hy hdy ne => ?_
  have s0 := two_new (W := v0) hy hdy
  refine fun z dz hz hdz nz => ?_
  have s1 := two_new (W := v4) hz hdz
  refine ⟨le1000 rfl, fun p hp => ?_⟩
  have s2 := Same.upd (o := .lst [.ref y, .ref z]) hp
  refine ⟨_, rfl, _, _, rfl, rfl, (by show (0 : Int) < 2; decide), p, _, _, .ref y, rfl, rfl, .of upd_same, (by rw [e]; rfl), y, dy, [], rfl, s2 _ _ (s1 _ _ upd_same), rfl, _, rfl, rfl, fun v H' s3 r3 => ⟨le1000 rfl, fun q hq => ?_⟩⟩
  have s4 := Same.upd (o := .lst [.ref x, v]) hq
  exact ⟨.ref y, .ref q, 2, false, rfl, tsl_two upd_same (s4 _ _ (s3 _ _ (s2 _ _ (s1 _ _ (s0 _ _ hx))))) (tyo (rd_same s4 _ _ r3.now)) kL, .inl rfl, k _ ((((s0.trans s1).trans s2).trans s3).trans s4)⟩
 ·refine .inr fun y dy hy hdy ne => ?_
  have s0 := two_new (W := v0) hy hdy
  refine fun z dz hz hdz nz => ?_
  have s1 := two_new (W := v4) hz hdz
  refine ⟨le1000 rfl, fun p hp => ?_⟩
  have s2 := Same.upd (o := .lst [.ref y, .ref z]) hp
  refine ⟨_, rfl, _, _, rfl, rfl, (by show (0 : Int) < 2; decide), p, _, _, .ref z, rfl, rfl, .of upd_same, (by rw [e]; rfl), z, dz, [], rfl, s2 _ _ upd_same, rfl, _, rfl, rfl, fun v H' s3 r3 => ⟨le1000 rfl, fun q hq => ?_⟩⟩
  have s4 := Same.upd (o := .lst [.ref x, v]) hq
  exact ⟨.ref z, .ref q, 2, false, rfl, tsl_two upd_same (s4 _ _ (s3 _ _ (s2 _ _ (s1 _ _ (s0 _ _ hx))))) (tyo (rd_same s4 _ _ r3.now)) kL, .inl rfl, k _ ((((s0.trans s1).trans s2).trans s3).trans s4)⟩
theorem door8 (CC : TkC P w K mg base C BK v0 v1 v2 v3 v4 v5 v6) (T : Txt K mg aL aR) {f : Addr} {cdv : Value} {A : Around} {outer : List Env} {s : Shared} {H : Hp} {E : XK} (hr : Room 6 (cxOf (CX1 P w BK) P w K mg base ["_law_door", "_law_far", "_law_one"] "_law_with_takers" (defScope s__law_with_takers) f cdv A outer s H E).A) (far : Int) : ∃ t, PE (cxOf (CX1 P w BK) P w K mg base ["_law_door", "_law_far", "_law_one"] "_law_with_takers" (defScope s__law_with_takers) f cdv A outer s H E) (doorE s__law_with_takers 8) t ∧ ∀ (Q : VK) (x : Addr) (d : V) (H1 : Hp), TasteX C H1 x → 0 ≤ far → far < 1000000 → (∀ H', Same H1 H' → E (.ref BK) none H') → t [some d, some (.int far), some (.ref x)] H1 Q := by
 have hr1 : Room 1 _ := hr.mono (by decide)
 have hr2 : Room 2 _ := hr.mono (by decide)
 have hr3 : Room 3 _ := hr.mono (by decide)
 obtain ⟨W0, W1, W2, W3, W4, W5, W6, CE, CA, kL, kN⟩ := CC
 refine ⟨_, pe_either (pe_mlP W1.deal W1.cls hr3 (pe_ix ix_list (pe_lst (pa_cons (pe_mkP W1.mkp rfl W1.nm) (pa_cons (pe_mkP W2.mkp rfl W2.nm) (pa_cons (pe_mkP W5.mkp rfl W5.nm) pa_nil)))) (pe_op op_mod (pv 1) pe_int) (fun _ _ => rfl)) (pa_cons (pe_lst (pa_cons (pv 2) (pa_cons pe_non pa_nil))) pa_nil)) (pe_either (pe_mlP W2.deal W2.cls hr3 (pe_ix ix_list (pe_lst (pa_cons (pe_mkP W1.mkp rfl W1.nm) (pa_cons (pe_mkP W2.mkp rfl W2.nm) (pa_cons (pe_mkP W5.mkp rfl W5.nm) pa_nil)))) (pe_op op_mod (pv 1) pe_int) (fun _ _ => rfl)) (pa_cons (pe_lst (pa_cons (pv 2) (pa_cons pe_non pa_nil))) pa_nil)) (pe_mlP W5.deal W5.cls hr3 (pe_ix ix_list (pe_lst (pa_cons (pe_mkP W1.mkp rfl W1.nm) (pa_cons (pe_mkP W2.mkp rfl W2.nm) (pa_cons (pe_mkP W5.mkp rfl W5.nm) pa_nil)))) (pe_op op_mod (pv 1) pe_int) (fun _ _ => rfl)) (pa_cons (pe_lst (pa_cons (pv 2) (pa_cons pe_non pa_nil))) pa_nil))), ?_⟩
 intro Q x d H1 tx h0 h1 k
 obtain ⟨dx, fs, hx⟩ := tx
 rcases (show far % 3 = 0 ∨ far % 3 = 1 ∨ far % 3 = 2 by omega) with e | e | e
 ·refine .inl fun y dy hy hdy ne => ?_
  have s0 := two_new (W := v1) hy hdy
  refine fun z dz hz hdz nz => ?_
  have s1 := two_new (W := v2) hz hdz
  refine fun u du hu hdu nu => ?_
  have s2 := two_new (W := v5) hu hdu
  refine ⟨le1000 rfl, fun p hp => ?_⟩
  have s3 := Same.upd (o := .lst [.ref y, .ref z, .ref u]) hp
  refine ⟨_, rfl, _, _, rfl, rfl, (by show (0 : Int) < 3; decide), p, _, _, .ref y, rfl, rfl, .of upd_same, (by rw [e]; rfl), y, dy, [], rfl, s3 _ _ (s2 _ _ (s1 _ _ upd_same)), rfl, _, rfl, le1000 rfl, fun q hq => ?_⟩
  have s4 := Same.upd (o := .lst [.ref x, .non]) hq
  exact ⟨.ref y, .ref q, 2, false, rfl, tsl_two upd_same (s4 _ _ (s3 _ _ (s2 _ _ (s1 _ _ (s0 _ _ hx))))) (.of .non) kN, .inl rfl, k _ ((((s0.trans s1).trans s2).trans s3).trans s4)⟩
 ·refine .inr <| .inl fun y dy hy hdy ne => ?_
  have s0 := two_new (W := v1) hy hdy
  refine fun z dz hz hdz nz => ?_
  have s1 := two_new (W := v2) hz hdz
  refine fun u du hu hdu nu => ?_
  have s2 := two_new (W := v5) hu hdu
  refine ⟨le1000 rfl, fun p hp => ?_⟩
  have s3 := Same.upd (o := .lst [.ref y, .ref z, .ref u]) hp
  refine ⟨_, rfl, _, _, rfl, rfl, (by show (0 : Int) < 3; decide), p, _, _, .ref z, rfl, rfl, .of upd_same, (by rw [e]; rfl), z, dz, [], rfl, s3 _ _ (s2 _ _ upd_same), rfl, _, rfl, le1000 rfl, fun q hq => ?_⟩
  have s4 := Same.upd (o := .lst [.ref x, .non]) hq
  exact ⟨.ref z, .ref q, 2, false, rfl, tsl_two upd_same (s4 _ _ (s3 _ _ (s2 _ _ (s1 _ _ (s0 _ _ hx))))) (.of .non) kN, .inl rfl, k _ ((((s0.trans s1).trans s2).trans s3).trans s4)⟩
 ·refine .inr <| .inr fun y dy hy hdy ne => ?_
  have s0 := two_new (W := v1) hy hdy
  refine fun z dz hz hdz nz => ?_
  have s1 := two_new (W := v2) hz hdz
  refine fun u du hu hdu nu => ?_
  have s2 := two_new (W := v5) hu hdu
  refine ⟨le1000 rfl, fun p hp => ?_⟩
  have s3 := Same.upd (o := .lst [.ref y, .ref z, .ref u]) hp
  refine ⟨_, rfl, _, _, rfl, rfl, (by show (0 : Int) < 3; decide), p, _, _, .ref u, rfl, rfl, .of upd_same, (by rw [e]; rfl), u, du, [], rfl, s3 _ _ upd_same, rfl, _, rfl, le1000 rfl, fun q hq => ?_⟩
  have s4 := Same.upd (o := .lst [.ref x, .non]) hq
  exact ⟨.ref u, .ref q, 2, false, rfl, tsl_two upd_same (s4 _ _ (s3 _ _ (s2 _ _ (s1 _ _ (s0 _ _ hx))))) (.of .non) kN, .inl rfl, k _ ((((s0.trans s1).trans s2).trans s3).trans s4)⟩
theorem door9 (CC : TkC P w K mg base C BK v0 v1 v2 v3 v4 v5 v6) (T : Txt K mg aL aR) {f : Addr} {cdv : Value} {A : Around} {outer : List Env} {s : Shared} {H : Hp} {E : XK} (hr : Room 6 (cxOf (CX1 P w BK) P w K mg base ["_law_door", "_law_far", "_law_one"] "_law_with_takers" (defScope s__law_with_takers) f cdv A outer s H E).A) (far : Int) : ∃ t, PE (cxOf (CX1 P w BK) P w K mg base ["_law_door", "_law_far", "_law_one"] "_law_with_takers" (defScope s__law_with_takers) f cdv A outer s H E) (doorE s__law_with_takers 9) t ∧ ∀ (Q : VK) (x : Addr) (d : V) (H1 : Hp), TasteX C H1 x → 0 ≤ far → far < 1000000 → (∀ H', Same H1 H' → E (.ref BK) none H') → t [some d, some (.int far), some (.ref x)] H1 Q := by
 have hr1 : Room 1 _ := hr.mono (by decide)
 have hr2 : Room 2 _ := hr.mono (by decide)
 have hr3 : Room 3 _ := hr.mono (by decide)
 obtain ⟨W0, W1, W2, W3, W4, W5, W6, CE, CA, kL, kN⟩ := CC
 refine ⟨_, pe_mlP W1.deal W1.cls hr3 (pe_mkP W1.mkp rfl W1.nm) (pa_cons (pe_tup (pa_cons (pv 2) (pa_cons (pv 2) pa_nil))) pa_nil), ?_⟩
 intro Q x d H1 tx h0 h1 k
 obtain ⟨dx, fs, hx⟩ := tx
 intro y dy hy hdy ne
 have s0 := two_new (W := v1) hy hdy
 refine ⟨y, dy, [], rfl, upd_same, rfl, _, rfl, _, rfl, le1000 rfl, fun p hp => ?_⟩
 have s1 := Same.upd (o := .tup [.ref x, .ref x]) hp
 exact ⟨.ref y, .ref p, 0, false, rfl, .inl ⟨rfl, _, .sqT sqT_new, kitLs K (.tup [])⟩, .inl rfl, k _ (s0.trans s1)⟩
theorem door10 (CC : TkC P w K mg base C BK v0 v1 v2 v3 v4 v5 v6) (T : Txt K mg aL aR) {f : Addr} {cdv : Value} {A : Around} {outer : List Env} {s : Shared} {H : Hp} {E : XK} (hr : Room 6 (cxOf (CX1 P w BK) P w K mg base ["_law_door", "_law_far", "_law_one"] "_law_with_takers" (defScope s__law_with_takers) f cdv A outer s H E).A) (far : Int) : ∃ t, PE (cxOf (CX1 P w BK) P w K mg base ["_law_door", "_law_far", "_law_one"] "_law_with_takers" (defScope s__law_with_takers) f cdv A outer s H E) (doorE s__law_with_takers 10) t ∧ ∀ (Q : VK) (x : Addr) (d : V) (H1 : Hp), TasteX C H1 x → 0 ≤ far → far < 1000000 → (∀ H', Same H1 H' → E (.ref BK) none H') → t [some d, some (.int far), some (.ref x)] H1 Q := by
 have hr1 : Room 1 _ := hr.mono (by decide)
 have hr2 : Room 2 _ := hr.mono (by decide)
 have hr3 : Room 3 _ := hr.mono (by decide)
 obtain ⟨W0, W1, W2, W3, W4, W5, W6, CE, CA, kL, kN⟩ := CC
 refine ⟨_, pe_clX CE hr2 rfl (pa_cons (pe_lst (pa_cons (pe_cl0 CA hr1 rfl) pa_nil)) (pa_cons (pl_lit (x := "_law_far") (far := far) (i := 1) (fun _ => pv 1) 40 _ (.lst [.lst [.tup [.tup [.int 1, .int 1], .int 1]]]) (by decide +kernel) rfl) pa_nil)), ?_⟩
 intro Q x d H1 tx h0 h1 k
 obtain ⟨dx, fs, hx⟩ := tx
 refine ⟨rfl, fun v zs H2 s2 _ _ _ r2 => ⟨le1000 rfl, fun p hp => ⟨rfl, fun u H3 s3 r3 => ?_⟩⟩⟩
 have s4 := Same.upd (o := .lst [.ref v]) hp
 exact ⟨.ref p, u, 1, false, rfl, tsl_bad1 r3.now kL, .inl rfl, k _ ((s2.trans s4).trans s3)⟩
theorem door11 (CC : TkC P w K mg base C BK v0 v1 v2 v3 v4 v5 v6) (T : Txt K mg aL aR) {f : Addr} {cdv : Value} {A : Around} {outer : List Env} {s : Shared} {H : Hp} {E : XK} (hr : Room 6 (cxOf (CX1 P w BK) P w K mg base ["_law_door", "_law_far", "_law_one"] "_law_with_takers" (defScope s__law_with_takers) f cdv A outer s H E).A) (far : Int) : ∃ t, PE (cxOf (CX1 P w BK) P w K mg base ["_law_door", "_law_far", "_law_one"] "_law_with_takers" (defScope s__law_with_takers) f cdv A outer s H E) (doorE s__law_with_takers 11) t ∧ ∀ (Q : VK) (x : Addr) (d : V) (H1 : Hp), TasteX C H1 x → 0 ≤ far → far < 1000000 → (∀ H', Same H1 H' → E (.ref BK) none H') → t [some d, some (.int far), some (.ref x)] H1 Q := by
 have hr1 : Room 1 _ := hr.mono (by decide)
 have hr2 : Room 2 _ := hr.mono (by decide)
 have hr3 : Room 3 _ := hr.mono (by decide)
 obtain ⟨W0, W1, W2, W3, W4, W5, W6, CE, CA, kL, kN⟩ := CC
 refine ⟨_, pe_clX CE hr2 rfl (pa_cons (pe_lst (pa_cons pe_non pa_nil)) (pa_cons (pe_lst (pa_cons (pv 2) (pa_cons (pv 2) pa_nil))) pa_nil)), ?_⟩
 intro Q x d H1 tx h0 h1 k
 obtain ⟨dx, fs, hx⟩ := tx
 refine ⟨le1000 rfl, fun p hp => ⟨_, rfl, _, rfl, le1000 rfl, fun q hq => ?_⟩⟩
 have s1 := Same.upd (o := .lst [.non]) hp
 have s2 := Same.upd (o := .lst [.ref x, .ref x]) hq
 exact ⟨.ref p, .ref q, 2, true, rfl, tsl_rep (n := 2) upd_same (s2 _ _ (s1 _ _ hx)), .inr (.inr ⟨p, _, rfl, .of (s2 _ _ upd_same), fun z => nomatch z⟩), k _ (s1.trans s2)⟩
theorem door12 (CC : TkC P w K mg base C BK v0 v1 v2 v3 v4 v5 v6) (T : Txt K mg aL aR) {f : Addr} {cdv : Value} {A : Around} {outer : List Env} {s : Shared} {H : Hp} {E : XK} (hr : Room 6 (cxOf (CX1 P w BK) P w K mg base ["_law_door", "_law_far", "_law_one"] "_law_with_takers" (defScope s__law_with_takers) f cdv A outer s H E).A) (far : Int) : ∃ t, PE (cxOf (CX1 P w BK) P w K mg base ["_law_door", "_law_far", "_law_one"] "_law_with_takers" (defScope s__law_with_takers) f cdv A outer s H E) (doorE s__law_with_takers 12) t ∧ ∀ (Q : VK) (x : Addr) (d : V) (H1 : Hp), TasteX C H1 x → 0 ≤ far → far < 1000000 → (∀ H', Same H1 H' → E (.ref BK) none H') → t [some d, some (.int far), some (.ref x)] H1 Q := by
 have hr1 : Room 1 _ := hr.mono (by decide)
 have hr2 : Room 2 _ := hr.mono (by decide)
 have hr3 : Room 3 _ := hr.mono (by decide)
 obtain ⟨W0, W1, W2, W3, W4, W5, W6, CE, CA, kL, kN⟩ := CC
 refine ⟨_, pe_clX CE hr2 rfl (pa_cons (pe_tup (pa_cons (pe_cl0 CA hr1 rfl) pa_nil)) (pa_cons (pe_lst (pa_cons (pv 2) pa_nil)) pa_nil)), ?_⟩
 intro Q x d H1 tx h0 h1 k
 obtain ⟨dx, fs, hx⟩ := tx
 refine ⟨rfl, fun v zs H2 s2 _ _ _ r2 => ⟨le1000 rfl, fun p hp => ⟨_, rfl, le1000 rfl, fun q hq => ?_⟩⟩⟩
 have s3 := Same.upd (o := .tup [.ref v]) hp
 have s4 := Same.upd (o := .lst [.ref x]) hq
 exact ⟨.ref p, .ref q, 1, true, rfl, tsl_rep (n := 1) upd_same (s4 _ _ (s3 _ _ (s2 _ _ hx))), .inr (.inl ⟨_, .sqT (.of (s4 _ _ upd_same)), kitLs K (.tup [])⟩), k _ ((s2.trans s3).trans s4)⟩
end
end FQ
namespace FQ
open PySem L2 FK
def spTakX (BK : Addr) : Sp := fun vs H _ E => ∃ (d : Nat) (far : Int), vs = [.int d, .int far] ∧ d < 13 ∧ 0 ≤ far ∧ far < 1000000 ∧ ∀ H', Same H H' → E (.ref BK) none H'
section
variable {P : Program} {w : World} {K : PySem.W.Frag} {mg : Str → Option Value} {base : Heap} {aL aR C BK v0 v1 v2 v3 v4 v5 v6 : Addr}
theorem scTkr : FnScope ["_law_door", "_law_far", "_law_one"] ["_law_door", "_law_far"] (defScope s__law_with_takers) := ⟨rfl, rfl, rfl, by decide +kernel, rfl, by decide +kernel, by decide +kernel⟩
theorem ok_takX {f : Addr} {fd : FuncData} (D : DefAt K mg "_law_with_takers" s__law_with_takers ["_law_door", "_law_far"] f fd) (MK : Mc P w K mg base "Taste" C 5 ["self", "steps"] (spInit K C)) (CC : TkC P w K mg base C BK v0 v1 v2 v3 v4 v5 v6) (T : Txt K mg aL aR) : FnOk P w K mg base (CX1 P w BK) 7 f fd ["_law_door", "_law_far"] (spTakX BK) := by
 refine D.fn.okX scTkr (fun vs H Q E h => ?_) (fun cdv A outer s H vs Q E hr h => ?_)
 ·obtain ⟨d, far, rfl, _⟩ := h
  rfl
 ·obtain ⟨d, far, rfl, hd, h0, h1, k⟩ := h
  obtain ⟨t0, g0, rr0⟩ := door0 (f := f) (cdv := cdv) (A := A) (outer := outer) (s := s) (H := H) (E := E) CC T hr far
  obtain ⟨t1, g1, rr1⟩ := door1 (f := f) (cdv := cdv) (A := A) (outer := outer) (s := s) (H := H) (E := E) CC T hr far
  obtain ⟨t2, g2, rr2⟩ := door2 (f := f) (cdv := cdv) (A := A) (outer := outer) (s := s) (H := H) (E := E) CC T hr far
  obtain ⟨t3, g3, rr3⟩ := door3 (f := f) (cdv := cdv) (A := A) (outer := outer) (s := s) (H := H) (E := E) CC T hr far
  obtain ⟨t4, g4, rr4⟩ := door4 (f := f) (cdv := cdv) (A := A) (outer := outer) (s := s) (H := H) (E := E) CC T hr far
  obtain ⟨t5, g5, rr5⟩ := door5 (f := f) (cdv := cdv) (A := A) (outer := outer) (s := s) (H := H) (E := E) CC T hr far
  obtain ⟨t6, g6, rr6⟩ := door6 (f := f) (cdv := cdv) (A := A) (outer := outer) (s := s) (H := H) (E := E) CC T hr far
  obtain ⟨t7, g7, rr7⟩ := door7 (f := f) (cdv := cdv) (A := A) (outer := outer) (s := s) (H := H) (E := E) CC T hr far
  obtain ⟨t8, g8, rr8⟩ := door8 (f := f) (cdv := cdv) (A := A) (outer := outer) (s := s) (H := H) (E := E) CC T hr far
  obtain ⟨t9, g9, rr9⟩ := door9 (f := f) (cdv := cdv) (A := A) (outer := outer) (s := s) (H := H) (E := E) CC T hr far
  obtain ⟨t10, g10, rr10⟩ := door10 (f := f) (cdv := cdv) (A := A) (outer := outer) (s := s) (H := H) (E := E) CC T hr far
  obtain ⟨t11, g11, rr11⟩ := door11 (f := f) (cdv := cdv) (A := A) (outer := outer) (s := s) (H := H) (E := E) CC T hr far
  obtain ⟨t12, g12, rr12⟩ := door12 (f := f) (cdv := cdv) (A := A) (outer := outer) (s := s) (H := H) (E := E) CC T hr far
  refine ⟨_, pss_cons (ps_set (i := 2) scTkr.nd rfl (Or.inr rfl) (pe_mk MK hr rfl (pa_cons (pl_lit (x := "_law_far") (far := far) (i := 1) (fun _ => pv 1) 40 _ (.lst [.tup [.tup [.int 1, .int 1], .int 1]]) (by decide +kernel) rfl) pa_nil)))
    (pss_cons (ps_if (pt_cmpR op_eq (pv 0) pe_int (nomark _)) (pss_one (ps_ret g0)) pss_nil)
    (pss_cons (ps_if (pt_cmpR op_eq (pv 0) pe_int (nomark _)) (pss_one (ps_ret g1)) pss_nil)
    (pss_cons (ps_if (pt_cmpR op_eq (pv 0) pe_int (nomark _)) (pss_one (ps_ret g2)) pss_nil)
    (pss_cons (ps_if (pt_cmpR op_eq (pv 0) pe_int (nomark _)) (pss_one (ps_ret g3)) pss_nil)
    (pss_cons (ps_if (pt_cmpR op_eq (pv 0) pe_int (nomark _)) (pss_one (ps_ret g4)) pss_nil)
    (pss_cons (ps_if (pt_cmpR op_eq (pv 0) pe_int (nomark _)) (pss_one (ps_ret g5)) pss_nil)
    (pss_cons (ps_if (pt_cmpR op_eq (pv 0) pe_int (nomark _)) (pss_one (ps_ret g6)) pss_nil)
    (pss_cons (ps_if (pt_cmpR op_eq (pv 0) pe_int (nomark _)) (pss_one (ps_ret g7)) pss_nil)
    (pss_cons (ps_if (pt_cmpR op_eq (pv 0) pe_int (nomark _)) (pss_one (ps_ret g8)) pss_nil)
    (pss_cons (ps_if (pt_cmpR op_eq (pv 0) pe_int (nomark _)) (pss_one (ps_ret g9)) pss_nil)
    (pss_cons (ps_if (pt_cmpR op_eq (pv 0) pe_int (nomark _)) (pss_one (ps_ret g10)) pss_nil)
    (pss_cons (ps_if (pt_cmpR op_eq (pv 0) pe_int (nomark _)) (pss_one (ps_ret g11)) pss_nil)
    (pss_one (ps_ret g12)))))))))))))), ?_⟩
  refine ⟨rfl, fun v H1 s1 r1 => ?_⟩
  obtain ⟨a, xs, rfl, hs, u, r, rfl, ru, hr'⟩ := r1.now
  cases (show r = [] from hr')
  refine mk_taste (C := C) (p := 1) (S := [((1 : Rat), 1)]) hs (.cons (rd_st (q := 1) ru rfl rfl) .nil) (one_ts (by decide) (by decide)) fun x lt ll H4 s4 hx hlt hll ta => ?_
  obtain ⟨dx, hx2⟩ := ta.ins
  have tx : TasteX C H4 x := ⟨dx, _, hx2⟩
  have k4 : ∀ H', Same H4 H' → E (.ref BK) none H' := fun H' s' => k H' ((s1.trans s4).trans s')
  rcases (show d = 0 ∨ d = 1 ∨ d = 2 ∨ d = 3 ∨ d = 4 ∨ d = 5 ∨ d = 6 ∨ d = 7 ∨ d = 8 ∨ d = 9 ∨ d = 10 ∨ d = 11 ∨ d = 12 by omega) with rfl | rfl | rfl | rfl | rfl | rfl | rfl | rfl | rfl | rfl | rfl | rfl | rfl
  ·refine ⟨_, rfl, rfl, _, rfl, iteY rfl ?_⟩
   exact rr0 Q x _ H4 tx h0 h1 k4
  ·refine ⟨_, rfl, rfl, _, rfl, iteN (fun z => nomatch V.int.inj z) ?_⟩
   refine ⟨_, rfl, rfl, _, rfl, iteY rfl ?_⟩
   exact rr1 Q x _ H4 tx h0 h1 k4
  ·refine ⟨_, rfl, rfl, _, rfl, iteN (fun z => nomatch V.int.inj z) ?_⟩
   refine ⟨_, rfl, rfl, _, rfl, iteN (fun z => nomatch V.int.inj z) ?_⟩
   refine ⟨_, rfl, rfl, _, rfl, iteY rfl ?_⟩
   exact rr2 Q x _ H4 tx h0 h1 k4
  ·refine ⟨_, rfl, rfl, _, rfl, iteN (fun z => nomatch V.int.inj z) ?_⟩
   refine ⟨_, rfl, rfl, _, rfl, iteN (fun z => nomatch V.int.inj z) ?_⟩
   refine ⟨_, rfl, rfl, _, rfl, iteN (fun z => nomatch V.int.inj z) ?_⟩
   refine ⟨_, rfl, rfl, _, rfl, iteY rfl ?_⟩
   exact rr3 Q x _ H4 tx h0 h1 k4
  ·refine ⟨_, rfl, rfl, _, rfl, iteN (fun z => nomatch V.int.inj z) ?_⟩
   refine ⟨_, rfl, rfl, _, rfl, iteN (fun z => nomatch V.int.inj z) ?_⟩
   refine ⟨_, rfl, rfl, _, rfl, iteN (fun z => nomatch V.int.inj z) ?_⟩
   refine ⟨_, rfl, rfl, _, rfl, iteN (fun z => nomatch V.int.inj z) ?_⟩
   refine ⟨_, rfl, rfl, _, rfl, iteY rfl ?_⟩
   exact rr4 Q x _ H4 tx h0 h1 k4
  ·refine ⟨_, rfl, rfl, _, rfl, iteN (fun z => nomatch V.int.inj z) ?_⟩
   refine ⟨_, rfl, rfl, _, rfl, iteN (fun z => nomatch V.int.inj z) ?_⟩
   refine ⟨_, rfl, rfl, _, rfl, iteN (fun z => nomatch V.int.inj z) ?_⟩
   refine ⟨_, rfl, rfl, _, rfl, iteN (fun z => nomatch V.int.inj z) ?_⟩
   refine ⟨_, rfl, rfl, _, rfl, iteN (fun z => nomatch V.int.inj z) ?_⟩
   refine ⟨_, rfl, rfl, _, rfl, iteY rfl ?_⟩
   exact rr5 Q x _ H4 tx h0 h1 k4
  ·refine ⟨_, rfl, rfl, _, rfl, iteN (fun z => nomatch V.int.inj z) ?_⟩
   refine ⟨_, rfl, rfl, _, rfl, iteN (fun z => nomatch V.int.inj z) ?_⟩
   refine ⟨_, rfl, rfl, _, rfl, iteN (fun z => nomatch V.int.inj z) ?_⟩
   refine ⟨_, rfl, rfl, _, rfl, iteN (fun z => nomatch V.int.inj z) ?_⟩
   refine ⟨_, rfl, rfl, _, rfl, iteN (fun z => nomatch V.int.inj z) ?_⟩
   refine ⟨_, rfl, rfl, _, rfl, iteN (fun z => nomatch V.int.inj z) ?_⟩
   refine ⟨_, rfl, rfl, _, rfl, iteY rfl ?_⟩
   exact rr6 Q x _ H4 tx h0 h1 k4
  ·refine ⟨_, rfl, rfl, _, rfl, iteN (fun z => nomatch V.int.inj z) ?_⟩
   refine ⟨_, rfl, rfl, _, rfl, iteN (fun z => nomatch V.int.inj z) ?_⟩
   refine ⟨_, rfl, rfl, _, rfl, iteN (fun z => nomatch V.int.inj z) ?_⟩
   refine ⟨_, rfl, rfl, _, rfl, iteN (fun z => nomatch V.int.inj z) ?_⟩
   refine ⟨_, rfl, rfl, _, rfl, iteN (fun z => nomatch V.int.inj z) ?_⟩
   refine ⟨_, rfl, rfl, _, rfl, iteN (fun z => nomatch V.int.inj z) ?_⟩
   refine ⟨_, rfl, rfl, _, rfl, iteN (fun z => nomatch V.int.inj z) ?_⟩
   refine ⟨_, rfl, rfl, _, rfl, iteY rfl ?_⟩
   exact rr7 Q x _ H4 tx h0 h1 k4
  ·refine ⟨_, rfl, rfl, _, rfl, iteN (fun z => nomatch V.int.inj z) ?_⟩
   refine ⟨_, rfl, rfl, _, rfl, iteN (fun z => nomatch V.int.inj z) ?_⟩
   refine ⟨_, rfl, rfl, _, rfl, iteN (fun z => nomatch V.int.inj z) ?_⟩
   refine ⟨_, rfl, rfl, _, rfl, iteN (fun z => nomatch V.int.inj z) ?_⟩
   refine ⟨_, rfl, rfl, _, rfl, iteN (fun z => nomatch V.int.inj z) ?_⟩
   refine ⟨_, rfl, rfl, _, rfl, iteN (fun z => nomatch V.int.inj z) ?_⟩
   refine ⟨_, rfl, rfl, _, rfl, iteN (fun z => nomatch V.int.inj z) ?_⟩
   refine ⟨_, rfl, rfl, _, rfl, iteN (fun z => nomatch V.int.inj z) ?_⟩
   refine ⟨_, rfl, rfl, _, rfl, iteY rfl ?_⟩
   exact rr8 Q x _ H4 tx h0 h1 k4
  ·refine ⟨_, rfl, rfl, _, rfl, iteN (fun z => nomatch V.int.inj z) ?_⟩
   refine ⟨_, rfl, rfl, _, rfl, iteN (fun z => nomatch V.int.inj z) ?_⟩
   refine ⟨_, rfl, rfl, _, rfl, iteN (fun z => nomatch V.int.inj z) ?_⟩
   refine ⟨_, rfl, rfl, _, rfl, iteN (fun z => nomatch V.int.inj z) ?_⟩
   refine ⟨_, rfl, rfl, _, rfl, iteN (fun z => nomatch V.int.inj z) ?_⟩
   refine ⟨_, rfl, rfl, _, rfl, iteN (fun z => nomatch V.int.inj z) ?_⟩
   refine ⟨_, rfl, rfl, _, rfl, iteN (fun z => nomatch V.int.inj z) ?_⟩
   refine ⟨_, rfl, rfl, _, rfl, iteN (fun z => nomatch V.int.inj z) ?_⟩
   refine ⟨_, rfl, rfl, _, rfl, iteN (fun z => nomatch V.int.inj z) ?_⟩
   refine ⟨_, rfl, rfl, _, rfl, iteY rfl ?_⟩
   exact rr9 Q x _ H4 tx h0 h1 k4
  ·refine ⟨_, rfl, rfl, _, rfl, iteN (fun z => nomatch V.int.inj z) ?_⟩
   refine ⟨_, rfl, rfl, _, rfl, iteN (fun z => nomatch V.int.inj z) ?_⟩
   refine ⟨_, rfl, rfl, _, rfl, iteN (fun z => nomatch V.int.inj z) ?_⟩
   refine ⟨_, rfl, rfl, _, rfl, iteN (fun z => nomatch V.int.inj z) ?_⟩
   refine ⟨_, rfl, rfl, _, rfl, iteN (fun z => nomatch V.int.inj z) ?_⟩
   refine ⟨_, rfl, rfl, _, rfl, iteN (fun z => nomatch V.int.inj z) ?_⟩
   refine ⟨_, rfl, rfl, _, rfl, iteN (fun z => nomatch V.int.inj z) ?_⟩
   refine ⟨_, rfl, rfl, _, rfl, iteN (fun z => nomatch V.int.inj z) ?_⟩
   refine ⟨_, rfl, rfl, _, rfl, iteN (fun z => nomatch V.int.inj z) ?_⟩
   refine ⟨_, rfl, rfl, _, rfl, iteN (fun z => nomatch V.int.inj z) ?_⟩
   refine ⟨_, rfl, rfl, _, rfl, iteY rfl ?_⟩
   exact rr10 Q x _ H4 tx h0 h1 k4
  ·refine ⟨_, rfl, rfl, _, rfl, iteN (fun z => nomatch V.int.inj z) ?_⟩
   refine ⟨_, rfl, rfl, _, rfl, iteN (fun z => nomatch V.int.inj z) ?_⟩
   refine ⟨_, rfl, rfl, _, rfl, iteN (fun z => nomatch V.int.inj z) ?_⟩
   refine ⟨_, rfl, rfl, _, rfl, iteN (fun z => nomatch V.int.inj z) ?_⟩
   refine ⟨_, rfl, rfl, _, rfl, iteN (fun z => nomatch V.int.inj z) ?_⟩
   refine ⟨_, rfl, rfl, _, rfl, iteN (fun z => nomatch V.int.inj z) ?_⟩
   refine ⟨_, rfl, rfl, _, rfl, iteN (fun z => nomatch V.int.inj z) ?_⟩
   refine ⟨_, rfl, rfl, _, rfl, iteN (fun z => nomatch V.int.inj z) ?_⟩
   refine ⟨_, rfl, rfl, _, rfl, iteN (fun z => nomatch V.int.inj z) ?_⟩
   refine ⟨_, rfl, rfl, _, rfl, iteN (fun z => nomatch V.int.inj z) ?_⟩
   refine ⟨_, rfl, rfl, _, rfl, iteN (fun z => nomatch V.int.inj z) ?_⟩
   refine ⟨_, rfl, rfl, _, rfl, iteY rfl ?_⟩
   exact rr11 Q x _ H4 tx h0 h1 k4
  ·refine ⟨_, rfl, rfl, _, rfl, iteN (fun z => nomatch V.int.inj z) ?_⟩
   refine ⟨_, rfl, rfl, _, rfl, iteN (fun z => nomatch V.int.inj z) ?_⟩
   refine ⟨_, rfl, rfl, _, rfl, iteN (fun z => nomatch V.int.inj z) ?_⟩
   refine ⟨_, rfl, rfl, _, rfl, iteN (fun z => nomatch V.int.inj z) ?_⟩
   refine ⟨_, rfl, rfl, _, rfl, iteN (fun z => nomatch V.int.inj z) ?_⟩
   refine ⟨_, rfl, rfl, _, rfl, iteN (fun z => nomatch V.int.inj z) ?_⟩
   refine ⟨_, rfl, rfl, _, rfl, iteN (fun z => nomatch V.int.inj z) ?_⟩
   refine ⟨_, rfl, rfl, _, rfl, iteN (fun z => nomatch V.int.inj z) ?_⟩
   refine ⟨_, rfl, rfl, _, rfl, iteN (fun z => nomatch V.int.inj z) ?_⟩
   refine ⟨_, rfl, rfl, _, rfl, iteN (fun z => nomatch V.int.inj z) ?_⟩
   refine ⟨_, rfl, rfl, _, rfl, iteN (fun z => nomatch V.int.inj z) ?_⟩
   refine ⟨_, rfl, rfl, _, rfl, iteN (fun z => nomatch V.int.inj z) ?_⟩
   exact rr12 Q x _ H4 tx h0 h1 k4
end
end FQ
namespace FQ
open PySem L2 FK
theorem ready_but {P P' : Addr} {H H' : Hp} {ps : Array Value} {pos : Pos} {qual : Str} (h : But P H H') (hP : H P = some (.tbl ps)) (hne : P' ≠ P) (r : Ready P' pos qual H) : Ready P' pos qual H' := by
 obtain ⟨qs, h1, h2, h3⟩ := r
 refine ⟨qs, h _ _ h1 hne, h2, h3.imp id fun ⟨c, e1, e2⟩ => ⟨c, e1, h _ _ e2 (ne_of e2 hP fun z => nomatch z)⟩⟩
structure Rdy3 (Pj Ps Pw : Addr) (H : Hp) : Prop where
 j : Ready Pj (lamPos2 s_joined) (lq "joined") H
 s : Ready Ps (lamPos2 s_shared) (lq "shared") H
 w : Ready Pw (lamPos2 s_without) (lq "without") H
 js : Pj ≠ Ps
 jw : Pj ≠ Pw
 sw : Ps ≠ Pw
def Ts3 (Pj Ps Pw : Addr) (H H' : Hp) : Prop := ∀ b o, H b = some o → b ≠ Pj → b ≠ Ps → b ≠ Pw → H' b = some o
theorem Rdy3.same {Pj Ps Pw : Addr} {H H' : Hp} (r : Rdy3 Pj Ps Pw H) (s : Same H H') : Rdy3 Pj Ps Pw H' := ⟨ready_same r.j s, ready_same r.s s, ready_same r.w s, r.js, r.jw, r.sw⟩
theorem Ts3.of {Pj Ps Pw : Addr} {H H' : Hp} (s : Same H H') : Ts3 Pj Ps Pw H H' := fun b o e _ _ _ => s b o e
theorem Rdy3.goJ {Pj Ps Pw : Addr} {H H' : Hp} (r : Rdy3 Pj Ps Pw H) (b : But Pj H H') (n : Ready Pj (lamPos2 s_joined) (lq "joined") H') : Rdy3 Pj Ps Pw H' := by
 obtain ⟨ps, hP, _⟩ := r.j
 exact ⟨n, ready_but b hP r.js.symm r.s, ready_but b hP r.jw.symm r.w, r.js, r.jw, r.sw⟩
theorem Rdy3.goS {Pj Ps Pw : Addr} {H H' : Hp} (r : Rdy3 Pj Ps Pw H) (b : But Ps H H') (n : Ready Ps (lamPos2 s_shared) (lq "shared") H') : Rdy3 Pj Ps Pw H' := by
 obtain ⟨ps, hP, _⟩ := r.s
 exact ⟨ready_but b hP r.js r.j, n, ready_but b hP r.sw.symm r.w, r.js, r.jw, r.sw⟩
theorem Rdy3.goW {Pj Ps Pw : Addr} {H H' : Hp} (r : Rdy3 Pj Ps Pw H) (b : But Pw H H') (n : Ready Pw (lamPos2 s_without) (lq "without") H') : Rdy3 Pj Ps Pw H' := by
 obtain ⟨ps, hP, _⟩ := r.w
 exact ⟨ready_but b hP r.jw r.j, ready_but b hP r.sw r.s, n, r.js, r.jw, r.sw⟩
def spEnvyP (K : PySem.W.Frag) (C BP : Addr) : Sp := fun vs H _ E => ∃ (a b : Addr) (x lt ll : Addr) (xs : List V) (ts : List Tr) (u : Tr), vs = [.ref a, .ref b] ∧ H a = some (.lst xs) ∧ RdL K H ts xs ∧ (ts = [u] ∨ ts = [wholeT, u]) ∧ Smt u ∧ pieceOk u = false ∧ H b = some (.lst (List.replicate xs.length (.ref x))) ∧ TasteAt K C H x lt ll [((1 : Rat), 1)] ∧ ∀ H', Same H H' → E (.ref BP) none H'
structure PcC (P : Program) (w : World) (K : PySem.W.Frag) (mg : Str → Option Value) (base : Heap) (C BP Pj Ps Pw : Addr) : Prop where
 worth : MlX P w K mg base C BP "worth" 5 ["self", "piece"] (spWorthX K BP)
 cut : MlX P w K mg base C BP "cut" 6 ["self", "piece", "share"] (spCutX K C BP)
 joined : ClX P w K mg base BP "joined" 6 ["one", "other"] (spPairX K BP Pj (lamPos2 s_joined) (lq "joined"))
 shared : ClX P w K mg base BP "shared" 6 ["one", "other"] (spPairX K BP Ps (lamPos2 s_shared) (lq "shared"))
 without : ClX P w K mg base BP "without" 6 ["one", "other"] (spPairX K BP Pw (lamPos2 s_without) (lq "without"))
 deals : ClX P w K mg base BP "deals" 5 ["pieces"] (spDealsX K BP)
 text : ClX P w K mg base BP "piece_text" 5 ["piece"] (spOneX K BP)
 envy : ClX P w K mg base BP "envy" 10 ["pieces", "tastes"] (spEnvyP K C BP)
 all : Cl P w K mg base "whole" 1 [] (spWholeR K)
 cls : Cls K C
theorem whole_sm : Smt wholeT := by
 unfold wholeT
 (repeat (first | exact trivial | exact sm_low (by omega) | refine ⟨?_, ?_⟩))
section
variable {P : Program} {w : World} {K : PySem.W.Frag} {mg : Str → Option Value} {base : Heap} {aL aR C BP Pj Ps Pw : Addr}
theorem scAllR : FnScope [] [] (defScope s_whole) := ⟨rfl, rfl, rfl, by decide +kernel, rfl, by decide +kernel, by decide +kernel⟩
theorem ok_wholeR {f : Addr} {fd : FuncData} (D : DefAt K mg "whole" s_whole [] f fd) (T : Txt K mg aL aR) : FnOk P w K mg base CX0 1 f fd [] (spWholeR K) := by
 refine D.fn.ok scAllR (fun vs H Q E h => ?_) (fun cdv A outer s H vs Q E hr h => ?_)
 ·obtain ⟨rfl, _⟩ := h
  rfl
 ·obtain ⟨rfl, k⟩ := h
  refine ⟨_, pss_one (ps_ret (pe_lst (pa_cons (pe_tup (pa_cons (pe_glob (v := .ref aL) rfl T.left rfl) (pa_cons (pe_glob (v := .ref aR) rfl T.right rfl) pa_nil))) pa_nil))), ?_⟩
  refine ⟨le1000 rfl, fun t ht => ⟨le1000 rfl, fun r hr => ?_⟩⟩
  have s1 := Same.upd (o := .tup [.ref aL, .ref aR]) ht
  have s2 := Same.upd (o := .lst [.ref t]) hr
  exact k r _ _ (s1.trans s2) (s1.free hr) upd_same rfl ⟨r, _, rfl, sqL_new, _, _, rfl, ⟨t, _, rfl, s2.sqT sqT_new, _, _, rfl, ⟨aL, _, rfl, T.leftT _, _, _, rfl, rfl, _, _, rfl, rfl, rfl⟩, _, _, rfl, ⟨aR, _, rfl, T.rightT _, _, _, rfl, rfl, _, _, rfl, rfl, rfl⟩, rfl⟩, rfl⟩
end
end FQ
namespace FQ
open PySem L2 FK
section
variable {P : Program} {w : World} {K : PySem.W.Frag} {mg : Str → Option Value} {base : Heap} {aL aR C BP Pj Ps Pw : Addr}
theorem pdoor0 (CC : PcC P w K mg base C BP Pj Ps Pw) {f : Addr} {cdv : Value} {A : Around} {outer : List Env} {s : Shared} {H : Hp} {E : XK} (hr : Room 10 (cxOf (CX1 P w BP) P w K mg base ["_law_door", "_law_bad", "_law_taste"] "_law_with_piece" (defScope s__law_with_piece) f cdv A outer s H E).A) : ∃ t, PE (cxOf (CX1 P w BP) P w K mg base ["_law_door", "_law_bad", "_law_taste"] "_law_with_piece" (defScope s__law_with_piece) f cdv A outer s H E) (doorE s__law_with_piece 0) t ∧ ∀ (Q : VK) (x lt ll : Addr) (d v : V) (u : Tr) (H1 : Hp), TasteAt K C H1 x lt ll [((1 : Rat), 1)] → Rd K H1 u v → Smt u → pieceOk u = false → Rdy3 Pj Ps Pw H1 → (∀ H', Ts3 Pj Ps Pw H1 H' → Rdy3 Pj Ps Pw H' → E (.ref BP) none H') → t [some d, some v, some (.ref x)] H1 Q := by
 have hr1 : Room 1 _ := hr.mono (by decide)
 have hr5 : Room 5 _ := hr.mono (by decide)
 have hr6 : Room 6 _ := hr.mono (by decide)
 refine ⟨_, pe_mlP CC.worth CC.cls hr5 (pv 2) (pa_cons (pv 1) pa_nil), ?_⟩
 intro Q x lt ll d v u H1 ta rv sm bad ry k
 obtain ⟨dx, hx⟩ := ta.ins
 exact ⟨_, rfl, x, dx, _, rfl, hx, rfl, _, rfl, .ref x, v, u, rfl, rv, sm, bad, k _ (.of (Same.refl _)) ry⟩
theorem pdoor1 (CC : PcC P w K mg base C BP Pj Ps Pw) {f : Addr} {cdv : Value} {A : Around} {outer : List Env} {s : Shared} {H : Hp} {E : XK} (hr : Room 10 (cxOf (CX1 P w BP) P w K mg base ["_law_door", "_law_bad", "_law_taste"] "_law_with_piece" (defScope s__law_with_piece) f cdv A outer s H E).A) : ∃ t, PE (cxOf (CX1 P w BP) P w K mg base ["_law_door", "_law_bad", "_law_taste"] "_law_with_piece" (defScope s__law_with_piece) f cdv A outer s H E) (doorE s__law_with_piece 1) t ∧ ∀ (Q : VK) (x lt ll : Addr) (d v : V) (u : Tr) (H1 : Hp), TasteAt K C H1 x lt ll [((1 : Rat), 1)] → Rd K H1 u v → Smt u → pieceOk u = false → Rdy3 Pj Ps Pw H1 → (∀ H', Ts3 Pj Ps Pw H1 H' → Rdy3 Pj Ps Pw H' → E (.ref BP) none H') → t [some d, some v, some (.ref x)] H1 Q := by
 have hr1 : Room 1 _ := hr.mono (by decide)
 have hr5 : Room 5 _ := hr.mono (by decide)
 have hr6 : Room 6 _ := hr.mono (by decide)
 refine ⟨_, pe_mlP CC.cut CC.cls hr6 (pv 2) (pa_cons (pv 1) (pa_cons (pe_tup (pa_cons pe_int (pa_cons pe_int pa_nil))) pa_nil)), ?_⟩
 intro Q x lt ll d v u H1 ta rv sm bad ry k
 obtain ⟨dx, hx⟩ := ta.ins
 refine ⟨_, rfl, x, dx, _, rfl, hx, rfl, _, rfl, le1000 rfl, fun p hp => ?_⟩
 have s1 := Same.upd (o := .tup [.int 5, .int 1]) hp
 exact ⟨x, dx, lt, ll, v, .ref p, u, rfl, s1 _ _ hx, rd_same s1 _ _ rv, sm, bad, k _ (.of s1) (ry.same s1)⟩
theorem pdoor2 (CC : PcC P w K mg base C BP Pj Ps Pw) {f : Addr} {cdv : Value} {A : Around} {outer : List Env} {s : Shared} {H : Hp} {E : XK} (hr : Room 10 (cxOf (CX1 P w BP) P w K mg base ["_law_door", "_law_bad", "_law_taste"] "_law_with_piece" (defScope s__law_with_piece) f cdv A outer s H E).A) : ∃ t, PE (cxOf (CX1 P w BP) P w K mg base ["_law_door", "_law_bad", "_law_taste"] "_law_with_piece" (defScope s__law_with_piece) f cdv A outer s H E) (doorE s__law_with_piece 2) t ∧ ∀ (Q : VK) (x lt ll : Addr) (d v : V) (u : Tr) (H1 : Hp), TasteAt K C H1 x lt ll [((1 : Rat), 1)] → Rd K H1 u v → Smt u → pieceOk u = false → Rdy3 Pj Ps Pw H1 → (∀ H', Ts3 Pj Ps Pw H1 H' → Rdy3 Pj Ps Pw H' → E (.ref BP) none H') → t [some d, some v, some (.ref x)] H1 Q := by
 have hr1 : Room 1 _ := hr.mono (by decide)
 have hr5 : Room 5 _ := hr.mono (by decide)
 have hr6 : Room 6 _ := hr.mono (by decide)
 refine ⟨_, pe_clX CC.joined hr6 rfl (pa_cons (pv 1) (pa_cons (pe_cl0 CC.all hr1 rfl) pa_nil)), ?_⟩
 intro Q x lt ll d v u H1 ta rv sm bad ry k
 refine ⟨_, rfl, rfl, fun r zs H2 s2 n2 h2 l2 r2 => ?_⟩
 have ry2 := ry.same s2
 exact ⟨v, .ref r, u, wholeT, rfl, rd_same s2 _ _ rv, r2, sm, whole_sm, .inl bad, ry2.j, fun H' b n => k _ (fun b' o e j1 j2 j3 => b b' o (s2 _ _ e) j1) (ry2.goJ b n)⟩
theorem pdoor3 (CC : PcC P w K mg base C BP Pj Ps Pw) {f : Addr} {cdv : Value} {A : Around} {outer : List Env} {s : Shared} {H : Hp} {E : XK} (hr : Room 10 (cxOf (CX1 P w BP) P w K mg base ["_law_door", "_law_bad", "_law_taste"] "_law_with_piece" (defScope s__law_with_piece) f cdv A outer s H E).A) : ∃ t, PE (cxOf (CX1 P w BP) P w K mg base ["_law_door", "_law_bad", "_law_taste"] "_law_with_piece" (defScope s__law_with_piece) f cdv A outer s H E) (doorE s__law_with_piece 3) t ∧ ∀ (Q : VK) (x lt ll : Addr) (d v : V) (u : Tr) (H1 : Hp), TasteAt K C H1 x lt ll [((1 : Rat), 1)] → Rd K H1 u v → Smt u → pieceOk u = false → Rdy3 Pj Ps Pw H1 → (∀ H', Ts3 Pj Ps Pw H1 H' → Rdy3 Pj Ps Pw H' → E (.ref BP) none H') → t [some d, some v, some (.ref x)] H1 Q := by
 have hr1 : Room 1 _ := hr.mono (by decide)
 have hr5 : Room 5 _ := hr.mono (by decide)
 have hr6 : Room 6 _ := hr.mono (by decide)
 refine ⟨_, pe_clX CC.joined hr6 rfl (pa_cons (pe_lst pa_nil) (pa_cons (pv 1) pa_nil)), ?_⟩
 intro Q x lt ll d v u H1 ta rv sm bad ry k
 refine ⟨le1000 rfl, fun p hp => ⟨_, rfl, ?_⟩⟩
 have s2 := Same.upd (o := .lst []) hp
 have ry2 := ry.same s2
 exact ⟨.ref p, v, .lst [], u, rfl, ⟨p, [], rfl, sqL_new, rfl⟩, rd_same s2 _ _ rv, trivial, sm, .inr bad, ry2.j, fun H' b n => k _ (fun b' o e j1 j2 j3 => b b' o (s2 _ _ e) j1) (ry2.goJ b n)⟩
theorem pdoor4 (CC : PcC P w K mg base C BP Pj Ps Pw) {f : Addr} {cdv : Value} {A : Around} {outer : List Env} {s : Shared} {H : Hp} {E : XK} (hr : Room 10 (cxOf (CX1 P w BP) P w K mg base ["_law_door", "_law_bad", "_law_taste"] "_law_with_piece" (defScope s__law_with_piece) f cdv A outer s H E).A) : ∃ t, PE (cxOf (CX1 P w BP) P w K mg base ["_law_door", "_law_bad", "_law_taste"] "_law_with_piece" (defScope s__law_with_piece) f cdv A outer s H E) (doorE s__law_with_piece 4) t ∧ ∀ (Q : VK) (x lt ll : Addr) (d v : V) (u : Tr) (H1 : Hp), TasteAt K C H1 x lt ll [((1 : Rat), 1)] → Rd K H1 u v → Smt u → pieceOk u = false → Rdy3 Pj Ps Pw H1 → (∀ H', Ts3 Pj Ps Pw H1 H' → Rdy3 Pj Ps Pw H' → E (.ref BP) none H') → t [some d, some v, some (.ref x)] H1 Q := by
 have hr1 : Room 1 _ := hr.mono (by decide)
 have hr5 : Room 5 _ := hr.mono (by decide)
 have hr6 : Room 6 _ := hr.mono (by decide)
 refine ⟨_, pe_clX CC.shared hr6 rfl (pa_cons (pv 1) (pa_cons (pe_cl0 CC.all hr1 rfl) pa_nil)), ?_⟩
 intro Q x lt ll d v u H1 ta rv sm bad ry k
 refine ⟨_, rfl, rfl, fun r zs H2 s2 n2 h2 l2 r2 => ?_⟩
 have ry2 := ry.same s2
 exact ⟨v, .ref r, u, wholeT, rfl, rd_same s2 _ _ rv, r2, sm, whole_sm, .inl bad, ry2.s, fun H' b n => k _ (fun b' o e j1 j2 j3 => b b' o (s2 _ _ e) j2) (ry2.goS b n)⟩
theorem pdoor5 (CC : PcC P w K mg base C BP Pj Ps Pw) {f : Addr} {cdv : Value} {A : Around} {outer : List Env} {s : Shared} {H : Hp} {E : XK} (hr : Room 10 (cxOf (CX1 P w BP) P w K mg base ["_law_door", "_law_bad", "_law_taste"] "_law_with_piece" (defScope s__law_with_piece) f cdv A outer s H E).A) : ∃ t, PE (cxOf (CX1 P w BP) P w K mg base ["_law_door", "_law_bad", "_law_taste"] "_law_with_piece" (defScope s__law_with_piece) f cdv A outer s H E) (doorE s__law_with_piece 5) t ∧ ∀ (Q : VK) (x lt ll : Addr) (d v : V) (u : Tr) (H1 : Hp), TasteAt K C H1 x lt ll [((1 : Rat), 1)] → Rd K H1 u v → Smt u → pieceOk u = false → Rdy3 Pj Ps Pw H1 → (∀ H', Ts3 Pj Ps Pw H1 H' → Rdy3 Pj Ps Pw H' → E (.ref BP) none H') → t [some d, some v, some (.ref x)] H1 Q := by
 have hr1 : Room 1 _ := hr.mono (by decide)
 have hr5 : Room 5 _ := hr.mono (by decide)
 have hr6 : Room 6 _ := hr.mono (by decide)
 refine ⟨_, pe_clX CC.without hr6 rfl (pa_cons (pe_cl0 CC.all hr1 rfl) (pa_cons (pv 1) pa_nil)), ?_⟩
 intro Q x lt ll d v u H1 ta rv sm bad ry k
 refine ⟨rfl, fun r zs H2 s2 n2 h2 l2 r2 => ⟨_, rfl, ?_⟩⟩
 have ry2 := ry.same s2
 exact ⟨.ref r, v, wholeT, u, rfl, r2, rd_same s2 _ _ rv, whole_sm, sm, .inr bad, ry2.w, fun H' b n => k _ (fun b' o e j1 j2 j3 => b b' o (s2 _ _ e) j3) (ry2.goW b n)⟩
theorem pdoor6 (CC : PcC P w K mg base C BP Pj Ps Pw) {f : Addr} {cdv : Value} {A : Around} {outer : List Env} {s : Shared} {H : Hp} {E : XK} (hr : Room 10 (cxOf (CX1 P w BP) P w K mg base ["_law_door", "_law_bad", "_law_taste"] "_law_with_piece" (defScope s__law_with_piece) f cdv A outer s H E).A) : ∃ t, PE (cxOf (CX1 P w BP) P w K mg base ["_law_door", "_law_bad", "_law_taste"] "_law_with_piece" (defScope s__law_with_piece) f cdv A outer s H E) (doorE s__law_with_piece 6) t ∧ ∀ (Q : VK) (x lt ll : Addr) (d v : V) (u : Tr) (H1 : Hp), TasteAt K C H1 x lt ll [((1 : Rat), 1)] → Rd K H1 u v → Smt u → pieceOk u = false → Rdy3 Pj Ps Pw H1 → (∀ H', Ts3 Pj Ps Pw H1 H' → Rdy3 Pj Ps Pw H' → E (.ref BP) none H') → t [some d, some v, some (.ref x)] H1 Q := by
 have hr1 : Room 1 _ := hr.mono (by decide)
 have hr5 : Room 5 _ := hr.mono (by decide)
 have hr6 : Room 6 _ := hr.mono (by decide)
 refine ⟨_, pe_clX CC.deals hr5 rfl (pa_cons (pe_lst (pa_cons (pe_cl0 CC.all hr1 rfl) (pa_cons (pv 1) pa_nil))) pa_nil), ?_⟩
 intro Q x lt ll d v u H1 ta rv sm bad ry k
 refine ⟨rfl, fun r zs H2 s2 n2 h2 l2 r2 => ⟨_, rfl, le1000 rfl, fun p hp => ?_⟩⟩
 have s3 := Same.upd (o := .lst [.ref r, v]) hp
 refine .inr ⟨p, [r], v, u, rfl, sqL_new, (show 1 ≤ 2 by decide), fun g hg => ?_, rd_same (s2.trans s3) _ _ rv, sm, bad, fun H' s' => k _ (.of ((s2.trans s3).trans s')) (ry.same ((s2.trans s3).trans s'))⟩
 rw [List.mem_singleton.mp hg]
 exact ⟨zs, wholeT, s3 _ _ h2, by omega, rd_same s3 _ _ r2, whole_sm, by decide +kernel⟩
theorem pdoor7 (CC : PcC P w K mg base C BP Pj Ps Pw) {f : Addr} {cdv : Value} {A : Around} {outer : List Env} {s : Shared} {H : Hp} {E : XK} (hr : Room 10 (cxOf (CX1 P w BP) P w K mg base ["_law_door", "_law_bad", "_law_taste"] "_law_with_piece" (defScope s__law_with_piece) f cdv A outer s H E).A) : ∃ t, PE (cxOf (CX1 P w BP) P w K mg base ["_law_door", "_law_bad", "_law_taste"] "_law_with_piece" (defScope s__law_with_piece) f cdv A outer s H E) (doorE s__law_with_piece 7) t ∧ ∀ (Q : VK) (x lt ll : Addr) (d v : V) (u : Tr) (H1 : Hp), TasteAt K C H1 x lt ll [((1 : Rat), 1)] → Rd K H1 u v → Smt u → pieceOk u = false → Rdy3 Pj Ps Pw H1 → (∀ H', Ts3 Pj Ps Pw H1 H' → Rdy3 Pj Ps Pw H' → E (.ref BP) none H') → t [some d, some v, some (.ref x)] H1 Q := by
 have hr1 : Room 1 _ := hr.mono (by decide)
 have hr5 : Room 5 _ := hr.mono (by decide)
 have hr6 : Room 6 _ := hr.mono (by decide)
 refine ⟨_, pe_clX CC.text hr5 rfl (pa_cons (pv 1) pa_nil), ?_⟩
 intro Q x lt ll d v u H1 ta rv sm bad ry k
 exact ⟨_, rfl, v, u, rfl, rv, sm, bad, k _ (.of (Same.refl _)) ry⟩
theorem pdoor8 (CC : PcC P w K mg base C BP Pj Ps Pw) {f : Addr} {cdv : Value} {A : Around} {outer : List Env} {s : Shared} {H : Hp} {E : XK} (hr : Room 10 (cxOf (CX1 P w BP) P w K mg base ["_law_door", "_law_bad", "_law_taste"] "_law_with_piece" (defScope s__law_with_piece) f cdv A outer s H E).A) : ∃ t, PE (cxOf (CX1 P w BP) P w K mg base ["_law_door", "_law_bad", "_law_taste"] "_law_with_piece" (defScope s__law_with_piece) f cdv A outer s H E) (doorE s__law_with_piece 8) t ∧ ∀ (Q : VK) (x lt ll : Addr) (d v : V) (u : Tr) (H1 : Hp), TasteAt K C H1 x lt ll [((1 : Rat), 1)] → Rd K H1 u v → Smt u → pieceOk u = false → Rdy3 Pj Ps Pw H1 → (∀ H', Ts3 Pj Ps Pw H1 H' → Rdy3 Pj Ps Pw H' → E (.ref BP) none H') → t [some d, some v, some (.ref x)] H1 Q := by
 have hr1 : Room 1 _ := hr.mono (by decide)
 have hr5 : Room 5 _ := hr.mono (by decide)
 have hr6 : Room 6 _ := hr.mono (by decide)
 refine ⟨_, pe_clX CC.shared hr6 rfl (pa_cons (pe_lst pa_nil) (pa_cons (pv 1) pa_nil)), ?_⟩
 intro Q x lt ll d v u H1 ta rv sm bad ry k
 refine ⟨le1000 rfl, fun p hp => ⟨_, rfl, ?_⟩⟩
 have s2 := Same.upd (o := .lst []) hp
 have ry2 := ry.same s2
 exact ⟨.ref p, v, .lst [], u, rfl, ⟨p, [], rfl, sqL_new, rfl⟩, rd_same s2 _ _ rv, trivial, sm, .inr bad, ry2.s, fun H' b n => k _ (fun b' o e j1 j2 j3 => b b' o (s2 _ _ e) j2) (ry2.goS b n)⟩
theorem pdoor9 (CC : PcC P w K mg base C BP Pj Ps Pw) {f : Addr} {cdv : Value} {A : Around} {outer : List Env} {s : Shared} {H : Hp} {E : XK} (hr : Room 10 (cxOf (CX1 P w BP) P w K mg base ["_law_door", "_law_bad", "_law_taste"] "_law_with_piece" (defScope s__law_with_piece) f cdv A outer s H E).A) : ∃ t, PE (cxOf (CX1 P w BP) P w K mg base ["_law_door", "_law_bad", "_law_taste"] "_law_with_piece" (defScope s__law_with_piece) f cdv A outer s H E) (doorE s__law_with_piece 9) t ∧ ∀ (Q : VK) (x lt ll : Addr) (d v : V) (u : Tr) (H1 : Hp), TasteAt K C H1 x lt ll [((1 : Rat), 1)] → Rd K H1 u v → Smt u → pieceOk u = false → Rdy3 Pj Ps Pw H1 → (∀ H', Ts3 Pj Ps Pw H1 H' → Rdy3 Pj Ps Pw H' → E (.ref BP) none H') → t [some d, some v, some (.ref x)] H1 Q := by
 have hr1 : Room 1 _ := hr.mono (by decide)
 have hr5 : Room 5 _ := hr.mono (by decide)
 have hr6 : Room 6 _ := hr.mono (by decide)
 refine ⟨_, pe_clX CC.without hr6 rfl (pa_cons (pv 1) (pa_cons (pe_cl0 CC.all hr1 rfl) pa_nil)), ?_⟩
 intro Q x lt ll d v u H1 ta rv sm bad ry k
 refine ⟨_, rfl, rfl, fun r zs H2 s2 n2 h2 l2 r2 => ?_⟩
 have ry2 := ry.same s2
 exact ⟨v, .ref r, u, wholeT, rfl, rd_same s2 _ _ rv, r2, sm, whole_sm, .inl bad, ry2.w, fun H' b n => k _ (fun b' o e j1 j2 j3 => b b' o (s2 _ _ e) j3) (ry2.goW b n)⟩
theorem pdoor10 (CC : PcC P w K mg base C BP Pj Ps Pw) {f : Addr} {cdv : Value} {A : Around} {outer : List Env} {s : Shared} {H : Hp} {E : XK} (hr : Room 10 (cxOf (CX1 P w BP) P w K mg base ["_law_door", "_law_bad", "_law_taste"] "_law_with_piece" (defScope s__law_with_piece) f cdv A outer s H E).A) : ∃ t, PE (cxOf (CX1 P w BP) P w K mg base ["_law_door", "_law_bad", "_law_taste"] "_law_with_piece" (defScope s__law_with_piece) f cdv A outer s H E) (doorE s__law_with_piece 10) t ∧ ∀ (Q : VK) (x lt ll : Addr) (d v : V) (u : Tr) (H1 : Hp), TasteAt K C H1 x lt ll [((1 : Rat), 1)] → Rd K H1 u v → Smt u → pieceOk u = false → Rdy3 Pj Ps Pw H1 → (∀ H', Ts3 Pj Ps Pw H1 H' → Rdy3 Pj Ps Pw H' → E (.ref BP) none H') → t [some d, some v, some (.ref x)] H1 Q := by
 have hr1 : Room 1 _ := hr.mono (by decide)
 have hr5 : Room 5 _ := hr.mono (by decide)
 have hr6 : Room 6 _ := hr.mono (by decide)
 refine ⟨_, pe_clX CC.envy hr rfl (pa_cons (pe_lst (pa_cons (pe_cl0 CC.all hr1 rfl) (pa_cons (pv 1) pa_nil))) (pa_cons (pe_lst (pa_cons (pv 2) (pa_cons (pv 2) pa_nil))) pa_nil)), ?_⟩
 intro Q x lt ll d v u H1 ta rv sm bad ry k
 refine ⟨rfl, fun r zs H2 s2 n2 h2 l2 r2 => ⟨_, rfl, le1000 rfl, fun p hp => ⟨_, rfl, _, rfl, le1000 rfl, fun q hq => ?_⟩⟩⟩
 have s3 := Same.upd (o := .lst [.ref r, v]) hp
 have s4 := Same.upd (o := .lst [.ref x, .ref x]) hq
 have s14 := (s2.trans s3).trans s4
 exact ⟨p, q, x, lt, ll, _, [wholeT, u], u, rfl, s4 _ _ upd_same, ⟨_, _, rfl, rd_same (s3.trans s4) _ _ r2, _, _, rfl, rd_same s14 _ _ rv, rfl⟩, .inr rfl, sm, bad, upd_same, ta.same s14, fun H' s' => k _ (.of (s14.trans s')) (ry.same (s14.trans s'))⟩
theorem pdoor11 (CC : PcC P w K mg base C BP Pj Ps Pw) {f : Addr} {cdv : Value} {A : Around} {outer : List Env} {s : Shared} {H : Hp} {E : XK} (hr : Room 10 (cxOf (CX1 P w BP) P w K mg base ["_law_door", "_law_bad", "_law_taste"] "_law_with_piece" (defScope s__law_with_piece) f cdv A outer s H E).A) : ∃ t, PE (cxOf (CX1 P w BP) P w K mg base ["_law_door", "_law_bad", "_law_taste"] "_law_with_piece" (defScope s__law_with_piece) f cdv A outer s H E) (doorE s__law_with_piece 11) t ∧ ∀ (Q : VK) (x lt ll : Addr) (d v : V) (u : Tr) (H1 : Hp), TasteAt K C H1 x lt ll [((1 : Rat), 1)] → Rd K H1 u v → Smt u → pieceOk u = false → Rdy3 Pj Ps Pw H1 → (∀ H', Ts3 Pj Ps Pw H1 H' → Rdy3 Pj Ps Pw H' → E (.ref BP) none H') → t [some d, some v, some (.ref x)] H1 Q := by
 have hr1 : Room 1 _ := hr.mono (by decide)
 have hr5 : Room 5 _ := hr.mono (by decide)
 have hr6 : Room 6 _ := hr.mono (by decide)
 refine ⟨_, pe_clX CC.deals hr5 rfl (pa_cons (pe_lst (pa_cons (pv 1) pa_nil)) pa_nil), ?_⟩
 intro Q x lt ll d v u H1 ta rv sm bad ry k
 refine ⟨_, rfl, le1000 rfl, fun p hp => ?_⟩
 have s3 := Same.upd (o := .lst [v]) hp
 exact .inr ⟨p, [], v, u, rfl, sqL_new, by decide, (fun g hg => nomatch hg), rd_same s3 _ _ rv, sm, bad, fun H' s' => k _ (.of (s3.trans s')) (ry.same (s3.trans s'))⟩
theorem pdoor12 (CC : PcC P w K mg base C BP Pj Ps Pw) {f : Addr} {cdv : Value} {A : Around} {outer : List Env} {s : Shared} {H : Hp} {E : XK} (hr : Room 10 (cxOf (CX1 P w BP) P w K mg base ["_law_door", "_law_bad", "_law_taste"] "_law_with_piece" (defScope s__law_with_piece) f cdv A outer s H E).A) : ∃ t, PE (cxOf (CX1 P w BP) P w K mg base ["_law_door", "_law_bad", "_law_taste"] "_law_with_piece" (defScope s__law_with_piece) f cdv A outer s H E) (doorE s__law_with_piece 12) t ∧ ∀ (Q : VK) (x lt ll : Addr) (d v : V) (u : Tr) (H1 : Hp), TasteAt K C H1 x lt ll [((1 : Rat), 1)] → Rd K H1 u v → Smt u → pieceOk u = false → Rdy3 Pj Ps Pw H1 → (∀ H', Ts3 Pj Ps Pw H1 H' → Rdy3 Pj Ps Pw H' → E (.ref BP) none H') → t [some d, some v, some (.ref x)] H1 Q := by
 have hr1 : Room 1 _ := hr.mono (by decide)
 have hr5 : Room 5 _ := hr.mono (by decide)
 have hr6 : Room 6 _ := hr.mono (by decide)
 refine ⟨_, pe_clX CC.envy hr rfl (pa_cons (pe_lst (pa_cons (pv 1) pa_nil)) (pa_cons (pe_lst (pa_cons (pv 2) pa_nil)) pa_nil)), ?_⟩
 intro Q x lt ll d v u H1 ta rv sm bad ry k
 refine ⟨_, rfl, le1000 rfl, fun p hp => ⟨_, rfl, le1000 rfl, fun q hq => ?_⟩⟩
 have s3 := Same.upd (o := .lst [v]) hp
 have s4 := Same.upd (o := .lst [.ref x]) hq
 have s14 := s3.trans s4
 exact ⟨p, q, x, lt, ll, _, [u], u, rfl, s4 _ _ upd_same, ⟨_, _, rfl, rd_same s14 _ _ rv, rfl⟩, .inl rfl, sm, bad, upd_same, ta.same s14, fun H' s' => k _ (.of (s14.trans s')) (ry.same (s14.trans s'))⟩
def spPcX (K : PySem.W.Frag) (BP Pj Ps Pw : Addr) : Sp := fun vs H _ E => ∃ (d : Nat) (v : V) (u : Tr), vs = [.int d, v] ∧ d < 13 ∧ Rd K H u v ∧ Smt u ∧ pieceOk u = false ∧ Rdy3 Pj Ps Pw H ∧ ∀ H', Ts3 Pj Ps Pw H H' → Rdy3 Pj Ps Pw H' → E (.ref BP) none H'
theorem scPcr : FnScope ["_law_door", "_law_bad", "_law_taste"] ["_law_door", "_law_bad"] (defScope s__law_with_piece) := ⟨rfl, rfl, rfl, by decide +kernel, rfl, by decide +kernel, by decide +kernel⟩
theorem ok_pcX {f : Addr} {fd : FuncData} (D : DefAt K mg "_law_with_piece" s__law_with_piece ["_law_door", "_law_bad"] f fd) (MK : Mc P w K mg base "Taste" C 5 ["self", "steps"] (spInit K C)) (CC : PcC P w K mg base C BP Pj Ps Pw) : FnOk P w K mg base (CX1 P w BP) 11 f fd ["_law_door", "_law_bad"] (spPcX K BP Pj Ps Pw) := by
 refine D.fn.okX scPcr (fun vs H Q E h => ?_) (fun cdv A outer s H vs Q E hr h => ?_)
 ·obtain ⟨d, v, u, rfl, _⟩ := h
  rfl
 ·obtain ⟨d, v, u, rfl, hd, rv, sm, bad, ry, k⟩ := h
  have hr6 : Room 6 _ := hr.mono (by decide)
  obtain ⟨t0, g0, rr0⟩ := pdoor0 (f := f) (cdv := cdv) (A := A) (outer := outer) (s := s) (H := H) (E := E) CC hr
  obtain ⟨t1, g1, rr1⟩ := pdoor1 (f := f) (cdv := cdv) (A := A) (outer := outer) (s := s) (H := H) (E := E) CC hr
  obtain ⟨t2, g2, rr2⟩ := pdoor2 (f := f) (cdv := cdv) (A := A) (outer := outer) (s := s) (H := H) (E := E) CC hr
  obtain ⟨t3, g3, rr3⟩ := pdoor3 (f := f) (cdv := cdv) (A := A) (outer := outer) (s := s) (H := H) (E := E) CC hr
  obtain ⟨t4, g4, rr4⟩ := pdoor4 (f := f) (cdv := cdv) (A := A) (outer := outer) (s := s) (H := H) (E := E) CC hr
  obtain ⟨t5, g5, rr5⟩ := pdoor5 (f := f) (cdv := cdv) (A := A) (outer := outer) (s := s) (H := H) (E := E) CC hr
  obtain ⟨t6, g6, rr6⟩ := pdoor6 (f := f) (cdv := cdv) (A := A) (outer := outer) (s := s) (H := H) (E := E) CC hr
  obtain ⟨t7, g7, rr7⟩ := pdoor7 (f := f) (cdv := cdv) (A := A) (outer := outer) (s := s) (H := H) (E := E) CC hr
  obtain ⟨t8, g8, rr8⟩ := pdoor8 (f := f) (cdv := cdv) (A := A) (outer := outer) (s := s) (H := H) (E := E) CC hr
  obtain ⟨t9, g9, rr9⟩ := pdoor9 (f := f) (cdv := cdv) (A := A) (outer := outer) (s := s) (H := H) (E := E) CC hr
  obtain ⟨t10, g10, rr10⟩ := pdoor10 (f := f) (cdv := cdv) (A := A) (outer := outer) (s := s) (H := H) (E := E) CC hr
  obtain ⟨t11, g11, rr11⟩ := pdoor11 (f := f) (cdv := cdv) (A := A) (outer := outer) (s := s) (H := H) (E := E) CC hr
  obtain ⟨t12, g12, rr12⟩ := pdoor12 (f := f) (cdv := cdv) (A := A) (outer := outer) (s := s) (H := H) (E := E) CC hr
  refine ⟨_, pss_cons (ps_set (i := 2) scPcr.nd rfl (Or.inl rfl) (pe_mk MK hr6 rfl (pa_cons (pe_lst (pa_cons (pe_tup (pa_cons (pe_tup (pa_cons pe_int (pa_cons pe_int pa_nil))) (pa_cons pe_int pa_nil))) pa_nil)) pa_nil)))
    (pss_cons (ps_if (pt_cmpR op_eq (pv 0) pe_int (nomark _)) (pss_one (ps_ret g0)) pss_nil)
    (pss_cons (ps_if (pt_cmpR op_eq (pv 0) pe_int (nomark _)) (pss_one (ps_ret g1)) pss_nil)
    (pss_cons (ps_if (pt_cmpR op_eq (pv 0) pe_int (nomark _)) (pss_one (ps_ret g2)) pss_nil)
    (pss_cons (ps_if (pt_cmpR op_eq (pv 0) pe_int (nomark _)) (pss_one (ps_ret g3)) pss_nil)
    (pss_cons (ps_if (pt_cmpR op_eq (pv 0) pe_int (nomark _)) (pss_one (ps_ret g4)) pss_nil)
    (pss_cons (ps_if (pt_cmpR op_eq (pv 0) pe_int (nomark _)) (pss_one (ps_ret g5)) pss_nil)
    (pss_cons (ps_if (pt_cmpR op_eq (pv 0) pe_int (nomark _)) (pss_one (ps_ret g6)) pss_nil)
    (pss_cons (ps_if (pt_cmpR op_eq (pv 0) pe_int (nomark _)) (pss_one (ps_ret g7)) pss_nil)
    (pss_cons (ps_if (pt_cmpR op_eq (pv 0) pe_int (nomark _)) (pss_one (ps_ret g8)) pss_nil)
    (pss_cons (ps_if (pt_cmpR op_eq (pv 0) pe_int (nomark _)) (pss_one (ps_ret g9)) pss_nil)
    (pss_cons (ps_if (pt_cmpR op_eq (pv 0) pe_int (nomark _)) (pss_one (ps_ret g10)) pss_nil)
    (pss_cons (ps_if (pt_cmpR op_eq (pv 0) pe_int (nomark _)) (pss_one (ps_ret g11)) pss_nil)
    (pss_one (ps_ret g12)))))))))))))), ?_⟩
  refine ⟨le1000 rfl, fun p1 q1 => ⟨le1000 rfl, fun p2 q2 => ⟨le1000 rfl, fun p3 q3 => ?_⟩⟩⟩
  have s1 := Same.upd (o := .tup [.int 1, .int 1]) q1
  have s2 := Same.upd (o := .tup [.ref p1, .int 1]) q2
  have s3 := Same.upd (o := .lst [.ref p2]) q3
  have fr1 : FrQ K (upd (upd (upd H p1 (.tup [.int 1, .int 1])) p2 (.tup [.ref p1, .int 1])) p3 (.lst [.ref p2])) (.ref p1) 1 := (FrQ.of (q := 1) sqT_new rfl rfl).same (s2.trans s3)
  refine mk_taste (C := C) (p := 1) (S := [((1 : Rat), 1)]) sqL_new (.cons ⟨p2, .ref p1, .int 1, rfl, s3.sqT sqT_new, fr1, rfl⟩ .nil) (one_ts (by decide) (by decide)) fun x lt ll H4 s4 hx hlt hll ta => ?_
  have s14 := ((s1.trans s2).trans s3).trans s4
  have ry4 := ry.same s14
  have rv4 := rd_same s14 _ _ rv
  have k4 : ∀ H', Ts3 Pj Ps Pw H4 H' → Rdy3 Pj Ps Pw H' → E (.ref BP) none H' := fun H' s' r' => k H' (fun b o e j1 j2 j3 => s' b o (s14 _ _ e) j1 j2 j3) r'
  rcases (show d = 0 ∨ d = 1 ∨ d = 2 ∨ d = 3 ∨ d = 4 ∨ d = 5 ∨ d = 6 ∨ d = 7 ∨ d = 8 ∨ d = 9 ∨ d = 10 ∨ d = 11 ∨ d = 12 by omega) with rfl | rfl | rfl | rfl | rfl | rfl | rfl | rfl | rfl | rfl | rfl | rfl | rfl
  ·refine ⟨_, rfl, rfl, _, rfl, iteY rfl ?_⟩
   exact rr0 Q x lt ll _ v u H4 ta rv4 sm bad ry4 k4
  ·refine ⟨_, rfl, rfl, _, rfl, iteN (fun z => nomatch V.int.inj z) ?_⟩
   refine ⟨_, rfl, rfl, _, rfl, iteY rfl ?_⟩
   exact rr1 Q x lt ll _ v u H4 ta rv4 sm bad ry4 k4
  ·refine ⟨_, rfl, rfl, _, rfl, iteN (fun z => nomatch V.int.inj z) ?_⟩
   refine ⟨_, rfl, rfl, _, rfl, iteN (fun z => nomatch V.int.inj z) ?_⟩
   refine ⟨_, rfl, rfl, _, rfl, iteY rfl ?_⟩
   exact rr2 Q x lt ll _ v u H4 ta rv4 sm bad ry4 k4
  ·refine ⟨_, rfl, rfl, _, rfl, iteN (fun z => nomatch V.int.inj z) ?_⟩
   refine ⟨_, rfl, rfl, _, rfl, iteN (fun z => nomatch V.int.inj z) ?_⟩
   refine ⟨_, rfl, rfl, _, rfl, iteN (fun z => nomatch V.int.inj z) ?_⟩
   refine ⟨_, rfl, rfl, _, rfl, iteY rfl ?_⟩
   exact rr3 Q x lt ll _ v u H4 ta rv4 sm bad ry4 k4
  ·refine ⟨_, rfl, rfl, _, rfl, iteN (fun z => nomatch V.int.inj z) ?_⟩
   refine ⟨_, rfl, rfl, _, rfl, iteN (fun z => nomatch V.int.inj z) ?_⟩
   refine ⟨_, rfl, rfl, _, rfl, iteN (fun z => nomatch V.int.inj z) ?_⟩
   refine ⟨_, rfl, rfl, _, rfl, iteN (fun z => nomatch V.int.inj z) ?_⟩
   refine ⟨_, rfl, rfl, _, rfl, iteY rfl ?_⟩
   exact rr4 Q x lt ll _ v u H4 ta rv4 sm bad ry4 k4
  ·refine ⟨_, rfl, rfl, _, rfl, iteN (fun z => nomatch V.int.inj z) ?_⟩
   refine ⟨_, rfl, rfl, _, rfl, iteN (fun z => nomatch V.int.inj z) ?_⟩
   refine ⟨_, rfl, rfl, _, rfl, iteN (fun z => nomatch V.int.inj z) ?_⟩
   refine ⟨_, rfl, rfl, _, rfl, iteN (fun z => nomatch V.int.inj z) ?_⟩
   refine ⟨_, rfl, rfl, _, rfl, iteN (fun z => nomatch V.int.inj z) ?_⟩
   refine ⟨_, rfl, rfl, _, rfl, iteY rfl ?_⟩
   exact rr5 Q x lt ll _ v u H4 ta rv4 sm bad ry4 k4
  ·refine ⟨_, rfl, rfl, _, rfl, iteN (fun z => nomatch V.int.inj z) ?_⟩
   refine ⟨_, rfl, rfl, _, rfl, iteN (fun z => nomatch V.int.inj z) ?_⟩
   refine ⟨_, rfl, rfl, _, rfl, iteN (fun z => nomatch V.int.inj z) ?_⟩
   refine ⟨_, rfl, rfl, _, rfl, iteN (fun z => nomatch V.int.inj z) ?_⟩
   refine ⟨_, rfl, rfl, _, rfl, iteN (fun z => nomatch V.int.inj z) ?_⟩
   refine ⟨_, rfl, rfl, _, rfl, iteN (fun z => nomatch V.int.inj z) ?_⟩
   refine ⟨_, rfl, rfl, _, rfl, iteY rfl ?_⟩
   exact rr6 Q x lt ll _ v u H4 ta rv4 sm bad ry4 k4
  ·refine ⟨_, rfl, rfl, _, rfl, iteN (fun z => nomatch V.int.inj z) ?_⟩
   refine ⟨_, rfl, rfl, _, rfl, iteN (fun z => nomatch V.int.inj z) ?_⟩
   refine ⟨_, rfl, rfl, _, rfl, iteN (fun z => nomatch V.int.inj z) ?_⟩
   refine ⟨_, rfl, rfl, _, rfl, iteN (fun z => nomatch V.int.inj z) ?_⟩
   refine ⟨_, rfl, rfl, _, rfl, iteN (fun z => nomatch V.int.inj z) ?_⟩
   refine ⟨_, rfl, rfl, _, rfl, iteN (fun z => nomatch V.int.inj z) ?_⟩
   refine ⟨_, rfl, rfl, _, rfl, iteN (fun z => nomatch V.int.inj z) ?_⟩
   refine ⟨_, rfl, rfl, _, rfl, iteY rfl ?_⟩
   exact rr7 Q x lt ll _ v u H4 ta rv4 sm bad ry4 k4
  ·refine ⟨_, rfl, rfl, _, rfl, iteN (fun z => nomatch V.int.inj z) ?_⟩
   refine ⟨_, rfl, rfl, _, rfl, iteN (fun z => nomatch V.int.inj z) ?_⟩
   refine ⟨_, rfl, rfl, _, rfl, iteN (fun z => nomatch V.int.inj z) ?_⟩
   refine ⟨_, rfl, rfl, _, rfl, iteN (fun z => nomatch V.int.inj z) ?_⟩
   refine ⟨_, rfl, rfl, _, rfl, iteN (fun z => nomatch V.int.inj z) ?_⟩
   refine ⟨_, rfl, rfl, _, rfl, iteN (fun z => nomatch V.int.inj z) ?_⟩
   refine ⟨_, rfl, rfl, _, rfl, iteN (fun z => nomatch V.int.inj z) ?_⟩
   refine ⟨_, rfl, rfl, _, rfl, iteN (fun z => nomatch V.int.inj z) ?_⟩
   refine ⟨_, rfl, rfl, _, rfl, iteY rfl ?_⟩
   exact rr8 Q x lt ll _ v u H4 ta rv4 sm bad ry4 k4
  ·refine ⟨_, rfl, rfl, _, rfl, iteN (fun z => nomatch V.int.inj z) ?_⟩
   refine ⟨_, rfl, rfl, _, rfl, iteN (fun z => nomatch V.int.inj z) ?_⟩
   refine ⟨_, rfl, rfl, _, rfl, iteN (fun z => nomatch V.int.inj z) ?_⟩
   refine ⟨_, rfl, rfl, _, rfl, iteN (fun z => nomatch V.int.inj z) ?_⟩
   refine ⟨_, rfl, rfl, _, rfl, iteN (fun z => nomatch V.int.inj z) ?_⟩
   refine ⟨_, rfl, rfl, _, rfl, iteN (fun z => nomatch V.int.inj z) ?_⟩
   refine ⟨_, rfl, rfl, _, rfl, iteN (fun z => nomatch V.int.inj z) ?_⟩
   refine ⟨_, rfl, rfl, _, rfl, iteN (fun z => nomatch V.int.inj z) ?_⟩
   refine ⟨_, rfl, rfl, _, rfl, iteN (fun z => nomatch V.int.inj z) ?_⟩
   refine ⟨_, rfl, rfl, _, rfl, iteY rfl ?_⟩
   exact rr9 Q x lt ll _ v u H4 ta rv4 sm bad ry4 k4
  ·refine ⟨_, rfl, rfl, _, rfl, iteN (fun z => nomatch V.int.inj z) ?_⟩
   refine ⟨_, rfl, rfl, _, rfl, iteN (fun z => nomatch V.int.inj z) ?_⟩
   refine ⟨_, rfl, rfl, _, rfl, iteN (fun z => nomatch V.int.inj z) ?_⟩
   refine ⟨_, rfl, rfl, _, rfl, iteN (fun z => nomatch V.int.inj z) ?_⟩
   refine ⟨_, rfl, rfl, _, rfl, iteN (fun z => nomatch V.int.inj z) ?_⟩
   refine ⟨_, rfl, rfl, _, rfl, iteN (fun z => nomatch V.int.inj z) ?_⟩
   refine ⟨_, rfl, rfl, _, rfl, iteN (fun z => nomatch V.int.inj z) ?_⟩
   refine ⟨_, rfl, rfl, _, rfl, iteN (fun z => nomatch V.int.inj z) ?_⟩
   refine ⟨_, rfl, rfl, _, rfl, iteN (fun z => nomatch V.int.inj z) ?_⟩
   refine ⟨_, rfl, rfl, _, rfl, iteN (fun z => nomatch V.int.inj z) ?_⟩
   refine ⟨_, rfl, rfl, _, rfl, iteY rfl ?_⟩
   exact rr10 Q x lt ll _ v u H4 ta rv4 sm bad ry4 k4
  ·refine ⟨_, rfl, rfl, _, rfl, iteN (fun z => nomatch V.int.inj z) ?_⟩
   refine ⟨_, rfl, rfl, _, rfl, iteN (fun z => nomatch V.int.inj z) ?_⟩
   refine ⟨_, rfl, rfl, _, rfl, iteN (fun z => nomatch V.int.inj z) ?_⟩
   refine ⟨_, rfl, rfl, _, rfl, iteN (fun z => nomatch V.int.inj z) ?_⟩
   refine ⟨_, rfl, rfl, _, rfl, iteN (fun z => nomatch V.int.inj z) ?_⟩
   refine ⟨_, rfl, rfl, _, rfl, iteN (fun z => nomatch V.int.inj z) ?_⟩
   refine ⟨_, rfl, rfl, _, rfl, iteN (fun z => nomatch V.int.inj z) ?_⟩
   refine ⟨_, rfl, rfl, _, rfl, iteN (fun z => nomatch V.int.inj z) ?_⟩
   refine ⟨_, rfl, rfl, _, rfl, iteN (fun z => nomatch V.int.inj z) ?_⟩
   refine ⟨_, rfl, rfl, _, rfl, iteN (fun z => nomatch V.int.inj z) ?_⟩
   refine ⟨_, rfl, rfl, _, rfl, iteN (fun z => nomatch V.int.inj z) ?_⟩
   refine ⟨_, rfl, rfl, _, rfl, iteY rfl ?_⟩
   exact rr11 Q x lt ll _ v u H4 ta rv4 sm bad ry4 k4
  ·refine ⟨_, rfl, rfl, _, rfl, iteN (fun z => nomatch V.int.inj z) ?_⟩
   refine ⟨_, rfl, rfl, _, rfl, iteN (fun z => nomatch V.int.inj z) ?_⟩
   refine ⟨_, rfl, rfl, _, rfl, iteN (fun z => nomatch V.int.inj z) ?_⟩
   refine ⟨_, rfl, rfl, _, rfl, iteN (fun z => nomatch V.int.inj z) ?_⟩
   refine ⟨_, rfl, rfl, _, rfl, iteN (fun z => nomatch V.int.inj z) ?_⟩
   refine ⟨_, rfl, rfl, _, rfl, iteN (fun z => nomatch V.int.inj z) ?_⟩
   refine ⟨_, rfl, rfl, _, rfl, iteN (fun z => nomatch V.int.inj z) ?_⟩
   refine ⟨_, rfl, rfl, _, rfl, iteN (fun z => nomatch V.int.inj z) ?_⟩
   refine ⟨_, rfl, rfl, _, rfl, iteN (fun z => nomatch V.int.inj z) ?_⟩
   refine ⟨_, rfl, rfl, _, rfl, iteN (fun z => nomatch V.int.inj z) ?_⟩
   refine ⟨_, rfl, rfl, _, rfl, iteN (fun z => nomatch V.int.inj z) ?_⟩
   refine ⟨_, rfl, rfl, _, rfl, iteN (fun z => nomatch V.int.inj z) ?_⟩
   exact rr12 Q x lt ll _ v u H4 ta rv4 sm bad ry4 k4
end
end FQ
namespace FQ
open PySem L2 FK
def askIn : Stmt → Expr
 | .Expr (.Call _ [.Compare (.Call _ (l :: _) _ _) _ _ _] _ _) _ => l
 | _ => .Constant .none 0 ⟨0, 0, 0, 0⟩
def forBody : Stmt → List Stmt
 | .For _ _ b _ _ => b
 | _ => []
abbrev lawBody : List Stmt := forBody ((defBody s_law).getD 0 (.Pass ⟨0, 0, 0, 0⟩))
abbrev lawLam1 : Expr := askIn ((forBody (lawBody.getD 1 (.Pass ⟨0, 0, 0, 0⟩))).getD 0 (.Pass ⟨0, 0, 0, 0⟩))
abbrev lawLam2 : Expr := askIn (lawBody.getD 3 (.Pass ⟨0, 0, 0, 0⟩))
def lamArgs : Expr → Arguments
 | .Lambda a _ _ _ => a
 | _ => defArgs s_law
def lamBody : Expr → Expr
 | .Lambda _ b _ _ => b
 | _ => .Constant .none 0 ⟨0, 0, 0, 0⟩
def lamScope : Expr → Scope
 | .Lambda _ _ s _ => s
 | _ => defScope s_law
def lamPos : Expr → Pos
 | .Lambda _ _ _ p => p
 | _ => ⟨0, 0, 0, 0⟩
theorem scLam1 : FnScope ["_law_one", "_law_other"] ["_law_one", "_law_other"] (lamScope lawLam1) := ⟨rfl, rfl, rfl, by decide +kernel, rfl, by decide +kernel, by decide +kernel⟩
theorem scLam2 : FnScope ["_law_one", "_law_other"] ["_law_one", "_law_other"] (lamScope lawLam2) := ⟨rfl, rfl, rfl, by decide +kernel, rfl, by decide +kernel, by decide +kernel⟩
def spLam1 (K : PySem.W.Frag) (BT : Addr) : Sp := fun vs H _ E => ∃ (x y : V) (t : Tr), vs = [x, y] ∧ Rd K H t x ∧ Smt t ∧ stepsOk t = false ∧ ∀ H', Same H H' → E (.ref BT) none H'
def spLam2 (K : PySem.W.Frag) (BP : Addr) : Sp := fun vs H _ E => ∃ (x y : V) (t : Tr), vs = [x, y] ∧ Rd K H t x ∧ isLs t = false ∧ E (.ref BP) none H
section
variable {P : Program} {w : World} {K : PySem.W.Frag} {mg : Str → Option Value} {base : Heap} {C BT BP : Addr}
theorem lam1_ok {l : Lam} (hq : l.params = lamArgs lawLam1) (hb : l.body = lamBody lawLam1) (hs : l.scope = lamScope lawLam1) (M : McX P w K mg base BT "Taste" C 5 ["self", "steps"] (spInitX K BT)) : FnVX P w K mg base BT 7 l 2 (spLam1 K BT) := by
 obtain ⟨f, c, q, ps, b, sc, pm, ctv⟩ := l
 cases hq
 cases hb
 cases hs
 refine lam_fnVX (k := 6) (N := ["_law_one", "_law_other"]) (ps := ["_law_one", "_law_other"]) scLam1 (fun us hl => ?_) (fun A outer s H vs Q E hr ⟨x, y, t, e, rt, sm, bad, k⟩ => ?_)
 ·match us, hl with
  | [_, _], _ => rfl
 ·subst e
  refine ⟨_, pe_mkX M hr rfl (pa_cons (pv 0) pa_nil), ?_⟩
  refine ⟨_, rfl, fun z dz hz hdz ne => ?_⟩
  have s0 := two_new (W := C) hz hdz
  exact ⟨.ref z, x, t, rfl, rd_same s0 _ _ rt, sm, bad, k _ s0⟩
theorem lam2_ok {l : Lam} (hq : l.params = lamArgs lawLam2) (hb : l.body = lamBody lawLam2) (hs : l.scope = lamScope lawLam2) (M : ClX P w K mg base BP "deals" 5 ["pieces"] (spDealsX K BP)) : FnVX P w K mg base BP 6 l 2 (spLam2 K BP) := by
 obtain ⟨f, c, q, ps, b, sc, pm, ctv⟩ := l
 cases hq
 cases hb
 cases hs
 refine lam_fnVX (k := 5) (N := ["_law_one", "_law_other"]) (ps := ["_law_one", "_law_other"]) scLam2 (fun us hl => ?_) (fun A outer s H vs Q E hr ⟨x, y, t, e, rt, bad, k⟩ => ?_)
 ·match us, hl with
  | [_, _], _ => rfl
 ·subst e
  exact ⟨_, pe_clX M hr rfl (pa_cons (pv 0) pa_nil), _, rfl, .inl ⟨x, t, rfl, rt, bad, k⟩⟩
end
end FQ
namespace PySem
namespace F
end F
section
variable {prog : Program} {w : World} {A : Around} {E : Value → Shared → Prop} {s : Shared}
end
end PySem
namespace L2
open PySem PySem.Spec PyProof.Rows
section
variable {X : Cx}
def rInE {α : Type} [DecidableEq α] (K : PySem.W.Frag) (R : Hp → V → α → Prop) : R2 := fun x y H Q => ∃ p xs ds d, y = .ref p ∧ SqL K H p xs ∧ Paired (R H) xs ds ∧ R H x d ∧ Q (.bl (decide (d ∈ ds))) H
theorem op_inE {α : Type} [DecidableEq α] {R : Hp → V → α → Prop} {dd : Nat} (hR : RpE X.K R dd) (hu : X.A.units + (dd + 1) < cLine) : OpR X (compareOp .In) (rInE X.K R) := by
 intro pins s σ H x y v u Q I rx ry h
 obtain ⟨p, xs, ds, d, rfl, hq, hD, hd, q⟩ := h
 cases (show u = Value.ref p from ry)
 obtain ⟨its, r, pl, hz⟩ := I.list hq
 have ld := hD.length
 have lr := r.length
 classical
 let f : Value → Bool := fun u' => decide (∃ (m : Nat) (c : α), its[m]? = some u' ∧ ds[m]? = some c ∧ c = d)
 have fe : ∀ (m : Nat) (u' : Value) (c : α), its[m]? = some u' → ds[m]? = some c → f u' = decide (c = d) := fun m u' c h1 h2 => by
  by_cases hc : c = d
  ·rw [decide_eq_true hc]
   exact decide_eq_true ⟨m, c, h1, h2, hc⟩
  ·rw [decide_eq_false hc]
   refine decide_eq_false fun ⟨m', c', g1, g2, g3⟩ => hc ?_
   have im : m < xs.length := by have := (List.getElem?_eq_some_iff.mp h1).1; omega
   have im' : m' < xs.length := by have := (List.getElem?_eq_some_iff.mp g1).1; omega
   obtain ⟨w1, e1, r1⟩ := r.get (List.getElem?_eq_getElem im)
   obtain ⟨w2, e2, r2⟩ := r.get (List.getElem?_eq_getElem im')
   rw [h1] at e1
   rw [g1] at e2
   cases e1
   cases e2
   have ex := relV_fn r1 r2
   have a1 := Paired.get hD m _ _ (List.getElem?_eq_getElem im) h2
   have a2 := Paired.get hD m' _ _ (List.getElem?_eq_getElem im') g2
   rw [ex] at a1
   rw [← g3]
   exact hR.inj rfl I a1 a2
 have en : its.toArray.any f = decide (d ∈ ds) := by
  rw [Bool.eq_iff_iff, decide_eq_true_iff, show its.toArray.any f = its.any f by simp, List.any_eq_true]
  constructor
  ·rintro ⟨u', hu', e⟩
   obtain ⟨m, c, _, g2, rfl⟩ := of_decide_eq_true e
   exact List.mem_of_getElem? g2
  ·intro hm
   obtain ⟨m, hm'⟩ := List.mem_iff_getElem?.mp hm
   have im : m < its.length := by have := (List.getElem?_eq_some_iff.mp hm').1; omega
   exact ⟨its[m], List.getElem_mem im, decide_eq_true ⟨m, d, List.getElem?_eq_getElem im, hm', rfl⟩⟩
 refine SeqAt.in_listAt f pl.isList (fun y' hy' => ?_) ⟨.bl _, H, I, rfl, by rw [en]; exact q⟩
 obtain ⟨m, hm1, hm2⟩ := Array.mem_iff_getElem.mp hy'
 have im : m < its.length := by simpa using hm1
 have g : its[m]? = some y' := by
  rw [List.getElem?_eq_getElem im]
  congr 1
 have g2 : ds[m]? = some (ds[m]'(by omega)) := List.getElem?_eq_getElem _
 have g1 : xs[m]? = some (xs[m]'(by omega)) := List.getElem?_eq_getElem _
 obtain ⟨w1, e1, r1⟩ := r.get g1
 rw [g] at e1
 cases e1
 rw [fe _ _ _ g g2]
 exact hR.eq (by rfl) I (by rw [in1_units]; omega) (Paired.get hD m _ _ g1 g2) hd r1 rx
end
end L2
namespace FQ
open PySem L2 FK
def rpBl (_ : Hp) (x : V) (b : Bool) : Prop := x = .bl b
theorem rpe_bl {K : PySem.W.Frag} : RpE K rpBl 0 where
 inj := fun _ _ h1 h2 => by
  have h : V.bl _ = V.bl _ := h1.symm.trans h2
  exact V.bl.inj h
 eq := fun {X pins σ H s A x y u v a b} _ _ _ h1 h2 r1 r2 => by
  cases (show x = .bl a from h1)
  cases (show y = .bl b from h2)
  cases (show u = Value.bool a from r1)
  cases (show v = Value.bool b from r2)
  have e : (a == b) = decide (a = b) := Bool.beq_eq_decide_eq a b
  rw [← e]
  exact SeqAt.EqAt.bool_bool a b
theorem bl_paired {H : Hp} : ∀ bs : List Bool, Paired (rpBl H) (bs.map V.bl) bs
 | [] => .nil
 | _ :: bs => .cons rfl (bl_paired bs)
def dueB (k : Nat) : List Bool := [decide ((k : Int) = 0), decide ((k : Int) = 1), decide ((k : Int) = 2), decide ((k : Int) = 3), decide ((k : Int) = 4), true, false]
theorem told_due {K : PySem.W.Frag} {H : Hp} {p q : Addr} {k : Nat} {Q : VK} (hp : H p = some (.lst (dueL k))) (hq : H q = some (.lst (dueL k))) (h : Q (.bl true) H) : rEqL K rpBl (.ref p) (.ref q) H Q := by
 refine ⟨dueB k, dueB k, ⟨p, _, rfl, .of hp, bl_paired (dueB k)⟩, ⟨q, _, rfl, .of hq, bl_paired (dueB k)⟩, ?_⟩
 rw [decide_eq_true rfl]
 exact h
theorem none_false {K : PySem.W.Frag} {H : Hp} {p : Addr} {n : Nat} {Q : VK} (hp : H p = some (.lst (List.replicate n (.bl true)))) (h : Q (.bl false) H) : rInE K rpBl (.bl false) (.ref p) H Q := by
 refine ⟨p, _, List.replicate n true, false, rfl, .of hp, ?_, rfl, ?_⟩
 ·have := bl_paired (H := H) (List.replicate n true)
  rw [List.map_replicate] at this
  exact this
 ·rw [decide_eq_false fun z => by have := List.eq_of_mem_replicate z; cases this]
  exact h
end FQ
namespace FQ
open PySem L2 FK
theorem codeAmong_other {p q : Pos} {c : Value} (hne : ¬ (p.line = q.line ∧ p.col = q.col)) : ∀ (l : List Value), TriplesOk l → codeAmong q (l ++ [rawInt p.line, rawInt p.col, c]) = codeAmong q l := by
 intro l h
 fun_induction TriplesOk l with
 | case1 =>
  show (if ((p.line : Int) == (q.line : Int) && (p.col : Int) == (q.col : Int)) = true then some c else codeAmong q []) = none
  rw [if_neg]
  ·rfl
  ·intro z
   rw [Bool.and_eq_true, beq_iff_eq, beq_iff_eq] at z
   exact hne ⟨by omega, by omega⟩
 | case2 a' t' b' u' y rest ih =>
  show (if _ then some y else codeAmong q (rest ++ _)) = if _ then some y else codeAmong q rest
  rw [ih h]
 | case3 l h1 h2 => exact h.elim
structure Rdy4 (Pj Ps Pw Pl : Addr) (H : Hp) : Prop where
 three : Rdy3 Pj Ps Pw H
 l1 : Ready Pl (lamPos lawLam1) (lq "law") H
 l2 : Ready Pl (lamPos lawLam2) (lq "law") H
 nj : Pj ≠ Pl
 ns : Ps ≠ Pl
 nw : Pw ≠ Pl
def Ts4 (Pj Ps Pw Pl : Addr) (H H' : Hp) : Prop := ∀ b o, H b = some o → b ≠ Pj → b ≠ Ps → b ≠ Pw → b ≠ Pl → H' b = some o
theorem Ts4.of {Pj Ps Pw Pl : Addr} {H H' : Hp} (s : Same H H') : Ts4 Pj Ps Pw Pl H H' := fun b o e _ _ _ _ => s b o e
theorem Ts4.trans {Pj Ps Pw Pl : Addr} {A B C : Hp} (h : Ts4 Pj Ps Pw Pl A B) (g : Ts4 Pj Ps Pw Pl B C) : Ts4 Pj Ps Pw Pl A C := fun b o e n1 n2 n3 n4 => g b o (h b o e n1 n2 n3 n4) n1 n2 n3 n4
theorem Rdy4.same {Pj Ps Pw Pl : Addr} {H H' : Hp} (r : Rdy4 Pj Ps Pw Pl H) (s : Same H H') : Rdy4 Pj Ps Pw Pl H' := ⟨r.three.same s, ready_same r.l1 s, ready_same r.l2 s, r.nj, r.ns, r.nw⟩
theorem Rdy3.but {Pj Ps Pw P : Addr} {H H' : Hp} {ps : Array Value} (r : Rdy3 Pj Ps Pw H) (b : But P H H') (hP : H P = some (.tbl ps)) (nj : Pj ≠ P) (ns : Ps ≠ P) (nw : Pw ≠ P) : Rdy3 Pj Ps Pw H' := ⟨ready_but b hP nj r.j, ready_but b hP ns r.s, ready_but b hP nw r.w, r.js, r.jw, r.sw⟩
theorem lam_made {P : Addr} {p q : Pos} {qual : Str} {args : Arguments} {body : Expr} {sc : Scope} {σ : St} {H : Hp} {Q : VK} (hne : ¬ (p.line = q.line ∧ p.col = q.col)) (r : Ready P p qual H) (r2 : Ready P q qual H)
  (k : ∀ (l : Lam) (H' : Hp), l.qual = qual → l.params = args → l.body = body → l.scope = sc → But P H H' → Ready P p qual H' → Ready P q qual H' → l.At H' → H l.f = none → Q (.ref l.f) H') : tLam P p qual args body sc σ H Q := by
 obtain ⟨ps, hP, ht, hc⟩ := r
 obtain ⟨ps', hP', _, hc2⟩ := r2
 cases (show ps = ps' by rw [hP] at hP'; cases hP'; rfl)
 refine ⟨ps, hP, ht, ?_⟩
 rcases hc with hc | ⟨c', hc1, hc3⟩
 ·refine .inl ⟨hc, fun c' f' pm ctv hc' hf' hn => ?_⟩
  have bt : But P H (upd (upd (upd H P (.tbl (ps ++ #[rawInt p.line, rawInt p.col, .ref c']))) c' (CodeO c' qual)) f' (LamO f' qual args body sc c' pm ctv)) := lam_new hP hc' hf'
  have nPc : P ≠ c' := ne_of_none hP hc'
  have nPf : P ≠ f' := ne_of_none hP hf'
  have hT : upd (upd (upd H P (.tbl (ps ++ #[rawInt p.line, rawInt p.col, .ref c']))) c' (CodeO c' qual)) f' (LamO f' qual args body sc c' pm ctv) P = some (.tbl (ps ++ #[rawInt p.line, rawInt p.col, .ref c'])) := by
   rw [upd_ne nPf, upd_ne nPc]
   exact upd_same
  have hC : upd (upd (upd H P (.tbl (ps ++ #[rawInt p.line, rawInt p.col, .ref c']))) c' (CodeO c' qual)) f' (LamO f' qual args body sc c' pm ctv) c' = some (CodeO c' qual) := by
   rw [upd_ne (Ne.symm hn)]
   exact upd_same
  refine k ⟨f', c', qual, args, body, sc, pm, ctv⟩ _ rfl rfl rfl rfl bt ⟨_, hT, ?_, .inr ⟨c', ?_, hC⟩⟩ ⟨_, hT, ?_, ?_⟩ ⟨upd_same, hC⟩ hf'
  ·rw [Array.toList_append]
   exact triples_snoc _ ht
  ·rw [Array.toList_append]
   exact codeAmong_snoc _ ht hc
  ·rw [Array.toList_append]
   exact triples_snoc _ ht
  ·rw [Array.toList_append]
   have e := codeAmong_other (c := .ref c') hne _ ht
   rcases hc2 with z | ⟨d, z1, z2⟩
   ·exact .inl (e.trans z)
   ·exact .inr ⟨d, e.trans z1, bt _ _ z2 (ne_of z2 hP fun z => nomatch z)⟩
 ·refine .inr ⟨c', hc1, hc3, fun f' pm ctv hf' => ?_⟩
  have s0 : Same H (upd H f' (LamO f' qual args body sc c' pm ctv)) := Same.upd hf'
  exact k ⟨f', c', qual, args, body, sc, pm, ctv⟩ _ rfl rfl rfl rfl (fun b o e _ => s0 b o e) (ready_same ⟨ps, hP, ht, .inr ⟨c', hc1, hc3⟩⟩ s0) (ready_same ⟨ps, hP', ht, hc2⟩ s0) ⟨upd_same, s0 _ _ hc3⟩ hf'
end FQ
namespace L2
open PySem PySem.Spec PyProof.Rows
theorem FnVX.up {P : Program} {w : World} {K : PySem.W.Frag} {mg : Str → Option Value} {base : Heap} {C : Addr} {k n : Nat} {l : Lam} {m : Nat} {sp : Sp} (h : FnVX P w K mg base C k l m sp) (e : k ≤ n) : FnVX P w K mg base C n l m sp := fun A outer s H us vs Q E hr => h A outer s H us vs Q E (hr.mono e)
theorem FnOk.up {P : Program} {w : World} {K : PySem.W.Frag} {mg : Str → Option Value} {base : Heap} {CX} {k n : Nat} {f : Addr} {fd : FuncData} {ps : List Str} {sp : Sp} (h : FnOk P w K mg base CX k f fd ps sp) (e : k ≤ n) : FnOk P w K mg base CX n f fd ps sp :=
 ⟨h.len, fun A outer s H args us vs Q E hr => h.run A outer s H args us vs Q E (hr.mono e)⟩
end L2
namespace FQ
open PySem L2 FK
abbrev NLw : List Str := ["_law_script", "_law_far", "_law_told_here", "_law_steps", "_law_bad"]
theorem scLw : FnScope NLw ["_law_script"] (defScope s_law) := ⟨rfl, rfl, rfl, by decide +kernel, rfl, by decide +kernel, by decide +kernel⟩
section
variable {P : Program} {w : World} {K : PySem.W.Frag} {mg : Str → Option Value} {base : Heap} {aL aR cF cT cP cK cL cX cB : Addr}
abbrev cxL (P : Program) (w : World) (K : PySem.W.Frag) (mg : Str → Option Value) (base : Heap) (f c : Addr) (A : Around) (outer : List Env) (s : Shared) (H : Hp) (E : XK) : Cx := (cxOf CX0 P w K mg base NLw "law" (defScope s_law) f (.ref c) A outer s H E).nox
theorem st_nums {f c g : Addr} {fd : FuncData} (T : Txt K mg aL aR) (Ks : Kinds K mg cF cT cP cK cL cX cB) (oF : OfKind K cF cT cP cK cL cX cB cF 0) (CT : Cl P w K mg base "_law_told" 12 ["_law_ask", "_law_one", "_law_other"] (spToldX P w K mg base 11 cF cT cP cK cL cX cB)) (CD : Cl P w K mg base "_law_due" 1 ["_law_kind"] spDue)
  (hm : mg "_law_with_numbers" = some (.ref g)) (hk : PySem.W.keepIn K (.ref g) = true) (hb : Binds K fd ["_law_door", "_law_far"] []) (F : FnOk P w K mg base (CX1 P w cF) 3 g fd ["_law_door", "_law_far"] (spNumX cF)) {A : Around} {outer : List Env} {s : Shared} {H : Hp} {E : XK} (hr : Room 12 (cxL P w K mg base f c A outer s H E).A) :
  ∃ t, PS (cxL P w K mg base f c A outer s H E) (lawBody.getD 0 (.Pass ⟨0, 0, 0, 0⟩)) t ∧ ∀ (D : Ends) (x0 x2 x3 x4 : Option V) (far : Int) (H1 : Hp), 0 ≤ far → (∀ p H', Same H1 H' → H' p = some (.lst (List.replicate 7 (.bl true))) → H1 p = none → D.nx [x0, some (.int far), some (.ref p), x3, x4] H') → t D [x0, some (.int far), x2, x3, x4] H1 := by
 have hr1 : Room 1 _ := hr.mono (by decide)
 have hu : _ + (0 + 1) < cLine := hu_of hr
 refine ⟨_, ps_comp ["_law_door"] (i := 2) scLw.nd rfl (Or.inl rfl) rfl (CompOk.free1 (F := ["_law_far"]) (js := [1]) rfl (by decide +kernel) (by decide +kernel) rfl ⟨rfl, trivial⟩ rfl ⟨⟨rfl, rfl, .inl rfl⟩, trivial⟩) (pi_range1 rfl T.range (pa_cons pe_int pa_nil))
  (fun _ => pg_name (i := 0) (show [Str.ofString "_law_door", Str.ofString "_law_far"].Nodup by decide +kernel) rfl (Or.inl rfl)) (fun _ => pifs_nil) (fun _ => pe_cmpR (op_eqL rpe_bl hu) (pe_cl CT hr rfl (pa_cons (pe_glob (v := .ref g) rfl hm rfl) (pa_cons (pv 0) (pa_cons (pv 1) pa_nil)))) (pe_cl CD hr1 rfl (pa_cons pe_int pa_nil)) (nomark _)), ?_⟩
 intro D x0 x2 x3 x4 far H1 h0 k
 refine ⟨7, rfl, by decide, by decide, fun D1 hD1 => ?_⟩
 refine comp_range (lo := 0) (n := 7) (D := D1) (fun i zs σ H' => Same H1 H' ∧ H' D1 = some (.lst zs) ∧ zs = List.replicate i (.bl true) ∧ ∃ v, σ = [v, some (.int far)]) (by decide) ⟨Same.upd hD1, upd_same, rfl, _, rfl⟩ ?_ ?_ ?_
 ·rintro i zs σ H' _ ⟨_, h2, rfl, _⟩
  exact ⟨h2, by rw [List.length_replicate]; exact Nat.le_refl _⟩
 ·rintro i zs σ H' hi ⟨s2, h2, rfl, v, rfl⟩ cc
  have i0 : (0 : Int) + (i : Int) = (i : Int) := Int.zero_add _
  refine ⟨_, rfl, _, rfl, .ref g, .int (0 + (i : Int)), .int far, cF, 0, rfl, oF, .inl ⟨g, rfl, hk⟩, fun Q' E' hE => .inl ⟨g, fd, _, _, rfl, hk, hb, F.up (by decide), i, far, (by rw [i0]), hi, h0, fun H3 s3 => hE H3 fun p H4 s4 hp => ?_⟩⟩
  refine ⟨0, rfl, fun q hq => ?_⟩
  have s5 := Same.upd (o := .lst (dueL 0)) hq
  have s35 := (s3.trans s4).trans s5
  refine told_due (k := 0) (s5 _ _ hp) upd_same ⟨s35 _ _ h2, fun b o e => ?_, upd_same, ?_, _, rfl⟩
  ·rw [upd_ne (ne_of_none e hD1)]
   exact s35 _ _ (s2 _ _ e)
  ·rw [List.replicate_succ']
 ·rintro zs σ H' ⟨s2, h2, rfl, _⟩
  exact k D1 H' s2 h2 hD1
end
end FQ
namespace FQ
open PySem L2 FK
section
variable {P : Program} {w : World} {K : PySem.W.Frag} {mg : Str → Option Value} {base : Heap} {aL aR cF cT cP cK cL cX cB : Addr}
theorem st_taks {f c g : Addr} {fd : FuncData} (T : Txt K mg aL aR) (oF : OfKind K cF cT cP cK cL cX cB cK 3) (CT : Cl P w K mg base "_law_told" 12 ["_law_ask", "_law_one", "_law_other"] (spToldX P w K mg base 11 cF cT cP cK cL cX cB)) (CD : Cl P w K mg base "_law_due" 1 ["_law_kind"] spDue)
  (hm : mg "_law_with_takers" = some (.ref g)) (hk : PySem.W.keepIn K (.ref g) = true) (hb : Binds K fd ["_law_door", "_law_far"] []) (F : FnOk P w K mg base (CX1 P w cK) 7 g fd ["_law_door", "_law_far"] (spTakX cK)) {A : Around} {outer : List Env} {s : Shared} {H : Hp} {E : XK} (hr : Room 12 (cxL P w K mg base f c A outer s H E).A) :
  ∃ t, PS (cxL P w K mg base f c A outer s H E) (lawBody.getD 4 (.Pass ⟨0, 0, 0, 0⟩)) t ∧ ∀ (D : Ends) (x0 x3 x4 : Option V) (far : Int) (l : Addr) (m : Nat) (H1 : Hp), 0 ≤ far → far < 1000000 → H1 l = some (.lst (List.replicate m (.bl true))) → m ≤ 900 → (∀ p H', Same H1 H' → H' p = some (.lst (List.replicate (m + 13) (.bl true))) → H1 p = none → D.nx [x0, some (.int far), some (.ref p), x3, x4] H') → t D [x0, some (.int far), some (.ref l), x3, x4] H1 := by
 have hr1 : Room 1 _ := hr.mono (by decide)
 have hu : _ + (0 + 1) < cLine := hu_of hr
 refine ⟨_, ps_set (i := 2) scLw.nd rfl (Or.inl rfl) (pe_op op_cat (pv 2) (pe_comp ["_law_door"] rfl (CompOk.free1 (F := ["_law_far"]) (js := [1]) rfl (by decide +kernel) (by decide +kernel) rfl ⟨rfl, trivial⟩ rfl ⟨⟨rfl, rfl, .inl rfl⟩, trivial⟩) (pi_range1 rfl T.range (pa_cons pe_int pa_nil))
  (fun _ => pg_name (i := 0) (show [Str.ofString "_law_door", Str.ofString "_law_far"].Nodup by decide +kernel) rfl (Or.inl rfl)) (fun _ => pifs_nil) (fun _ => pe_cmpR (op_eqL rpe_bl hu) (pe_cl CT hr rfl (pa_cons (pe_glob (v := .ref g) rfl hm rfl) (pa_cons (pv 0) (pa_cons (pv 1) pa_nil)))) (pe_cl CD hr1 rfl (pa_cons pe_int pa_nil)) (nomark _)))), ?_⟩
 intro D x0 x3 x4 far l m H1 h0 h1 hl hm9 k
 refine ⟨_, rfl, 13, rfl, by decide, by decide, fun D1 hD1 => ?_⟩
 refine comp_range (lo := 0) (n := 13) (D := D1) (fun i zs σ H' => Same H1 H' ∧ H' D1 = some (.lst zs) ∧ zs = List.replicate i (.bl true) ∧ ∃ v, σ = [v, some (.int far)]) (by decide) ⟨Same.upd hD1, upd_same, rfl, _, rfl⟩ ?_ ?_ ?_
 ·rintro i zs σ H' _ ⟨_, h2, rfl, _⟩
  exact ⟨h2, by rw [List.length_replicate]; exact Nat.le_refl _⟩
 ·rintro i zs σ H' hi ⟨s2, h2, rfl, v, rfl⟩ cc
  have i0 : (0 : Int) + (i : Int) = (i : Int) := Int.zero_add _
  refine ⟨_, rfl, _, rfl, .ref g, .int (0 + (i : Int)), .int far, cK, 3, rfl, oF, .inl ⟨g, rfl, hk⟩, fun Q' E' hE => .inl ⟨g, fd, _, _, rfl, hk, hb, F.mono (by decide), i, far, (by rw [i0]), hi, h0, h1, fun H3 s3 => hE H3 fun p H4 s4 hp => ?_⟩⟩
  refine ⟨3, rfl, fun q hq => ?_⟩
  have s5 := Same.upd (o := .lst (dueL 3)) hq
  have s35 := (s3.trans s4).trans s5
  refine told_due (k := 3) (s5 _ _ hp) upd_same ⟨s35 _ _ h2, fun b o e => ?_, upd_same, ?_, _, rfl⟩
  ·rw [upd_ne (ne_of_none e hD1)]
   exact s35 _ _ (s2 _ _ e)
  ·rw [List.replicate_succ']
 ·rintro zs σ H' ⟨s2, h2, rfl, _⟩
  refine ⟨l, D1, _, _, rfl, rfl, s2 _ _ hl, h2, ?_, fun p hp => ?_⟩
  ·rw [List.length_replicate, List.length_replicate]
   have : 1000 ≤ sizeLine := by decide
   omega
  ·have s3 := Same.upd (o := .lst (List.replicate m (.bl true) ++ List.replicate 13 (.bl true))) hp
   refine k p _ (s2.trans s3) ?_ (s2.free hp)
   rw [← List.replicate_append_replicate]
   exact upd_same
theorem st_shrs {f c g : Addr} {fd : FuncData} (T : Txt K mg aL aR) (oF : OfKind K cF cT cP cK cL cX cB cL 4) (CT : Cl P w K mg base "_law_told" 12 ["_law_ask", "_law_one", "_law_other"] (spToldX P w K mg base 11 cF cT cP cK cL cX cB)) (CD : Cl P w K mg base "_law_due" 1 ["_law_kind"] spDue)
  (hm : mg "_law_with_shares" = some (.ref g)) (hk : PySem.W.keepIn K (.ref g) = true) (hb : Binds K fd ["_law_door", "_law_far"] []) (F : FnOk P w K mg base (CX1 P w cL) 11 g fd ["_law_door", "_law_far"] (spShareX cL)) {A : Around} {outer : List Env} {s : Shared} {H : Hp} {E : XK} (hr : Room 12 (cxL P w K mg base f c A outer s H E).A) :
  ∃ t, PS (cxL P w K mg base f c A outer s H E) (lawBody.getD 5 (.Pass ⟨0, 0, 0, 0⟩)) t ∧ ∀ (D : Ends) (x0 x3 x4 : Option V) (far : Int) (l : Addr) (m : Nat) (H1 : Hp), 0 ≤ far → far < 1000000 → H1 l = some (.lst (List.replicate m (.bl true))) → m ≤ 900 → (∀ p H', Same H1 H' → H' p = some (.lst (List.replicate (m + 3) (.bl true))) → H1 p = none → D.nx [x0, some (.int far), some (.ref p), x3, x4] H') → t D [x0, some (.int far), some (.ref l), x3, x4] H1 := by
 have hr1 : Room 1 _ := hr.mono (by decide)
 have hu : _ + (0 + 1) < cLine := hu_of hr
 refine ⟨_, ps_set (i := 2) scLw.nd rfl (Or.inl rfl) (pe_op op_cat (pv 2) (pe_comp ["_law_door"] rfl (CompOk.free1 (F := ["_law_far"]) (js := [1]) rfl (by decide +kernel) (by decide +kernel) rfl ⟨rfl, trivial⟩ rfl ⟨⟨rfl, rfl, .inl rfl⟩, trivial⟩) (pi_range1 rfl T.range (pa_cons pe_int pa_nil))
  (fun _ => pg_name (i := 0) (show [Str.ofString "_law_door", Str.ofString "_law_far"].Nodup by decide +kernel) rfl (Or.inl rfl)) (fun _ => pifs_nil) (fun _ => pe_cmpR (op_eqL rpe_bl hu) (pe_cl CT hr rfl (pa_cons (pe_glob (v := .ref g) rfl hm rfl) (pa_cons (pv 0) (pa_cons (pv 1) pa_nil)))) (pe_cl CD hr1 rfl (pa_cons pe_int pa_nil)) (nomark _)))), ?_⟩
 intro D x0 x3 x4 far l m H1 h0 h1 hl hm9 k
 refine ⟨_, rfl, 3, rfl, by decide, by decide, fun D1 hD1 => ?_⟩
 refine comp_range (lo := 0) (n := 3) (D := D1) (fun i zs σ H' => Same H1 H' ∧ H' D1 = some (.lst zs) ∧ zs = List.replicate i (.bl true) ∧ ∃ v, σ = [v, some (.int far)]) (by decide) ⟨Same.upd hD1, upd_same, rfl, _, rfl⟩ ?_ ?_ ?_
 ·rintro i zs σ H' _ ⟨_, h2, rfl, _⟩
  exact ⟨h2, by rw [List.length_replicate]; exact Nat.le_refl _⟩
 ·rintro i zs σ H' hi ⟨s2, h2, rfl, v, rfl⟩ cc
  have i0 : (0 : Int) + (i : Int) = (i : Int) := Int.zero_add _
  refine ⟨_, rfl, _, rfl, .ref g, .int (0 + (i : Int)), .int far, cL, 4, rfl, oF, .inl ⟨g, rfl, hk⟩, fun Q' E' hE => .inl ⟨g, fd, _, _, rfl, hk, hb, F.mono (by decide), i, far, (by rw [i0]), hi, h0, h1, fun H3 s3 => hE H3 fun p H4 s4 hp => ?_⟩⟩
  refine ⟨4, rfl, fun q hq => ?_⟩
  have s5 := Same.upd (o := .lst (dueL 4)) hq
  have s35 := (s3.trans s4).trans s5
  refine told_due (k := 4) (s5 _ _ hp) upd_same ⟨s35 _ _ h2, fun b o e => ?_, upd_same, ?_, _, rfl⟩
  ·rw [upd_ne (ne_of_none e hD1)]
   exact s35 _ _ (s2 _ _ e)
  ·rw [List.replicate_succ']
 ·rintro zs σ H' ⟨s2, h2, rfl, _⟩
  refine ⟨l, D1, _, _, rfl, rfl, s2 _ _ hl, h2, ?_, fun p hp => ?_⟩
  ·rw [List.length_replicate, List.length_replicate]
   have : 1000 ≤ sizeLine := by decide
   omega
  ·have s3 := Same.upd (o := .lst (List.replicate m (.bl true) ++ List.replicate 3 (.bl true))) hp
   refine k p _ (s2.trans s3) ?_ (s2.free hp)
   rw [← List.replicate_append_replicate]
   exact upd_same
end
end FQ
namespace FQ
open PySem L2 FK
theorem lams_apart : ¬ ((lamPos lawLam1).line = (lamPos lawLam2).line ∧ (lamPos lawLam1).col = (lamPos lawLam2).col) := by decide +kernel
def Ts5 (l Pj Ps Pw Pl : Addr) (H H' : Hp) : Prop := ∀ b o, H b = some o → b ≠ l → b ≠ Pj → b ≠ Ps → b ≠ Pw → b ≠ Pl → H' b = some o
theorem Rdy4.tbl {Pj Ps Pw Pl : Addr} {H : Hp} (r : Rdy4 Pj Ps Pw Pl H) {b : Addr} (h : b = Pj ∨ b = Ps ∨ b = Pw ∨ b = Pl) : ∃ ps, H b = some (.tbl ps) := by
 obtain ⟨p1, h1, _⟩ := r.three.j
 obtain ⟨p2, h2, _⟩ := r.three.s
 obtain ⟨p3, h3, _⟩ := r.three.w
 obtain ⟨p4, h4, _⟩ := r.l1
 rcases h with rfl | rfl | rfl | rfl
 ·exact ⟨_, h1⟩
 ·exact ⟨_, h2⟩
 ·exact ⟨_, h3⟩
 ·exact ⟨_, h4⟩
theorem Ts5.new {l Pj Ps Pw Pl : Addr} {H1 H2 H' : Hp} {o1 : HO} (t : Ts5 l Pj Ps Pw Pl H2 H') (r : Rdy4 Pj Ps Pw Pl H1) (hl : H1 l = some o1) : ∀ b o, H2 b = some o → H1 b = none → H' b = some o := fun b o e n => by
 have nt : ∀ z, (z = Pj ∨ z = Ps ∨ z = Pw ∨ z = Pl) → b ≠ z := fun z hz q => by
  obtain ⟨ps, h⟩ := r.tbl hz
  rw [← q, n] at h
  cases h
 exact t b o e (fun q => by rw [← q, n] at hl; cases hl) (nt _ (.inl rfl)) (nt _ (.inr (.inl rfl))) (nt _ (.inr (.inr (.inl rfl)))) (nt _ (.inr (.inr (.inr rfl))))
theorem ready_lst {P l : Addr} {pos : Pos} {qual : Str} {H : Hp} {ys : List V} {o : HO} (r : Ready P pos qual H) (hl : H l = some (.lst ys)) : Ready P pos qual (upd H l o) := by
 obtain ⟨ps, h1, h2, h3⟩ := r
 refine ⟨ps, (upd_ne (ne_of h1 hl fun z => nomatch z)).trans h1, h2, h3.imp id fun ⟨c, e1, e2⟩ => ⟨c, e1, (upd_ne (ne_of e2 hl fun z => nomatch z)).trans e2⟩⟩
theorem Rdy4.lst {Pj Ps Pw Pl l : Addr} {H : Hp} {ys : List V} {o : HO} (r : Rdy4 Pj Ps Pw Pl H) (hl : H l = some (.lst ys)) : Rdy4 Pj Ps Pw Pl (upd H l o) :=
 ⟨⟨ready_lst r.three.j hl, ready_lst r.three.s hl, ready_lst r.three.w hl, r.three.js, r.three.jw, r.three.sw⟩, ready_lst r.l1 hl, ready_lst r.l2 hl, r.nj, r.ns, r.nw⟩
theorem Rdy4.goL {Pj Ps Pw Pl : Addr} {H H' : Hp} (r : Rdy4 Pj Ps Pw Pl H) (b : But Pl H H') (n1 : Ready Pl (lamPos lawLam1) (lq "law") H') (n2 : Ready Pl (lamPos lawLam2) (lq "law") H') : Rdy4 Pj Ps Pw Pl H' := by
 obtain ⟨ps, hP, _⟩ := r.l1
 exact ⟨r.three.but b hP r.nj r.ns r.nw, n1, n2, r.nj, r.ns, r.nw⟩
section
variable {P : Program} {w : World} {K : PySem.W.Frag} {mg : Str → Option Value} {base : Heap} {aL aR C cF cT cP cK cL cX cB Pj Ps Pw Pl : Addr}
theorem st_steps {f c : Addr} (oT : OfKind K cF cT cP cK cL cX cB cT 1) (CT : Cl P w K mg base "_law_told" 12 ["_law_ask", "_law_one", "_law_other"] (spToldX P w K mg base 11 cF cT cP cK cL cX cB)) (CD : Cl P w K mg base "_law_due" 1 ["_law_kind"] spDue)
  (CB : Cl P w K mg base "_law_bad_steps" 1 ["_law_far"] (spBad K badSteps)) (MX : McX P w K mg base cT "Taste" C 5 ["self", "steps"] (spInitX K cT)) (CH : PySem.W.CodeHd base c Pl) (bm : BM mg base) {A : Around} {outer : List Env} {s : Shared} {H : Hp} {E : XK} (hr : Room 12 (cxL P w K mg base f c A outer s H E).A) :
  ∃ t, PS (cxL P w K mg base f c A outer s H E) (lawBody.getD 1 (.Pass ⟨0, 0, 0, 0⟩)) t ∧ ∀ (D : Ends) (x0 x3 x4 : Option V) (far : Int) (l : Addr) (m : Nat) (H1 : Hp), 0 ≤ far → far < 1000000 → H1 l = some (.lst (List.replicate m (.bl true))) → m ≤ 500 → Rdy4 Pj Ps Pw Pl H1 → (∀ y3 H', Ts5 l Pj Ps Pw Pl H1 H' → H' l = some (.lst (List.replicate (m + 22) (.bl true))) → Rdy4 Pj Ps Pw Pl H' → D.nx [x0, some (.int far), some (.ref l), y3, x4] H') → t D [x0, some (.int far), some (.ref l), x3, x4] H1 := by
 have hr1 : Room 1 _ := hr.mono (by decide)
 have hu : _ + (0 + 1) < cLine := hu_of hr
 refine ⟨_, ps_for PassesOwn.never rfl (pi_list (pe_cl CB hr1 rfl (pa_cons (pv 1) pa_nil))) (pg_name (i := 3) scLw.nd rfl (Or.inl rfl))
  (pss_one (ps_expr (pe_bm PySem.F.plainAttrs_list PySem.F.slot_list_append PySem.F.type_list_append mt_append (pv 2) (pa_cons (pe_cmpR (op_eqL rpe_bl hu) (pe_cl CT hr rfl (pa_cons (pe_lam (c := c) (P := Pl) rfl CH bm rfl) (pa_cons (pv 3) (pa_cons pe_int pa_nil)))) (pe_cl CD hr1 rfl (pa_cons pe_int pa_nil)) (nomark _)) pa_nil)))), ?_⟩
 intro D x0 x3 x4 far l m H1 h0 h1 hl hm ry k
 refine ⟨_, rfl, far, rfl, fun r xs H2 s2 nr hr2 rf => ⟨r, rfl, ⟨_, .of hr2⟩, ?_⟩⟩
 have ry2 := ry.same s2
 have lx : xs.length = 22 := rdL_len rf.now
 refine for_list (K := K) (a := r) (xs := xs) (fun i σ H' => Ts5 l Pj Ps Pw Pl H2 H' ∧ H' l = some (.lst (List.replicate (m + i) (.bl true))) ∧ Rdy4 Pj Ps Pw Pl H' ∧ ∃ y3, σ = [x0, some (.int far), some (.ref l), y3, x4])
  ⟨fun b o e _ _ _ _ _ => e, s2 _ _ hl, ry2, _, rfl⟩ (fun i σ H' _ h => .of (h.1.new ry hl r _ hr2 nr)) ?_ ?_
 ·rintro i x σ H' hx ⟨t5, hl', ry', y3, rfl⟩
  have hi : i < 22 := by rw [← lx]; exact (List.getElem?_eq_some_iff.mp hx).1
  obtain ⟨t, ht, rt⟩ := rdL_get (rf H' (t5.new ry hl)) hx
  obtain ⟨sm, bad⟩ := badSteps_ok h0 h1 t (List.mem_of_getElem? ht)
  refine ⟨_, rfl, .inl ⟨rfl, _, .of hl'⟩, ?_⟩
  unfold tCons tOp tCall
  refine lam_made (p := lamPos lawLam1) (q := lamPos lawLam2) (qual := lq "law") lams_apart ry'.l1 ry'.l2 fun lm H3 q1 q2 q3 q4 bt r1 r2 la nf => ⟨_, rfl, ?_⟩
  obtain ⟨ps, hP, _⟩ := ry'.l1
  have ry3 := ry'.goL bt r1 r2
  have rt3 : Rd K H3 t x := rd_map (fun _ _ => but_sqT bt hP) (fun _ _ => but_sqL bt hP) _ _ rt
  have hl3 : H3 l = some (.lst (List.replicate (m + i) (.bl true))) := bt _ _ hl' (ne_of hl' hP fun z => nomatch z)
  refine ⟨.ref lm.f, x, .int 0, cT, 1, rfl, oT, .inr ⟨lm, rfl, la⟩, fun Q' E' hE => .inr ⟨lm, 2, spLam1 K cT, rfl, (lam1_ok q2 q3 q4 MX).up (by decide), la, rfl, x, .int 0, t, rfl, rt3, sm, bad, fun H4 s4 => hE H4 fun p H5 s5 hp => ?_⟩⟩
  refine ⟨1, rfl, fun q hq => ?_⟩
  have s6 := Same.upd (o := .lst (dueL 1)) hq
  have s36 := (s4.trans s5).trans s6
  refine told_due (k := 1) (s6 _ _ hp) upd_same ⟨l, _, _, rfl, rfl, s36 _ _ hl3, ?_, ?_⟩
  ·rw [List.length_replicate]
   have : 1000 ≤ sizeLine := by decide
   omega
  ·refine ⟨fun b o e n1 n2 n3 n4 n5 => ?_, ?_, (ry3.same s36).lst (s36 _ _ hl3), _, rfl⟩
   ·rw [upd_ne n1]
    exact s36 _ _ (bt _ _ (t5 b o e n1 n2 n3 n4 n5) n5)
   ·rw [upd_same, ← Nat.add_assoc, List.replicate_succ']
 ·rintro σ H' ⟨t5, hl', ry', y3, rfl⟩
  rw [lx] at hl'
  exact k y3 H' (fun b o e n1 n2 n3 n4 n5 => t5 b o (s2 _ _ e) n1 n2 n3 n4 n5) hl' ry'
end
end FQ
namespace FQ
open PySem L2 FK
theorem Ts4.new {Pj Ps Pw Pl : Addr} {H1 H2 H' : Hp} (t : Ts4 Pj Ps Pw Pl H2 H') (r : Rdy4 Pj Ps Pw Pl H1) : ∀ b o, H2 b = some o → H1 b = none → H' b = some o := fun b o e n => by
 have nt : ∀ z, (z = Pj ∨ z = Ps ∨ z = Pw ∨ z = Pl) → b ≠ z := fun z hz q => by
  obtain ⟨ps, h⟩ := r.tbl hz
  rw [← q, n] at h
  cases h
 exact t b o e (nt _ (.inl rfl)) (nt _ (.inr (.inl rfl))) (nt _ (.inr (.inr (.inl rfl)))) (nt _ (.inr (.inr (.inr rfl))))
theorem Ts4.lst {Pj Ps Pw Pl : Addr} {H2 H' : Hp} {b : Addr} {zs : List V} (t : Ts4 Pj Ps Pw Pl H2 H') (r : Rdy4 Pj Ps Pw Pl H2) (h : H2 b = some (.lst zs)) : H' b = some (.lst zs) := by
 have nt : ∀ z, (z = Pj ∨ z = Ps ∨ z = Pw ∨ z = Pl) → b ≠ z := fun z hz q => by
  obtain ⟨ps, h'⟩ := r.tbl hz
  rw [← q, h] at h'
  cases h'
 exact t b _ h (nt _ (.inl rfl)) (nt _ (.inr (.inl rfl))) (nt _ (.inr (.inr (.inl rfl)))) (nt _ (.inr (.inr (.inr rfl))))
theorem ready_ts {Pj Ps Pw P : Addr} {pos : Pos} {qual : Str} {H H' : Hp} (r3 : Rdy3 Pj Ps Pw H) (t : Ts3 Pj Ps Pw H H') (nj : P ≠ Pj) (ns : P ≠ Ps) (nw : P ≠ Pw) (r : Ready P pos qual H) : Ready P pos qual H' := by
 obtain ⟨qs, h1, h2, h3⟩ := r
 obtain ⟨p1, e1, _⟩ := r3.j
 obtain ⟨p2, e2, _⟩ := r3.s
 obtain ⟨p3, e3, _⟩ := r3.w
 exact ⟨qs, t _ _ h1 nj ns nw, h2, h3.imp id fun ⟨c, z1, z2⟩ => ⟨c, z1, t _ _ z2 (ne_of z2 e1 fun z => nomatch z) (ne_of z2 e2 fun z => nomatch z) (ne_of z2 e3 fun z => nomatch z)⟩⟩
theorem Rdy4.go3 {Pj Ps Pw Pl : Addr} {H H' : Hp} (r : Rdy4 Pj Ps Pw Pl H) (t : Ts3 Pj Ps Pw H H') (r3 : Rdy3 Pj Ps Pw H') : Rdy4 Pj Ps Pw Pl H' :=
 ⟨r3, ready_ts r.three t r.nj.symm r.ns.symm r.nw.symm r.l1, ready_ts r.three t r.nj.symm r.ns.symm r.nw.symm r.l2, r.nj, r.ns, r.nw⟩
theorem Ts3.four {Pj Ps Pw Pl : Addr} {H H' : Hp} (t : Ts3 Pj Ps Pw H H') : Ts4 Pj Ps Pw Pl H H' := fun b o e n1 n2 n3 _ => t b o e n1 n2 n3
section
variable {P : Program} {w : World} {K : PySem.W.Frag} {mg : Str → Option Value} {base : Heap} {aL aR C cF cT cP cK cL cX cB Pj Ps Pw Pl : Addr}
theorem st_none {f c : Addr} (oP : OfKind K cF cT cP cK cL cX cB cP 2) (CT : Cl P w K mg base "_law_told" 12 ["_law_ask", "_law_one", "_law_other"] (spToldX P w K mg base 11 cF cT cP cK cL cX cB)) (CD : Cl P w K mg base "_law_due" 1 ["_law_kind"] spDue)
  (MX : ClX P w K mg base cP "deals" 5 ["pieces"] (spDealsX K cP)) (CH : PySem.W.CodeHd base c Pl) (bm : BM mg base) {A : Around} {outer : List Env} {s : Shared} {H : Hp} {E : XK} (hr : Room 12 (cxL P w K mg base f c A outer s H E).A) :
  ∃ t, PS (cxL P w K mg base f c A outer s H E) (lawBody.getD 3 (.Pass ⟨0, 0, 0, 0⟩)) t ∧ ∀ (D : Ends) (σ : St) (l : Addr) (m : Nat) (H1 : Hp), σ[2]? = some (some (.ref l)) → H1 l = some (.lst (List.replicate m (.bl true))) → m ≤ 500 → Rdy4 Pj Ps Pw Pl H1 → (∀ H', Ts5 l Pj Ps Pw Pl H1 H' → H' l = some (.lst (List.replicate (m + 1) (.bl true))) → Rdy4 Pj Ps Pw Pl H' → D.nx σ H') → t D σ H1 := by
 have hr1 : Room 1 _ := hr.mono (by decide)
 have hu : _ + (0 + 1) < cLine := hu_of hr
 refine ⟨_, ps_expr (pe_bm PySem.F.plainAttrs_list PySem.F.slot_list_append PySem.F.type_list_append mt_append (pv 2) (pa_cons (pe_cmpR (op_eqL rpe_bl hu) (pe_cl CT hr rfl (pa_cons (pe_lam (c := c) (P := Pl) rfl CH bm rfl) (pa_cons pe_non (pa_cons pe_int pa_nil)))) (pe_cl CD hr1 rfl (pa_cons pe_int pa_nil)) (nomark _)) pa_nil)), ?_⟩
 intro D σ l m H1 hσ hl hm ry k
 refine ⟨_, hσ, .inl ⟨rfl, _, .of hl⟩, ?_⟩
 unfold tCons tOp tCall
 refine lam_made (p := lamPos lawLam2) (q := lamPos lawLam1) (qual := lq "law") (fun ⟨a, b⟩ => lams_apart ⟨a.symm, b.symm⟩) ry.l2 ry.l1 fun lm H3 q1 q2 q3 q4 bt r1 r2 la nf => ?_
 obtain ⟨ps, hP, _⟩ := ry.l1
 have ry3 := ry.goL bt r2 r1
 have hl3 : H3 l = some (.lst (List.replicate m (.bl true))) := bt _ _ hl (ne_of hl hP fun z => nomatch z)
 refine ⟨.ref lm.f, .non, .int 0, cP, 2, rfl, oP, .inr ⟨lm, rfl, la⟩, fun Q' E' hE => .inr ⟨lm, 2, spLam2 K cP, rfl, (lam2_ok q2 q3 q4 MX).up (by decide), la, rfl, .non, .int 0, .non, rfl, rfl, rfl, hE H3 fun p H5 s5 hp => ?_⟩⟩
 refine ⟨2, rfl, fun q hq => ?_⟩
 have s6 := Same.upd (o := .lst (dueL 2)) hq
 have s36 := s5.trans s6
 refine told_due (k := 2) (s6 _ _ hp) upd_same ⟨l, _, _, rfl, rfl, s36 _ _ hl3, ?_, ?_⟩
 ·rw [List.length_replicate]
  have : 1000 ≤ sizeLine := by decide
  omega
 ·refine k _ (fun b o e n1 n2 n3 n4 n5 => ?_) ?_ ((ry3.same s36).lst (s36 _ _ hl3))
  ·rw [upd_ne n1]
   exact s36 _ _ (bt _ _ e n5)
  ·rw [upd_same, List.replicate_succ']
end
end FQ
namespace FQ
open PySem L2 FK
theorem Ts4.free {Pj Ps Pw Pl : Addr} {H2 H' : Hp} (t : Ts4 Pj Ps Pw Pl H2 H') (r : Rdy4 Pj Ps Pw Pl H') {p : Addr} (h : H' p = none) : H2 p = none := by
 have nt : ∀ z, (z = Pj ∨ z = Ps ∨ z = Pw ∨ z = Pl) → p ≠ z := fun z hz q => by
  obtain ⟨ps, h'⟩ := r.tbl hz
  rw [← q, h] at h'
  cases h'
 cases e : H2 p with
 | none => rfl
 | some o =>
  have := t p o e (nt _ (.inl rfl)) (nt _ (.inr (.inl rfl))) (nt _ (.inr (.inr (.inl rfl)))) (nt _ (.inr (.inr (.inr rfl))))
  rw [h] at this
  cases this
section
variable {P : Program} {w : World} {K : PySem.W.Frag} {mg : Str → Option Value} {base : Heap} {aL aR C cF cT cP cK cL cX cB Pj Ps Pw Pl : Addr}
theorem st_pieces {f c g : Addr} {fd : FuncData} (T : Txt K mg aL aR) (oP : OfKind K cF cT cP cK cL cX cB cP 2) (CT : Cl P w K mg base "_law_told" 12 ["_law_ask", "_law_one", "_law_other"] (spToldX P w K mg base 11 cF cT cP cK cL cX cB)) (CD : Cl P w K mg base "_law_due" 1 ["_law_kind"] spDue)
  (CB : Cl P w K mg base "_law_bad_pieces" 1 ["_law_far"] (spBad K badPieces)) (hm : mg "_law_with_piece" = some (.ref g)) (hk : PySem.W.keepIn K (.ref g) = true) (hb : Binds K fd ["_law_door", "_law_bad"] []) (F : FnOk P w K mg base (CX1 P w cP) 11 g fd ["_law_door", "_law_bad"] (spPcX K cP Pj Ps Pw)) {A : Around} {outer : List Env} {s : Shared} {H : Hp} {E : XK} (hr : Room 12 (cxL P w K mg base f c A outer s H E).A) :
  ∃ t, PS (cxL P w K mg base f c A outer s H E) (lawBody.getD 2 (.Pass ⟨0, 0, 0, 0⟩)) t ∧ ∀ (D : Ends) (x0 x3 x4 : Option V) (far : Int) (l : Addr) (m : Nat) (H1 : Hp), 0 ≤ far → far < 1000000 → H1 l = some (.lst (List.replicate m (.bl true))) → m ≤ 100 → Rdy4 Pj Ps Pw Pl H1 → (∀ l' y4 H', Ts4 Pj Ps Pw Pl H1 H' → H' l' = some (.lst (List.replicate (m + 18 * 13) (.bl true))) → Rdy4 Pj Ps Pw Pl H' → (l' = l ∨ H1 l' = none) → D.nx [x0, some (.int far), some (.ref l'), x3, y4] H') → t D [x0, some (.int far), some (.ref l), x3, x4] H1 := by
 have hr1 : Room 1 _ := hr.mono (by decide)
 have hu : _ + (0 + 1) < cLine := hu_of hr
 refine ⟨_, ps_for PassesOwn.never rfl (pi_list (pe_cl CB hr1 rfl (pa_cons (pv 1) pa_nil))) (pg_name (i := 4) scLw.nd rfl (Or.inr rfl))
  (pss_one (ps_set (i := 2) scLw.nd rfl (Or.inl rfl) (pe_op op_cat (pv 2) (pe_comp ["_law_door"] rfl (CompOk.free1 (F := ["_law_bad"]) (js := [4]) rfl (by decide +kernel) (by decide +kernel) rfl ⟨rfl, trivial⟩ rfl ⟨⟨rfl, rfl, .inl rfl⟩, trivial⟩) (pi_range1 rfl T.range (pa_cons pe_int pa_nil))
  (fun _ => pg_name (i := 0) (show [Str.ofString "_law_door", Str.ofString "_law_bad"].Nodup by decide +kernel) rfl (Or.inl rfl)) (fun _ => pifs_nil) (fun _ => pe_cmpR (op_eqL rpe_bl hu) (pe_cl CT hr rfl (pa_cons (pe_glob (v := .ref g) rfl hm rfl) (pa_cons (pv 0) (pa_cons (pv 1) pa_nil)))) (pe_cl CD hr1 rfl (pa_cons pe_int pa_nil)) (nomark _)))))), ?_⟩
 intro D x0 x3 x4 far l m H1 h0 h1 hl hm5 ry k
 refine ⟨_, rfl, far, rfl, fun r xs H2 s2 nr hr2 rf => ⟨r, rfl, ⟨_, .of hr2⟩, ?_⟩⟩
 have ry2 := ry.same s2
 have lx : xs.length = 18 := rdL_len rf.now
 refine for_list (K := K) (a := r) (xs := xs) (fun i σ H' => Ts4 Pj Ps Pw Pl H2 H' ∧ Rdy4 Pj Ps Pw Pl H' ∧ ∃ l' y4, H' l' = some (.lst (List.replicate (m + i * 13) (.bl true))) ∧ (l' = l ∨ H1 l' = none) ∧ σ = [x0, some (.int far), some (.ref l'), x3, y4])
  ⟨.of (Same.refl _), ry2, l, x4, (by rw [Nat.zero_mul]; exact s2 _ _ hl), .inl rfl, rfl⟩ (fun i σ H' _ h => .of (h.1.new ry r _ hr2 nr)) ?_ ?_
 ·rintro i x σ H' hx ⟨t4, ry', l', y4, hl', lf, rfl⟩
  have hi : i < 18 := by rw [← lx]; exact (List.getElem?_eq_some_iff.mp hx).1
  refine ⟨_, rfl, 13, rfl, by decide, by decide, fun D1 hD1 => ?_⟩
  refine comp_range (lo := 0) (n := 13) (D := D1) (fun j zs σ H3 => Ts4 Pj Ps Pw Pl H' H3 ∧ Rdy4 Pj Ps Pw Pl H3 ∧ H3 D1 = some (.lst zs) ∧ zs = List.replicate j (.bl true) ∧ ∃ v, σ = [v, some x]) (by decide) ⟨.of (Same.upd hD1), ry'.same (Same.upd hD1), upd_same, rfl, _, rfl⟩ ?_ ?_ ?_
  ·rintro j zs σ H3 _ ⟨_, _, h2, rfl, _⟩
   exact ⟨h2, by rw [List.length_replicate]; exact Nat.le_refl _⟩
  ·rintro j zs σ H3 hj ⟨u4, ry3, h2, rfl, v, rfl⟩ cc
   have i0 : (0 : Int) + (j : Int) = (j : Int) := Int.zero_add _
   obtain ⟨t, ht, rt⟩ := rdL_get (rf H3 ((t4.trans u4).new ry)) hx
   obtain ⟨sm, bad⟩ := badPieces_ok h0 h1 t (List.mem_of_getElem? ht)
   refine ⟨_, rfl, _, rfl, .ref g, .int (0 + (j : Int)), x, cP, 2, rfl, oP, .inl ⟨g, rfl, hk⟩, fun Q' E' hE => .inl ⟨g, fd, _, _, rfl, hk, hb, F, j, x, t, (by rw [i0]), hj, rt, sm, bad, ry3.three, fun H4 t3 r3 => hE H4 fun p H5 s5 hp => ?_⟩⟩
   have ry4 := ry3.go3 t3 r3
   refine ⟨2, rfl, fun q hq => ?_⟩
   have s6 := Same.upd (o := .lst (dueL 2)) hq
   have s56 := s5.trans s6
   have t34 : Ts4 Pj Ps Pw Pl H3 H4 := t3.four
   have hD4 := s56 _ _ (t34.lst ry3 h2)
   refine told_due (k := 2) (s6 _ _ hp) upd_same ⟨hD4, fun b o e n1 n2 n3 n4 => ?_, (ry4.same s56).lst hD4, upd_same, ?_, _, rfl⟩
   ·rw [upd_ne (ne_of_none e hD1)]
    exact s56 _ _ (t34 b o (u4 b o e n1 n2 n3 n4) n1 n2 n3 n4)
   ·rw [List.replicate_succ']
  ·rintro zs σ H3 ⟨u4, ry3, h2, rfl, _⟩
   refine ⟨l', D1, _, _, rfl, rfl, u4.lst ry' hl', h2, ?_, fun p hp => ?_⟩
   ·rw [List.length_replicate, List.length_replicate]
    have : 1000 ≤ sizeLine := by decide
    omega
   ·have s3 := Same.upd (o := .lst (List.replicate (m + i * 13) (.bl true) ++ List.replicate 13 (.bl true))) hp
    refine ⟨t4.trans (u4.trans (.of s3)), ry3.same s3, p, _, ?_, .inr (s2.free ((t4.trans u4).free ry3 hp)), rfl⟩
    rw [upd_same, List.replicate_append_replicate, Nat.succ_mul, Nat.add_assoc]
 ·rintro σ H' ⟨t4, ry', l', y4, hl', lf, rfl⟩
  rw [lx] at hl'
  exact k l' y4 H' (fun b o e n1 n2 n3 n4 => t4 b o (s2 _ _ e) n1 n2 n3 n4) hl' ry' lf
end
end FQ
namespace FQ
open PySem L2 FK
section
variable {P : Program} {w : World} {K : PySem.W.Frag} {mg : Str → Option Value} {base : Heap}
theorem st_false {f c : Addr} {A : Around} {outer : List Env} {s : Shared} {H : Hp} {E : XK} (hr : Room 12 (cxL P w K mg base f c A outer s H E).A) :
  ∃ t, PS (cxL P w K mg base f c A outer s H E) (lawBody.getD 6 (.Pass ⟨0, 0, 0, 0⟩)) t ∧ ∀ (D : Ends) (σ : St) (l : Addr) (m : Nat) (H1 : Hp), σ[2]? = some (some (.ref l)) → H1 l = some (.lst (List.replicate m (.bl true))) → D.nx σ H1 → t D σ H1 := by
 have hu : _ + (0 + 1) < cLine := hu_of hr
 refine ⟨_, ps_if (pt_cmpR (op_inE rpe_bl hu) pe_bl (pv 2) rfl) (pss_one (ps_ret pe_bl)) pss_nil, ?_⟩
 intro D σ l m H1 hσ hl k
 exact ⟨_, hσ, none_false hl ⟨_, rfl, iteF k⟩⟩
end
end FQ
namespace FQ
open PySem L2 FK
theorem ne_same {K : PySem.W.Frag} {H : Hp} {v : V} {t : Addr} {a b : Int} {q : Rat} {Q : VK} (h : FrQ K H v q) (ht : SqT K H t [.int a, .int b]) (ha : a = q.num) (hb : b = (q.den : Int)) (k : Q (.bl false) H) : rNeP K rpInt rpInt v (.ref t) H Q := by
 obtain ⟨p, rfl, hs⟩ := h.sq
 refine ⟨(q.num, (q.den : Int)), (a, b), ⟨p, _, _, rfl, hs, rfl, rfl⟩, ⟨t, _, _, rfl, ht, rfl, rfl⟩, ?_⟩
 rw [ha, hb, decide_eq_true rfl]
 exact k
theorem Wo_all {z : Int} (h0 : 1 ≤ z) : Wo [((1 : Rat), z)] [((0 : Rat), (1 : Rat))] = 1 := by
 show (F _ 1 - F _ 0) + 0 = 1
 rw [F_one h0 (by decide +kernel) (by decide +kernel), F_one h0 (by decide +kernel) (by decide +kernel)]
 decide +kernel
theorem all_pc : PcOk 1 [((0 : Rat), (1 : Rat))] where
 d := ⟨by decide, by decide⟩
 win := fun p hp => by
  rw [List.mem_singleton.mp hp]
  decide +kernel
 apart := List.pairwise_singleton _ _
 gr := fun p hp => by
  rw [List.mem_singleton.mp hp]
  exact ⟨Gr.zero 1, Gr.one 1⟩
 few := by show 1 ≤ 1000; decide
def spDealsG (K : PySem.W.Frag) : Sp := fun vs H Q _ => ∃ (a r : Addr) (zs : List V), vs = [.ref a] ∧ H a = some (.lst [.ref r]) ∧ H r = some (.lst zs) ∧ zs.length = 1 ∧ Rd K H wholeT (.ref r) ∧ ∀ H', Same H H' → Q (.bl true) H'
section
variable {P : Program} {w : World} {K : PySem.W.Frag} {mg : Str → Option Value} {base : Heap} {C : Addr}
theorem st_good {f c : Addr} (CM : Cl P w K mg base "made" 2 ["a", "b"] (spMadeQ K)) (MK : Mc P w K mg base "Taste" C 5 ["self", "steps"] (spInit K C)) (MW : Ml P w K mg base C "worth" 9 ["self", "piece"] (spWorth K C)) (TC : TxtC K C) (CA : Cl P w K mg base "whole" 1 [] (spWholeR K)) (CG : Cl P w K mg base "deals" 5 ["pieces"] (spDealsG K)) {A : Around} {outer : List Env} {s : Shared} {H : Hp} {E : XK} (hr : Room 12 (cxL P w K mg base f c A outer s H E).A) :
  ∃ t, PS (cxL P w K mg base f c A outer s H E) (lawBody.getD 7 (.Pass ⟨0, 0, 0, 0⟩)) t ∧ ∀ (D : Ends) (x0 x2 x3 x4 : Option V) (far : Int) (H1 : Hp), (∀ H', Same H1 H' → D.nx [x0, some (.int far), x2, x3, x4] H') → t D [x0, some (.int far), x2, x3, x4] H1 := by
 have hu : _ + (0 + 1) < cLine := hu_of hr
 have hr1 : Room 1 _ := hr.mono (by decide)
 have hr2 : Room 2 _ := hr.mono (by decide)
 have hr5 : Room 5 _ := hr.mono (by decide)
 have hr6 : Room 6 _ := hr.mono (by decide)
 have hr9 : Room 9 _ := hr.mono (by decide)
 refine ⟨_, ps_if (PW.pt (pw_or (pt_cmpR (op_neP rpe_int rpe_int hu) (pe_cl CM hr2 rfl (pa_cons pe_int (pa_cons pe_int pa_nil))) (pe_tup (pa_cons pe_int (pa_cons pe_int pa_nil))) (nomark _))
  (pw_or (pt_cmpR (op_neP rpe_int rpe_int hu) (pe_ml MW TC.cl hr9 (pe_mk MK hr6 rfl (pa_cons (pe_lst (pa_cons (pe_tup (pa_cons (pe_tup (pa_cons pe_int (pa_cons pe_int pa_nil))) (pa_cons pe_int pa_nil))) pa_nil)) pa_nil)) (pa_cons (pe_cl0 CA hr1 rfl) pa_nil)) (pe_tup (pa_cons pe_int (pa_cons pe_int pa_nil))) (nomark _))
  (pw_or1 (pt_not (pt_val (pe_cl CG hr5 rfl (pa_cons (pe_lst (pa_cons (pe_cl0 CA hr1 rfl) pa_nil)) pa_nil)))))))) (pss_one (ps_ret pe_bl)) pss_nil, ?_⟩
 intro D x0 x2 x3 x4 far H1 k
 refine ⟨0, 5, rfl, by decide, by decide, sm_low (by decide), fun v H2 s2 fv => ⟨le1000 rfl, fun t ht => ?_⟩⟩
 have s3 := Same.upd (o := .tup [.int 0, .int 1]) ht
 refine ne_same (fv.same s3) sqT_new (by decide +kernel) (by decide +kernel) ⟨_, rfl, iteF ?_⟩
 refine ⟨le1000 rfl, fun p1 q1 => ⟨le1000 rfl, fun p2 q2 => ⟨le1000 rfl, fun p3 q3 => ?_⟩⟩⟩
 have u1 := Same.upd (o := .tup [.int 1, .int 1]) q1
 have u2 := Same.upd (o := .tup [.ref p1, .int 1000]) q2
 have u3 := Same.upd (o := .lst [.ref p2]) q3
 refine mk_taste (C := C) (p := 1) (S := [((1 : Rat), 1000)]) sqL_new (.cons ⟨p2, .ref p1, .int 1000, rfl, u3.sqT sqT_new, (FrQ.of (q := 1) sqT_new rfl rfl).same (u2.trans u3), rfl⟩ .nil) (one_ts (by decide) (by decide)) fun x lt ll H4 s4 hx hlt hll ta => ?_
 obtain ⟨dx, hx2⟩ := ta.ins
 refine ⟨x, dx, _, rfl, hx2, rfl, rfl, fun r zs H5 s5 n5 h5 l5 r5 => ?_⟩
 obtain ⟨ap, ys, e, hs, v', rr, rfl, rv, hr'⟩ := r5
 cases e
 cases (show rr = [] from hr')
 refine ⟨x, lt, ll, r, [v'], 1, 1, _, _, rfl, ta.same s5, one_ts (by decide) (by decide), hs, .cons (rd_co (q := 0) (r := 1) rv rfl rfl rfl rfl) .nil, all_pc, fun w' H6 s6 fw => ⟨le1000 rfl, fun t2 ht2 => ?_⟩⟩
 have s7 := Same.upd (o := .tup [.int 1, .int 1]) ht2
 rw [Wo_all (by decide)] at fw
 refine ne_same (fw.same s7) sqT_new rfl rfl ⟨_, rfl, iteF ?_⟩
 refine ⟨rfl, fun r2 zs2 H8 s8 n8 h8 l8 r8 => ⟨le1000 rfl, fun p9 q9 => ?_⟩⟩
 have s9 := Same.upd (o := .lst [.ref r2]) q9
 have all := (((((((s2.trans s3).trans ((u1.trans u2).trans u3)).trans s4).trans s5).trans s6).trans s7).trans s8).trans s9
 exact ⟨p9, r2, zs2, rfl, upd_same, s9 _ _ h8, l8, rd_same s9 _ _ r8, fun H' s' => ⟨_, rfl, iteF (k H' (all.trans s'))⟩⟩
end
end FQ
namespace FQ
open PySem L2 FK
def spLaw (K : PySem.W.Frag) (Pj Ps Pw Pl : Addr) : Sp := fun vs H Q _ => ∃ (a : Addr) (ns : List Int), vs = [.ref a] ∧ SqL K H a (ns.map V.int) ∧ H Pj = some (.tbl #[]) ∧ H Ps = some (.tbl #[]) ∧ H Pw = some (.tbl #[]) ∧ H Pl = some (.tbl #[]) ∧ (Pj ≠ Ps ∧ Pj ≠ Pw ∧ Ps ≠ Pw ∧ Pj ≠ Pl ∧ Ps ≠ Pl ∧ Pw ≠ Pl) ∧ ∀ H', Q (.bl true) H'
theorem ready_new {P : Addr} {pos : Pos} {qual : Str} {H : Hp} (h : H P = some (.tbl #[])) : Ready P pos qual H := ⟨#[], h, trivial, .inl rfl⟩
section
variable {P : Program} {w : World} {K : PySem.W.Frag} {mg : Str → Option Value} {base : Heap} {Pj Ps Pw Pl : Addr}
theorem turn_all {f c : Addr} {A : Around} {outer : List Env} {s : Shared} {H : Hp} {E : XK} {t0 t1 t2 t3 t4 t5 t6 t7 : TS}
  (g0 : PS (cxL P w K mg base f c A outer s H E) (lawBody.getD 0 (.Pass ⟨0, 0, 0, 0⟩)) t0) (g1 : PS (cxL P w K mg base f c A outer s H E) (lawBody.getD 1 (.Pass ⟨0, 0, 0, 0⟩)) t1) (g2 : PS (cxL P w K mg base f c A outer s H E) (lawBody.getD 2 (.Pass ⟨0, 0, 0, 0⟩)) t2) (g3 : PS (cxL P w K mg base f c A outer s H E) (lawBody.getD 3 (.Pass ⟨0, 0, 0, 0⟩)) t3)
  (g4 : PS (cxL P w K mg base f c A outer s H E) (lawBody.getD 4 (.Pass ⟨0, 0, 0, 0⟩)) t4) (g5 : PS (cxL P w K mg base f c A outer s H E) (lawBody.getD 5 (.Pass ⟨0, 0, 0, 0⟩)) t5) (g6 : PS (cxL P w K mg base f c A outer s H E) (lawBody.getD 6 (.Pass ⟨0, 0, 0, 0⟩)) t6) (g7 : PS (cxL P w K mg base f c A outer s H E) (lawBody.getD 7 (.Pass ⟨0, 0, 0, 0⟩)) t7)
  (CC : Cl P w K mg base "_law_cell_at" 1 ["_law_script", "_law_k"] (fun vs H Q _ => ∃ (p : Addr) (ns : List Int) (k : Nat), vs = [.ref p, .int k] ∧ SqL K H p (ns.map V.int) ∧ Q (.int (ns.getD k 0)) H)) (hr : Room 12 (cxL P w K mg base f c A outer s H E).A) :
  ∃ t, PSs (cxL P w K mg base f c A outer s H E) (defBody s_law) t ∧ ∀ (Q : VK) (a : Addr) (ns : List Int), SqL K H a (ns.map V.int) → Rdy4 Pj Ps Pw Pl H → (∀ H', Q (.bl true) H') →
   (∀ (D : Ends) (x0 x2 x3 x4 : Option V) (far : Int) (H1 : Hp), 0 ≤ far → far < 1000000 → Rdy4 Pj Ps Pw Pl H1 → (∀ y2 y3 y4 H', Ts4 Pj Ps Pw Pl H1 H' → Rdy4 Pj Ps Pw Pl H' → D.nx [x0, some (.int far), y2, y3, y4] H') → tSeq t0 (tSeq t1 (tSeq t2 (tSeq t3 (tSeq t4 (tSeq t5 (tSeq t6 (tSeq t7 tNext))))))) D [x0, some (.int far), x2, x3, x4] H1) →
   t { nx := fun _ H' => Q .non H', rt := Q } (start NLw [.ref a]) H := by
 have hr1 : Room 1 _ := hr.mono (by decide)
 refine ⟨_, pss_cons (ps_for PassesOwn.never rfl (pi_list (pe_lst (pa_cons pe_int (pa_cons (pe_op op_mod (pe_cl CC hr1 rfl (pa_cons (pv 0) (pa_cons pe_int pa_nil))) (pe_op op_pow pe_int pe_int)) pa_nil)))) (pg_name (i := 1) scLw.nd rfl (Or.inr rfl))
  (pss_cons g0 (pss_cons g1 (pss_cons g2 (pss_cons g3 (pss_cons g4 (pss_cons g5 (pss_cons g6 (pss_cons g7 pss_nil)))))))))
  (pss_one (ps_ret pe_bl)), ?_⟩
 intro Q a ns ha ry k turn
 refine ⟨_, rfl, a, ns, 0, rfl, ha, _, _, rfl, rfl, ⟨by decide, by decide, by decide⟩, _, _, rfl, rfl, (by show (0 : Int) < 10 ^ Int.toNat 6; decide), le1000 rfl, fun r hr0 => ?_⟩
 have s1 := Same.upd (o := .lst [.int 0, .int (ns.getD 0 0 % (10 : Int) ^ (6 : Int).toNat)]) hr0
 have e6 : (10 : Int) ^ (6 : Int).toNat = 1000000 := by decide
 refine ⟨r, rfl, ⟨_, .of upd_same⟩, ?_⟩
 refine for_list (K := K) (a := r) (xs := [.int 0, .int (ns.getD 0 0 % (10 : Int) ^ (6 : Int).toNat)]) (fun i σ H' => H' r = some (.lst [.int 0, .int (ns.getD 0 0 % (10 : Int) ^ (6 : Int).toNat)]) ∧ Rdy4 Pj Ps Pw Pl H' ∧ ∃ y1 y2 y3 y4, σ = [some (.ref a), y1, y2, y3, y4])
  ⟨upd_same, ry.same s1, _, _, _, _, rfl⟩ (fun i σ H' _ h => .of h.1) ?_ ?_
 ·rintro i x σ H' hx ⟨hr', ry', y1, y2, y3, y4, rfl⟩
  have hf : ∃ far : Int, x = .int far ∧ 0 ≤ far ∧ far < 1000000 := by
   match i, hx with
   | 0, hx =>
    cases hx
    exact ⟨0, rfl, by decide, by decide⟩
   | 1, hx =>
    cases hx
    refine ⟨_, rfl, ?_, ?_⟩
    ·exact Int.emod_nonneg _ (by decide)
    ·rw [e6]
     exact Int.emod_lt_of_pos _ (by decide)
   | i + 2, hx => cases hx
  obtain ⟨far, rfl, f0, f1⟩ := hf
  exact turn _ (some (.ref a)) y2 y3 y4 far H' f0 f1 ry' fun y2' y3' y4' H'' t4 ry'' => ⟨t4.lst ry' hr', ry'', _, _, _, _, rfl⟩
 ·rintro σ H' ⟨_, _, y1, y2, y3, y4, rfl⟩
  exact k H'
end
end FQ
namespace FQ
open PySem L2 FK
structure LwC (P : Program) (w : World) (K : PySem.W.Frag) (mg : Str → Option Value) (base : Heap) (C cF cT cP cK cL cX cB Pj Ps Pw : Addr) : Prop where
 ks : Kinds K mg cF cT cP cK cL cX cB
 oF : OfKind K cF cT cP cK cL cX cB cF 0
 oT : OfKind K cF cT cP cK cL cX cB cT 1
 oP : OfKind K cF cT cP cK cL cX cB cP 2
 oK : OfKind K cF cT cP cK cL cX cB cK 3
 oL : OfKind K cF cT cP cK cL cX cB cL 4
 told : Cl P w K mg base "_law_told" 12 ["_law_ask", "_law_one", "_law_other"] (spToldX P w K mg base 11 cF cT cP cK cL cX cB)
 due : Cl P w K mg base "_law_due" 1 ["_law_kind"] spDue
 steps : Cl P w K mg base "_law_bad_steps" 1 ["_law_far"] (spBad K badSteps)
 pieces : Cl P w K mg base "_law_bad_pieces" 1 ["_law_far"] (spBad K badPieces)
 nums : ClX P w K mg base cF "_law_with_numbers" 3 ["_law_door", "_law_far"] (spNumX cF)
 pcs : ClX P w K mg base cP "_law_with_piece" 11 ["_law_door", "_law_bad"] (spPcX K cP Pj Ps Pw)
 taks : ClX P w K mg base cK "_law_with_takers" 7 ["_law_door", "_law_far"] (spTakX cK)
 shrs : ClX P w K mg base cL "_law_with_shares" 11 ["_law_door", "_law_far"] (spShareX cL)
 makeX : McX P w K mg base cT "Taste" C 5 ["self", "steps"] (spInitX K cT)
 dealsX : ClX P w K mg base cP "deals" 5 ["pieces"] (spDealsX K cP)
 made : Cl P w K mg base "made" 2 ["a", "b"] (spMadeQ K)
 make : Mc P w K mg base "Taste" C 5 ["self", "steps"] (spInit K C)
 worth : Ml P w K mg base C "worth" 9 ["self", "piece"] (spWorth K C)
 all : Cl P w K mg base "whole" 1 [] (spWholeR K)
 deals : Cl P w K mg base "deals" 5 ["pieces"] (spDealsG K)
 cell : Cl P w K mg base "_law_cell_at" 1 ["_law_script", "_law_k"] (fun vs H Q _ => ∃ (p : Addr) (ns : List Int) (k : Nat), vs = [.ref p, .int k] ∧ SqL K H p (ns.map V.int) ∧ Q (.int (ns.getD k 0)) H)
section
variable {P : Program} {w : World} {K : PySem.W.Frag} {mg : Str → Option Value} {base : Heap} {aL aR C cF cT cP cK cL cX cB Pj Ps Pw Pl : Addr}
theorem ok_law {f c : Addr} {fd : FuncData} (D : DefAt K mg "law" s_law ["_law_script"] f fd) (hcd : fd.code = .ref c) (CH : PySem.W.CodeHd base c Pl) (bm : BM mg base) (CC : LwC P w K mg base C cF cT cP cK cL cX cB Pj Ps Pw) (T : Txt K mg aL aR) (TC : TxtC K C) : FnOk P w K mg base CX0 13 f fd ["_law_script"] (spLaw K Pj Ps Pw Pl) := by
 refine D.fn.okC hcd scLw (fun vs H Q E h => ?_) (fun A outer s H vs Q E hr h => ?_)
 ·obtain ⟨a, ns, rfl, _⟩ := h
  rfl
 ·obtain ⟨a, ns, rfl, ha, e1, e2, e3, e4, ⟨n1, n2, n3, n4, n5, n6⟩, k⟩ := h
  obtain ⟨fn, dn, mn, kn, bn, Fn⟩ := CC.nums
  obtain ⟨fp, dp, mp, kp, bp, Fp⟩ := CC.pcs
  obtain ⟨ft, dt, mt, kt, bt, Ft⟩ := CC.taks
  obtain ⟨fs, ds, ms, ks, bs, Fs⟩ := CC.shrs
  obtain ⟨t0, g0, r0⟩ := st_nums (f := f) (c := c) (A := A) (outer := outer) (s := s) (H := H) (E := E) T CC.ks CC.oF CC.told CC.due mn kn bn Fn hr
  obtain ⟨t1, g1, r1⟩ := st_steps (Pj := Pj) (Ps := Ps) (Pw := Pw) (f := f) (c := c) (A := A) (outer := outer) (s := s) (H := H) (E := E) CC.oT CC.told CC.due CC.steps CC.makeX CH bm hr
  obtain ⟨t2, g2, r2⟩ := st_pieces (Pl := Pl) (f := f) (c := c) (A := A) (outer := outer) (s := s) (H := H) (E := E) T CC.oP CC.told CC.due CC.pieces mp kp bp Fp hr
  obtain ⟨t3, g3, r3⟩ := st_none (Pj := Pj) (Ps := Ps) (Pw := Pw) (f := f) (c := c) (A := A) (outer := outer) (s := s) (H := H) (E := E) CC.oP CC.told CC.due CC.dealsX CH bm hr
  obtain ⟨t4, g4, r4⟩ := st_taks (f := f) (c := c) (A := A) (outer := outer) (s := s) (H := H) (E := E) T CC.oK CC.told CC.due mt kt bt Ft hr
  obtain ⟨t5, g5, r5⟩ := st_shrs (f := f) (c := c) (A := A) (outer := outer) (s := s) (H := H) (E := E) T CC.oL CC.told CC.due ms ks bs Fs hr
  obtain ⟨t6, g6, r6⟩ := st_false (f := f) (c := c) (A := A) (outer := outer) (s := s) (H := H) (E := E) hr
  obtain ⟨t7, g7, r7⟩ := st_good (f := f) (c := c) (A := A) (outer := outer) (s := s) (H := H) (E := E) CC.made CC.make CC.worth TC CC.all CC.deals hr
  obtain ⟨t, ht, rt⟩ := turn_all (Pj := Pj) (Ps := Ps) (Pw := Pw) (Pl := Pl) g0 g1 g2 g3 g4 g5 g6 g7 CC.cell hr
  refine ⟨t, ht, rt Q a ns ha ⟨⟨ready_new e1, ready_new e2, ready_new e3, n1, n2, n3⟩, ready_new e4, ready_new e4, n4, n5, n6⟩ k fun D x0 x2 x3 x4 far H1 h0 h1 ry kk => ?_⟩
  refine r0 _ x0 x2 x3 x4 far H1 h0 fun p1 H2 s2 hp1 q1 => ?_
  refine r1 _ x0 x3 x4 far p1 7 H2 h0 h1 hp1 (by decide) (ry.same s2) fun y3 H3 u3 hl3 ry3 => ?_
  refine r2 _ x0 y3 x4 far p1 29 H3 h0 h1 hl3 (by decide) ry3 fun l' y4 H4 u4 hl4 ry4 lf => ?_
  refine r3 _ _ l' 263 H4 rfl hl4 (by decide) ry4 fun H5 u5 hl5 ry5 => ?_
  refine r4 _ x0 y3 y4 far l' 264 H5 h0 h1 hl5 (by decide) fun p6 H6 s6 hl6 q6 => ?_
  refine r5 _ x0 y3 y4 far p6 277 H6 h0 h1 hl6 (by decide) fun p7 H7 s7 hl7 q7 => ?_
  refine r6 _ _ p7 280 H7 rfl hl7 ?_
  refine r7 _ x0 _ y3 y4 far H7 fun H8 s8 => kk _ _ _ H8 (fun b o e j1 j2 j3 j4 => ?_) (((ry5.same s6).same s7).same s8)
  have b1 : b ≠ p1 := fun z => by rw [z, q1] at e; cases e
  have e3' := u3 b o (s2 _ _ e) b1 j1 j2 j3 j4
  have b2 : b ≠ l' := fun z => by
   rcases lf with y | y
   ·exact b1 (z.trans y)
   ·rw [← z, e3'] at y
    cases y
  exact s8 _ _ (s7 _ _ (s6 _ _ (u5 b o (u4 b o e3' j1 j2 j3 j4) b2 j1 j2 j3 j4)))
end
end FQ
namespace L2
open PySem PySem.Spec PyProof.Rows
theorem leaves_any {M : Model} {A : Around} {E : Value → Shared → Prop} {s : Shared} {base : Heap} {env : Env} {outer : List Env} {L e : Addr} {cls a0 fl : Value} {Q : Unit → Shared → Prop} (hfr : A.frames = some (env :: outer)) (hf : env.frame = some L) (stay : base.StaysIn s.heap) (no : base.get? e = none) (fun' : s.heap.FunFrames base (env :: outer)) (tr : s.heap.TracedAtW base e cls a0 fl)
  (hQ : ∀ h', Heap.FlyingW base outer e cls a0 h' → s.heap.UpToSlots h' → Q () { s with heap := h' }) : wpAny M A (leaving env (.ref e)) Q E s := by
 by_cases c : fl = rawInt L
 ·subst c
  unfold leaving
  refine wpAny_bind (wpAny_noteFrame_againW hf tr ?_)
  exact wpAny_landsW ⟨stay, no, fun', tr⟩ fun h' fly up => hQ h' ⟨fly.1, fly.2.1, fly.2.2.1.2.2, fly.2.2.2⟩ up
 ·obtain ⟨oe, vs, T, oT, ts, r1, ⟨r2, r2'⟩, r3, r4, r5, r6, r7, r8, r9⟩ := tr
  subst r2
  unfold leaving noteFrame
  simp only [hf]
  refine wpAny_bind (wpAny_bind (wpAny_field r1 r3 r4 ?_))
  rw [if_pos (by simp)]
  refine wpAny_bind (wpAny_field r7 r8 r9 ?_)
  rw [if_neg (fun z => c (beq_iff_eq.mp z))]
  refine wpAny_bind (wpAny_setField r7 r8 (Array.getElem?_eq_some_iff.mp r9).1 ?_)
  have away : ∀ {b : Addr}, b ≠ T → (s.heap.update T (Obj.mapFields (·.setIfInBounds 3 Value.none))).get? b = s.heap.get? b := fun q => Heap.get?_update_other _ _ (Ne.symm q)
  have plain : ∀ {b : Addr} {o : Obj}, s.heap.get? b = some o → (∀ vs, o.data ≠ .fields vs) → b ≠ T := fun {b o} g n q => by
   subst q
   rw [r7] at g
   cases g
   exact n ts r8
  refine wpAny_newEntryW hfr (fun'.of_keeps fun b o g n => ⟨o, by rw [away (plain g n)]; exact g, rfl⟩) hf (by rw [away (Ne.symm r6)]; exact r1) (fun b o g => ?_) no r3 (Array.getElem?_eq_some_iff.mp r4).1 r2' fun h' left => ?_
  ·rw [away (fun q => by rw [q, r5] at g; cases g)]
   exact stay b o g
  ·obtain ⟨k1, ⟨_, _, k2⟩, k3, k4⟩ := left
   exact hQ h' ⟨k1, no, k2, k3⟩ fun b o g n => k4 b o (by rw [away (plain g n)]; exact g) n
theorem un_left2 {fs l : List Addr} {H H' : Hp} {h0 h1 h5 : Heap} (u : Un fs [] H H' h0 h1) (k : (bas l h1).StaysIn h5) (up : ∀ b ∈ fs, ∀ o, h1.get? b = some o → ∃ sl, h5.get? b = some { o with slots := sl }) (hl : ∀ b ∈ l, b ∉ fs → h0.get? b = none) : Un fs [] H H' h0 h5 := by
 have stay : ∀ b o o1, h0.get? b = some o → b ∉ fs → h1.get? b = some o1 → h5.get? b = some o1 := fun b o o1 e nb e1 => by
  refine k b o1 ?_
  rw [bas_get]
  ·exact e1
  ·intro z
   rw [hl b z nb] at e
   cases e
 refine ⟨fun b o e n nb nx => stay b o o e nb (u.keep b o e n nb nx), fun b o e n hb nx => ?_, u.free, fun b o e nx => ?_, u.tups, u.frzs, u.tbls⟩
 ·obtain ⟨sl, e1⟩ := u.slot b o e n hb nx
  obtain ⟨sl', e2⟩ := up b hb _ e1
  exact ⟨sl', e2⟩
 ·obtain ⟨o1, e1⟩ := u.there b o e nx
  by_cases hb : b ∈ fs
  ·obtain ⟨sl, z⟩ := up b hb o1 e1
   exact ⟨_, z⟩
  ·exact ⟨o1, stay b o o1 e hb e1⟩
theorem fun_frames_in {h h' base : Heap} : ∀ {l : List Env}, (∀ b ∈ frs l, ∀ o, h.get? b = some o → (∀ vs, o.data ≠ .fields vs) → ∃ o', h'.get? b = some o' ∧ o'.data = o.data) → h.FunFrames base l → h'.FunFrames base l
 | [], _, _ => trivial
 | env :: r, k, ⟨hk, ⟨L, o, hf, hn, ho, hd⟩, hr⟩ => by
  have e : frs (env :: r) = L :: frs r := by
   unfold frs
   rw [List.filterMap_cons, hf]
  rw [e] at k
  obtain ⟨o', q1, q2⟩ := k L (List.mem_cons_self ..) o ho hd
  exact ⟨hk, ⟨L, o', hf, hn, q1, by rw [q2]; exact hd⟩, fun_frames_in (fun b hb => k b (List.mem_cons_of_mem _ hb)) hr⟩
section
variable {P : Program} {w : World} {K : PySem.W.Frag} {mg : Str → Option Value} {base : Heap} {N : List Str} {qual : Str} {scope : Scope} {f XC : Addr} {cd : Value} {A : Around} {outer : List Env} {s0 : Shared} {H0 : Hp} {E : XK}
theorem comp_thrown {pins : List (Addr × Obj)} {σ : St} {H3 : Hp} {s3 : Shared} {sc : Scope} {cl : List (Str × Addr)} {T F : List Str} {fp : List Addr} {e : Value} {s1 : Shared} {use : Option (Value → Sem Unit)} {Q : Value → Shared → Prop} {acc : Value}
  (I3 : Inv (cxOf (CX1 P w XC) P w K mg base N qual scope f cd A outer s0 H0 E) pins σ H3 s3) (f3 : ∀ b ∈ fp, FpOk (cxOf (CX1 P w XC) P w K mg base N qual scope f cd A outer s0 H0 E) pins H3 b) (h : xeW (compCx (cxOf (CX1 P w XC) P w K mg base N qual scope f cd A outer s0 H0 E) (T ++ F) sc cl s3 H3 fp) XC (fun _ H' => E (.ref XC) none H') e s1) :
  notedBy (model P w) (Cx.A (cxOf (CX1 P w XC) P w K mg base N qual scope f cd A outer s0 H0 E)) (compEnvC sc cl s3.heap.objs.size (Cx.env (cxOf (CX1 P w XC) P w K mg base N qual scope f cd A outer s0 H0 E))) (fun x s' => compPost (model P w) (Cx.A (cxOf (CX1 P w XC) P w K mg base N qual scope f cd A outer s0 H0 E)) (Cx.xe (cxOf (CX1 P w XC) P w K mg base N qual scope f cd A outer s0 H0 E)) use Q acc s3.heap.objs.size (.error x) s') e s1 := by
 obtain ⟨pin', σ', H, s, I0, ea, Ta, a0, H', rfl, os, bare, un, hok, tr, ⟨n1, n2⟩, ⟨n3, n4⟩, hw⟩ := h
 have I1 := I0.call' (ch := []) os un hok bare (fun b z => nomatch z)
 have IX : Inv (cxOf (CX1 P w XC) P w K mg base N qual scope f cd A outer s0 H0 E) pins σ H' s1 := I3.call' (s' := s1) (ch := fp) I1.os I1.base I1.hok I1.bare fun b hb => ⟨(f3 b hb).2.2.2.1, (f3 b hb).2.1, (f3 b hb).2.2.2.2.1, (f3 b hb).2.2.2.2.2⟩
 have stk := IX.stack
 have fr : ∀ b ∈ frs (envOfC qual scope s0.heap.objs.size f cd :: outer), ∃ o, s1.heap.get? b = some o ∧ ∀ vs, o.data ≠ .fields vs := fun b hb => (stk.mem hb).2
 have old : ∀ b, s.heap.get? b = none → s3.heap.get? b = none ∨ b ∈ fp := fun b n => by
  by_cases hb : b ∈ fp
  ·exact .inr hb
  ·left
   cases z : s3.heap.get? b with
   | none => rfl
   | some o =>
    obtain ⟨o', q⟩ := I0.base.there b o z hb
    rw [n] at q
    cases q
 have old0 : ∀ b, s3.heap.get? b = none → s0.heap.get? b = none := fun b n => by
  cases z : s0.heap.get? b with
  | none => rfl
  | some o =>
   obtain ⟨o', q⟩ := I3.base.there b o z (fun y => nomatch y)
   rw [n] at q
   cases q
 have fp0 : ∀ b ∈ fp, s0.heap.get? b = none := fun b hb => by
  rcases (f3 b hb).2.2.2.1 with z | z
  ·exact absurd z (fun y => nomatch y)
  ·cases y : s0.heap.get? b with
   | none => rfl
   | some o => exact absurd (Heap.lt_size y) (Nat.not_lt.mpr z)
 have back : ∀ b, s.heap.get? b = none → s0.heap.get? b = none := fun b n => by
  rcases old b n with z | z
  ·exact old0 b z
  ·exact fp0 b z
 have C3 : s3.heap.get? s3.heap.objs.size = none := by
  cases y : s3.heap.get? s3.heap.objs.size with
  | none => rfl
  | some o => exact absurd (Heap.lt_size y) (Nat.lt_irrefl _)
 obtain ⟨m, hn, _⟩ := id I1.loc
 have hn : s1.heap.Ns s3.heap.objs.size m := hn
 have nC : s3.heap.objs.size ∉ frs (envOfC qual scope s0.heap.objs.size f cd :: outer) := fun hb => by
  obtain ⟨_, o, ho, _⟩ := I3.stack.mem hb
  rw [C3] at ho
  cases ho
 have fly : Heap.FlyingW (bas (ea :: Ta :: frs (envOfC qual scope s0.heap.objs.size f cd :: outer)) s1.heap) (envOfC qual scope s0.heap.objs.size f cd :: outer) ea (.ref XC) a0 s1.heap :=
  ⟨bas_stays, bas_none (List.mem_cons_self ..), bas_frames _ (fun b hb => List.mem_cons_of_mem _ (List.mem_cons_of_mem _ hb)) stk, tr.traced (bas_none (List.mem_cons_of_mem _ (List.mem_cons_self ..)))⟩
 show wpAny _ _ (noteFrame (.ref ea) (envOfC qual scope s0.heap.objs.size f cd)) _ _ s1
 refine wpAny_looks_onW IX.ok.frames rfl fly fun h2 held up2 => ?_
 have hn2 := up2.ns hn
 show ∃ m, Heap.Ns h2 _ m ∧ _
 refine ⟨m, hn2, fun h' sb cenv hc => ?_⟩
 obtain ⟨g1, g2, g3, oe, vs, T', oT, ts, r1, r2, r3, r4, r5, r6, r7, r8, r9⟩ := held
 have T'C : T' ≠ s3.heap.objs.size := fun z => by
  obtain ⟨o, _, _, ho, hd, _⟩ := hn2
  rw [← z, r7] at ho
  cases ho
  rw [r8] at hd
  cases hd
 have eC : ea ≠ s3.heap.objs.size := fun z => by
  obtain ⟨o, _, _, ho, hd, _⟩ := hn2
  rw [← z, r1] at ho
  cases ho
  rw [r3] at hd
  cases hd
 have r1' : h'.get? ea = some oe := by rw [sb.2 _ eC]; exact r1
 have r7' : h'.get? T' = some oT := by rw [sb.2 _ T'C]; exact r7
 unfold PySem.passOn
 refine wpAny_bind (wpAny_field r1' r3 r4 ?_)
 rw [if_neg (by simp)]
 refine wpAny_bind ?_
 unfold setFlight
 refine wpAny_bind (wpAny_field r1' r3 r4 ?_)
 rw [if_pos (by simp)]
 refine wpAny_setField r7' r8 (Array.getElem?_eq_some_iff.mp r9).1 ?_
 generalize hfl : (cenv.frame.elim Value.none fun f => rawInt f) = fl
 have away : ∀ {b : Addr}, b ≠ T' → (h'.update T' (Obj.mapFields (·.setIfInBounds 3 fl))).get? b = h'.get? b := fun q => Heap.get?_update_other _ _ (Ne.symm q)
 have d3 := Obj.data_mapFields r8 (·.setIfInBounds 3 fl)
 have t3 := Heap.get?_update_self (Obj.mapFields (·.setIfInBounds 3 fl)) r7' (Obj.isFreed_of_fields d3)
 have s3' : (ts.setIfInBounds 3 fl)[3]? = some fl := by
  rw [Array.getElem?_setIfInBounds_self_of_lt]
  exact (Array.getElem?_eq_some_iff.mp r9).1
 have e3 : (h'.update T' (Obj.mapFields (·.setIfInBounds 3 fl))).get? ea = some oe := by rw [away (Ne.symm r6)]; exact r1'
 have nfr : ∀ b ∈ frs (envOfC qual scope s0.heap.objs.size f cd :: outer), b ≠ T' ∧ b ≠ s3.heap.objs.size := fun b hb => by
  refine ⟨fun z => ?_, fun z => nC (z ▸ hb)⟩
  obtain ⟨o, ho, nf⟩ := fr b hb
  obtain ⟨sl, q⟩ := up2 b o ho nf
  rw [z, r7] at q
  cases q
  exact nf _ r8
 have kb : (bas (ea :: Ta :: T' :: s3.heap.objs.size :: frs (envOfC qual scope s0.heap.objs.size f cd :: outer)) s1.heap).StaysIn (h'.update T' (Obj.mapFields (·.setIfInBounds 3 fl))) := fun b o q => by
  by_cases z : b ∈ ea :: Ta :: T' :: s3.heap.objs.size :: frs (envOfC qual scope s0.heap.objs.size f cd :: outer)
  ·rw [bas_none z] at q
   cases q
  ·rw [bas_get z] at q
   simp only [List.mem_cons, not_or] at z
   rw [away z.2.2.1, sb.2 _ z.2.2.2.1]
   refine g1 b o ?_
   rw [bas_get]
   ·exact q
   ·simp only [List.mem_cons, not_or]
    exact ⟨z.1, z.2.1, z.2.2.2.2⟩
 have ff : (h'.update T' (Obj.mapFields (·.setIfInBounds 3 fl))).FunFrames (bas (ea :: Ta :: T' :: s3.heap.objs.size :: frs (envOfC qual scope s0.heap.objs.size f cd :: outer)) s1.heap) (envOfC qual scope s0.heap.objs.size f cd :: outer) := by
  refine bas_frames (h := h'.update T' (Obj.mapFields (·.setIfInBounds 3 fl))) (base := base) _ (fun b hb => List.mem_cons_of_mem _ (List.mem_cons_of_mem _ (List.mem_cons_of_mem _ (List.mem_cons_of_mem _ hb)))) ?_
  refine fun_frames_in (h := s1.heap) (fun b hb o ho nf => ?_) stk
  obtain ⟨sl, q⟩ := up2 b o ho nf
  exact ⟨{ o with slots := sl }, by rw [away (nfr b hb).1, sb.2 _ (nfr b hb).2]; exact q, rfl⟩
 refine wpAny_throw ?_
 show wpAny _ _ (leaving (envOfC qual scope s0.heap.objs.size f cd) (.ref ea)) _ _ _
 refine leaves_any IX.ok.frames rfl kb (bas_none (List.mem_cons_self ..)) ff ⟨oe, vs, T', _, _, e3, r2, r3, r4, bas_none (List.mem_cons_of_mem _ (List.mem_cons_of_mem _ (List.mem_cons_self ..))), r6, t3, d3, s3'⟩ fun h5 fly5 up5 => ?_
 obtain ⟨k1, k2, k3, oe5, vs5, T5, oT5, ts5, p1, p2, p3, p4, p5, p6, p7, p8, p9⟩ := fly5
 have mem : ∀ b, b ∈ frs (envOfC qual scope s0.heap.objs.size f cd :: outer) ↔ b = s0.heap.objs.size ∨ b ∈ frs outer := fun b => by
  show b ∈ s0.heap.objs.size :: frs outer ↔ _
  exact List.mem_cons
 have upF : ∀ b ∈ frs (envOfC qual scope s0.heap.objs.size f cd :: outer), ∀ o, s1.heap.get? b = some o → ∃ sl, h5.get? b = some { o with slots := sl } := fun b hb o ho => by
  obtain ⟨o', ho', nf⟩ := fr b hb
  rw [ho] at ho'
  cases ho'
  obtain ⟨sl, q⟩ := up2 b o ho nf
  have q2 : (h'.update T' (Obj.mapFields (·.setIfInBounds 3 fl))).get? b = some { o with slots := sl } := by rw [away (nfr b hb).1, sb.2 _ (nfr b hb).2]; exact q
  obtain ⟨sl', q3⟩ := up5 b _ q2 nf
  exact ⟨sl', q3⟩
 have gone : ∀ b, s1.heap.get? b = none → s0.heap.get? b = none ∧ H' b = none := fun b q => by
  refine ⟨?_, hok.no q⟩
  refine back b ?_
  cases y : s.heap.get? b with
  | none => rfl
  | some o =>
   obtain ⟨o', z⟩ := un.there b o y (fun y => nomatch y)
   rw [q] at z
   cases z
 have fT' : s0.heap.get? T' = none ∧ H' T' = none := by
  by_cases z : T' ∈ ea :: Ta :: frs (envOfC qual scope s0.heap.objs.size f cd :: outer)
  ·rcases List.mem_cons.mp z with q | q
   ·exact absurd q r6
   ·rcases List.mem_cons.mp q with q | q
    ·rw [q]; exact ⟨back _ n2, n4⟩
    ·exact absurd rfl (nfr T' q).1
  ·rw [bas_get z] at r5
   exact gone T' r5
 have fC : s0.heap.get? s3.heap.objs.size = none ∧ H' s3.heap.objs.size = none := ⟨old0 _ C3, I1.free⟩
 have fT5 : s0.heap.get? T5 = none ∧ H' T5 = none := by
  by_cases z : T5 ∈ ea :: Ta :: T' :: s3.heap.objs.size :: frs (envOfC qual scope s0.heap.objs.size f cd :: outer)
  ·rcases List.mem_cons.mp z with q | q
   ·exact absurd q p6
   ·rcases List.mem_cons.mp q with q | q
    ·rw [q]; exact ⟨back _ n2, n4⟩
    ·rcases List.mem_cons.mp q with q | q
     ·rw [q]; exact fT'
     ·rcases List.mem_cons.mp q with q | q
      ·rw [q]; exact fC
      ·obtain ⟨o, ho, nf⟩ := fr T5 q
       obtain ⟨sl, y⟩ := upF T5 q o ho
       rw [p7] at y
       cases y
       exact absurd p8 (nf _)
  ·rw [bas_get z] at p5
   exact gone T5 p5
 have L0 : s0.heap.get? s0.heap.objs.size = none := by
  cases y : s0.heap.get? s0.heap.objs.size with
  | none => rfl
  | some o => exact absurd (Heap.lt_size y) (Nat.lt_irrefl _)
 have place : ∀ b ∈ ea :: Ta :: T' :: s3.heap.objs.size :: frs (envOfC qual scope s0.heap.objs.size f cd :: outer), (b ∉ frs outer → s0.heap.get? b = none) ∧ H' b = none := fun b hb => by
  rcases List.mem_cons.mp hb with q | q
  ·rw [q]; exact ⟨fun _ => back _ n1, n3⟩
  ·rcases List.mem_cons.mp q with q | q
   ·rw [q]; exact ⟨fun _ => back _ n2, n4⟩
   ·rcases List.mem_cons.mp q with q | q
    ·rw [q]; exact ⟨fun _ => fT'.1, fT'.2⟩
    ·rcases List.mem_cons.mp q with q | q
     ·rw [q]; exact ⟨fun _ => fC.1, fC.2⟩
     ·refine ⟨fun n => ?_, IX.stkFree b q⟩
      rcases (mem b).mp q with y | y
      ·rw [y]; exact L0
      ·exact absurd y n
 refine ⟨ea, T5, a0, H', rfl, IX.os, bare, un_left2 IX.base k1 (fun b hb => upF b ((mem b).mpr (.inr hb))) (fun b hb => (place b hb).1), hok_fly k1 hok fun b hb => (place b hb).2, ⟨oe5, vs5, oT5, ts5, p1, p2, p3, p4, p6, p7, p8, p9⟩, ⟨back _ n1, fT5.1⟩, ⟨n3, fT5.2⟩, hw⟩
end
section
variable {prog : Program} {w : World} {A : Around} {R : Result → Shared → Prop} {s : Shared}
theorem compLoop_anyX {elt target iter : Expr} {ifs : List Expr} {scope : Scope} {pos : Pos} {it acc : Value} {env : Env} (I : Nat → Shared → Prop)
  (turn : ∀ n s, I n s → wpAny (model prog w) A (pyNext it) (fun r s₁ => match r with
   | none => R (.ok .next) s₁
   | some v => wpAny (model prog w) A (letOwnedTupleGo target it v) (fun _ s₁' => wpAny (model prog w) A (assign target env v) (fun _ s₂ =>
     wpAny (model prog w) A (forIn ifs true fun c r => if r = true then do let ok ← isTrue c env (eval c env); pure (ForInStep.yield ok) else pure (ForInStep.yield r)) (fun ok s₃ =>
      if ok = true then wpAny (model prog w) A (eval elt env) (fun x s₄ =>
       wpAny (model prog w) A (call (.builtin "list.append") [acc, x]) (fun _ s₅ => ∃ m, m < n ∧ I m s₅) (fun _ _ => False) s₄) (notedBy (model prog w) A env fun x s' => R (.error x) s') s₃
      else ∃ m, m < n ∧ I m s₃) (fun _ _ => False) s₂) (fun _ _ => False) s₁') (fun _ _ => False) s₁) (fun _ _ => False) s)
  (n : Nat) (h : I n s) :
  codeAny (model prog w) A (.compLoop (.ListComp elt [⟨target, iter, ifs, 0⟩] scope pos) 0 it acc env) R s := by
 refine codeAny_loop rfl I (fun n s hI => ?_) n h
 show wpAny _ A ((compTurn (.ListComp elt [⟨target, iter, ifs, 0⟩] scope pos) 0 it acc env).onRaise (fun x => do noteFrame x env; theTreesLotGoes x)) _ _ s
 refine wpAny_noted ?_
 rw [compTurn_list]
 refine wpAny_bind (wpAny_standAt (wpAny_bind (wpAny_mono (turn n s hI) (fun r s₁ h₁ => ?_) fun _ _ h' => h'.elim)))
 cases r with
 | none => exact wpAny_pure h₁
 | some v =>
  refine wpAny_bind (wpAny_mono h₁ (fun _ s₁' h₁' => ?_) fun _ _ h' => h'.elim)
  refine wpAny_bind (wpAny_mono h₁' (fun _ s₂ h₂ => wpAny_bind (wpAny_mono h₂ (fun ok s₃ h₃ => ?_) fun _ _ h' => h'.elim)) fun _ _ h' => h'.elim)
  cases ok with
  | false => exact wpAny_pure ⟨rfl, h₃⟩
  | true =>
   exact wpAny_bind (wpAny_bind (wpAny_mono h₃ (fun x s₄ h₄ => wpAny_bind (wpAny_mono h₄ (fun _ s₅ h₅ => wpAny_pure (wpAny_pure ⟨rfl, h₅⟩)) fun _ _ h' => h'.elim)) fun _ _ h' => h'))
end
section
variable {X : Cx} {elt tg iter : Expr} {ifs : List Expr} {sc : Scope} {pos : Pos} {cl : List (Str × Addr)} {T F : List Str} {js : List Nat} {wi : TI} {g : CS → TG} {tc : CS → TT} {te : CS → TE} {pins : List (Addr × Obj)} {σ : St}
theorem comp_blockX {XC : Addr} {W0 : St → Hp → Prop} (hc : X.calm = true) (C : CompOk X sc cl F js) (hg : ∀ c : CS, PG (compCx X (T ++ F) sc cl c.s c.H c.fp) tg (g c)) (hif : ∀ c : CS, PIfs (compCx X (T ++ F) sc cl c.s c.H c.fp) ifs (tc c)) (he : ∀ c : CS, PE ((compCx X (T ++ F) sc cl c.s c.H c.fp).tryW XC W0) elt (te c))
  {H2 : Hp} {s2 : Shared} {it : Addr} {fp : List Addr} {tn : Nat → Heap → Prop} {J : It} {Q : VK} {RR : Value → Addr → Result → Shared → Prop} (I2 : Inv X pins σ H2 s2) (Tn : Turn X.prog X.w X.K tg J fp it tn) (st2 : tn 0 s2.heap) (f2 : ∀ b ∈ fp, FpOk X pins H2 b)
  (hw : ∀ D, H2 D = none → ∃ W : Nat → Nat → List V → St → Hp → Prop, (∃ m, W 0 m [] (compSt T.length js σ) (upd H2 D (.lst []))) ∧
   ∀ i m ys σ' H', W i m ys σ' H' → H' D = some (.lst ys) ∧ ((J.stop i H' ∧ Q (.ref D) H') ∨ (J.go i H' ∧ ys.length < sizeLine ∧ ∃ N : List V → St → Hp → Prop, (∀ ys' σ'' H'', N ys' σ'' H'' → ∃ m', m' < m ∧ W (i + 1) m' ys' σ'' H'') ∧
    ∀ x H2, J.yld i H' x H2 → ∀ c : CS, g c x σ' H2 fun σ2 H3 => tc c σ2 H3 fun b H4 => if b = true then te c σ2 H4 fun v H5 => H5 D = some (.lst ys) ∧ N (ys ++ [v]) σ2 (upd H5 D (.lst (ys ++ [v]))) else N ys σ2 H4)))
  (thr : ∀ (s3 : Shared) (H3 : Hp) (e : Value) (s1 : Shared) (D : Value), Inv X pins σ H3 s3 → (∀ b ∈ fp, FpOk X pins H3 b) → xeW (compCx X (T ++ F) sc cl s3 H3 fp) XC W0 e s1 → notedBy (model X.prog X.w) X.A (compEnvC sc cl s3.heap.objs.size X.env) (fun x s' => RR D s3.heap.objs.size (.error x) s') e s1)
  (hRR : ∀ D C H' s1, Inv X pins σ H' s1 → Gone X pins H' C → (∃ m, s1.heap.Ns C m) → Q (.ref D) H' → RR (.ref D) C (.ok .next) s1) :
  wpAny (model X.prog X.w) X.A (newList []) (fun acc s₃ => wpAny (model X.prog X.w) X.A (newFunctionEnv sc X.env.globals cl [] X.env.qual none .none (some X.env)) (fun cenv s₄ =>
   codeAny (model X.prog X.w) X.A (.compStart (.ListComp elt [⟨tg, iter, ifs, 0⟩] sc pos) 0 (.ref it) acc { cenv with scope := relabel sc X.env }) (RR acc cenv.locals) s₄) X.xe s₃) X.xe s2 := by
 obtain ⟨W, ⟨m0, w0⟩, turn⟩ := hw s2.heap.objs.size (I2.hok.fresh (Nat.le_refl _))
 have I3 : Inv X pins σ (upd H2 s2.heap.objs.size (.lst [])) { s2 with heap := s2.heap.push { cls := .type "list", data := .seq ([] : List Value).toArray } } := I2.lnew (t' := s2.toks) .nil (Nat.zero_le _)
 have lt2 : ∀ b ∈ fp, b < s2.heap.objs.size := fun b hb => by
  obtain ⟨o, e, _⟩ := Tn.obj 0 _ st2 b hb
  exact Heap.lt_size e
 have f3 : ∀ b ∈ fp, FpOk X pins (upd H2 s2.heap.objs.size (.lst [])) b := fun b hb => ⟨by rw [upd_ne (Nat.ne_of_lt (lt2 b hb))]; exact (f2 b hb).1, (f2 b hb).2⟩
 refine wpAny_newObj_type ?_
 have st3 : tn 0 ({ s2 with heap := s2.heap.push { cls := .type "list", data := .seq ([] : List Value).toArray } } : Shared).heap := Tn.keep 0 _ _ st2 fun b hb o e => Heap.get?_push_of_some _ e
 have lt3 : ∀ b ∈ fp, b < ({ s2 with heap := s2.heap.push { cls := .type "list", data := .seq ([] : List Value).toArray } } : Shared).heap.objs.size := fun b hb => by
  show b < (s2.heap.push _).objs.size
  rw [Heap.size_push]
  exact Nat.lt_succ_of_lt (lt2 b hb)
 generalize ({ s2 with heap := s2.heap.push { cls := .type "list", data := .seq ([] : List Value).toArray } } : Shared) = s3 at I3 st3 lt3 ⊢
 refine wpAny_newFunctionEnv C.cell (by intro y hy; simp at hy) (fun h4 hns hsb => ?_) C.kind
 have old : ∀ b o, s3.heap.get? b = some o → h4.get? b = some o := fun b o e => hsb.extBut b o (Nat.ne_of_lt (Heap.lt_size e)) (Heap.get?_push_of_some _ e)
 have st4 : tn 0 h4 := Tn.keep 0 _ _ st3 fun b hb o e => old b o e
 have J4 : ∀ tk, Inv (compCx X (T ++ F) sc cl s3 (upd H2 s2.heap.objs.size (.lst [])) fp) [] (compSt T.length js σ) (upd H2 s2.heap.objs.size (.lst [])) { s3 with heap := h4, toks := tk } := fun tk => inv_comp C I3 f3 lt3 hns old
 have fpX : ∀ {H' : Hp}, (∀ b ∈ fp, H' b = none) → ∀ b ∈ fp, FpOk (compCx X (T ++ F) sc cl s3 (upd H2 s2.heap.objs.size (.lst [])) fp) [] H' b := fun hn b hb =>
  ⟨hn b hb, Nat.ne_of_lt (lt3 b hb), (comp_ok C I3 f3 lt3 (T ++ F)).exfs b hb, .inl hb, fun x c e => ((comp_ok C I3 f3 lt3 (T ++ F)).exf b hb).2 x c e, fun p hp => absurd (show p ∈ ([] : List (Addr × Obj)) from hp) (by simp)⟩
 have loop : ∀ s4 : Shared, (∃ tk, s4 = { s3 with heap := h4, toks := tk }) →
   codeAny (model X.prog X.w) X.A (.compLoop (.ListComp elt [⟨tg, iter, ifs, 0⟩] sc pos) 0 (.ref it) (.ref s2.heap.objs.size) (compEnvC sc cl s3.heap.objs.size X.env)) (RR (.ref s2.heap.objs.size) s3.heap.objs.size) s4 := by
  rintro s4 ⟨tk, rfl⟩
  refine compLoop_anyX (fun n s' => ∃ i ys σ' H', Inv (compCx X (T ++ F) sc cl s3 (upd H2 s2.heap.objs.size (.lst [])) fp) [] σ' H' s' ∧ tn i s'.heap ∧ (∀ b ∈ fp, H' b = none) ∧ W i n ys σ' H') ?_ m0
   ⟨0, [], _, _, J4 tk, st4, fun b hb => (f3 b hb).1, w0⟩
  rintro n s5 ⟨i, ys, σ5, H5, I5, st5, fr5, w5⟩
  obtain ⟨hD, q⟩ := turn i n ys σ5 H5 w5
  rcases q with ⟨stop, q⟩ | ⟨go, hz, N, hN, step⟩
  ·refine thn (Tn.done (compCx X (T ++ F) sc cl s3 (upd H2 s2.heap.objs.size (.lst [])) fp) rfl rfl rfl hc i [] s5 σ5 H5 (fun _ _ => False) I5 (fpX fr5) st5 stop) fun r s6 ⟨hr, I6⟩ => ?_
   subst hr
   obtain ⟨m, hn, _⟩ := id I6.loc
   exact hRR _ _ H5 s6 (comp_back I3 f3 I6) (Gone.of I3 I6.free) ⟨m, hn⟩ q
  ·refine thn (Tn.item (compCx X (T ++ F) sc cl s3 (upd H2 s2.heap.objs.size (.lst [])) fp) rfl rfl rfl hc i [] s5 σ5 H5 (fun _ _ => False) I5 (fpX fr5) st5 go) fun r s6 ⟨u, hr, h6⟩ => ?_
   subst hr
   refine thn h6 fun _ s7 ⟨x, H7, I7, r7, y7, st7, fr7⟩ => ?_
   have I7' := I7.pinned (fpX fr7) (Tn.obj _ _ st7)
   have again : ∀ {s8 : Shared} {σ8 : St} {H8 : Hp} {ys8 : List V}, Inv (compCx X (T ++ F) sc cl s3 (upd H2 s2.heap.objs.size (.lst [])) fp) ([] ++ pinsAt fp s7.heap) σ8 H8 s8 → N ys8 σ8 H8 →
     ∃ m, m < n ∧ ∃ i ys σ' H', Inv (compCx X (T ++ F) sc cl s3 (upd H2 s2.heap.objs.size (.lst [])) fp) [] σ' H' s8 ∧ tn i s8.heap ∧ (∀ b ∈ fp, H' b = none) ∧ W i m ys σ' H' := fun {s8 σ8 H8 ys8} I8 n8 => by
    obtain ⟨m', hm, w8⟩ := hN ys8 σ8 H8 n8
    refine ⟨m', hm, i + 1, ys8, σ8, H8, I8.unpinned, Tn.keep _ _ _ st7 fun b hb o e => (I8.pin (b, o) (List.mem_append_right _ (List.mem_append_right _ (mem_pinsAt hb e)))).1, fun b hb => ?_, w8⟩
    obtain ⟨o, e, d⟩ := Tn.obj _ _ st7 b hb
    exact (I8.pin (b, o) (List.mem_append_right _ (List.mem_append_right _ (mem_pinsAt hb e)))).2.1
   refine thn (hg ⟨s3, _, fp⟩ _ s7 σ5 H7 x u _ I7' r7 (step x H7 y7 ⟨s3, upd H2 s2.heap.objs.size (.lst []), fp⟩)) fun _ s8 ⟨σ8, H8, I8, q8⟩ => ?_
   refine thn (hif ⟨s3, _, fp⟩ _ s8 σ8 H8 _ I8 q8) fun ok s9 ⟨H9, I9, q9⟩ => ?_
   cases ok with
   | false =>
    rw [if_neg Bool.false_ne_true]
    rw [if_neg Bool.false_ne_true] at q9
    exact again I9 q9
   | true =>
    rw [if_pos rfl]
    rw [if_pos rfl] at q9
    refine wpAny_mono (he ⟨s3, _, fp⟩ _ s9 σ8 H9 _ (I9.wish _) q9) (fun y s10 ⟨v10, H10, I10', r10, hD10, n10⟩ => ?_) (fun e s10 z => thr s3 _ e s10 _ I3 f3 z)
    have I10 := I10'.unwish
    refine thn (mt_append _ s10 σ8 H10 (.ref s2.heap.objs.size) [v10] (.ref s2.heap.objs.size) [y] (fun _ H11 => N (ys ++ [v10]) σ8 H11) I10 rfl (.cons r10 .nil) ⟨_, ys, v10, rfl, rfl, hD10, hz, n10⟩) fun _ s11 ⟨_, H11, I11, _, n11⟩ => ?_
    exact again I11 n11
 exact codeAny_compStart_list (loop _ ⟨_, rfl⟩) (Tn.self X.A 0 _ _ _ st4 (loop _ ⟨_, rfl⟩))
end
section
variable {P : Program} {w : World} {K : PySem.W.Frag} {mg : Str → Option Value} {base : Heap} {N : List Str} {qual : Str} {scope : Scope} {f XC : Addr} {cd : Value} {A : Around} {outer : List Env} {s0 : Shared} {H0 : Hp} {E : XK}
variable {elt tg iter : Expr} {ifs : List Expr} {sc : Scope} {pos : Pos} {cl : List (Str × Addr)} {F : List Str} {js : List Nat} {wi : TI} {g : CS → TG} {tc : CS → TT} {te : CS → TE}
theorem ps_compX (T : List Str) {i : Nat} {x : Str} {pos' spos : Pos} (hN : (Cx.N (cxOf (CX1 P w XC) P w K mg base N qual scope f cd A outer s0 H0 E)).Nodup) (hiN : (Cx.N (cxOf (CX1 P w XC) P w K mg base N qual scope f cd A outer s0 H0 E))[i]? = some x) (hx : Loc (Cx.env (cxOf (CX1 P w XC) P w K mg base N qual scope f cd A outer s0 H0 E)).scope x) (C : CompOk (cxOf (CX1 P w XC) P w K mg base N qual scope f cd A outer s0 H0 E) sc cl F js) (hi : PI (cxOf (CX1 P w XC) P w K mg base N qual scope f cd A outer s0 H0 E) tg iter wi)
  (hg : ∀ c : CS, PG (compCx (cxOf (CX1 P w XC) P w K mg base N qual scope f cd A outer s0 H0 E) (T ++ F) sc cl c.s c.H c.fp) tg (g c)) (hif : ∀ c : CS, PIfs (compCx (cxOf (CX1 P w XC) P w K mg base N qual scope f cd A outer s0 H0 E) (T ++ F) sc cl c.s c.H c.fp) ifs (tc c)) (he : ∀ c : CS, PE ((compCx (cxOf (CX1 P w XC) P w K mg base N qual scope f cd A outer s0 H0 E) (T ++ F) sc cl c.s c.H c.fp).tryW XC (fun _ H' => E (.ref XC) none H')) elt (te c))
  (hsw : swapsWith (.ListComp elt [⟨tg, iter, ifs, 0⟩] sc pos) (some (.Name x pos')) spos.line (Cx.env (cxOf (CX1 P w XC) P w K mg base N qual scope f cd A outer s0 H0 E)) = pure true := by rfl)
  (hs : ∀ x, foldedSetIterable iter (Cx.env (cxOf (CX1 P w XC) P w K mg base N qual scope f cd A outer s0 H0 E)) x = pure x := by intro _; rfl) :
  PS (cxOf (CX1 P w XC) P w K mg base N qual scope f cd A outer s0 H0 E) (.Assign [.Name x pos'] (.ListComp elt [⟨tg, iter, ifs, 0⟩] sc pos) spos) (tAsg (tComp T.length js wi g tc te) (gName i)) := by
 intro pins s σ H D I h
 rw [exec_Assign_Name_used _ _ _ _ hsw]
 refine wpAny_bind (wpAny_standAt (wpAny_bind ?_))
 show wpAny _ (Cx.A (cxOf (CX1 P w XC) P w K mg base N qual scope f cd A outer s0 H0 E)) (do let _ ← comprehension (.ListComp elt [⟨tg, iter, ifs, 0⟩] sc pos) sc (Cx.env (cxOf (CX1 P w XC) P w K mg base N qual scope f cd A outer s0 H0 E)) _ (newList []) false (eval iter (Cx.env (cxOf (CX1 P w XC) P w K mg base N qual scope f cd A outer s0 H0 E))) (some (assign (.Name x pos') (Cx.env (cxOf (CX1 P w XC) P w K mg base N qual scope f cd A outer s0 H0 E))))) _ _ s
 refine wpAny_bind (wpAny_mono (wpAny_comprehension_free (use := some (assign (.Name x pos') (Cx.env (cxOf (CX1 P w XC) P w K mg base N qual scope f cd A outer s0 H0 E)))) (Q := fun _ s' => SP (cxOf (CX1 P w XC) P w K mg base N qual scope f cd A outer s0 H0 E) pins D .next s') rfl hs C.clos C.kind C.names ?_) (fun _ s' hq => wpAny_pure (wpAny_pure hq)) fun _ _ e => e)
 refine thn (hi pins s σ H _ I h) fun v s1 h1 => thn h1 fun itv s2 h2 => ?_
 obtain ⟨it, fp, tn, J, H2, e, I2, Tn, st2, f2, hw⟩ := h2
 subst e
 refine comp_blockX (X := (cxOf (CX1 P w XC) P w K mg base N qual scope f cd A outer s0 H0 E)) (Q := fun x H1 => gName i x σ H1 D.nx) (RR := fun acc C => compPost (model P w) (Cx.A (cxOf (CX1 P w XC) P w K mg base N qual scope f cd A outer s0 H0 E)) (Cx.xe (cxOf (CX1 P w XC) P w K mg base N qual scope f cd A outer s0 H0 E)) (some (assign (.Name x pos') (Cx.env (cxOf (CX1 P w XC) P w K mg base N qual scope f cd A outer s0 H0 E)))) (fun _ s' => SP (cxOf (CX1 P w XC) P w K mg base N qual scope f cd A outer s0 H0 E) pins D .next s') acc C) rfl C hg hif he I2 Tn st2 f2 hw (fun s3 H3 e s1 D' I3 f3 z => comp_thrown I3 f3 z) ?_
 intro D' C' H' s6 I6 G ⟨m, hn⟩ q
 show wpAny _ (Cx.A (cxOf (CX1 P w XC) P w K mg base N qual scope f cd A outer s0 H0 E)) (assign (.Name x pos') (Cx.env (cxOf (CX1 P w XC) P w K mg base N qual scope f cd A outer s0 H0 E)) (.ref D')) _ _ _
 refine wpAny_assign_Name (store_ok2 I6 hN hiN hx (show RelV (.ref D') (.ref D') from rfl) (fun s7 I7 ⟨a, hs7, ha⟩ => ?_) (.inl rfl))
 have nC : C' ≠ a := by
  rcases ha with rfl | ha
  ·exact G.loc
  ·exact fun e => G.cell x a ha e.symm
 exact ⟨m, hn.sameBut hs7 nC, fun h' hs' => ⟨_, H', G.let I7 hs', q⟩⟩
end
end L2
namespace L2
open PySem PySem.Spec PyProof.Rows
def dOne (P : Program) (w : World) (a b : Addr) (k : List Key) (r : Value) : HO :=
 .ext (fun h => (a == sysModules) = false ∧ ∃ o es ep, h.get? a = some o ∧ o.ExactDict ∧ o.data = .dict es ep ∧ es.toList = [(k, b, r)].map (entryOfKey (tupleKind (mixKind P w))))
theorem dOne_ok {P : Program} {w : World} {H : Hp} {h : Heap} {a b : Addr} {k : List Key} {r : Value} (x : (a == sysModules) = false ∧ ∃ o es ep, h.get? a = some o ∧ o.ExactDict ∧ o.data = .dict es ep ∧ es.toList = [(k, b, r)].map (entryOfKey (tupleKind (mixKind P w)))) : ObjOk P w H h a (dOne P w a b k r) :=
 ⟨x, (by obtain ⟨_, o, _, _, e, _⟩ := x; exact ⟨o, e⟩), fun h1 h2 ⟨z, o, es, ep, e, y⟩ kk => ⟨z, o, es, ep, kk o e, y⟩⟩
section
variable {X : Cx} {pins : List (Addr × Obj)} {σ : St} {H : Hp} {s : Shared} {a b : Addr} {k : List Key} {r : Value}
theorem dOne_dict (I : Inv X pins σ H s) (e : H a = some (dOne X.prog X.w a b k r)) (hb : SqT X.K H b (k.map kV)) : (a == sysModules) = false ∧ s.heap.DictOfH (tupleKind (mixKind X.prog X.w)) a [(k, b, r)] := by
 obtain ⟨⟨z, o, es, ep, h1, h2, h3, h4⟩, _, _⟩ := (show ObjOk X.prog X.w H s.heap a (dOne X.prog X.w a b k r) from I.hok a _ e)
 refine ⟨z, o, es, ep, h1, h2, h3, h4, fun x hx => ?_, List.nodup_cons.mpr ⟨(fun z => nomatch z), List.nodup_nil⟩⟩
 rw [List.mem_singleton.mp hx]
 exact key_sq I hb
theorem atKey_one {k j : List Key} {b : Addr} {r : Value} : atKey [(k, b, r)] j = if k = j then some (b, r) else none := by
 unfold atKey
 by_cases c : k = j
 ·simp [List.find?, c]
 ·simp [List.find?, c]
end
def tOneIn (P : Program) (w : World) (K : PySem.W.Frag) (ty td : TE) : TE := fun σ H Q => ty σ H fun y H1 => td σ H1 fun x H2 => ∃ a b c k j r, x = .ref a ∧ y = .ref c ∧ H2 a = some (dOne P w a b k r) ∧ SqT K H2 b (k.map kV) ∧ SqT K H2 c (j.map kV) ∧ Q (.bl (decide (k = j))) H2
def tOneGet (P : Program) (w : World) (K : PySem.W.Frag) (td ty : TE) : TE := fun σ H Q => td σ H fun x H1 => ty σ H1 fun y H2 => ∃ a b c k v, x = .ref a ∧ y = .ref c ∧ H2 a = some (dOne P w a b k (.ref v)) ∧ SqT K H2 b (k.map kV) ∧ SqT K H2 c (k.map kV) ∧ Q (.ref v) H2
def sOnePut (P : Program) (w : World) (K : PySem.W.Frag) (td ty tv : TE) : TS := fun D σ H => tv σ H fun v H1 => td σ H1 fun x H2 => ty σ H2 fun y H3 => ∃ a b k z, v = .ref z ∧ x = .ref a ∧ y = .ref b ∧ H3 a = some (.dT []) ∧ SqT K H3 b (k.map kV) ∧ D.nx σ (upd H3 a (dOne P w a b k (.ref z)))
section
variable {X : Cx} {o i value : Expr} {pos pos' : Pos} {td ty tv : TE}
theorem pc_one (hu : X.A.units + 1 < cLine) (hi : PE X i ty) (ho : PE X o td) : PC X .In i o (tOneIn X.prog X.w X.K ty td) := by
 intro pins s σ H Q I h
 refine thn (hi pins s σ H _ I h) fun iv s1 ⟨y, H1, I1, ry, q1⟩ => thn (ho pins s1 σ H1 _ I1 q1) fun u s2 ⟨x, H2, I2, rx, a, b, c, k, j, r, ex, ey, e, eb, ec, q2⟩ => ?_
 subst ex ey
 obtain rfl : u = Value.ref a := rx
 obtain rfl : iv = Value.ref c := ry
 obtain ⟨hd, dd⟩ := dOne_dict I2 e eb
 refine wpAny_in_heap (tupleKind_room_in1 hu) (key_sq I2 ec) hd dd ?_
 have z : (atKey [(k, b, r)] j).isSome = decide (k = j) := by
  rw [atKey_one]
  by_cases c : k = j
  ·rw [if_pos c, decide_eq_true c]; rfl
  ·rw [if_neg c, decide_eq_false c]; rfl
 rw [z]
 exact ⟨.bl _, H2, I2.tok _, rfl, q2⟩
theorem pe_one' (hu : X.A.units + 1 < cLine) (ho : PE X o td) (hi : PE X i ty) (hs : NoSl i) : PE X (.Subscript o i pos) (tOneGet X.prog X.w X.K td ty) := by
 intro pins s σ H Q I h
 refine subD_of PySem.F.slot_dict_getitem.lookup hs (thn (ho pins s σ H _ I h) fun u s1 ⟨x, H1, I1, rx, q1⟩ => thn (hi pins s1 σ H1 _ I1 q1) fun iv s2 ⟨y, H2, I2, ry, a, b, c, k, v, ex, ey, e, eb, ec, q2⟩ => ?_)
 subst ex ey
 obtain rfl : u = Value.ref a := rx
 obtain rfl : iv = Value.ref c := ry
 obtain ⟨hd, dd⟩ := dOne_dict I2 e eb
 refine ⟨dd.typeIs, ?_⟩
 exact wpAny_getItem_heap (p := (b, .ref v)) (tupleKind_room_in1 hu) (key_sq I2 ec) dd (by rw [atKey_one, if_pos rfl]) ⟨.ref v, H2, I2.tok _, rfl, q2⟩
theorem ps_one' (hu : X.A.units + 1 < cLine) (ho : PE X o td) (hi : PE X i ty) (hv : PE X value tv) (hs : swapsWith value (some (.Subscript o i pos')) pos.line X.env = pure false) :
  PS X (.Assign [.Subscript o i pos'] value pos) (sOnePut X.prog X.w X.K td ty tv) := by
 intro pins s σ H D I h
 refine wpAny_Assign_Subscript (thn (hv pins s σ H _ I h) fun r s1 ⟨v, H1, I1, rv, q1⟩ => thn (ho pins s1 σ H1 _ I1 q1) fun u s2 ⟨x, H2, I2, rx, q2⟩ => thn (hi pins s2 σ H2 _ I2 q2) fun iv s3 ⟨y, H3, I3, ry, a, b, k, z, ev, ex, ey, e, eb, q3⟩ => ?_) hs
 subst ev ex ey
 obtain rfl : u = Value.ref a := rx
 obtain rfl : iv = Value.ref b := ry
 obtain rfl : r = Value.ref z := rv
 obtain ⟨_, hd, xs, rel, dd⟩ := dt_of I3.hok e
 cases rel
 refine wpAny_setItem_heap (hsz := Nat.zero_le _) (tupleKind_room_in1 hu) (key_sq I3 eb) dd fun h' dd' hs => ?_
 obtain ⟨q, es, ep, hq, h2, h3, h4, _, h5⟩ := dd'
 exact ⟨σ, _, d_write I3 (by rw [e]; exact True.intro) hs ⟨q, hq⟩ (dOne_ok ⟨hd, q, es, ep, hq, h2, h3, h4⟩), q3⟩
end
theorem pss_nok {X : Cx} {sts : List Stmt} {t : TS} (h : PSs X sts t) : PSs X sts (fun D σ H => (∀ r o, H r = some o → X.K.lookup r = none) → t D σ H) := fun pins s σ H D I q => h pins s σ H D I (q fun r o e => by
 cases z : X.K.lookup r with
 | none => rfl
 | some ob =>
  have y := (I.bs r ob (I.ok.mod.kin _ _ z)).2
  rw [e] at y
  cases y)
theorem sqT_dict {K : PySem.W.Frag} {H : Hp} {a b : Addr} {xs : List V} {kvs : List (List Key × V)} {o : HO} (h : SqT K H b xs) (e : H a = some (.dT kvs)) : SqT K (upd H a o) b xs := by
 rcases h with (z | ⟨u, z⟩) | z
 ·exact .inl (.inl (by rw [upd_ne (ne_of z e (fun z => nomatch z))]; exact z))
 ·exact .inl (.inr ⟨u, by rw [upd_ne (ne_of z e (fun z => nomatch z))]; exact z⟩)
 ·exact .inr z
end L2
namespace L2
open PySem PySem.Spec PyProof.Rows
def tOrE (t u : TE) : TE := fun σ H Q => t σ H Q ∨ u σ H Q
theorem pe_or2 {X : Cx} {e : Expr} {t u : TE} (h : PE X e t) (k : PE X e u) : PE X e (tOrE t u) := pe_either h k
end L2
namespace FQ
open PySem L2 FK
section
variable {P : Program} {w : World} {K : PySem.W.Frag} {mg : Str → Option Value} {base : Heap} {aL aR C BP : Addr}
theorem ok_envyP {f : Addr} {fd : FuncData} (D : DefAt K mg "envy" s_envy ["pieces", "tastes"] f fd) (CT : Cl P w K mg base "check_tastes" 1 ["tastes"] (spTastes K C)) (MW : Ml P w K mg base C "worth" 9 ["self", "piece"] (spWorth K C)) (MX : MlX P w K mg base C BP "worth" 5 ["self", "piece"] (spWorthX K BP)) (T : Txt K mg aL aR) (TC : TxtC K C) : FnOk P w K mg base (CX1 P w BP) 10 f fd ["pieces", "tastes"] (spEnvyP K C BP) := by
 refine D.fn.okX scEnvy (fun vs H Q E h => ?_) (fun cdv A outer s H vs Q E hr h => ?_)
 ·obtain ⟨a, b, x, lt, ll, xs, ts, u, rfl, _⟩ := h
  rfl
 ·obtain ⟨a, b, x, lt, ll, xs, ts, u, rfl, ha, hx, hts, su, bad, hb, ta, k⟩ := h
  have hr1 : Room 1 _ := hr.mono (by decide)
  have hr5 : Room 5 _ := hr.mono (by decide)
  have big : 1000 ≤ sizeLine := by decide
  have lx := rdL_len hx
  have two : ts.length = 1 ∨ ts.length = 2 := by rcases hts with rfl | rfl; exact .inl rfl; exact .inr rfl
  refine ⟨_, pss_cons (ps_expr (pe_cl CT hr1 rfl (pa_cons (pv 1) pa_nil)))
   (pss_cons (ps_if (PW.pt (pw_or (pt_not (pt_val (pe_isi (pv 0) rfl T.isi rfl T.list PyProof.Rows.boot_list))) (pw_or1 (pt_cmpR op_ne (pe_callB call_len_seq (by rfl) T.len PySem.boot_len (pa_cons (pv 0) pa_nil)) (pe_callB call_len_seq (by rfl) T.len PySem.boot_len (pa_cons (pv 1) pa_nil)) (nomark _))))) pss_never pss_nil)
   (pss_cons (ps_set (i := 2) scEnvy.nd rfl (Or.inl rfl) (pe_lst pa_nil))
   (pss_cons (ps_for PassesOwn.leaving rfl (pi_enum rfl T.enumerate (pv 1)) (pg_tup rfl (pgs_cons (pg_name (i := 3) scEnvy.nd rfl (Or.inl rfl)) (pgs_cons (pg_name (i := 4) scEnvy.nd rfl (Or.inr rfl)) pgs_nil)))
    (pss_cons (ps_compX ["piece"] (i := 5) scEnvy.nd rfl (Or.inl rfl) (CompOk.free1 (F := ["taste"]) (js := [4]) rfl (by decide +kernel) (by decide +kernel) rfl ⟨rfl, trivial⟩ rfl ⟨⟨rfl, rfl, .inl rfl⟩, trivial⟩) (pi_list (pv 0))
     (fun _ => pg_name (i := 0) (show [Str.ofString "piece", Str.ofString "taste"].Nodup by decide +kernel) rfl (Or.inl rfl)) (fun _ => pifs_nil) (fun _ => pe_or2 (pe_ml MW TC.cl hr (pv 1) (pa_cons (pv 0) pa_nil)) (pe_mlX MX TC.cl hr5 (pv 1) (pa_cons (pv 0) pa_nil)))) pss_never))
   pss_never))), ?_⟩
  have tS : ∀ n, Paired (TasteS K C H) (List.replicate n (.ref x)) (List.replicate n [((1 : Rat), (1 : Int))]) := fun n => by
   induction n with
   | zero => exact .nil
   | succ n ih => exact .cons ⟨x, lt, ll, 1, rfl, ta, one_ts (by decide) (by decide)⟩ ih
  refine ⟨_, rfl, b, _, _, rfl, .of hb, tS _, ?_⟩
  refine ⟨_, rfl, _, _, .sqL (.of ha), kit_list _, _, rfl, iteF ?_⟩
  refine ⟨_, rfl, a, _, rfl, .inl (.of ha), _, rfl, b, _, rfl, .inl (.of hb), rfl, _, rfl, iteNS (by rw [List.length_replicate]) ?_⟩
  refine ⟨Nat.zero_le _, fun lf hlf => ?_⟩
  have s1 : Same H (upd H lf (.lst [])) := Same.upd hlf
  refine ⟨_, rfl, b, rfl, ⟨_, .of (s1 _ _ hb)⟩, ?_⟩
  refine for_enum (K := K) (a := b) (xs := List.replicate xs.length (.ref x)) (fun i σ H' => i = 0 ∧ Same H H' ∧ ∃ (x3 x4 x5 x6 x7 : Option V), σ = [some (.ref a), some (.ref b), some (.ref lf), x3, x4, x5, x6, x7])
   ⟨rfl, s1, _, _, _, _, _, rfl⟩ (fun i σ H' _ h => .of (h.2.1 _ _ hb)) ?_ ?_
  ·rintro i y σ H' T0 hy ⟨rfl, s2, x3, x4, x5, x6, x7, rfl⟩ hT0
   have ey : y = .ref x := by
    rw [List.getElem?_replicate] at hy
    split at hy
    ·exact (Option.some.inj hy).symm
    ·cases hy
   subst ey
   have s3 : Same H' (upd H' T0 (.tup [.int (0 : Nat), .ref x])) := Same.upd hT0
   have s23 := s2.trans s3
   refine ⟨T0, _, rfl, sqT_new, rfl, _, _, rfl, _, _, rfl, rfl, ?_⟩
   refine ⟨_, rfl, a, rfl, ⟨_, .of (s23 _ _ ha)⟩, fun D1 hD1 => ?_⟩
   refine comp_list (K := K) (a := a) (D := D1) (xs := xs) (fun j ys σ H2 => Same (upd H' T0 (.tup [.int (0 : Nat), .ref x])) H2 ∧ H2 D1 = some (.lst ys) ∧ ys.length = j ∧ j + 1 ≤ ts.length ∧ ∃ x0, σ = [x0, some (.ref x)])
    (by omega) ⟨Same.upd hD1, upd_same, rfl, by omega, _, rfl⟩ ?_ ?_ ?_
   ·rintro j ys σ H2 _ ⟨u1, u2, u3, u4, _⟩
    exact ⟨.of ((s23.trans u1) _ _ ha), u2, by omega⟩
   ·rintro j y ys σ H2 hy ⟨u1, u2, u3, u4, x0, rfl⟩ cc
    have sH := s23.trans u1
    have ta2 := ta.same sH
    obtain ⟨dx, hdx⟩ := ta2.ins
    obtain ⟨tj, gj, rj⟩ := rdL_get hx hy
    have rj2 := rd_same sH _ _ rj
    have cases' : (j + 1 < ts.length ∧ tj = wholeT) ∨ tj = u := by
     rcases hts with rfl | rfl
     ·have : j = 0 := by simp only [List.length_cons, List.length_nil] at u4; omega
      subst this
      exact .inr (Option.some.inj gj).symm
     ·have : j = 0 ∨ j = 1 := by simp only [List.length_cons, List.length_nil] at u4; omega
      rcases this with rfl | rfl
      ·exact .inl ⟨by show 0 + 1 < 2; decide, (Option.some.inj gj).symm⟩
      ·exact .inr (Option.some.inj gj).symm
    rcases cases' with ⟨lt', rfl⟩ | rfl
    ·obtain ⟨ap, ys', rfl, hs, v', rr, rfl, rv, hr'⟩ := rj2
     cases (show rr = [] from hr')
     refine .inl ⟨_, rfl, x, dx, _, rfl, hdx, rfl, _, rfl, x, lt, ll, ap, [v'], 1, 1, _, _, rfl, ta2, one_ts (by decide) (by decide), hs, .cons (rd_co (q := 0) (r := 1) rv rfl rfl rfl rfl) .nil, all_pc, fun v3 H3 u5 d3 => ?_⟩
     have u25 := u5 _ _ u2
     refine ⟨u25, (u1.trans u5).updN hD1, upd_same, by rw [List.length_append, u3]; rfl, by omega, _, rfl⟩
    ·exact .inr ⟨_, rfl, x, dx, _, rfl, hdx, rfl, _, rfl, _, _, tj, rfl, rj2, su, bad, k H2 sH⟩
   ·rintro ys σ H2 ⟨u1, u2, u3, u4, _⟩
    omega
  ·rintro σ H' ⟨z, _⟩
   rw [List.length_replicate] at z
   omega
end
end FQ
namespace FQ
open PySem L2 FK
section
variable {P : Program} {w : World} {K : PySem.W.Frag} {mg : Str → Option Value} {base : Heap} {aL aR : Addr}
def muG (σ : St) : Nat := match σ with
 | [_, _, _, _, _, _, some (.int m)] => 1 - m.toNat
 | _ => 0
def k01 : List Key := [Sum.inl 0, Sum.inl 1]
def k11 : List Key := [Sum.inl 1, Sum.inl 1]
theorem tailG {f : Addr} {cdv : Value} {A : Around} {outer : List Env} {s : Shared} {H : Hp} {E : XK} (hr : Room 4 (cx P w K mg base NDl "deals" s_deals f cdv A outer s H E).A) (T : Txt K mg aL aR) :
  ∃ t, PSs (cx P w K mg base NDl "deals" s_deals f cdv A outer s H E) (List.drop 5 (defBody s_deals)) t ∧ ∀ (D : Ends) (H1 : Hp) (sp d b v : Addr) (z : V) (x0 x2 x4 x5 x6 : Option V), SqL K H1 sp [z] → H1 d = some (dOne P w d b k01 (.ref v)) → SqT K H1 b (k01.map kV) → SqT K H1 v (k11.map kV) →
   D.rt (.bl true) H1 → t D [x0, some (.ref sp), x2, some (.ref d), x4, x5, x6] H1 := by
 have hu : _ + (0 + 1) < cLine := hu_of hr
 refine ⟨_, pss_cons (ps_set (i := 5) scDeals.nd rfl (Or.inl rfl) (pe_glob (v := .ref aL) rfl T.left rfl))
  (pss_cons (ps_set (i := 6) scDeals.nd rfl (Or.inl rfl) pe_int)
  (pss_cons (ps_while PassesOwn.never (pt_cmp (pc_one hu (pv 5) (pv 3)))
   (pss_cons (ps_set (i := 5) scDeals.nd rfl (Or.inl rfl) (pe_one' hu (pv 3) (pv 5) (fun _ _ => rfl)))
   (pss_one (ps_aug (i := 6) scDeals.nd rfl (Or.inl rfl) pe_int ip_add))))
  (pss_one (ps_ret (pe_and (pe_cmpR (op_eqP rpe_int rpe_int hu) (pv 5) (pe_glob (v := .ref aR) rfl T.right rfl) (nomark _))
   (pe_one (pe_cmpR op_eq (pv 6) (pe_callB call_len_seq (by rfl) T.len PySem.boot_len (pa_cons (pv 1) pa_nil)) (nomark _)))))))), ?_⟩
 intro D H1 sp d b v z x0 x2 x4 x5 x6 hsp hd hb hv k
 refine while_by (fun σ H' => H' = H1 ∧ ((σ = [x0, some (.ref sp), x2, some (.ref d), x4, some (.ref aL), some (.int 0)]) ∨ σ = [x0, some (.ref sp), x2, some (.ref d), x4, some (.ref v), some (.int 1)])) (fun σ _ => muG σ) ⟨rfl, .inl rfl⟩ ?_ ?_
 ·rintro σ H' ⟨rfl, rfl | rfl⟩
  ·refine ⟨_, rfl, _, rfl, d, b, aL, k01, k01, _, rfl, rfl, hd, hb, T.leftT _, _, rfl, ?_⟩
   refine iteT ?_
   refine ⟨_, rfl, _, rfl, d, b, aL, k01, v, rfl, rfl, hd, hb, T.leftT _, ?_⟩
   refine ⟨_, rfl, _, _, rfl, rfl, ?_⟩
   exact ⟨⟨rfl, .inr rfl⟩, by show (0 : Nat) < 1; decide⟩
  ·refine ⟨_, rfl, _, rfl, d, b, v, k01, k11, _, rfl, rfl, hd, hb, hv, _, rfl, ?_⟩
   refine iteF ?_
   refine ⟨_, rfl, (1, 1), (1, 1), ⟨v, _, _, rfl, hv, rfl, rfl⟩, ⟨aR, _, _, rfl, T.rightT _, rfl, rfl⟩, _, rfl, ?_⟩
   refine iteT ?_
   exact ⟨_, rfl, _, rfl, sp, _, rfl, .inl hsp, rfl, k⟩
 ·rintro σ H Q Q' hq ⟨v, e, u, e2, a, b, c, k, j, r, g1, g2, g3, g4, g5, z, e3, q⟩
  exact ⟨v, e, u, e2, a, b, c, k, j, r, g1, g2, g3, g4, g5, z, e3, hq _ _ q⟩
theorem ok_dealsG {f : Addr} {fd : FuncData} (D : DefAt K mg "deals" s_deals ["pieces"] f fd) (CK : Cl P w K mg base "check_piece" 4 ["piece"] (spCheck K)) (T : Txt K mg aL aR) : FnOk P w K mg base CX0 5 f fd ["pieces"] (spDealsG K) := by
 refine D.fn.ok scDeals (fun vs H Q E h => ?_) (fun cdv A outer s H vs Q E hr h => ?_)
 ·obtain ⟨a, r, zs, rfl, _⟩ := h
  rfl
 ·obtain ⟨a, r, zs, rfl, ha, hz, l1, rd, k⟩ := h
  have hu : _ + (0 + 1) < cLine := hu_of hr
  obtain ⟨t1, h1, r1⟩ := tailG (P := P) (w := w) (mg := mg) (base := base) (f := f) (cdv := cdv) (A := A) (outer := outer) (s := s) (H := H) (E := E) hr T
  refine ⟨_, pss_nok (pss_cons (ps_if (pt_not (pt_val (pe_isi (pv 0) rfl T.isi rfl T.list PyProof.Rows.boot_list))) pss_never pss_nil)
   (pss_cons (ps_set (i := 1) scDeals.nd rfl (Or.inl rfl) (pe_lst pa_nil))
   (pss_cons (ps_for PassesOwn.never rfl (pi_list (pv 0)) (pg_name (i := 2) scDeals.nd rfl (Or.inl rfl))
    (pss_cons (ps_expr (pe_cl CK hr rfl (pa_cons (pv 2) pa_nil)))
    (pss_one (ps_expr (pe_bm PySem.F.plainAttrs_list PySem.F.slot_list_extend PySem.F.type_list_extend mt_extend (pv 1) (pa_cons (pv 2) pa_nil))))))
   (pss_cons (ps_set (i := 3) scDeals.nd rfl (Or.inl rfl) pe_dnewT)
   (pss_cons (ps_for PassesOwn.never rfl (pi_list (pv 1)) (pg_name (i := 4) scDeals.nd rfl (Or.inl rfl))
    (pss_one (ps_one' hu (pv 3) (pe_ix ix_tup (pv 4) pe_int (fun _ _ => rfl)) (pe_ix ix_tup (pv 4) pe_int (fun _ _ => rfl)) rfl))) h1))))), fun nk => ?_⟩
  refine ⟨_, rfl, _, _, .sqL (.of ha), kit_list _, _, rfl, iteF ?_⟩
  refine ⟨Nat.zero_le _, fun sp hsp => ?_⟩
  have s0 : Same H (upd H sp (.lst [])) := Same.upd hsp
  refine ⟨_, rfl, a, rfl, ⟨_, .of (s0 _ _ ha)⟩, ?_⟩
  obtain ⟨ap, ys, e, hs, v', rr, rfl, rv, hr'⟩ := rd
  cases e
  cases (show rr = [] from hr')
  have ez : zs = [v'] := by
   rcases hs with (z | ⟨u, z⟩) | ⟨o, its, n, hk, _⟩
   ·rw [hz] at z
    cases z
    rfl
   ·rw [hz] at z
    cases z
   ·have y := nk r _ hz
    rw [show K.lookup r = none from y] at hk
    cases hk
  subst ez
  obtain ⟨p, vx, vy, rfl, sp2, rx, ry⟩ := rd_two rv
  obtain ⟨bx, rfl, hbx⟩ := rd_pair rx
  obtain ⟨by', rfl, hby⟩ := rd_pair ry
  refine for_list (K := K) (a := a) (xs := [.ref r]) (fun i σ H' => Same H H' ∧ ∃ (x2 : Option V), σ = [some (.ref a), some (.ref sp), x2, none, none, none, none] ∧ H' sp = some (.lst (if i = 0 then [] else [.ref p])))
   ⟨s0, _, rfl, upd_same⟩ (fun i σ H' _ h => .of (h.1 _ _ ha)) ?_ ?_
  ·rintro i x σ H' hx ⟨u1, x2, rfl, hw⟩
   have i0 : i = 0 := by have := (List.getElem?_eq_some_iff.mp hx).1; simp only [List.length_cons, List.length_nil] at this; omega
   subst i0
   cases (show some (V.ref r) = some x from hx)
   refine ⟨_, rfl, r, [.ref p], 1, _, rfl, u1.seq hs, .cons (rd_co (q := 0) (r := 1) (rd_same u1 _ _ rv) rfl rfl rfl rfl) .nil, all_pc, ?_⟩
   exact ⟨_, rfl, .inl ⟨rfl, _, .of hw⟩, _, rfl, sp, r, [], [.ref p], rfl, rfl, hw, u1 _ _ hz, by show 1 ≤ sizeLine; decide, u1.updN hsp, _, rfl, upd_same⟩
  ·rintro σ H' ⟨u1, x2, rfl, hw⟩
   refine fun d hd => ?_
   have s2 := Same.upd (o := .dT []) hd
   have u2 := u1.trans s2
   have hw2 : upd H' d (.dT []) sp = some (.lst [.ref p]) := s2 _ _ hw
   refine ⟨_, rfl, sp, rfl, ⟨_, .of hw2⟩, ?_⟩
   have nsd : sp ≠ d := ne_of_none hw hd
   refine for_list (K := K) (a := sp) (xs := [.ref p]) (fun i σ H2 => (∀ b o, H' b = some o → H2 b = some o) ∧ (∃ (x4 : Option V), σ = [some (.ref a), some (.ref sp), x2, some (.ref d), x4, none, none]) ∧ (i = 0 → H2 d = some (.dT []) ∧ Same (upd H' d (.dT [])) H2) ∧ (i = 1 → H2 d = some (dOne P w d bx k01 (.ref by')) ∧ SqT K H2 bx (k01.map kV) ∧ SqT K H2 by' (k11.map kV)))
    ⟨s2, ⟨_, rfl⟩, fun _ => ⟨upd_same, fun _ _ e => e⟩, (fun z => nomatch z)⟩ (fun i σ H2 _ h => .of (h.1 _ _ hw)) ?_ ?_
   ·rintro i x σ H2 hx ⟨v1, ⟨x4, rfl⟩, v3, _⟩
    have i0 : i = 0 := by have := (List.getElem?_eq_some_iff.mp hx).1; simp only [List.length_cons, List.length_nil] at this; omega
    subst i0
    cases (show some (V.ref p) = some x from hx)
    obtain ⟨v4, v5⟩ := v3 rfl
    have all := u2.trans v5
    have q1 := all.sqT sp2
    have q2 := all.sqT hbx
    have q3 := all.sqT hby
    refine ⟨_, rfl, p, _, _, _, rfl, rfl, q1, rfl, ?_⟩
    refine ⟨_, rfl, _, rfl, p, _, _, _, rfl, rfl, q1, rfl, d, bx, k01, by', rfl, rfl, rfl, v4, q2, ?_⟩
    refine ⟨fun b o e => ?_, ⟨_, rfl⟩, (fun z => nomatch z), fun _ => ⟨upd_same, sqT_dict q2 v4, sqT_dict q3 v4⟩⟩
    rw [upd_ne (ne_of_none e hd)]
    exact v1 b o e
   ·rintro σ H2 ⟨v1, ⟨x4, rfl⟩, _, v3⟩
    obtain ⟨v4, v5, v6⟩ := v3 rfl
    exact r1 _ H2 sp d bx by' (.ref p) _ _ _ _ _ (.of (v1 _ _ hw)) v4 v5 v6 (k H2 fun b o e => v1 b o (u1 b o e))
end
end FQ
namespace FQ
open PySem L2 FK
def spCell (K : PySem.W.Frag) : Sp := fun vs H Q _ => ∃ (p : Addr) (ns : List Int) (k : Nat), vs = [.ref p, .int k] ∧ SqL K H p (ns.map V.int) ∧ Q (.int (ns.getD k 0)) H
section
variable {P : Program} {w : World} {K : PySem.W.Frag} {mg : Str → Option Value} {base : Heap} {aL aR : Addr}
theorem scCell : FnScope ["_law_script", "_law_k"] ["_law_script", "_law_k"] (defScope s__law_cell_at) := ⟨rfl, rfl, rfl, by decide +kernel, rfl, by decide +kernel, by decide +kernel⟩
theorem ok_cell {f : Addr} {fd : FuncData} (D : DefAt K mg "_law_cell_at" s__law_cell_at ["_law_script", "_law_k"] f fd) (T : Txt K mg aL aR) : FnOk P w K mg base CX0 1 f fd ["_law_script", "_law_k"] (spCell K) := by
 refine D.fn.ok scCell (fun vs H Q E h => ?_) (fun cdv A outer s H vs Q E hr h => ?_)
 ·obtain ⟨p, ns, n, rfl, _⟩ := h
  rfl
 ·obtain ⟨p, ns, n, rfl, hp, k⟩ := h
  refine ⟨_, pss_cons (ps_if (pt_cmpR op_lt (pv 1) (pe_callB call_len_seq (by rfl) T.len PySem.boot_len (pa_cons (pv 0) pa_nil)) (nomark _)) (pss_one (ps_ret (pe_ix ix_list (pv 0) (pv 1) (fun _ _ => rfl)))) pss_nil) (pss_one (ps_ret pe_int)), ?_⟩
  refine ⟨_, rfl, _, rfl, p, _, rfl, .inl hp, _, _, rfl, rfl, _, rfl, ?_⟩
  refine ite2 (fun h => ?_) (fun h => ?_)
  ·have h' : (n : Int) < ((ns.map V.int).length : Nat) := of_decide_eq_true h
   rw [List.length_map] at h'
   have hn : n < ns.length := by omega
   refine ⟨_, rfl, _, rfl, p, _, _, _, rfl, rfl, hp, atI_nat (v := V.int (ns.getD n 0)) ?_, k⟩
   rw [List.getElem?_map, List.getD_eq_getElem?_getD, List.getElem?_eq_getElem hn]
   rfl
  ·have h' : ¬ (n : Int) < ((ns.map V.int).length : Nat) := fun z => h (decide_eq_true z)
   rw [List.length_map] at h'
   have e : ns.getD n 0 = 0 := by rw [List.getD_eq_getElem?_getD, List.getElem?_eq_none (by omega)]; rfl
   rw [e] at k
   exact k
end
end FQ
namespace FQ
open PySem PyProof.Rows L2 FK
theorem tab_mk {K : PySem.W.Frag} {x : Str} {f c P : Addr} {o1 o2 : Value} {d1 d2 : Option Addr} {s1 s2 : Array (Option Value)} {fd : FuncData} {vs : Array Value} (a : PySem.W.nsIn K mainGlobals x = some (some (.ref f))) (l : K.lookup f = some ⟨o1, d1, .func fd, s1⟩) (hc : fd.code = .ref c)
  (t : K.lookup c = some ⟨o2, d2, .fields vs, s2⟩) (u : (vs[11]? : Option Value) = some (.ref P)) : PySem.W.tabIn K x = some (c, P) := by
 unfold PySem.W.tabIn
 simp only [a, l, hc, t, u]
theorem all_mk {l : PySem.W.OpenLaw} {q : Program} {w : World} {K : PySem.W.Frag} {h : Heap} {mg : Str → Option Value} {fa : Addr} (X : K.In h) (G : h.Ns mainGlobals mg) (hfa : mg "law" = some (.ref fa))
  {f1 : Addr} {od1 an1 : Option Addr} {sl1 : Array (Option Value)} {oc1 kV1 dc1 pm1 cd1 ct1 : Value}
  {f2 : Addr} {od2 an2 : Option Addr} {sl2 : Array (Option Value)} {oc2 kV2 dc2 pm2 cd2 ct2 : Value}
  {f3 : Addr} {od3 an3 : Option Addr} {sl3 : Array (Option Value)} {oc3 kV3 dc3 pm3 cd3 ct3 : Value}
  {f4 : Addr} {od4 an4 : Option Addr} {sl4 : Array (Option Value)} {oc4 kV4 dc4 pm4 cd4 ct4 : Value}
  {f5 : Addr} {od5 an5 : Option Addr} {sl5 : Array (Option Value)} {oc5 kV5 dc5 pm5 cd5 ct5 : Value}
  {f6 : Addr} {od6 an6 : Option Addr} {sl6 : Array (Option Value)} {oc6 kV6 dc6 pm6 cd6 ct6 : Value}
  {f7 : Addr} {od7 an7 : Option Addr} {sl7 : Array (Option Value)} {oc7 kV7 dc7 pm7 cd7 ct7 : Value}
  {f8 : Addr} {od8 an8 : Option Addr} {sl8 : Array (Option Value)} {oc8 kV8 dc8 pm8 cd8 ct8 : Value}
  {f9 : Addr} {od9 an9 : Option Addr} {sl9 : Array (Option Value)} {oc9 kV9 dc9 pm9 cd9 ct9 : Value}
  {f10 : Addr} {od10 an10 : Option Addr} {sl10 : Array (Option Value)} {oc10 kV10 dc10 pm10 cd10 ct10 : Value}
  {f11 : Addr} {od11 an11 : Option Addr} {sl11 : Array (Option Value)} {oc11 kV11 dc11 pm11 cd11 ct11 : Value}
  {f12 : Addr} {od12 an12 : Option Addr} {sl12 : Array (Option Value)} {oc12 kV12 dc12 pm12 cd12 ct12 : Value}
  {f13 : Addr} {od13 an13 : Option Addr} {sl13 : Array (Option Value)} {oc13 kV13 dc13 pm13 cd13 ct13 : Value}
  {f14 : Addr} {od14 an14 : Option Addr} {sl14 : Array (Option Value)} {oc14 kV14 dc14 pm14 cd14 ct14 : Value}
  {f15 : Addr} {od15 an15 : Option Addr} {sl15 : Array (Option Value)} {oc15 kV15 dc15 pm15 cd15 ct15 : Value}
  {f16 : Addr} {od16 an16 : Option Addr} {sl16 : Array (Option Value)} {oc16 kV16 dc16 pm16 cd16 ct16 : Value}
  {f17 : Addr} {od17 an17 : Option Addr} {sl17 : Array (Option Value)} {oc17 kV17 dc17 pm17 cd17 ct17 : Value}
  {f18 : Addr} {od18 an18 : Option Addr} {sl18 : Array (Option Value)} {oc18 kV18 dc18 pm18 cd18 ct18 : Value}
  {f19 : Addr} {od19 an19 : Option Addr} {sl19 : Array (Option Value)} {oc19 kV19 dc19 pm19 cd19 ct19 : Value}
  {f20 : Addr} {od20 an20 : Option Addr} {sl20 : Array (Option Value)} {oc20 kV20 dc20 pm20 cd20 ct20 : Value}
  {f21 : Addr} {od21 an21 : Option Addr} {sl21 : Array (Option Value)} {oc21 kV21 dc21 pm21  ct21 : Value}
  {q21 p21 : Addr} {oq21 : Value} {dq21 : Option Addr} {sq21 : Array (Option Value)} {vs21 : Array Value} {e21 : DefRec}
  {f22 : Addr} {od22 an22 : Option Addr} {sl22 : Array (Option Value)} {oc22 kV22 dc22 pm22  ct22 : Value}
  {q22 p22 : Addr} {oq22 : Value} {dq22 : Option Addr} {sq22 : Array (Option Value)} {vs22 : Array Value} {e22 : DefRec}
  {f23 : Addr} {od23 an23 : Option Addr} {sl23 : Array (Option Value)} {oc23 kV23 dc23 pm23  ct23 : Value}
  {q23 p23 : Addr} {oq23 : Value} {dq23 : Option Addr} {sq23 : Array (Option Value)} {vs23 : Array Value} {e23 : DefRec}
  {f24 : Addr} {od24 an24 : Option Addr} {sl24 : Array (Option Value)} {oc24 kV24 dc24 pm24 cd24 ct24 : Value}
  {f25 : Addr} {od25 an25 : Option Addr} {sl25 : Array (Option Value)} {oc25 kV25 dc25 pm25 cd25 ct25 : Value}
  {f26 : Addr} {od26 an26 : Option Addr} {sl26 : Array (Option Value)} {oc26 kV26 dc26 pm26 cd26 ct26 : Value}
  {f27 : Addr} {od27 an27 : Option Addr} {sl27 : Array (Option Value)} {oc27 kV27 dc27 pm27 cd27 ct27 : Value}
  {f28 : Addr} {od28 an28 : Option Addr} {sl28 : Array (Option Value)} {oc28 kV28 dc28 pm28 cd28 ct28 : Value}
  {f29 : Addr} {od29 an29 : Option Addr} {sl29 : Array (Option Value)} {oc29 kV29 dc29 pm29 cd29 ct29 : Value}
  {f30 : Addr} {od30 an30 : Option Addr} {sl30 : Array (Option Value)} {oc30 kV30 dc30 pm30 cd30 ct30 : Value}
  {f31 : Addr} {od31 an31 : Option Addr} {sl31 : Array (Option Value)} {oc31 kV31 dc31 pm31 cd31 ct31 : Value}
  {f32 : Addr} {od32 an32 : Option Addr} {sl32 : Array (Option Value)} {oc32 kV32 dc32 pm32 cd32 ct32 : Value}
  {f33 : Addr} {od33 an33 : Option Addr} {sl33 : Array (Option Value)} {oc33 kV33 dc33 pm33 cd33 ct33 : Value}
  {f34 : Addr} {od34 an34 : Option Addr} {sl34 : Array (Option Value)} {oc34 kV34 dc34 pm34 cd34 ct34 : Value}
  {f35 : Addr} {od35 an35 : Option Addr} {sl35 : Array (Option Value)} {oc35 kV35 dc35 pm35 cd35 ct35 : Value}
  {f36 : Addr} {od36 an36 : Option Addr} {sl36 : Array (Option Value)} {oc36 kV36 dc36 pm36 cd36 ct36 : Value}
  {f37 : Addr} {od37 an37 : Option Addr} {sl37 : Array (Option Value)} {oc37 kV37 dc37 pm37 cd37 ct37 : Value}
  {f38 : Addr} {od38 an38 : Option Addr} {sl38 : Array (Option Value)} {oc38 kV38 dc38 pm38 cd38 ct38 : Value}
  {f39 : Addr} {od39 an39 : Option Addr} {sl39 : Array (Option Value)} {oc39 kV39 dc39 pm39  ct39 : Value}
  {q39 p39 : Addr} {oq39 : Value} {dq39 : Option Addr} {sq39 : Array (Option Value)} {vs39 : Array Value} {e39 : DefRec}
  {C : Addr}
  {fCm0 : Addr} {odCm0 anCm0 : Option Addr} {slCm0 : Array (Option Value)} {ocCm0 kVCm0 dcCm0 pmCm0 cdCm0 ctCm0 : Value}
  {fCm1 : Addr} {odCm1 anCm1 : Option Addr} {slCm1 : Array (Option Value)} {ocCm1 kVCm1 dcCm1 pmCm1 cdCm1 ctCm1 : Value}
  {fCm2 : Addr} {odCm2 anCm2 : Option Addr} {slCm2 : Array (Option Value)} {ocCm2 kVCm2 dcCm2 pmCm2 cdCm2 ctCm2 : Value}
  {fCm3 : Addr} {odCm3 anCm3 : Option Addr} {slCm3 : Array (Option Value)} {ocCm3 kVCm3 dcCm3 pmCm3 cdCm3 ctCm3 : Value}
  {fCm4 : Addr} {odCm4 anCm4 : Option Addr} {slCm4 : Array (Option Value)} {ocCm4 kVCm4 dcCm4 pmCm4 cdCm4 ctCm4 : Value}
  {W0 : Addr}
  {fW0m0 : Addr} {odW0m0 anW0m0 : Option Addr} {slW0m0 : Array (Option Value)} {ocW0m0 kVW0m0 dcW0m0 pmW0m0 cdW0m0 ctW0m0 : Value}
  {W1 : Addr}
  {fW1m0 : Addr} {odW1m0 anW1m0 : Option Addr} {slW1m0 : Array (Option Value)} {ocW1m0 kVW1m0 dcW1m0 pmW1m0 cdW1m0 ctW1m0 : Value}
  {W2 : Addr}
  {fW2m0 : Addr} {odW2m0 anW2m0 : Option Addr} {slW2m0 : Array (Option Value)} {ocW2m0 kVW2m0 dcW2m0 pmW2m0 cdW2m0 ctW2m0 : Value}
  {W3 : Addr}
  {fW3m0 : Addr} {odW3m0 anW3m0 : Option Addr} {slW3m0 : Array (Option Value)} {ocW3m0 kVW3m0 dcW3m0 pmW3m0 cdW3m0 ctW3m0 : Value}
  {W4 : Addr}
  {fW4m0 : Addr} {odW4m0 anW4m0 : Option Addr} {slW4m0 : Array (Option Value)} {ocW4m0 kVW4m0 dcW4m0 pmW4m0 cdW4m0 ctW4m0 : Value}
  {W5 : Addr}
  {fW5m0 : Addr} {odW5m0 anW5m0 : Option Addr} {slW5m0 : Array (Option Value)} {ocW5m0 kVW5m0 dcW5m0 pmW5m0 cdW5m0 ctW5m0 : Value}
  {W6 : Addr}
  {fW6m0 : Addr} {odW6m0 anW6m0 : Option Addr} {slW6m0 : Array (Option Value)} {ocW6m0 kVW6m0 dcW6m0 pmW6m0 cdW6m0 ctW6m0 : Value}
  {aL aR : Addr} {odL odR : Option Addr} {tL uL tR uR t8 t1 t2 : Tok} {nL nR : Nat} {slL slR : Array (Option Value)}
  {cF cT cP cK cL cX cB : Addr}
  (a1 : PySem.W.nsIn K mainGlobals "is_whole" = some (some (.ref f1)))
  (l1 : K.lookup f1 = some ⟨oc1, od1, .func (PySem.W.fnOf "is_whole" "is_whole" (defArgs s_is_whole) (defBody s_is_whole) (defScope s_is_whole) .none kV1 dc1 pm1 an1 cd1 ct1), sl1⟩) (c1 : PySem.W.codeIn K cd1 "is_whole" = true) (k1 : PySem.W.keepIn K (.ref f1) = true)
  (a2 : PySem.W.nsIn K mainGlobals "greatest_divisor" = some (some (.ref f2)))
  (l2 : K.lookup f2 = some ⟨oc2, od2, .func (PySem.W.fnOf "greatest_divisor" "greatest_divisor" (defArgs s_greatest_divisor) (defBody s_greatest_divisor) (defScope s_greatest_divisor) .none kV2 dc2 pm2 an2 cd2 ct2), sl2⟩) (c2 : PySem.W.codeIn K cd2 "greatest_divisor" = true) (k2 : PySem.W.keepIn K (.ref f2) = true)
  (a3 : PySem.W.nsIn K mainGlobals "is_fraction" = some (some (.ref f3)))
  (l3 : K.lookup f3 = some ⟨oc3, od3, .func (PySem.W.fnOf "is_fraction" "is_fraction" (defArgs s_is_fraction) (defBody s_is_fraction) (defScope s_is_fraction) .none kV3 dc3 pm3 an3 cd3 ct3), sl3⟩) (c3 : PySem.W.codeIn K cd3 "is_fraction" = true) (k3 : PySem.W.keepIn K (.ref f3) = true)
  (a4 : PySem.W.nsIn K mainGlobals "made" = some (some (.ref f4)))
  (l4 : K.lookup f4 = some ⟨oc4, od4, .func (PySem.W.fnOf "made" "made" (defArgs s_made) (defBody s_made) (defScope s_made) .none kV4 dc4 pm4 an4 cd4 ct4), sl4⟩) (c4 : PySem.W.codeIn K cd4 "made" = true) (k4 : PySem.W.keepIn K (.ref f4) = true)
  (a5 : PySem.W.nsIn K mainGlobals "plus" = some (some (.ref f5)))
  (l5 : K.lookup f5 = some ⟨oc5, od5, .func (PySem.W.fnOf "plus" "plus" (defArgs s_plus) (defBody s_plus) (defScope s_plus) .none kV5 dc5 pm5 an5 cd5 ct5), sl5⟩) (c5 : PySem.W.codeIn K cd5 "plus" = true) (k5 : PySem.W.keepIn K (.ref f5) = true)
  (a6 : PySem.W.nsIn K mainGlobals "minus" = some (some (.ref f6)))
  (l6 : K.lookup f6 = some ⟨oc6, od6, .func (PySem.W.fnOf "minus" "minus" (defArgs s_minus) (defBody s_minus) (defScope s_minus) .none kV6 dc6 pm6 an6 cd6 ct6), sl6⟩) (c6 : PySem.W.codeIn K cd6 "minus" = true) (k6 : PySem.W.keepIn K (.ref f6) = true)
  (a7 : PySem.W.nsIn K mainGlobals "times" = some (some (.ref f7)))
  (l7 : K.lookup f7 = some ⟨oc7, od7, .func (PySem.W.fnOf "times" "times" (defArgs s_times) (defBody s_times) (defScope s_times) .none kV7 dc7 pm7 an7 cd7 ct7), sl7⟩) (c7 : PySem.W.codeIn K cd7 "times" = true) (k7 : PySem.W.keepIn K (.ref f7) = true)
  (a8 : PySem.W.nsIn K mainGlobals "over" = some (some (.ref f8)))
  (l8 : K.lookup f8 = some ⟨oc8, od8, .func (PySem.W.fnOf "over" "over" (defArgs s_over) (defBody s_over) (defScope s_over) .none kV8 dc8 pm8 an8 cd8 ct8), sl8⟩) (c8 : PySem.W.codeIn K cd8 "over" = true) (k8 : PySem.W.keepIn K (.ref f8) = true)
  (a9 : PySem.W.nsIn K mainGlobals "below" = some (some (.ref f9)))
  (l9 : K.lookup f9 = some ⟨oc9, od9, .func (PySem.W.fnOf "below" "below" (defArgs s_below) (defBody s_below) (defScope s_below) .none kV9 dc9 pm9 an9 cd9 ct9), sl9⟩) (c9 : PySem.W.codeIn K cd9 "below" = true) (k9 : PySem.W.keepIn K (.ref f9) = true)
  (a10 : PySem.W.nsIn K mainGlobals "apart" = some (some (.ref f10)))
  (l10 : K.lookup f10 = some ⟨oc10, od10, .func (PySem.W.fnOf "apart" "apart" (defArgs s_apart) (defBody s_apart) (defScope s_apart) .none kV10 dc10 pm10 an10 cd10 ct10), sl10⟩) (c10 : PySem.W.codeIn K cd10 "apart" = true) (k10 : PySem.W.keepIn K (.ref f10) = true)
  (a11 : PySem.W.nsIn K mainGlobals "reaches" = some (some (.ref f11)))
  (l11 : K.lookup f11 = some ⟨oc11, od11, .func (PySem.W.fnOf "reaches" "reaches" (defArgs s_reaches) (defBody s_reaches) (defScope s_reaches) .none kV11 dc11 pm11 an11 cd11 ct11), sl11⟩) (c11 : PySem.W.codeIn K cd11 "reaches" = true) (k11 : PySem.W.keepIn K (.ref f11) = true)
  (a12 : PySem.W.nsIn K mainGlobals "crossing" = some (some (.ref f12)))
  (l12 : K.lookup f12 = some ⟨oc12, od12, .func (PySem.W.fnOf "crossing" "crossing" (defArgs s_crossing) (defBody s_crossing) (defScope s_crossing) .none kV12 dc12 pm12 an12 cd12 ct12), sl12⟩) (c12 : PySem.W.codeIn K cd12 "crossing" = true) (k12 : PySem.W.keepIn K (.ref f12) = true)
  (a13 : PySem.W.nsIn K mainGlobals "reached" = some (some (.ref f13)))
  (l13 : K.lookup f13 = some ⟨oc13, od13, .func (PySem.W.fnOf "reached" "reached" (defArgs s_reached) (defBody s_reached) (defScope s_reached) .none kV13 dc13 pm13 an13 cd13 ct13), sl13⟩) (c13 : PySem.W.codeIn K cd13 "reached" = true) (k13 : PySem.W.keepIn K (.ref f13) = true)
  (a14 : PySem.W.nsIn K mainGlobals "is_span" = some (some (.ref f14)))
  (l14 : K.lookup f14 = some ⟨oc14, od14, .func (PySem.W.fnOf "is_span" "is_span" (defArgs s_is_span) (defBody s_is_span) (defScope s_is_span) .none kV14 dc14 pm14 an14 cd14 ct14), sl14⟩) (c14 : PySem.W.codeIn K cd14 "is_span" = true) (k14 : PySem.W.keepIn K (.ref f14) = true)
  (a15 : PySem.W.nsIn K mainGlobals "check_piece" = some (some (.ref f15)))
  (l15 : K.lookup f15 = some ⟨oc15, od15, .func (PySem.W.fnOf "check_piece" "check_piece" (defArgs s_check_piece) (defBody s_check_piece) (defScope s_check_piece) .none kV15 dc15 pm15 an15 cd15 ct15), sl15⟩) (c15 : PySem.W.codeIn K cd15 "check_piece" = true) (k15 : PySem.W.keepIn K (.ref f15) = true)
  (a16 : PySem.W.nsIn K mainGlobals "check_step" = some (some (.ref f16)))
  (l16 : K.lookup f16 = some ⟨oc16, od16, .func (PySem.W.fnOf "check_step" "check_step" (defArgs s_check_step) (defBody s_check_step) (defScope s_check_step) .none kV16 dc16 pm16 an16 cd16 ct16), sl16⟩) (c16 : PySem.W.codeIn K cd16 "check_step" = true) (k16 : PySem.W.keepIn K (.ref f16) = true)
  (a17 : PySem.W.nsIn K mainGlobals "check_steps" = some (some (.ref f17)))
  (l17 : K.lookup f17 = some ⟨oc17, od17, .func (PySem.W.fnOf "check_steps" "check_steps" (defArgs s_check_steps) (defBody s_check_steps) (defScope s_check_steps) .none kV17 dc17 pm17 an17 cd17 ct17), sl17⟩) (c17 : PySem.W.codeIn K cd17 "check_steps" = true) (k17 : PySem.W.keepIn K (.ref f17) = true)
  (a18 : PySem.W.nsIn K mainGlobals "worth_line" = some (some (.ref f18)))
  (l18 : K.lookup f18 = some ⟨oc18, od18, .func (PySem.W.fnOf "worth_line" "worth_line" (defArgs s_worth_line) (defBody s_worth_line) (defScope s_worth_line) .none kV18 dc18 pm18 an18 cd18 ct18), sl18⟩) (c18 : PySem.W.codeIn K cd18 "worth_line" = true) (k18 : PySem.W.keepIn K (.ref f18) = true)
  (a19 : PySem.W.nsIn K mainGlobals "whole" = some (some (.ref f19)))
  (l19 : K.lookup f19 = some ⟨oc19, od19, .func (PySem.W.fnOf "whole" "whole" (defArgs s_whole) (defBody s_whole) (defScope s_whole) .none kV19 dc19 pm19 an19 cd19 ct19), sl19⟩) (c19 : PySem.W.codeIn K cd19 "whole" = true) (k19 : PySem.W.keepIn K (.ref f19) = true)
  (a20 : PySem.W.nsIn K mainGlobals "combined" = some (some (.ref f20)))
  (l20 : K.lookup f20 = some ⟨oc20, od20, .func (PySem.W.fnOf "combined" "combined" (defArgs s_combined) (defBody s_combined) (defScope s_combined) .none kV20 dc20 pm20 an20 cd20 ct20), sl20⟩) (c20 : PySem.W.codeIn K cd20 "combined" = true) (k20 : PySem.W.keepIn K (.ref f20) = true)
  (a21 : PySem.W.nsIn K mainGlobals "joined" = some (some (.ref f21)))
  (l21 : K.lookup f21 = some ⟨oc21, od21, .func (PySem.W.fnOf "joined" "joined" (defArgs s_joined) (defBody s_joined) (defScope s_joined) .none kV21 dc21 pm21 an21 (.ref q21) ct21), sl21⟩) (c21 : PySem.W.codeIn K (.ref q21) "joined" = true) (k21 : PySem.W.keepIn K (.ref f21) = true)
  (t21 : K.lookup q21 = some ⟨oq21, dq21, .fields vs21, sq21⟩) (u21 : (vs21[11]? : Option Value) = some (.ref p21)) (r21 : (recsOf q).find? (fun e => e.name == ("joined" : Str)) = some e21)
  (a22 : PySem.W.nsIn K mainGlobals "shared" = some (some (.ref f22)))
  (l22 : K.lookup f22 = some ⟨oc22, od22, .func (PySem.W.fnOf "shared" "shared" (defArgs s_shared) (defBody s_shared) (defScope s_shared) .none kV22 dc22 pm22 an22 (.ref q22) ct22), sl22⟩) (c22 : PySem.W.codeIn K (.ref q22) "shared" = true) (k22 : PySem.W.keepIn K (.ref f22) = true)
  (t22 : K.lookup q22 = some ⟨oq22, dq22, .fields vs22, sq22⟩) (u22 : (vs22[11]? : Option Value) = some (.ref p22)) (r22 : (recsOf q).find? (fun e => e.name == ("shared" : Str)) = some e22)
  (a23 : PySem.W.nsIn K mainGlobals "without" = some (some (.ref f23)))
  (l23 : K.lookup f23 = some ⟨oc23, od23, .func (PySem.W.fnOf "without" "without" (defArgs s_without) (defBody s_without) (defScope s_without) .none kV23 dc23 pm23 an23 (.ref q23) ct23), sl23⟩) (c23 : PySem.W.codeIn K (.ref q23) "without" = true) (k23 : PySem.W.keepIn K (.ref f23) = true)
  (t23 : K.lookup q23 = some ⟨oq23, dq23, .fields vs23, sq23⟩) (u23 : (vs23[11]? : Option Value) = some (.ref p23)) (r23 : (recsOf q).find? (fun e => e.name == ("without" : Str)) = some e23)
  (a24 : PySem.W.nsIn K mainGlobals "deals" = some (some (.ref f24)))
  (l24 : K.lookup f24 = some ⟨oc24, od24, .func (PySem.W.fnOf "deals" "deals" (defArgs s_deals) (defBody s_deals) (defScope s_deals) .none kV24 dc24 pm24 an24 cd24 ct24), sl24⟩) (c24 : PySem.W.codeIn K cd24 "deals" = true) (k24 : PySem.W.keepIn K (.ref f24) = true)
  (a25 : PySem.W.nsIn K mainGlobals "check_tastes" = some (some (.ref f25)))
  (l25 : K.lookup f25 = some ⟨oc25, od25, .func (PySem.W.fnOf "check_tastes" "check_tastes" (defArgs s_check_tastes) (defBody s_check_tastes) (defScope s_check_tastes) .none kV25 dc25 pm25 an25 cd25 ct25), sl25⟩) (c25 : PySem.W.codeIn K cd25 "check_tastes" = true) (k25 : PySem.W.keepIn K (.ref f25) = true)
  (a26 : PySem.W.nsIn K mainGlobals "envy" = some (some (.ref f26)))
  (l26 : K.lookup f26 = some ⟨oc26, od26, .func (PySem.W.fnOf "envy" "envy" (defArgs s_envy) (defBody s_envy) (defScope s_envy) .none kV26 dc26 pm26 an26 cd26 ct26), sl26⟩) (c26 : PySem.W.codeIn K cd26 "envy" = true) (k26 : PySem.W.keepIn K (.ref f26) = true)
  (a27 : PySem.W.nsIn K mainGlobals "piece_text" = some (some (.ref f27)))
  (l27 : K.lookup f27 = some ⟨oc27, od27, .func (PySem.W.fnOf "piece_text" "piece_text" (defArgs s_piece_text) (defBody s_piece_text) (defScope s_piece_text) .none kV27 dc27 pm27 an27 cd27 ct27), sl27⟩) (c27 : PySem.W.codeIn K cd27 "piece_text" = true) (k27 : PySem.W.keepIn K (.ref f27) = true)
  (a28 : PySem.W.nsIn K mainGlobals "check_takers" = some (some (.ref f28)))
  (l28 : K.lookup f28 = some ⟨oc28, od28, .func (PySem.W.fnOf "check_takers" "check_takers" (defArgs s_check_takers) (defBody s_check_takers) (defScope s_check_takers) .none kV28 dc28 pm28 an28 cd28 ct28), sl28⟩) (c28 : PySem.W.codeIn K cd28 "check_takers" = true) (k28 : PySem.W.keepIn K (.ref f28) = true)
  (a29 : PySem.W.nsIn K mainGlobals "_law_cell_at" = some (some (.ref f29)))
  (l29 : K.lookup f29 = some ⟨oc29, od29, .func (PySem.W.fnOf "_law_cell_at" "_law_cell_at" (defArgs s__law_cell_at) (defBody s__law_cell_at) (defScope s__law_cell_at) .none kV29 dc29 pm29 an29 cd29 ct29), sl29⟩) (c29 : PySem.W.codeIn K cd29 "_law_cell_at" = true) (k29 : PySem.W.keepIn K (.ref f29) = true)
  (a30 : PySem.W.nsIn K mainGlobals "_law_kinds" = some (some (.ref f30)))
  (l30 : K.lookup f30 = some ⟨oc30, od30, .func (PySem.W.fnOf "_law_kinds" "_law_kinds" (defArgs s__law_kinds) (defBody s__law_kinds) (defScope s__law_kinds) .none kV30 dc30 pm30 an30 cd30 ct30), sl30⟩) (c30 : PySem.W.codeIn K cd30 "_law_kinds" = true) (k30 : PySem.W.keepIn K (.ref f30) = true)
  (a31 : PySem.W.nsIn K mainGlobals "_law_told" = some (some (.ref f31)))
  (l31 : K.lookup f31 = some ⟨oc31, od31, .func (PySem.W.fnOf "_law_told" "_law_told" (defArgs s__law_told) (defBody s__law_told) (defScope s__law_told) .none kV31 dc31 pm31 an31 cd31 ct31), sl31⟩) (c31 : PySem.W.codeIn K cd31 "_law_told" = true) (k31 : PySem.W.keepIn K (.ref f31) = true)
  (a32 : PySem.W.nsIn K mainGlobals "_law_due" = some (some (.ref f32)))
  (l32 : K.lookup f32 = some ⟨oc32, od32, .func (PySem.W.fnOf "_law_due" "_law_due" (defArgs s__law_due) (defBody s__law_due) (defScope s__law_due) .none kV32 dc32 pm32 an32 cd32 ct32), sl32⟩) (c32 : PySem.W.codeIn K cd32 "_law_due" = true) (k32 : PySem.W.keepIn K (.ref f32) = true)
  (a33 : PySem.W.nsIn K mainGlobals "_law_bad_steps" = some (some (.ref f33)))
  (l33 : K.lookup f33 = some ⟨oc33, od33, .func (PySem.W.fnOf "_law_bad_steps" "_law_bad_steps" (defArgs s__law_bad_steps) (defBody s__law_bad_steps) (defScope s__law_bad_steps) .none kV33 dc33 pm33 an33 cd33 ct33), sl33⟩) (c33 : PySem.W.codeIn K cd33 "_law_bad_steps" = true) (k33 : PySem.W.keepIn K (.ref f33) = true)
  (a34 : PySem.W.nsIn K mainGlobals "_law_bad_pieces" = some (some (.ref f34)))
  (l34 : K.lookup f34 = some ⟨oc34, od34, .func (PySem.W.fnOf "_law_bad_pieces" "_law_bad_pieces" (defArgs s__law_bad_pieces) (defBody s__law_bad_pieces) (defScope s__law_bad_pieces) .none kV34 dc34 pm34 an34 cd34 ct34), sl34⟩) (c34 : PySem.W.codeIn K cd34 "_law_bad_pieces" = true) (k34 : PySem.W.keepIn K (.ref f34) = true)
  (a35 : PySem.W.nsIn K mainGlobals "_law_with_numbers" = some (some (.ref f35)))
  (l35 : K.lookup f35 = some ⟨oc35, od35, .func (PySem.W.fnOf "_law_with_numbers" "_law_with_numbers" (defArgs s__law_with_numbers) (defBody s__law_with_numbers) (defScope s__law_with_numbers) .none kV35 dc35 pm35 an35 cd35 ct35), sl35⟩) (c35 : PySem.W.codeIn K cd35 "_law_with_numbers" = true) (k35 : PySem.W.keepIn K (.ref f35) = true)
  (a36 : PySem.W.nsIn K mainGlobals "_law_with_piece" = some (some (.ref f36)))
  (l36 : K.lookup f36 = some ⟨oc36, od36, .func (PySem.W.fnOf "_law_with_piece" "_law_with_piece" (defArgs s__law_with_piece) (defBody s__law_with_piece) (defScope s__law_with_piece) .none kV36 dc36 pm36 an36 cd36 ct36), sl36⟩) (c36 : PySem.W.codeIn K cd36 "_law_with_piece" = true) (k36 : PySem.W.keepIn K (.ref f36) = true)
  (a37 : PySem.W.nsIn K mainGlobals "_law_with_takers" = some (some (.ref f37)))
  (l37 : K.lookup f37 = some ⟨oc37, od37, .func (PySem.W.fnOf "_law_with_takers" "_law_with_takers" (defArgs s__law_with_takers) (defBody s__law_with_takers) (defScope s__law_with_takers) .none kV37 dc37 pm37 an37 cd37 ct37), sl37⟩) (c37 : PySem.W.codeIn K cd37 "_law_with_takers" = true) (k37 : PySem.W.keepIn K (.ref f37) = true)
  (a38 : PySem.W.nsIn K mainGlobals "_law_with_shares" = some (some (.ref f38)))
  (l38 : K.lookup f38 = some ⟨oc38, od38, .func (PySem.W.fnOf "_law_with_shares" "_law_with_shares" (defArgs s__law_with_shares) (defBody s__law_with_shares) (defScope s__law_with_shares) .none kV38 dc38 pm38 an38 cd38 ct38), sl38⟩) (c38 : PySem.W.codeIn K cd38 "_law_with_shares" = true) (k38 : PySem.W.keepIn K (.ref f38) = true)
  (a39 : PySem.W.nsIn K mainGlobals "law" = some (some (.ref f39)))
  (l39 : K.lookup f39 = some ⟨oc39, od39, .func (PySem.W.fnOf "law" "law" (defArgs s_law) (defBody s_law) (defScope s_law) .none kV39 dc39 pm39 an39 (.ref q39) ct39), sl39⟩) (c39 : PySem.W.codeIn K (.ref q39) "law" = true) (k39 : PySem.W.keepIn K (.ref f39) = true)
  (t39 : K.lookup q39 = some ⟨oq39, dq39, .fields vs39, sq39⟩) (u39 : (vs39[11]? : Option Value) = some (.ref p39)) (r39 : (recsOf q).find? (fun e => e.name == ("law" : Str)) = some e39)
  (d21_22 : p21 ≠ p22)
  (d21_23 : p21 ≠ p23)
  (d21_39 : p21 ≠ p39)
  (d22_23 : p22 ≠ p23)
  (d22_39 : p22 ≠ p39)
  (d23_39 : p23 ≠ p39)
  (nt : PySem.W.noTabs K = true)
  (aC : PySem.W.nsIn K mainGlobals "Taste" = some (some (.ref C)))
  (aCm0 : PySem.W.findIn K (.ref C) "__init__" = some (some (.ref fCm0)))
  (lCm0 : K.lookup fCm0 = some ⟨ocCm0, odCm0, .func (PySem.W.fnOf "__init__" "Taste.__init__" (defArgs m_Taste___init__) (defBody m_Taste___init__) (defScope m_Taste___init__) .none kVCm0 dcCm0 pmCm0 anCm0 cdCm0 ctCm0), slCm0⟩) (cCm0 : PySem.W.codeIn K cdCm0 "Taste.__init__" = true) (kCm0 : PySem.W.keepIn K (.ref fCm0) = true)
  (iCm0 : PySem.W.isFn K (.ref fCm0) = true)
  (aCm1 : PySem.W.findIn K (.ref C) "worth_up_to" = some (some (.ref fCm1)))
  (lCm1 : K.lookup fCm1 = some ⟨ocCm1, odCm1, .func (PySem.W.fnOf "worth_up_to" "Taste.worth_up_to" (defArgs m_Taste_worth_up_to) (defBody m_Taste_worth_up_to) (defScope m_Taste_worth_up_to) .none kVCm1 dcCm1 pmCm1 anCm1 cdCm1 ctCm1), slCm1⟩) (cCm1 : PySem.W.codeIn K cdCm1 "Taste.worth_up_to" = true) (kCm1 : PySem.W.keepIn K (.ref fCm1) = true)
  (iCm1 : PySem.W.isFn K (.ref fCm1) = true)
  (aCm2 : PySem.W.findIn K (.ref C) "span_worth" = some (some (.ref fCm2)))
  (lCm2 : K.lookup fCm2 = some ⟨ocCm2, odCm2, .func (PySem.W.fnOf "span_worth" "Taste.span_worth" (defArgs m_Taste_span_worth) (defBody m_Taste_span_worth) (defScope m_Taste_span_worth) .none kVCm2 dcCm2 pmCm2 anCm2 cdCm2 ctCm2), slCm2⟩) (cCm2 : PySem.W.codeIn K cdCm2 "Taste.span_worth" = true) (kCm2 : PySem.W.keepIn K (.ref fCm2) = true)
  (iCm2 : PySem.W.isFn K (.ref fCm2) = true)
  (aCm3 : PySem.W.findIn K (.ref C) "worth" = some (some (.ref fCm3)))
  (lCm3 : K.lookup fCm3 = some ⟨ocCm3, odCm3, .func (PySem.W.fnOf "worth" "Taste.worth" (defArgs m_Taste_worth) (defBody m_Taste_worth) (defScope m_Taste_worth) .none kVCm3 dcCm3 pmCm3 anCm3 cdCm3 ctCm3), slCm3⟩) (cCm3 : PySem.W.codeIn K cdCm3 "Taste.worth" = true) (kCm3 : PySem.W.keepIn K (.ref fCm3) = true)
  (iCm3 : PySem.W.isFn K (.ref fCm3) = true)
  (aCm4 : PySem.W.findIn K (.ref C) "cut" = some (some (.ref fCm4)))
  (lCm4 : K.lookup fCm4 = some ⟨ocCm4, odCm4, .func (PySem.W.fnOf "cut" "Taste.cut" (defArgs m_Taste_cut) (defBody m_Taste_cut) (defScope m_Taste_cut) .none kVCm4 dcCm4 pmCm4 anCm4 cdCm4 ctCm4), slCm4⟩) (cCm4 : PySem.W.codeIn K cdCm4 "Taste.cut" = true) (kCm4 : PySem.W.keepIn K (.ref fCm4) = true)
  (iCm4 : PySem.W.isFn K (.ref fCm4) = true)
  (pgC : PySem.W.plainGet K C Str.empty = true)
  (hdC : PySem.W.hasDictIn K C = true)
  (poC : PySem.W.plainOver K C = true)
  (saC : PySem.W.findIn K (.ref C) "__setattr__" = some (some (.builtin "object.__setattr__")))
  (mkC : PySem.W.makesIn K C = true)
  (kcC : PySem.W.keepIn K (.ref C) = true)
  (nCtold : PySem.W.findIn K (.ref C) "told" = some none)
  (nCline : PySem.W.findIn K (.ref C) "line" = some none)
  (aW0 : PySem.W.nsIn K mainGlobals "Choose" = some (some (.ref W0)))
  (aW0m0 : PySem.W.findIn K (.ref W0) "deal" = some (some (.ref fW0m0)))
  (lW0m0 : K.lookup fW0m0 = some ⟨ocW0m0, odW0m0, .func (PySem.W.fnOf "deal" "Choose.deal" (defArgs m_Choose_deal) (defBody m_Choose_deal) (defScope m_Choose_deal) .none kVW0m0 dcW0m0 pmW0m0 anW0m0 cdW0m0 ctW0m0), slW0m0⟩) (cW0m0 : PySem.W.codeIn K cdW0m0 "Choose.deal" = true) (kW0m0 : PySem.W.keepIn K (.ref fW0m0) = true)
  (iW0m0 : PySem.W.isFn K (.ref fW0m0) = true)
  (pgW0 : PySem.W.plainGet K W0 Str.empty = true)
  (hdW0 : PySem.W.hasDictIn K W0 = true)
  (poW0 : PySem.W.plainOver K W0 = true)
  (saW0 : PySem.W.findIn K (.ref W0) "__setattr__" = some (some (.builtin "object.__setattr__")))
  (mkW0 : PySem.W.makesIn K W0 = true)
  (kcW0 : PySem.W.keepIn K (.ref W0) = true)
  (aW1 : PySem.W.nsIn K mainGlobals "Last" = some (some (.ref W1)))
  (aW1m0 : PySem.W.findIn K (.ref W1) "deal" = some (some (.ref fW1m0)))
  (lW1m0 : K.lookup fW1m0 = some ⟨ocW1m0, odW1m0, .func (PySem.W.fnOf "deal" "Last.deal" (defArgs m_Last_deal) (defBody m_Last_deal) (defScope m_Last_deal) .none kVW1m0 dcW1m0 pmW1m0 anW1m0 cdW1m0 ctW1m0), slW1m0⟩) (cW1m0 : PySem.W.codeIn K cdW1m0 "Last.deal" = true) (kW1m0 : PySem.W.keepIn K (.ref fW1m0) = true)
  (iW1m0 : PySem.W.isFn K (.ref fW1m0) = true)
  (pgW1 : PySem.W.plainGet K W1 Str.empty = true)
  (hdW1 : PySem.W.hasDictIn K W1 = true)
  (poW1 : PySem.W.plainOver K W1 = true)
  (saW1 : PySem.W.findIn K (.ref W1) "__setattr__" = some (some (.builtin "object.__setattr__")))
  (mkW1 : PySem.W.makesIn K W1 = true)
  (kcW1 : PySem.W.keepIn K (.ref W1) = true)
  (aW2 : PySem.W.nsIn K mainGlobals "Halves" = some (some (.ref W2)))
  (aW2m0 : PySem.W.findIn K (.ref W2) "deal" = some (some (.ref fW2m0)))
  (lW2m0 : K.lookup fW2m0 = some ⟨ocW2m0, odW2m0, .func (PySem.W.fnOf "deal" "Halves.deal" (defArgs m_Halves_deal) (defBody m_Halves_deal) (defScope m_Halves_deal) .none kVW2m0 dcW2m0 pmW2m0 anW2m0 cdW2m0 ctW2m0), slW2m0⟩) (cW2m0 : PySem.W.codeIn K cdW2m0 "Halves.deal" = true) (kW2m0 : PySem.W.keepIn K (.ref fW2m0) = true)
  (iW2m0 : PySem.W.isFn K (.ref fW2m0) = true)
  (pgW2 : PySem.W.plainGet K W2 Str.empty = true)
  (hdW2 : PySem.W.hasDictIn K W2 = true)
  (poW2 : PySem.W.plainOver K W2 = true)
  (saW2 : PySem.W.findIn K (.ref W2) "__setattr__" = some (some (.builtin "object.__setattr__")))
  (mkW2 : PySem.W.makesIn K W2 = true)
  (kcW2 : PySem.W.keepIn K (.ref W2) = true)
  (aW3 : PySem.W.nsIn K mainGlobals "Three" = some (some (.ref W3)))
  (aW3m0 : PySem.W.findIn K (.ref W3) "deal" = some (some (.ref fW3m0)))
  (lW3m0 : K.lookup fW3m0 = some ⟨ocW3m0, odW3m0, .func (PySem.W.fnOf "deal" "Three.deal" (defArgs m_Three_deal) (defBody m_Three_deal) (defScope m_Three_deal) .none kVW3m0 dcW3m0 pmW3m0 anW3m0 cdW3m0 ctW3m0), slW3m0⟩) (cW3m0 : PySem.W.codeIn K cdW3m0 "Three.deal" = true) (kW3m0 : PySem.W.keepIn K (.ref fW3m0) = true)
  (iW3m0 : PySem.W.isFn K (.ref fW3m0) = true)
  (pgW3 : PySem.W.plainGet K W3 Str.empty = true)
  (hdW3 : PySem.W.hasDictIn K W3 = true)
  (poW3 : PySem.W.plainOver K W3 = true)
  (saW3 : PySem.W.findIn K (.ref W3) "__setattr__" = some (some (.builtin "object.__setattr__")))
  (mkW3 : PySem.W.makesIn K W3 = true)
  (kcW3 : PySem.W.keepIn K (.ref W3) = true)
  (aW4 : PySem.W.nsIn K mainGlobals "Even" = some (some (.ref W4)))
  (aW4m0 : PySem.W.findIn K (.ref W4) "deal" = some (some (.ref fW4m0)))
  (lW4m0 : K.lookup fW4m0 = some ⟨ocW4m0, odW4m0, .func (PySem.W.fnOf "deal" "Even.deal" (defArgs m_Even_deal) (defBody m_Even_deal) (defScope m_Even_deal) .none kVW4m0 dcW4m0 pmW4m0 anW4m0 cdW4m0 ctW4m0), slW4m0⟩) (cW4m0 : PySem.W.codeIn K cdW4m0 "Even.deal" = true) (kW4m0 : PySem.W.keepIn K (.ref fW4m0) = true)
  (iW4m0 : PySem.W.isFn K (.ref fW4m0) = true)
  (pgW4 : PySem.W.plainGet K W4 Str.empty = true)
  (hdW4 : PySem.W.hasDictIn K W4 = true)
  (poW4 : PySem.W.plainOver K W4 = true)
  (saW4 : PySem.W.findIn K (.ref W4) "__setattr__" = some (some (.builtin "object.__setattr__")))
  (mkW4 : PySem.W.makesIn K W4 = true)
  (kcW4 : PySem.W.keepIn K (.ref W4) = true)
  (aW5 : PySem.W.nsIn K mainGlobals "Alike" = some (some (.ref W5)))
  (aW5m0 : PySem.W.findIn K (.ref W5) "deal" = some (some (.ref fW5m0)))
  (lW5m0 : K.lookup fW5m0 = some ⟨ocW5m0, odW5m0, .func (PySem.W.fnOf "deal" "Alike.deal" (defArgs m_Alike_deal) (defBody m_Alike_deal) (defScope m_Alike_deal) .none kVW5m0 dcW5m0 pmW5m0 anW5m0 cdW5m0 ctW5m0), slW5m0⟩) (cW5m0 : PySem.W.codeIn K cdW5m0 "Alike.deal" = true) (kW5m0 : PySem.W.keepIn K (.ref fW5m0) = true)
  (iW5m0 : PySem.W.isFn K (.ref fW5m0) = true)
  (pgW5 : PySem.W.plainGet K W5 Str.empty = true)
  (hdW5 : PySem.W.hasDictIn K W5 = true)
  (poW5 : PySem.W.plainOver K W5 = true)
  (saW5 : PySem.W.findIn K (.ref W5) "__setattr__" = some (some (.builtin "object.__setattr__")))
  (mkW5 : PySem.W.makesIn K W5 = true)
  (kcW5 : PySem.W.keepIn K (.ref W5) = true)
  (aW6 : PySem.W.nsIn K mainGlobals "Way" = some (some (.ref W6)))
  (aW6m0 : PySem.W.findIn K (.ref W6) "deal" = some (some (.ref fW6m0)))
  (lW6m0 : K.lookup fW6m0 = some ⟨ocW6m0, odW6m0, .func (PySem.W.fnOf "deal" "Way.deal" (defArgs m_Way_deal) (defBody m_Way_deal) (defScope m_Way_deal) .none kVW6m0 dcW6m0 pmW6m0 anW6m0 cdW6m0 ctW6m0), slW6m0⟩) (cW6m0 : PySem.W.codeIn K cdW6m0 "Way.deal" = true) (kW6m0 : PySem.W.keepIn K (.ref fW6m0) = true)
  (iW6m0 : PySem.W.isFn K (.ref fW6m0) = true)
  (pgW6 : PySem.W.plainGet K W6 Str.empty = true)
  (hdW6 : PySem.W.hasDictIn K W6 = true)
  (poW6 : PySem.W.plainOver K W6 = true)
  (saW6 : PySem.W.findIn K (.ref W6) "__setattr__" = some (some (.builtin "object.__setattr__")))
  (mkW6 : PySem.W.makesIn K W6 = true)
  (kcW6 : PySem.W.keepIn K (.ref W6) = true)
  (z1 : PySem.W.nsIn K mainGlobals "isinstance" = some none)
  (z2 : PySem.W.nsIn K mainGlobals "int" = some none)
  (z3 : PySem.W.nsIn K mainGlobals "bool" = some none)
  (z4 : PySem.W.nsIn K mainGlobals "tuple" = some none)
  (z5 : PySem.W.nsIn K mainGlobals "list" = some none)
  (z6 : PySem.W.nsIn K mainGlobals "len" = some none)
  (z7 : PySem.W.nsIn K mainGlobals "range" = some none)
  (z8 : PySem.W.nsIn K mainGlobals "zip" = some none)
  (z9 : PySem.W.nsIn K mainGlobals "sorted" = some none)
  (z10 : PySem.W.nsIn K mainGlobals "any" = some none)
  (z11 : PySem.W.nsIn K mainGlobals "enumerate" = some none)
  (z12 : PySem.W.nsIn K mainGlobals "reversed" = some none)
  (eL : PySem.W.nsIn K mainGlobals "LEFT_END" = some (some (.ref aL)))
  (eLo : K.lookup aL = some ⟨.type "tuple", odL, .seq #[.int 0 tL, .int 1 uL] nL, slL⟩)
  (eR : PySem.W.nsIn K mainGlobals "RIGHT_END" = some (some (.ref aR)))
  (eRo : K.lookup aR = some ⟨.type "tuple", odR, .seq #[.int 1 tR, .int 1 uR] nR, slR⟩)
  (e8 : PySem.W.nsIn K mainGlobals "MOST_STEPS" = some (some (.int 8 t8)))
  (e1 : PySem.W.nsIn K mainGlobals "GREATEST_SECOND_NUMBER" = some (some (.int 1000 t1)))
  (e2 : PySem.W.nsIn K mainGlobals "GREATEST_WEIGHT" = some (some (.int 1000 t2)))
  (haC : PySem.W.findIn K (.ref C) "__class__" = some (some (.builtin "object.__class__")))
  (hnC : PySem.W.specialIn K (.builtin "object.__class__") "__get__" = some (some (.builtin "getset_descriptor.__get__")))
  (htC : PySem.W.takesIn K (.builtin "object.__class__") = some true)
  (hmC : PySem.W.mroIn K C (.type "object") = some true)
  (oiW0 : PySem.W.findIn K (.ref W0) "__init__" = some (some (.builtin "object.__init__")))
  (oiW1 : PySem.W.findIn K (.ref W1) "__init__" = some (some (.builtin "object.__init__")))
  (oiW2 : PySem.W.findIn K (.ref W2) "__init__" = some (some (.builtin "object.__init__")))
  (oiW3 : PySem.W.findIn K (.ref W3) "__init__" = some (some (.builtin "object.__init__")))
  (oiW4 : PySem.W.findIn K (.ref W4) "__init__" = some (some (.builtin "object.__init__")))
  (oiW5 : PySem.W.findIn K (.ref W5) "__init__" = some (some (.builtin "object.__init__")))
  (oiW6 : PySem.W.findIn K (.ref W6) "__init__" = some (some (.builtin "object.__init__")))
  (axF : PySem.W.nsIn K mainGlobals "BadFraction" = some (some (.ref cF)))
  (axT : PySem.W.nsIn K mainGlobals "BadTaste" = some (some (.ref cT)))
  (axP : PySem.W.nsIn K mainGlobals "BadPiece" = some (some (.ref cP)))
  (axK : PySem.W.nsIn K mainGlobals "BadTakers" = some (some (.ref cK)))
  (axL : PySem.W.nsIn K mainGlobals "TooLittle" = some (some (.ref cL)))
  (axX : PySem.W.nsIn K mainGlobals "BadText" = some (some (.ref cX)))
  (axB : PySem.W.nsIn K mainGlobals "CakeError" = some (some (.ref cB)))
  (zV : PySem.W.nsIn K mainGlobals "ValueError" = some none)
  (btB : PySem.W.typeIn K (.ref cB) = some (.type "type"))
  (bhB : PySem.W.mroIn K cB (.type "BaseException") = some true)
  (exF : PySem.W.excIn K cF [.type "ValueError", .type "Exception", .type "BaseException", .type "object"] "ValueError.__new__" = true)
  (gaF : PySem.W.findIn K (.ref cF) "__getattribute__" = some (some (.builtin "BaseException.__getattribute__")))
  (hkF : PySem.W.findIn K (.ref cF) "__getattr__" = some none)
  (ccF : PySem.W.findIn K (.ref cF) "__class__" = some (some (.builtin "object.__class__")))
  (hoF : PySem.W.mroIn K cF (.type "object") = some true)
  (hbF : PySem.W.mroIn K cF (.type "BaseException") = some true)
  (kFF : PySem.W.kitOne K (.ref cF) (.ref cF) = some true)
  (kFT : PySem.W.kitOne K (.ref cF) (.ref cT) = some false)
  (kFP : PySem.W.kitOne K (.ref cF) (.ref cP) = some false)
  (kFK : PySem.W.kitOne K (.ref cF) (.ref cK) = some false)
  (kFL : PySem.W.kitOne K (.ref cF) (.ref cL) = some false)
  (kFV : PySem.W.kitOne K (.ref cF) (.type "ValueError") = some true)
  (kFX : PySem.W.kitOne K (.ref cF) (.ref cX) = some false)
  (kFB : PySem.W.mroIn K cF (.ref cB) = some true)
  (exT : PySem.W.excIn K cT [.type "ValueError", .type "Exception", .type "BaseException", .type "object"] "ValueError.__new__" = true)
  (gaT : PySem.W.findIn K (.ref cT) "__getattribute__" = some (some (.builtin "BaseException.__getattribute__")))
  (hkT : PySem.W.findIn K (.ref cT) "__getattr__" = some none)
  (ccT : PySem.W.findIn K (.ref cT) "__class__" = some (some (.builtin "object.__class__")))
  (hoT : PySem.W.mroIn K cT (.type "object") = some true)
  (hbT : PySem.W.mroIn K cT (.type "BaseException") = some true)
  (kTF : PySem.W.kitOne K (.ref cT) (.ref cF) = some false)
  (kTT : PySem.W.kitOne K (.ref cT) (.ref cT) = some true)
  (kTP : PySem.W.kitOne K (.ref cT) (.ref cP) = some false)
  (kTK : PySem.W.kitOne K (.ref cT) (.ref cK) = some false)
  (kTL : PySem.W.kitOne K (.ref cT) (.ref cL) = some false)
  (kTV : PySem.W.kitOne K (.ref cT) (.type "ValueError") = some true)
  (kTX : PySem.W.kitOne K (.ref cT) (.ref cX) = some false)
  (kTB : PySem.W.mroIn K cT (.ref cB) = some true)
  (exP : PySem.W.excIn K cP [.type "ValueError", .type "Exception", .type "BaseException", .type "object"] "ValueError.__new__" = true)
  (gaP : PySem.W.findIn K (.ref cP) "__getattribute__" = some (some (.builtin "BaseException.__getattribute__")))
  (hkP : PySem.W.findIn K (.ref cP) "__getattr__" = some none)
  (ccP : PySem.W.findIn K (.ref cP) "__class__" = some (some (.builtin "object.__class__")))
  (hoP : PySem.W.mroIn K cP (.type "object") = some true)
  (hbP : PySem.W.mroIn K cP (.type "BaseException") = some true)
  (kPF : PySem.W.kitOne K (.ref cP) (.ref cF) = some false)
  (kPT : PySem.W.kitOne K (.ref cP) (.ref cT) = some false)
  (kPP : PySem.W.kitOne K (.ref cP) (.ref cP) = some true)
  (kPK : PySem.W.kitOne K (.ref cP) (.ref cK) = some false)
  (kPL : PySem.W.kitOne K (.ref cP) (.ref cL) = some false)
  (kPV : PySem.W.kitOne K (.ref cP) (.type "ValueError") = some true)
  (kPX : PySem.W.kitOne K (.ref cP) (.ref cX) = some false)
  (kPB : PySem.W.mroIn K cP (.ref cB) = some true)
  (exK : PySem.W.excIn K cK [.type "ValueError", .type "Exception", .type "BaseException", .type "object"] "ValueError.__new__" = true)
  (gaK : PySem.W.findIn K (.ref cK) "__getattribute__" = some (some (.builtin "BaseException.__getattribute__")))
  (hkK : PySem.W.findIn K (.ref cK) "__getattr__" = some none)
  (ccK : PySem.W.findIn K (.ref cK) "__class__" = some (some (.builtin "object.__class__")))
  (hoK : PySem.W.mroIn K cK (.type "object") = some true)
  (hbK : PySem.W.mroIn K cK (.type "BaseException") = some true)
  (kKF : PySem.W.kitOne K (.ref cK) (.ref cF) = some false)
  (kKT : PySem.W.kitOne K (.ref cK) (.ref cT) = some false)
  (kKP : PySem.W.kitOne K (.ref cK) (.ref cP) = some false)
  (kKK : PySem.W.kitOne K (.ref cK) (.ref cK) = some true)
  (kKL : PySem.W.kitOne K (.ref cK) (.ref cL) = some false)
  (kKV : PySem.W.kitOne K (.ref cK) (.type "ValueError") = some true)
  (kKX : PySem.W.kitOne K (.ref cK) (.ref cX) = some false)
  (kKB : PySem.W.mroIn K cK (.ref cB) = some true)
  (exL : PySem.W.excIn K cL [.type "ValueError", .type "Exception", .type "BaseException", .type "object"] "ValueError.__new__" = true)
  (gaL : PySem.W.findIn K (.ref cL) "__getattribute__" = some (some (.builtin "BaseException.__getattribute__")))
  (hkL : PySem.W.findIn K (.ref cL) "__getattr__" = some none)
  (ccL : PySem.W.findIn K (.ref cL) "__class__" = some (some (.builtin "object.__class__")))
  (hoL : PySem.W.mroIn K cL (.type "object") = some true)
  (hbL : PySem.W.mroIn K cL (.type "BaseException") = some true)
  (kLF : PySem.W.kitOne K (.ref cL) (.ref cF) = some false)
  (kLT : PySem.W.kitOne K (.ref cL) (.ref cT) = some false)
  (kLP : PySem.W.kitOne K (.ref cL) (.ref cP) = some false)
  (kLK : PySem.W.kitOne K (.ref cL) (.ref cK) = some false)
  (kLL : PySem.W.kitOne K (.ref cL) (.ref cL) = some true)
  (kLV : PySem.W.kitOne K (.ref cL) (.type "ValueError") = some true)
  (kLX : PySem.W.kitOne K (.ref cL) (.ref cX) = some false)
  (kLB : PySem.W.mroIn K cL (.ref cB) = some true)
  (tkL : PySem.W.kitOne K (.type "list") (.ref C) = some false)
  (tkN : PySem.W.kitOne K (.type "NoneType") (.ref C) = some false) :
  ∃ (tabs : List (Addr × Addr)) (fd : FuncData) (sp : Sp), (∀ t ∈ tabs, ∃ (y : Str) (e : DefRec), (recsOf q).find? (fun e => e.name == y) = some e ∧ PySem.W.tabIn K y = some t) ∧ PySem.W.noTabs K = true ∧ (∀ (s : Shared) (u : Value), BindsTo s fd ⟨[u], []⟩ [("_law_script", u)]) ∧
    (∀ base : Heap, K.In base → base.Ns mainGlobals mg → BM mg base → (∀ t ∈ tabs, PySem.W.CodeHd base t.1 t.2) → FnOk l.prog w K mg base CX0 13 fa fd ["_law_script"] sp) ∧
    ∀ (H : Hp) (a : Addr) (ns : List Int), ns.length ≤ 63 → SqL K H a (ns.map V.int) → (∀ t ∈ tabs, H t.2 = some (.tbl #[])) → sp [.ref a] H (fun v _ => v = .bl true) E0 := by
 have e := hfa.symm.trans (PySem.W.mg_of X G a39)
 cases e
 have T : Txt K mg aL aR := ⟨PySem.W.mg_none_of X G z1, PySem.W.mg_none_of X G z2, PySem.W.mg_none_of X G z3, PySem.W.mg_none_of X G z4, PySem.W.mg_none_of X G z5, PySem.W.mg_none_of X G z6, PySem.W.mg_none_of X G z7, PySem.W.mg_none_of X G z8, PySem.W.mg_none_of X G z9, PySem.W.mg_none_of X G z10, PySem.W.mg_none_of X G z11, PySem.W.mg_none_of X G z12, PySem.W.mg_of X G eL, sqK eLo, PySem.W.mg_of X G eR, sqK eRo⟩
 have F1 := fun_mk (st := s_is_whole) l1 c1 k1
 have D_is_whole : DefAt K mg "is_whole" s_is_whole ["thing"] _ _ := ⟨F1, PySem.W.mg_of X G a1, F1.binds (ps := ["thing"]) fun _ _ _ _ _ _ us hl => match us, hl with | [_], _ => rfl⟩
 have F2 := fun_mk (st := s_greatest_divisor) l2 c2 k2
 have D_greatest_divisor : DefAt K mg "greatest_divisor" s_greatest_divisor ["a", "b"] _ _ := ⟨F2, PySem.W.mg_of X G a2, F2.binds (ps := ["a", "b"]) fun _ _ _ _ _ _ us hl => match us, hl with | [_, _], _ => rfl⟩
 have F3 := fun_mk (st := s_is_fraction) l3 c3 k3
 have D_is_fraction : DefAt K mg "is_fraction" s_is_fraction ["thing"] _ _ := ⟨F3, PySem.W.mg_of X G a3, F3.binds (ps := ["thing"]) fun _ _ _ _ _ _ us hl => match us, hl with | [_], _ => rfl⟩
 have F4 := fun_mk (st := s_made) l4 c4 k4
 have D_made : DefAt K mg "made" s_made ["a", "b"] _ _ := ⟨F4, PySem.W.mg_of X G a4, F4.binds (ps := ["a", "b"]) fun _ _ _ _ _ _ us hl => match us, hl with | [_, _], _ => rfl⟩
 have F5 := fun_mk (st := s_plus) l5 c5 k5
 have D_plus : DefAt K mg "plus" s_plus ["one", "other"] _ _ := ⟨F5, PySem.W.mg_of X G a5, F5.binds (ps := ["one", "other"]) fun _ _ _ _ _ _ us hl => match us, hl with | [_, _], _ => rfl⟩
 have F6 := fun_mk (st := s_minus) l6 c6 k6
 have D_minus : DefAt K mg "minus" s_minus ["one", "other"] _ _ := ⟨F6, PySem.W.mg_of X G a6, F6.binds (ps := ["one", "other"]) fun _ _ _ _ _ _ us hl => match us, hl with | [_, _], _ => rfl⟩
 have F7 := fun_mk (st := s_times) l7 c7 k7
 have D_times : DefAt K mg "times" s_times ["one", "other"] _ _ := ⟨F7, PySem.W.mg_of X G a7, F7.binds (ps := ["one", "other"]) fun _ _ _ _ _ _ us hl => match us, hl with | [_, _], _ => rfl⟩
 have F8 := fun_mk (st := s_over) l8 c8 k8
 have D_over : DefAt K mg "over" s_over ["one", "other"] _ _ := ⟨F8, PySem.W.mg_of X G a8, F8.binds (ps := ["one", "other"]) fun _ _ _ _ _ _ us hl => match us, hl with | [_, _], _ => rfl⟩
 have F9 := fun_mk (st := s_below) l9 c9 k9
 have D_below : DefAt K mg "below" s_below ["one", "other"] _ _ := ⟨F9, PySem.W.mg_of X G a9, F9.binds (ps := ["one", "other"]) fun _ _ _ _ _ _ us hl => match us, hl with | [_, _], _ => rfl⟩
 have F10 := fun_mk (st := s_apart) l10 c10 k10
 have D_apart : DefAt K mg "apart" s_apart ["one", "other"] _ _ := ⟨F10, PySem.W.mg_of X G a10, F10.binds (ps := ["one", "other"]) fun _ _ _ _ _ _ us hl => match us, hl with | [_, _], _ => rfl⟩
 have F11 := fun_mk (st := s_reaches) l11 c11 k11
 have D_reaches : DefAt K mg "reaches" s_reaches ["one", "other", "up"] _ _ := ⟨F11, PySem.W.mg_of X G a11, F11.binds (ps := ["one", "other", "up"]) fun _ _ _ _ _ _ us hl => match us, hl with | [_, _, _], _ => rfl⟩
 have F12 := fun_mk (st := s_crossing) l12 c12 k12
 have D_crossing : DefAt K mg "crossing" s_crossing ["one", "other", "up"] _ _ := ⟨F12, PySem.W.mg_of X G a12, F12.binds (ps := ["one", "other", "up"]) fun _ _ _ _ _ _ us hl => match us, hl with | [_, _, _], _ => rfl⟩
 have F13 := fun_mk (st := s_reached) l13 c13 k13
 have D_reached : DefAt K mg "reached" s_reached ["line", "up"] _ _ := ⟨F13, PySem.W.mg_of X G a13, F13.binds (ps := ["line", "up"]) fun _ _ _ _ _ _ us hl => match us, hl with | [_, _], _ => rfl⟩
 have F14 := fun_mk (st := s_is_span) l14 c14 k14
 have D_is_span : DefAt K mg "is_span" s_is_span ["thing"] _ _ := ⟨F14, PySem.W.mg_of X G a14, F14.binds (ps := ["thing"]) fun _ _ _ _ _ _ us hl => match us, hl with | [_], _ => rfl⟩
 have F15 := fun_mk (st := s_check_piece) l15 c15 k15
 have D_check_piece : DefAt K mg "check_piece" s_check_piece ["piece"] _ _ := ⟨F15, PySem.W.mg_of X G a15, F15.binds (ps := ["piece"]) fun _ _ _ _ _ _ us hl => match us, hl with | [_], _ => rfl⟩
 have F16 := fun_mk (st := s_check_step) l16 c16 k16
 have D_check_step : DefAt K mg "check_step" s_check_step ["step"] _ _ := ⟨F16, PySem.W.mg_of X G a16, F16.binds (ps := ["step"]) fun _ _ _ _ _ _ us hl => match us, hl with | [_], _ => rfl⟩
 have F17 := fun_mk (st := s_check_steps) l17 c17 k17
 have D_check_steps : DefAt K mg "check_steps" s_check_steps ["steps"] _ _ := ⟨F17, PySem.W.mg_of X G a17, F17.binds (ps := ["steps"]) fun _ _ _ _ _ _ us hl => match us, hl with | [_], _ => rfl⟩
 have F18 := fun_mk (st := s_worth_line) l18 c18 k18
 have D_worth_line : DefAt K mg "worth_line" s_worth_line ["steps"] _ _ := ⟨F18, PySem.W.mg_of X G a18, F18.binds (ps := ["steps"]) fun _ _ _ _ _ _ us hl => match us, hl with | [_], _ => rfl⟩
 have F19 := fun_mk (st := s_whole) l19 c19 k19
 have D_whole : DefAt K mg "whole" s_whole [] _ _ := ⟨F19, PySem.W.mg_of X G a19, F19.binds (ps := []) fun _ _ _ _ _ _ us hl => match us, hl with | [], _ => rfl⟩
 have F20 := fun_mk (st := s_combined) l20 c20 k20
 have D_combined : DefAt K mg "combined" s_combined ["one", "other", "keeps"] _ _ := ⟨F20, PySem.W.mg_of X G a20, F20.binds (ps := ["one", "other", "keeps"]) fun _ _ _ _ _ _ us hl => match us, hl with | [_, _, _], _ => rfl⟩
 have F21 := fun_mk (st := s_joined) l21 c21 k21
 have D_joined : DefAt K mg "joined" s_joined ["one", "other"] _ _ := ⟨F21, PySem.W.mg_of X G a21, F21.binds (ps := ["one", "other"]) fun _ _ _ _ _ _ us hl => match us, hl with | [_, _], _ => rfl⟩
 have F22 := fun_mk (st := s_shared) l22 c22 k22
 have D_shared : DefAt K mg "shared" s_shared ["one", "other"] _ _ := ⟨F22, PySem.W.mg_of X G a22, F22.binds (ps := ["one", "other"]) fun _ _ _ _ _ _ us hl => match us, hl with | [_, _], _ => rfl⟩
 have F23 := fun_mk (st := s_without) l23 c23 k23
 have D_without : DefAt K mg "without" s_without ["one", "other"] _ _ := ⟨F23, PySem.W.mg_of X G a23, F23.binds (ps := ["one", "other"]) fun _ _ _ _ _ _ us hl => match us, hl with | [_, _], _ => rfl⟩
 have F24 := fun_mk (st := s_deals) l24 c24 k24
 have D_deals : DefAt K mg "deals" s_deals ["pieces"] _ _ := ⟨F24, PySem.W.mg_of X G a24, F24.binds (ps := ["pieces"]) fun _ _ _ _ _ _ us hl => match us, hl with | [_], _ => rfl⟩
 have F25 := fun_mk (st := s_check_tastes) l25 c25 k25
 have D_check_tastes : DefAt K mg "check_tastes" s_check_tastes ["tastes"] _ _ := ⟨F25, PySem.W.mg_of X G a25, F25.binds (ps := ["tastes"]) fun _ _ _ _ _ _ us hl => match us, hl with | [_], _ => rfl⟩
 have F26 := fun_mk (st := s_envy) l26 c26 k26
 have D_envy : DefAt K mg "envy" s_envy ["pieces", "tastes"] _ _ := ⟨F26, PySem.W.mg_of X G a26, F26.binds (ps := ["pieces", "tastes"]) fun _ _ _ _ _ _ us hl => match us, hl with | [_, _], _ => rfl⟩
 have F27 := fun_mk (st := s_piece_text) l27 c27 k27
 have D_piece_text : DefAt K mg "piece_text" s_piece_text ["piece"] _ _ := ⟨F27, PySem.W.mg_of X G a27, F27.binds (ps := ["piece"]) fun _ _ _ _ _ _ us hl => match us, hl with | [_], _ => rfl⟩
 have F28 := fun_mk (st := s_check_takers) l28 c28 k28
 have D_check_takers : DefAt K mg "check_takers" s_check_takers ["tastes", "fewest", "most"] _ _ := ⟨F28, PySem.W.mg_of X G a28, F28.binds (ps := ["tastes", "fewest", "most"]) fun _ _ _ _ _ _ us hl => match us, hl with | [_, _, _], _ => rfl⟩
 have F29 := fun_mk (st := s__law_cell_at) l29 c29 k29
 have D__law_cell_at : DefAt K mg "_law_cell_at" s__law_cell_at ["_law_script", "_law_k"] _ _ := ⟨F29, PySem.W.mg_of X G a29, F29.binds (ps := ["_law_script", "_law_k"]) fun _ _ _ _ _ _ us hl => match us, hl with | [_, _], _ => rfl⟩
 have F30 := fun_mk (st := s__law_kinds) l30 c30 k30
 have D__law_kinds : DefAt K mg "_law_kinds" s__law_kinds ["_law_error"] _ _ := ⟨F30, PySem.W.mg_of X G a30, F30.binds (ps := ["_law_error"]) fun _ _ _ _ _ _ us hl => match us, hl with | [_], _ => rfl⟩
 have F31 := fun_mk (st := s__law_told) l31 c31 k31
 have D__law_told : DefAt K mg "_law_told" s__law_told ["_law_ask", "_law_one", "_law_other"] _ _ := ⟨F31, PySem.W.mg_of X G a31, F31.binds (ps := ["_law_ask", "_law_one", "_law_other"]) fun _ _ _ _ _ _ us hl => match us, hl with | [_, _, _], _ => rfl⟩
 have F32 := fun_mk (st := s__law_due) l32 c32 k32
 have D__law_due : DefAt K mg "_law_due" s__law_due ["_law_kind"] _ _ := ⟨F32, PySem.W.mg_of X G a32, F32.binds (ps := ["_law_kind"]) fun _ _ _ _ _ _ us hl => match us, hl with | [_], _ => rfl⟩
 have F33 := fun_mk (st := s__law_bad_steps) l33 c33 k33
 have D__law_bad_steps : DefAt K mg "_law_bad_steps" s__law_bad_steps ["_law_far"] _ _ := ⟨F33, PySem.W.mg_of X G a33, F33.binds (ps := ["_law_far"]) fun _ _ _ _ _ _ us hl => match us, hl with | [_], _ => rfl⟩
 have F34 := fun_mk (st := s__law_bad_pieces) l34 c34 k34
 have D__law_bad_pieces : DefAt K mg "_law_bad_pieces" s__law_bad_pieces ["_law_far"] _ _ := ⟨F34, PySem.W.mg_of X G a34, F34.binds (ps := ["_law_far"]) fun _ _ _ _ _ _ us hl => match us, hl with | [_], _ => rfl⟩
 have F35 := fun_mk (st := s__law_with_numbers) l35 c35 k35
 have D__law_with_numbers : DefAt K mg "_law_with_numbers" s__law_with_numbers ["_law_door", "_law_far"] _ _ := ⟨F35, PySem.W.mg_of X G a35, F35.binds (ps := ["_law_door", "_law_far"]) fun _ _ _ _ _ _ us hl => match us, hl with | [_, _], _ => rfl⟩
 have F36 := fun_mk (st := s__law_with_piece) l36 c36 k36
 have D__law_with_piece : DefAt K mg "_law_with_piece" s__law_with_piece ["_law_door", "_law_bad"] _ _ := ⟨F36, PySem.W.mg_of X G a36, F36.binds (ps := ["_law_door", "_law_bad"]) fun _ _ _ _ _ _ us hl => match us, hl with | [_, _], _ => rfl⟩
 have F37 := fun_mk (st := s__law_with_takers) l37 c37 k37
 have D__law_with_takers : DefAt K mg "_law_with_takers" s__law_with_takers ["_law_door", "_law_far"] _ _ := ⟨F37, PySem.W.mg_of X G a37, F37.binds (ps := ["_law_door", "_law_far"]) fun _ _ _ _ _ _ us hl => match us, hl with | [_, _], _ => rfl⟩
 have F38 := fun_mk (st := s__law_with_shares) l38 c38 k38
 have D__law_with_shares : DefAt K mg "_law_with_shares" s__law_with_shares ["_law_door", "_law_far"] _ _ := ⟨F38, PySem.W.mg_of X G a38, F38.binds (ps := ["_law_door", "_law_far"]) fun _ _ _ _ _ _ us hl => match us, hl with | [_, _], _ => rfl⟩
 have F39 := fun_mk (st := s_law) l39 c39 k39
 have D_law : DefAt K mg "law" s_law ["_law_script"] _ _ := ⟨F39, PySem.W.mg_of X G a39, F39.binds (ps := ["_law_script"]) fun _ _ _ _ _ _ us hl => match us, hl with | [_], _ => rfl⟩
 have clC : Cls K C := ⟨pgC, hdC, poC, saC⟩
 have M_Taste___init__ := fun_mk (st := m_Taste___init__) lCm0 cCm0 kCm0
 have b_Taste___init__ := M_Taste___init__.binds (ps := ["self", "steps"]) fun _ _ _ _ _ _ us hl => match us, hl with | [_, _], _ => rfl
 have h_Taste___init__ : Meth K C "__init__" _ := ⟨aCm0, iCm0, kCm0⟩
 have k_Taste : Mk K C _ := ⟨mkC, aCm0, iCm0, kcC⟩
 have M_Taste_worth_up_to := fun_mk (st := m_Taste_worth_up_to) lCm1 cCm1 kCm1
 have b_Taste_worth_up_to := M_Taste_worth_up_to.binds (ps := ["self", "point"]) fun _ _ _ _ _ _ us hl => match us, hl with | [_, _], _ => rfl
 have h_Taste_worth_up_to : Meth K C "worth_up_to" _ := ⟨aCm1, iCm1, kCm1⟩
 have M_Taste_span_worth := fun_mk (st := m_Taste_span_worth) lCm2 cCm2 kCm2
 have b_Taste_span_worth := M_Taste_span_worth.binds (ps := ["self", "span"]) fun _ _ _ _ _ _ us hl => match us, hl with | [_, _], _ => rfl
 have h_Taste_span_worth : Meth K C "span_worth" _ := ⟨aCm2, iCm2, kCm2⟩
 have M_Taste_worth := fun_mk (st := m_Taste_worth) lCm3 cCm3 kCm3
 have b_Taste_worth := M_Taste_worth.binds (ps := ["self", "piece"]) fun _ _ _ _ _ _ us hl => match us, hl with | [_, _], _ => rfl
 have h_Taste_worth : Meth K C "worth" _ := ⟨aCm3, iCm3, kCm3⟩
 have M_Taste_cut := fun_mk (st := m_Taste_cut) lCm4 cCm4 kCm4
 have b_Taste_cut := M_Taste_cut.binds (ps := ["self", "piece", "share"]) fun _ _ _ _ _ _ us hl => match us, hl with | [_, _, _], _ => rfl
 have h_Taste_cut : Meth K C "cut" _ := ⟨aCm4, iCm4, kCm4⟩
 have clW0 : Cls K W0 := ⟨pgW0, hdW0, poW0, saW0⟩
 have M_Choose_deal := fun_mk (st := m_Choose_deal) lW0m0 cW0m0 kW0m0
 have b_Choose_deal := M_Choose_deal.binds (ps := ["self", "tastes"]) fun _ _ _ _ _ _ us hl => match us, hl with | [_, _], _ => rfl
 have h_Choose_deal : Meth K W0 "deal" _ := ⟨aW0m0, iW0m0, kW0m0⟩
 have clW1 : Cls K W1 := ⟨pgW1, hdW1, poW1, saW1⟩
 have M_Last_deal := fun_mk (st := m_Last_deal) lW1m0 cW1m0 kW1m0
 have b_Last_deal := M_Last_deal.binds (ps := ["self", "tastes"]) fun _ _ _ _ _ _ us hl => match us, hl with | [_, _], _ => rfl
 have h_Last_deal : Meth K W1 "deal" _ := ⟨aW1m0, iW1m0, kW1m0⟩
 have clW2 : Cls K W2 := ⟨pgW2, hdW2, poW2, saW2⟩
 have M_Halves_deal := fun_mk (st := m_Halves_deal) lW2m0 cW2m0 kW2m0
 have b_Halves_deal := M_Halves_deal.binds (ps := ["self", "tastes"]) fun _ _ _ _ _ _ us hl => match us, hl with | [_, _], _ => rfl
 have h_Halves_deal : Meth K W2 "deal" _ := ⟨aW2m0, iW2m0, kW2m0⟩
 have clW3 : Cls K W3 := ⟨pgW3, hdW3, poW3, saW3⟩
 have M_Three_deal := fun_mk (st := m_Three_deal) lW3m0 cW3m0 kW3m0
 have b_Three_deal := M_Three_deal.binds (ps := ["self", "tastes"]) fun _ _ _ _ _ _ us hl => match us, hl with | [_, _], _ => rfl
 have h_Three_deal : Meth K W3 "deal" _ := ⟨aW3m0, iW3m0, kW3m0⟩
 have clW4 : Cls K W4 := ⟨pgW4, hdW4, poW4, saW4⟩
 have M_Even_deal := fun_mk (st := m_Even_deal) lW4m0 cW4m0 kW4m0
 have b_Even_deal := M_Even_deal.binds (ps := ["self", "tastes"]) fun _ _ _ _ _ _ us hl => match us, hl with | [_, _], _ => rfl
 have h_Even_deal : Meth K W4 "deal" _ := ⟨aW4m0, iW4m0, kW4m0⟩
 have clW5 : Cls K W5 := ⟨pgW5, hdW5, poW5, saW5⟩
 have M_Alike_deal := fun_mk (st := m_Alike_deal) lW5m0 cW5m0 kW5m0
 have b_Alike_deal := M_Alike_deal.binds (ps := ["self", "tastes"]) fun _ _ _ _ _ _ us hl => match us, hl with | [_, _], _ => rfl
 have h_Alike_deal : Meth K W5 "deal" _ := ⟨aW5m0, iW5m0, kW5m0⟩
 have clW6 : Cls K W6 := ⟨pgW6, hdW6, poW6, saW6⟩
 have M_Way_deal := fun_mk (st := m_Way_deal) lW6m0 cW6m0 kW6m0
 have b_Way_deal := M_Way_deal.binds (ps := ["self", "tastes"]) fun _ _ _ _ _ _ us hl => match us, hl with | [_, _], _ => rfl
 have h_Way_deal : Meth K W6 "deal" _ := ⟨aW6m0, iW6m0, kW6m0⟩
 have b21 : PySem.W.tabIn K "joined" = some (q21, p21) := tab_mk a21 l21 rfl t21 u21
 have b22 : PySem.W.tabIn K "shared" = some (q22, p22) := tab_mk a22 l22 rfl t22 u22
 have b23 : PySem.W.tabIn K "without" = some (q23, p23) := tab_mk a23 l23 rfl t23 u23
 have b39 : PySem.W.tabIn K "law" = some (q39, p39) := tab_mk a39 l39 rfl t39 u39
 refine ⟨[(q21, p21), (q22, p22), (q23, p23), (q39, p39)], PySem.W.fnOf "law" "law" (defArgs s_law) (defBody s_law) (defScope s_law) .none kV39 dc39 pm39 an39 (.ref q39) ct39, spLaw K p21 p22 p23 p39, ?_, nt, fun s v => .of_eq rfl, fun base kb nb bm hT => ?_, fun H a ns hl hS hT => ?_⟩
 ·intro t ht
  rcases List.mem_cons.mp ht with rfl | ht
  ·exact ⟨"joined", e21, r21, b21⟩
  ·skip
   rcases List.mem_cons.mp ht with rfl | ht
   ·exact ⟨"shared", e22, r22, b22⟩
   ·skip
    rcases List.mem_cons.mp ht with rfl | ht
    ·exact ⟨"without", e23, r23, b23⟩
    ·skip
     rw [List.mem_singleton.mp ht]
     exact ⟨"law", e39, r39, b39⟩
 ·have TB_joined := hT (q21, p21) List.mem_cons_self
  have TB_shared := hT (q22, p22) (List.mem_cons_of_mem _ List.mem_cons_self)
  have TB_without := hT (q23, p23) (List.mem_cons_of_mem _ (List.mem_cons_of_mem _ List.mem_cons_self))
  have TB_law := hT (q39, p39) (List.mem_cons_of_mem _ (List.mem_cons_of_mem _ (List.mem_cons_of_mem _ List.mem_cons_self)))
  have TT : TxtT mg := ⟨⟨_, PySem.W.mg_of X G e8⟩, ⟨_, PySem.W.mg_of X G e1⟩, ⟨_, PySem.W.mg_of X G e2⟩⟩
  have TC : TxtC K C := ⟨clC, nCtold, nCline⟩
  have CW := D_is_whole.cl (P := l.prog) (w := w) (base := base) (ok_whole D_is_whole T)
  have CG := D_greatest_divisor.cl (P := l.prog) (w := w) (base := base) (ok_gcd D_greatest_divisor)
  have CM := D_made.cl (P := l.prog) (w := w) (base := base) (ok_made D_made CW CG)
  have C4 : Four l.prog w K mg base := ⟨D_plus.cl (ok_plus D_plus CM), D_minus.cl (ok_minus D_minus CM), D_times.cl (ok_times D_times CM), D_over.cl (ok_over D_over CM), D_below.cl (ok_below D_below)⟩
  have CF := D_is_fraction.cl (P := l.prog) (w := w) (base := base) (ok_frac D_is_fraction CW CG T)
  have CR := D_reached.cl (ok_reached D_reached (D_reaches.cl (ok_reaches D_reaches C4.below)) (D_crossing.cl (ok_crossing D_crossing C4 (D_apart.cl (ok_apart D_apart C4.below C4.minus)))) T)
  have CK := D_check_piece.cl (ok_check D_check_piece (D_is_span.cl (ok_span D_is_span CF C4.below T)) C4.below T)
  have CS := D_check_steps.cl (ok_steps D_check_steps (D_check_step.cl (ok_step D_check_step CF CW T TT)) C4.below T TT)
  have CWL := D_worth_line.cl (ok_line D_worth_line C4 T)
  have MC : Mc l.prog w K mg base "Taste" C 5 ["self", "steps"] (spInit K C) := ⟨_, _, k_Taste, PySem.W.mg_of X G aC, b_Taste___init__, ok_init M_Taste___init__ CS CWL T TC⟩
  have MU : Ml l.prog w K mg base C "worth_up_to" 7 ["self", "point"] (spUpTo K C) := ⟨_, _, h_Taste_worth_up_to, b_Taste_worth_up_to, ok_upto M_Taste_worth_up_to CR TC⟩
  have MSW : Ml l.prog w K mg base C "span_worth" 8 ["self", "span"] (spSpanWorth K C) := ⟨_, _, h_Taste_span_worth, b_Taste_span_worth, ok_spanw M_Taste_span_worth C4.minus MU TC⟩
  have MW : Ml l.prog w K mg base C "worth" 9 ["self", "piece"] (spWorth K C) := ⟨_, _, h_Taste_worth, b_Taste_worth, ok_worth M_Taste_worth CK C4.plus MSW TC⟩
  have IC : IsC K C := ⟨clC, haC, hnC, htC, hmC⟩
  have CTs := D_check_tastes.cl (P := l.prog) (w := w) (base := base) (ok_tastes D_check_tastes T IC (PySem.W.mg_of X G aC))
  have xF : ExcC K mg "BadFraction" cF := ⟨PySem.W.mg_of X G axF, exF⟩
  have xT : ExcC K mg "BadTaste" cT := ⟨PySem.W.mg_of X G axT, exT⟩
  have xP : ExcC K mg "BadPiece" cP := ⟨PySem.W.mg_of X G axP, exP⟩
  have xK : ExcC K mg "BadTakers" cK := ⟨PySem.W.mg_of X G axK, exK⟩
  have xL : ExcC K mg "TooLittle" cL := ⟨PySem.W.mg_of X G axL, exL⟩
  have CWT := D_is_whole.cl (P := l.prog) (w := w) (base := base) (ok_wholeT D_is_whole T)
  have CBT := D_below.cl (P := l.prog) (w := w) (base := base) (ok_belowT D_below)
  have CFT := D_is_fraction.cl (P := l.prog) (w := w) (base := base) (ok_fracT D_is_fraction CWT CG T)
  have CST := D_is_span.cl (P := l.prog) (w := w) (base := base) (ok_spanT D_is_span CFT CBT T)
  have CKX := D_check_piece.clX (P := l.prog) (w := w) (base := base) (ok_checkT D_check_piece CST CBT T xP)
  have CSX := D_check_step.clX (P := l.prog) (w := w) (base := base) (ok_stepT D_check_step CFT CWT T TT xT)
  have CSsX := D_check_steps.clX (P := l.prog) (w := w) (base := base) (ok_stepsT D_check_steps CSX CBT T TT xT)
  have CMX := D_made.clX (P := l.prog) (w := w) (base := base) (ok_madeX D_made CWT xF)
  have MCX : McX l.prog w K mg base cT "Taste" C 5 ["self", "steps"] (spInitX K cT) := ⟨_, _, k_Taste, PySem.W.mg_of X G aC, b_Taste___init__, ok_initX M_Taste___init__ CSsX⟩
  have MWX : MlX l.prog w K mg base C cP "worth" 5 ["self", "piece"] (spWorthX K cP) := ⟨_, _, h_Taste_worth, b_Taste_worth, ok_worthX M_Taste_worth CKX⟩
  have MCuX : MlX l.prog w K mg base C cP "cut" 6 ["self", "piece", "share"] (spCutX K C cP) := ⟨_, _, h_Taste_cut, b_Taste_cut, ok_cutX M_Taste_cut MWX CBT TC⟩
  have MCuL : MlX l.prog w K mg base C cL "cut" 10 ["self", "piece", "share"] (spCutL K C cL) := ⟨_, _, h_Taste_cut, b_Taste_cut, ok_cutL M_Taste_cut MW C4.below TC xL⟩
  have CCo := D_combined.clX (P := l.prog) (w := w) (base := base) (ok_combX D_combined CKX)
  have CJ := D_joined.clX (P := l.prog) (w := w) (base := base) (ok_joinedX D_joined rfl TB_joined bm CCo)
  have CSh := D_shared.clX (P := l.prog) (w := w) (base := base) (ok_sharedX D_shared rfl TB_shared bm CCo)
  have CWo := D_without.clX (P := l.prog) (w := w) (base := base) (ok_withoutX D_without rfl TB_without bm CCo)
  have CPt := D_piece_text.clX (P := l.prog) (w := w) (base := base) (ok_ptextX D_piece_text CKX)
  have CTsX := D_check_tastes.clX (P := l.prog) (w := w) (base := base) (ok_tastesT D_check_tastes T IC (PySem.W.mg_of X G aC) xK)
  have CTkX := D_check_takers.clX (P := l.prog) (w := w) (base := base) (ok_takersX D_check_takers CTsX T xK)
  have CDX := D_deals.clX (P := l.prog) (w := w) (base := base) (ok_dealsX D_deals CKX T xP)
  have CEK := D_envy.clX (P := l.prog) (w := w) (base := base) (ok_envyK D_envy CTsX T xK)
  have CEP := D_envy.clX (P := l.prog) (w := w) (base := base) (ok_envyP D_envy CTs MW MWX T TC)
  have CA := D_whole.cl (P := l.prog) (w := w) (base := base) (ok_wholeR D_whole T)
  have CDG := D_deals.cl (P := l.prog) (w := w) (base := base) (ok_dealsG D_deals CK T)
  have w0 : WayX l.prog w K mg base cK "Choose" W0 3 (spDealX K C cK 2 2) := ⟨⟨mkW0, oiW0, kcW0⟩, PySem.W.mg_of X G aW0, ⟨_, _, h_Choose_deal, b_Choose_deal, ok_chooseX M_Choose_deal CTkX⟩, clW0⟩
  have w1 : WayX l.prog w K mg base cK "Last" W1 3 (spDealX K C cK 1 8) := ⟨⟨mkW1, oiW1, kcW1⟩, PySem.W.mg_of X G aW1, ⟨_, _, h_Last_deal, b_Last_deal, ok_lastX M_Last_deal CTkX⟩, clW1⟩
  have w2 : WayX l.prog w K mg base cK "Halves" W2 3 (spDealX K C cK 1 8) := ⟨⟨mkW2, oiW2, kcW2⟩, PySem.W.mg_of X G aW2, ⟨_, _, h_Halves_deal, b_Halves_deal, ok_halvesX M_Halves_deal CTkX⟩, clW2⟩
  have w3 : WayX l.prog w K mg base cK "Three" W3 3 (spDealX K C cK 3 3) := ⟨⟨mkW3, oiW3, kcW3⟩, PySem.W.mg_of X G aW3, ⟨_, _, h_Three_deal, b_Three_deal, ok_threeX M_Three_deal CTkX⟩, clW3⟩
  have w4 : WayX l.prog w K mg base cK "Even" W4 3 (spDealX K C cK 2 2) := ⟨⟨mkW4, oiW4, kcW4⟩, PySem.W.mg_of X G aW4, ⟨_, _, h_Even_deal, b_Even_deal, ok_evenX M_Even_deal CTkX⟩, clW4⟩
  have w5 : WayX l.prog w K mg base cK "Alike" W5 3 (spDealX K C cK 1 6) := ⟨⟨mkW5, oiW5, kcW5⟩, PySem.W.mg_of X G aW5, ⟨_, _, h_Alike_deal, b_Alike_deal, ok_alikeX M_Alike_deal CTkX⟩, clW5⟩
  have w6 : WayX l.prog w K mg base cK "Way" W6 1 (spWayX cK) := ⟨⟨mkW6, oiW6, kcW6⟩, PySem.W.mg_of X G aW6, ⟨_, _, h_Way_deal, b_Way_deal, ok_wayX M_Way_deal xK⟩, clW6⟩
  have TK : TkC l.prog w K mg base C cK W0 W1 W2 W3 W4 W5 W6 := ⟨w0, w1, w2, w3, w4, w5, w6, CEK, CA, tkL, tkN⟩
  have PC : PcC l.prog w K mg base C cP p21 p22 p23 := ⟨MWX, MCuX, CJ, CSh, CWo, CDX, CPt, CEP, CA, clC⟩
  have ks : Kinds K mg cF cT cP cK cL cX cB := ⟨PySem.W.mg_none_of X G z1, PySem.W.mg_of X G axF, PySem.W.mg_of X G axT, PySem.W.mg_of X G axP, PySem.W.mg_of X G axK, PySem.W.mg_of X G axL, PySem.W.mg_of X G axX, PySem.W.mg_of X G axB, PySem.W.mg_none_of X G zV, ⟨btB, bhB⟩⟩
  have oF : OfKind K cF cT cP cK cL cX cB cF 0 := ⟨⟨gaF, hkF, ccF, hnC, htC, hoF, hbF⟩, kFF, kFT, kFP, kFK, kFL, kFV, kFX, kFB⟩
  have oT : OfKind K cF cT cP cK cL cX cB cT 1 := ⟨⟨gaT, hkT, ccT, hnC, htC, hoT, hbT⟩, kTF, kTT, kTP, kTK, kTL, kTV, kTX, kTB⟩
  have oP : OfKind K cF cT cP cK cL cX cB cP 2 := ⟨⟨gaP, hkP, ccP, hnC, htC, hoP, hbP⟩, kPF, kPT, kPP, kPK, kPL, kPV, kPX, kPB⟩
  have oK : OfKind K cF cT cP cK cL cX cB cK 3 := ⟨⟨gaK, hkK, ccK, hnC, htC, hoK, hbK⟩, kKF, kKT, kKP, kKK, kKL, kKV, kKX, kKB⟩
  have oL : OfKind K cF cT cP cK cL cX cB cL 4 := ⟨⟨gaL, hkL, ccL, hnC, htC, hoL, hbL⟩, kLF, kLT, kLP, kLK, kLL, kLV, kLX, kLB⟩
  have LKd := D__law_kinds.clH (P := l.prog) (w := w) (base := base) (ok_kinds D__law_kinds ks)
  have LTo := D__law_told.cl (P := l.prog) (w := w) (base := base) (ok_toldX (n := 11) D__law_told ks (by decide) LKd)
  have LDu := D__law_due.cl (P := l.prog) (w := w) (base := base) (ok_due D__law_due)
  have LBs := D__law_bad_steps.cl (P := l.prog) (w := w) (base := base) (ok_badSteps D__law_bad_steps T)
  have LBp := D__law_bad_pieces.cl (P := l.prog) (w := w) (base := base) (ok_badPieces D__law_bad_pieces T)
  have LN := D__law_with_numbers.clX (P := l.prog) (w := w) (base := base) (ok_numX D__law_with_numbers CMX)
  have LPc := D__law_with_piece.clX (P := l.prog) (w := w) (base := base) (ok_pcX D__law_with_piece MC PC)
  have LTk := D__law_with_takers.clX (P := l.prog) (w := w) (base := base) (ok_takX D__law_with_takers MC TK T)
  have LSh := D__law_with_shares.clX (P := l.prog) (w := w) (base := base) (ok_shareX D__law_with_shares MC MCuL TC)
  have LC := D__law_cell_at.cl (P := l.prog) (w := w) (base := base) (ok_cell D__law_cell_at T)
  have CMq := D_made.cl ((ok_made (P := l.prog) (w := w) (base := base) D_made CW CG).imp (madeQ (K := K)))
  exact ok_law D_law rfl TB_law bm ⟨ks, oF, oT, oP, oK, oL, LTo, LDu, LBs, LBp, LN, LPc, LTk, LSh, MCX, CDX, CMq, MC, MW, CA, CDG, LC⟩ T TC
 ·exact ⟨a, ns, rfl, hS, hT _ List.mem_cons_self, hT _ (List.mem_cons_of_mem _ List.mem_cons_self), hT _ (List.mem_cons_of_mem _ (List.mem_cons_of_mem _ List.mem_cons_self)), hT _ (List.mem_cons_of_mem _ (List.mem_cons_of_mem _ (List.mem_cons_of_mem _ List.mem_cons_self))), ⟨d21_22, d21_23, d22_23, d21_39, d22_39, d23_39⟩, fun _ => rfl⟩
end FQ
open PySem PySem.W PyProof.Rows
local macro_rules | `(tactic| o_head $H) => `(tactic| refine holds_open (q := HQ.qv) (loose := []) (Xt := HQ.xt) (XP := XL HQ.qv []) (Yf := Hook.obs $H) (Ya := Hook.val $H) (YP := Hook.says $H) (N := 11160) (HQ.left_of HQ.ev) (Hook.of $H) (Hook.keeps $H) (fun s e => xl_of s (Bool.and_eq_true_iff.mp e).1) XL.keeps (by rfl) (by rfl) (by rfl) (fun s e => recFacts_of (Bool.and_eq_true_iff.mp e).2) (by rfl) (by first | assumption | decide +kernel) (by decide +kernel) ⟨rfl, rfl, rfl, rfl, rfl, by decide +kernel⟩ ?_ ?_)
set_option maxRecDepth 100000 in
set_option maxHeartbeats 0 in
theorem PySem.Challenge.cw_fairknife_k15_refused_holds : PySem.Challenge.rw_fairknife_k15_refused.Holds := by
 w_on; o_law; o_head (kmHook HQ.pre.heap_1 HQ.hA (fun _ => by kernel_rfl) HQ.hT); (· w_witness2)
 k_fill
 refine L2.walk_ofT (l := PySem.Challenge.rw_fairknife_k15_refused) (n := 63) (k := 13) (x := "_law_script") rfl (by decide) rfl ⟨rfl, by decide, by decide⟩ (fun w h Y => PySem.W.km_in_of Y) ?F
 case F =>
  intro w mg fa h KX G hmg
  refine' FQ.all_mk KX G hmg ?a1 ?l1 ?c1 ?k1 ?a2 ?l2 ?c2 ?k2 ?a3 ?l3 ?c3 ?k3 ?a4 ?l4 ?c4 ?k4 ?a5 ?l5 ?c5 ?k5 ?a6 ?l6 ?c6 ?k6 ?a7 ?l7 ?c7 ?k7 ?a8 ?l8 ?c8 ?k8 ?a9 ?l9 ?c9 ?k9 ?a10 ?l10 ?c10 ?k10 ?a11 ?l11 ?c11 ?k11 ?a12 ?l12 ?c12 ?k12 ?a13 ?l13 ?c13 ?k13 ?a14 ?l14 ?c14 ?k14 ?a15 ?l15 ?c15 ?k15 ?a16 ?l16 ?c16 ?k16 ?a17 ?l17 ?c17 ?k17 ?a18 ?l18 ?c18 ?k18 ?a19 ?l19 ?c19 ?k19 ?a20 ?l20 ?c20 ?k20 ?a21 ?l21 ?c21 ?k21 ?t21 ?u21 ?r21 ?a22 ?l22 ?c22 ?k22 ?t22 ?u22 ?r22 ?a23 ?l23 ?c23 ?k23 ?t23 ?u23 ?r23 ?a24 ?l24 ?c24 ?k24 ?a25 ?l25 ?c25 ?k25 ?a26 ?l26 ?c26 ?k26 ?a27 ?l27 ?c27 ?k27 ?a28 ?l28 ?c28 ?k28 ?a29 ?l29 ?c29 ?k29 ?a30 ?l30 ?c30 ?k30 ?a31 ?l31 ?c31 ?k31 ?a32 ?l32 ?c32 ?k32 ?a33 ?l33 ?c33 ?k33 ?a34 ?l34 ?c34 ?k34 ?a35 ?l35 ?c35 ?k35 ?a36 ?l36 ?c36 ?k36 ?a37 ?l37 ?c37 ?k37 ?a38 ?l38 ?c38 ?k38 ?a39 ?l39 ?c39 ?k39 ?t39 ?u39 ?r39 ?d21_22 ?d21_23 ?d21_39 ?d22_23 ?d22_39 ?d23_39 ?nt ?aC ?aCm0 ?lCm0 ?cCm0 ?kCm0 ?iCm0 ?aCm1 ?lCm1 ?cCm1 ?kCm1 ?iCm1 ?aCm2 ?lCm2 ?cCm2 ?kCm2 ?iCm2 ?aCm3 ?lCm3 ?cCm3 ?kCm3 ?iCm3 ?aCm4 ?lCm4 ?cCm4 ?kCm4 ?iCm4 ?pgC ?hdC ?poC ?saC ?mkC ?kcC ?nCtold ?nCline ?aW0 ?aW0m0 ?lW0m0 ?cW0m0 ?kW0m0 ?iW0m0 ?pgW0 ?hdW0 ?poW0 ?saW0 ?mkW0 ?kcW0 ?aW1 ?aW1m0 ?lW1m0 ?cW1m0 ?kW1m0 ?iW1m0 ?pgW1 ?hdW1 ?poW1 ?saW1 ?mkW1 ?kcW1 ?aW2 ?aW2m0 ?lW2m0 ?cW2m0 ?kW2m0 ?iW2m0 ?pgW2 ?hdW2 ?poW2 ?saW2 ?mkW2 ?kcW2 ?aW3 ?aW3m0 ?lW3m0 ?cW3m0 ?kW3m0 ?iW3m0 ?pgW3 ?hdW3 ?poW3 ?saW3 ?mkW3 ?kcW3 ?aW4 ?aW4m0 ?lW4m0 ?cW4m0 ?kW4m0 ?iW4m0 ?pgW4 ?hdW4 ?poW4 ?saW4 ?mkW4 ?kcW4 ?aW5 ?aW5m0 ?lW5m0 ?cW5m0 ?kW5m0 ?iW5m0 ?pgW5 ?hdW5 ?poW5 ?saW5 ?mkW5 ?kcW5 ?aW6 ?aW6m0 ?lW6m0 ?cW6m0 ?kW6m0 ?iW6m0 ?pgW6 ?hdW6 ?poW6 ?saW6 ?mkW6 ?kcW6 ?z1 ?z2 ?z3 ?z4 ?z5 ?z6 ?z7 ?z8 ?z9 ?z10 ?z11 ?z12 ?eL ?eLo ?eR ?eRo ?e8 ?e1 ?e2 ?haC ?hnC ?htC ?hmC ?oiW0 ?oiW1 ?oiW2 ?oiW3 ?oiW4 ?oiW5 ?oiW6 ?axF ?axT ?axP ?axK ?axL ?axX ?axB ?zV ?btB ?bhB ?exF ?gaF ?hkF ?ccF ?hoF ?hbF ?kFF ?kFT ?kFP ?kFK ?kFL ?kFV ?kFX ?kFB ?exT ?gaT ?hkT ?ccT ?hoT ?hbT ?kTF ?kTT ?kTP ?kTK ?kTL ?kTV ?kTX ?kTB ?exP ?gaP ?hkP ?ccP ?hoP ?hbP ?kPF ?kPT ?kPP ?kPK ?kPL ?kPV ?kPX ?kPB ?exK ?gaK ?hkK ?ccK ?hoK ?hbK ?kKF ?kKT ?kKP ?kKK ?kKL ?kKV ?kKX ?kKB ?exL ?gaL ?hkL ?ccL ?hoL ?hbL ?kLF ?kLT ?kLP ?kLK ?kLL ?kLV ?kLX ?kLB ?tkL ?tkN
  (case a1 => k_is)
  (case l1 => k_is)
  (case c1 => k_is)
  (case k1 => k_is)
  (case a2 => k_is)
  (case l2 => k_is)
  (case c2 => k_is)
  (case k2 => k_is)
  (case a3 => k_is)
  (case l3 => k_is)
  (case c3 => k_is)
  (case k3 => k_is)
  (case a4 => k_is)
  (case l4 => k_is)
  (case c4 => k_is)
  (case k4 => k_is)
  (case a5 => k_is)
  (case l5 => k_is)
  (case c5 => k_is)
  (case k5 => k_is)
  (case a6 => k_is)
  (case l6 => k_is)
  (case c6 => k_is)
  (case k6 => k_is)
  (case a7 => k_is)
  (case l7 => k_is)
  (case c7 => k_is)
  (case k7 => k_is)
  (case a8 => k_is)
  (case l8 => k_is)
  (case c8 => k_is)
  (case k8 => k_is)
  (case a9 => k_is)
  (case l9 => k_is)
  (case c9 => k_is)
  (case k9 => k_is)
  (case a10 => k_is)
  (case l10 => k_is)
  (case c10 => k_is)
  (case k10 => k_is)
  (case a11 => k_is)
  (case l11 => k_is)
  (case c11 => k_is)
  (case k11 => k_is)
  (case a12 => k_is)
  (case l12 => k_is)
  (case c12 => k_is)
  (case k12 => k_is)
  (case a13 => k_is)
  (case l13 => k_is)
  (case c13 => k_is)
  (case k13 => k_is)
  (case a14 => k_is)
  (case l14 => k_is)
  (case c14 => k_is)
  (case k14 => k_is)
  (case a15 => k_is)
  (case l15 => k_is)
  (case c15 => k_is)
  (case k15 => k_is)
  (case a16 => k_is)
  (case l16 => k_is)
  (case c16 => k_is)
  (case k16 => k_is)
  (case a17 => k_is)
  (case l17 => k_is)
  (case c17 => k_is)
  (case k17 => k_is)
  (case a18 => k_is)
  (case l18 => k_is)
  (case c18 => k_is)
  (case k18 => k_is)
  (case a19 => k_is)
  (case l19 => k_is)
  (case c19 => k_is)
  (case k19 => k_is)
  (case a20 => k_is)
  (case l20 => k_is)
  (case c20 => k_is)
  (case k20 => k_is)
  (case a21 => k_is)
  (case l21 => k_is)
  (case c21 => k_is)
  (case k21 => k_is)
  (case t21 => k_is)
  (case u21 => rfl)
  (case r21 => rfl)
  (case a22 => k_is)
  (case l22 => k_is)
  (case c22 => k_is)
  (case k22 => k_is)
  (case t22 => k_is)
  (case u22 => rfl)
  (case r22 => rfl)
  (case a23 => k_is)
  (case l23 => k_is)
  (case c23 => k_is)
  (case k23 => k_is)
  (case t23 => k_is)
  (case u23 => rfl)
  (case r23 => rfl)
  (case a24 => k_is)
  (case l24 => k_is)
  (case c24 => k_is)
  (case k24 => k_is)
  (case a25 => k_is)
  (case l25 => k_is)
  (case c25 => k_is)
  (case k25 => k_is)
  (case a26 => k_is)
  (case l26 => k_is)
  (case c26 => k_is)
  (case k26 => k_is)
  (case a27 => k_is)
  (case l27 => k_is)
  (case c27 => k_is)
  (case k27 => k_is)
  (case a28 => k_is)
  (case l28 => k_is)
  (case c28 => k_is)
  (case k28 => k_is)
  (case a29 => k_is)
  (case l29 => k_is)
  (case c29 => k_is)
  (case k29 => k_is)
  (case a30 => k_is)
  (case l30 => k_is)
  (case c30 => k_is)
  (case k30 => k_is)
  (case a31 => k_is)
  (case l31 => k_is)
  (case c31 => k_is)
  (case k31 => k_is)
  (case a32 => k_is)
  (case l32 => k_is)
  (case c32 => k_is)
  (case k32 => k_is)
  (case a33 => k_is)
  (case l33 => k_is)
  (case c33 => k_is)
  (case k33 => k_is)
  (case a34 => k_is)
  (case l34 => k_is)
  (case c34 => k_is)
  (case k34 => k_is)
  (case a35 => k_is)
  (case l35 => k_is)
  (case c35 => k_is)
  (case k35 => k_is)
  (case a36 => k_is)
  (case l36 => k_is)
  (case c36 => k_is)
  (case k36 => k_is)
  (case a37 => k_is)
  (case l37 => k_is)
  (case c37 => k_is)
  (case k37 => k_is)
  (case a38 => k_is)
  (case l38 => k_is)
  (case c38 => k_is)
  (case k38 => k_is)
  (case a39 => k_is)
  (case l39 => k_is)
  (case c39 => k_is)
  (case k39 => k_is)
  (case t39 => k_is)
  (case u39 => rfl)
  (case r39 => rfl)
  (case d21_22 => decide)
  (case d21_23 => decide)
  (case d21_39 => decide)
  (case d22_23 => decide)
  (case d22_39 => decide)
  (case d23_39 => decide)
  (case nt => kernel_rfl)
  (case aC => k_is)
  (case aCm0 => k_is)
  (case lCm0 => k_is)
  (case cCm0 => k_is)
  (case kCm0 => k_is)
  (case iCm0 => k_is)
  (case aCm1 => k_is)
  (case lCm1 => k_is)
  (case cCm1 => k_is)
  (case kCm1 => k_is)
  (case iCm1 => k_is)
  (case aCm2 => k_is)
  (case lCm2 => k_is)
  (case cCm2 => k_is)
  (case kCm2 => k_is)
  (case iCm2 => k_is)
  (case aCm3 => k_is)
  (case lCm3 => k_is)
  (case cCm3 => k_is)
  (case kCm3 => k_is)
  (case iCm3 => k_is)
  (case aCm4 => k_is)
  (case lCm4 => k_is)
  (case cCm4 => k_is)
  (case kCm4 => k_is)
  (case iCm4 => k_is)
  (case pgC => k_is)
  (case hdC => k_is)
  (case poC => k_is)
  (case saC => k_is)
  (case mkC => k_is)
  (case kcC => k_is)
  (case nCtold => k_is)
  (case nCline => k_is)
  (case aW0 => k_is)
  (case aW0m0 => k_is)
  (case lW0m0 => k_is)
  (case cW0m0 => k_is)
  (case kW0m0 => k_is)
  (case iW0m0 => k_is)
  (case pgW0 => k_is)
  (case hdW0 => k_is)
  (case poW0 => k_is)
  (case saW0 => k_is)
  (case mkW0 => k_is)
  (case kcW0 => k_is)
  (case aW1 => k_is)
  (case aW1m0 => k_is)
  (case lW1m0 => k_is)
  (case cW1m0 => k_is)
  (case kW1m0 => k_is)
  (case iW1m0 => k_is)
  (case pgW1 => k_is)
  (case hdW1 => k_is)
  (case poW1 => k_is)
  (case saW1 => k_is)
  (case mkW1 => k_is)
  (case kcW1 => k_is)
  (case aW2 => k_is)
  (case aW2m0 => k_is)
  (case lW2m0 => k_is)
  (case cW2m0 => k_is)
  (case kW2m0 => k_is)
  (case iW2m0 => k_is)
  (case pgW2 => k_is)
  (case hdW2 => k_is)
  (case poW2 => k_is)
  (case saW2 => k_is)
  (case mkW2 => k_is)
  (case kcW2 => k_is)
  (case aW3 => k_is)
  (case aW3m0 => k_is)
  (case lW3m0 => k_is)
  (case cW3m0 => k_is)
  (case kW3m0 => k_is)
  (case iW3m0 => k_is)
  (case pgW3 => k_is)
  (case hdW3 => k_is)
  (case poW3 => k_is)
  (case saW3 => k_is)
  (case mkW3 => k_is)
  (case kcW3 => k_is)
  (case aW4 => k_is)
  (case aW4m0 => k_is)
  (case lW4m0 => k_is)
  (case cW4m0 => k_is)
  (case kW4m0 => k_is)
  (case iW4m0 => k_is)
  (case pgW4 => k_is)
  (case hdW4 => k_is)
  (case poW4 => k_is)
  (case saW4 => k_is)
  (case mkW4 => k_is)
  (case kcW4 => k_is)
  (case aW5 => k_is)
  (case aW5m0 => k_is)
  (case lW5m0 => k_is)
  (case cW5m0 => k_is)
  (case kW5m0 => k_is)
  (case iW5m0 => k_is)
  (case pgW5 => k_is)
  (case hdW5 => k_is)
  (case poW5 => k_is)
  (case saW5 => k_is)
  (case mkW5 => k_is)
  (case kcW5 => k_is)
  (case aW6 => k_is)
  (case aW6m0 => k_is)
  (case lW6m0 => k_is)
  (case cW6m0 => k_is)
  (case kW6m0 => k_is)
  (case iW6m0 => k_is)
  (case pgW6 => k_is)
  (case hdW6 => k_is)
  (case poW6 => k_is)
  (case saW6 => k_is)
  (case mkW6 => k_is)
  (case kcW6 => k_is)
  (case z1 => k_is)
  (case z2 => k_is)
  (case z3 => k_is)
  (case z4 => k_is)
  (case z5 => k_is)
  (case z6 => k_is)
  (case z7 => k_is)
  (case z8 => k_is)
  (case z9 => k_is)
  (case z10 => k_is)
  (case z11 => k_is)
  (case z12 => k_is)
  (case eL => k_is)
  (case eLo => k_is)
  (case eR => k_is)
  (case eRo => k_is)
  (case e8 => k_is)
  (case e1 => k_is)
  (case e2 => k_is)
  (case haC => k_is)
  (case hnC => k_is)
  (case htC => k_is)
  (case hmC => k_is)
  (case oiW0 => k_is)
  (case oiW1 => k_is)
  (case oiW2 => k_is)
  (case oiW3 => k_is)
  (case oiW4 => k_is)
  (case oiW5 => k_is)
  (case oiW6 => k_is)
  (case axF => k_is)
  (case axT => k_is)
  (case axP => k_is)
  (case axK => k_is)
  (case axL => k_is)
  (case axX => k_is)
  (case axB => k_is)
  (case zV => k_is)
  (case btB => k_is)
  (case bhB => k_is)
  (case exF => k_exc)
  (case gaF => k_is)
  (case hkF => k_is)
  (case ccF => k_is)
  (case hoF => k_is)
  (case hbF => k_is)
  (case kFF => kernel_rfl)
  (case kFT => kernel_rfl)
  (case kFP => kernel_rfl)
  (case kFK => kernel_rfl)
  (case kFL => kernel_rfl)
  (case kFV => kernel_rfl)
  (case kFX => kernel_rfl)
  (case kFB => k_is)
  (case exT => k_exc)
  (case gaT => k_is)
  (case hkT => k_is)
  (case ccT => k_is)
  (case hoT => k_is)
  (case hbT => k_is)
  (case kTF => kernel_rfl)
  (case kTT => kernel_rfl)
  (case kTP => kernel_rfl)
  (case kTK => kernel_rfl)
  (case kTL => kernel_rfl)
  (case kTV => kernel_rfl)
  (case kTX => kernel_rfl)
  (case kTB => k_is)
  (case exP => k_exc)
  (case gaP => k_is)
  (case hkP => k_is)
  (case ccP => k_is)
  (case hoP => k_is)
  (case hbP => k_is)
  (case kPF => kernel_rfl)
  (case kPT => kernel_rfl)
  (case kPP => kernel_rfl)
  (case kPK => kernel_rfl)
  (case kPL => kernel_rfl)
  (case kPV => kernel_rfl)
  (case kPX => kernel_rfl)
  (case kPB => k_is)
  (case exK => k_exc)
  (case gaK => k_is)
  (case hkK => k_is)
  (case ccK => k_is)
  (case hoK => k_is)
  (case hbK => k_is)
  (case kKF => kernel_rfl)
  (case kKT => kernel_rfl)
  (case kKP => kernel_rfl)
  (case kKK => kernel_rfl)
  (case kKL => kernel_rfl)
  (case kKV => kernel_rfl)
  (case kKX => kernel_rfl)
  (case kKB => k_is)
  (case exL => k_exc)
  (case gaL => k_is)
  (case hkL => k_is)
  (case ccL => k_is)
  (case hoL => k_is)
  (case hbL => k_is)
  (case kLF => kernel_rfl)
  (case kLT => kernel_rfl)
  (case kLP => kernel_rfl)
  (case kLK => kernel_rfl)
  (case kLL => kernel_rfl)
  (case kLV => kernel_rfl)
  (case kLX => kernel_rfl)
  (case kLB => k_is)
  (case tkL => kernel_rfl)
  (case tkN => kernel_rfl)
#print axioms PySem.Challenge.cw_fairknife_k15_refused_holds
