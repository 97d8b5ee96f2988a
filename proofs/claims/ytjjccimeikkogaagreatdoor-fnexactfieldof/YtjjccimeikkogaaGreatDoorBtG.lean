import Derived.Test.YtjjccimeikkogaaGreatDoorBtD
set_option maxRecDepth 1000000
set_option maxHeartbeats 8000000
namespace Go.Proofs.YtjjccimeikkogaaGreatDoor.Bt
set_option linter.unusedVariables false
open Go.ChangeShapes Go.WideShapes Go.ChangeAt Go.RowKit
def errS : ByteArray := ⟨#[69, 114, 114, 111, 114]⟩
def errC (n s : ByteArray) : ClassL := ⟨n, s, 0, [], [wriM newS sigS 2 2 [loadI 0, loadI 1, callI s sigS, retI]]⟩
def objC : ClassL := ⟨⟨#[79, 98, 106, 101, 99, 116]⟩, ⟨#[]⟩, 0, [], [wriM newS sigV 0 1 [retI], natM ⟨#[119, 97, 105, 116]⟩ ⟨#[40, 41, 86]⟩ 2, natM ⟨#[110, 111, 116, 105, 102, 121]⟩ ⟨#[40, 41, 86]⟩ 2, natM ⟨#[119, 97, 107, 101]⟩ ⟨#[40, 41, 86]⟩ 2, natM ⟨#[104, 97, 115, 104]⟩ ⟨#[40, 41, 73]⟩ 2]⟩
def strC : ClassL := ⟨⟨#[83, 116, 114, 105, 110, 103]⟩, ⟨#[79, 98, 106, 101, 99, 116]⟩, 2, [], [natM ⟨#[108, 101, 110, 103, 116, 104]⟩ ⟨#[40, 41, 73]⟩ 0, natM ⟨#[97, 116]⟩ ⟨#[40, 73, 41, 73]⟩ 0, natM ⟨#[106, 111, 105, 110]⟩ ⟨#[40, 64, 83, 116, 114, 105, 110, 103, 41, 64, 83, 116, 114, 105, 110, 103]⟩ 0, natM ⟨#[115, 97, 109, 101]⟩ ⟨#[40, 64, 79, 98, 106, 101, 99, 116, 41, 73]⟩ 0, natM ⟨#[112, 97, 114, 116]⟩ ⟨#[40, 73, 44, 73, 41, 64, 83, 116, 114, 105, 110, 103]⟩ 0]⟩
def threadC : ClassL := ⟨⟨#[84, 104, 114, 101, 97, 100]⟩, ⟨#[79, 98, 106, 101, 99, 116]⟩, 0, [], [wriM newS sigV 1 1 [loadI 0, callI objS sigV, retI], wriM ⟨#[114, 117, 110]⟩ sigV 0 1 [retI], natM ⟨#[98, 101, 103, 105, 110]⟩ ⟨#[40, 41, 86]⟩ 2, natM ⟨#[106, 111, 105, 110]⟩ ⟨#[40, 41, 86]⟩ 2, natM ⟨#[115, 116, 111, 112]⟩ ⟨#[40, 41, 86]⟩ 2, natM ⟨#[115, 116, 111, 112, 112, 101, 100]⟩ ⟨#[40, 41, 73]⟩ 2]⟩
def sysC : ClassL := ⟨⟨#[83, 121, 115, 116, 101, 109]⟩, ⟨#[79, 98, 106, 101, 99, 116]⟩, 2, [], [natM ⟨#[112, 114, 105, 110, 116]⟩ ⟨#[40, 73, 41, 86]⟩ 1, natM ⟨#[112, 114, 105, 110, 116]⟩ ⟨#[40, 74, 41, 86]⟩ 1, natM ⟨#[112, 114, 105, 110, 116]⟩ ⟨#[40, 68, 41, 86]⟩ 1, natM ⟨#[112, 114, 105, 110, 116]⟩ ⟨#[40, 64, 83, 116, 114, 105, 110, 103, 41, 86]⟩ 1]⟩
def bootErrs : List ByteArray := [⟨#[78, 117, 108, 108, 69, 114, 114, 111, 114]⟩, ⟨#[65, 114, 105, 116, 104, 69, 114, 114, 111, 114]⟩, ⟨#[66, 111, 117, 110, 100, 115, 69, 114, 114, 111, 114]⟩, ⟨#[67, 97, 115, 116, 69, 114, 114, 111, 114]⟩, ⟨#[83, 116, 111, 114, 101, 69, 114, 114, 111, 114]⟩, ⟨#[83, 105, 122, 101, 69, 114, 114, 111, 114]⟩, ⟨#[83, 116, 97, 116, 101, 69, 114, 114, 111, 114]⟩, ⟨#[76, 105, 110, 107, 69, 114, 114, 111, 114]⟩, ⟨#[73, 110, 105, 116, 69, 114, 114, 111, 114]⟩, ⟨#[83, 116, 111, 112, 69, 114, 114, 111, 114]⟩]
def boot4 : List ClassL := [objC, strC, thrC, errC errS ⟨#[84, 104, 114, 111, 119, 97, 98, 108, 101]⟩]
def bootL : List ClassL := boot4 ++ bootErrs.map (fun n => errC n errS) ++ [threadC, sysC]
def errTab : List Value := [.string ⟨#[78, 117, 108, 108, 69, 114, 114, 111, 114]⟩, .string ⟨#[65, 114, 105, 116, 104, 69, 114, 114, 111, 114]⟩, .string ⟨#[66, 111, 117, 110, 100, 115, 69, 114, 114, 111, 114]⟩, .string ⟨#[67, 97, 115, 116, 69, 114, 114, 111, 114]⟩, .string ⟨#[83, 116, 111, 114, 101, 69, 114, 114, 111, 114]⟩, .string ⟨#[83, 105, 122, 101, 69, 114, 114, 111, 114]⟩, .string ⟨#[83, 116, 97, 116, 101, 69, 114, 114, 111, 114]⟩, .string ⟨#[76, 105, 110, 107, 69, 114, 114, 111, 114]⟩, .string ⟨#[73, 110, 105, 116, 69, 114, 114, 111, 114]⟩, .string ⟨#[83, 116, 111, 112, 69, 114, 114, 111, 114]⟩]
def BootEnv (W : World) : Prop := W.rangeAt 0 0 errTab ∧ 0 < W.heap.size
theorem BootEnv.kept {W W' : World} (h : BootEnv W) (hb : Below W.heap.size W W') : BootEnv W' := ⟨rangeAt_kept hb h.2 h.1, Nat.lt_of_lt_of_le h.2 hb.size⟩
def BootQ (w : World) (e : Ending) (w' : World) : Prop := (∃ v F, e = .returned v ∧ ListF ClassF 7 49 w' v bootL F ∧ F.Nodup ∧ (∀ b ∈ F, w.heap.size ≤ b) ∧ ∃ cells, w'.ownsRow w.heap.size 49 7 v 16 cells) ∧ Below w.heap.size w w'
theorem idxE (m : Nat) (h : m < bootErrs.length) (W : World) : (Instr.index 145 (.agg #[.string ⟨#[78, 117, 108, 108, 69, 114, 114, 111, 114]⟩, .string ⟨#[65, 114, 105, 116, 104, 69, 114, 114, 111, 114]⟩, .string ⟨#[66, 111, 117, 110, 100, 115, 69, 114, 114, 111, 114]⟩, .string ⟨#[67, 97, 115, 116, 69, 114, 114, 111, 114]⟩, .string ⟨#[83, 116, 111, 114, 101, 69, 114, 114, 111, 114]⟩, .string ⟨#[83, 105, 122, 101, 69, 114, 114, 111, 114]⟩, .string ⟨#[83, 116, 97, 116, 101, 69, 114, 114, 111, 114]⟩, .string ⟨#[76, 105, 110, 107, 69, 114, 114, 111, 114]⟩, .string ⟨#[73, 110, 105, 116, 69, 114, 114, 111, 114]⟩, .string ⟨#[83, 116, 111, 112, 69, 114, 114, 111, 114]⟩]) (.int .i64 m)).run Tryz.prog W = .ok (.string bootErrs[m]) W := by
 have h' : m < 10 := h
 match m, h' with
 | 0, _ => exact (show (Instr.index 145 (.agg #[.string ⟨#[78, 117, 108, 108, 69, 114, 114, 111, 114]⟩, .string ⟨#[65, 114, 105, 116, 104, 69, 114, 114, 111, 114]⟩, .string ⟨#[66, 111, 117, 110, 100, 115, 69, 114, 114, 111, 114]⟩, .string ⟨#[67, 97, 115, 116, 69, 114, 114, 111, 114]⟩, .string ⟨#[83, 116, 111, 114, 101, 69, 114, 114, 111, 114]⟩, .string ⟨#[83, 105, 122, 101, 69, 114, 114, 111, 114]⟩, .string ⟨#[83, 116, 97, 116, 101, 69, 114, 114, 111, 114]⟩, .string ⟨#[76, 105, 110, 107, 69, 114, 114, 111, 114]⟩, .string ⟨#[73, 110, 105, 116, 69, 114, 114, 111, 114]⟩, .string ⟨#[83, 116, 111, 112, 69, 114, 114, 111, 114]⟩]) (.int .i64 0)).run Tryz.prog W = .ok (.string ⟨#[78, 117, 108, 108, 69, 114, 114, 111, 114]⟩) W by kernel_rfl)
 | 1, _ => exact (show (Instr.index 145 (.agg #[.string ⟨#[78, 117, 108, 108, 69, 114, 114, 111, 114]⟩, .string ⟨#[65, 114, 105, 116, 104, 69, 114, 114, 111, 114]⟩, .string ⟨#[66, 111, 117, 110, 100, 115, 69, 114, 114, 111, 114]⟩, .string ⟨#[67, 97, 115, 116, 69, 114, 114, 111, 114]⟩, .string ⟨#[83, 116, 111, 114, 101, 69, 114, 114, 111, 114]⟩, .string ⟨#[83, 105, 122, 101, 69, 114, 114, 111, 114]⟩, .string ⟨#[83, 116, 97, 116, 101, 69, 114, 114, 111, 114]⟩, .string ⟨#[76, 105, 110, 107, 69, 114, 114, 111, 114]⟩, .string ⟨#[73, 110, 105, 116, 69, 114, 114, 111, 114]⟩, .string ⟨#[83, 116, 111, 112, 69, 114, 114, 111, 114]⟩]) (.int .i64 1)).run Tryz.prog W = .ok (.string ⟨#[65, 114, 105, 116, 104, 69, 114, 114, 111, 114]⟩) W by kernel_rfl)
 | 2, _ => exact (show (Instr.index 145 (.agg #[.string ⟨#[78, 117, 108, 108, 69, 114, 114, 111, 114]⟩, .string ⟨#[65, 114, 105, 116, 104, 69, 114, 114, 111, 114]⟩, .string ⟨#[66, 111, 117, 110, 100, 115, 69, 114, 114, 111, 114]⟩, .string ⟨#[67, 97, 115, 116, 69, 114, 114, 111, 114]⟩, .string ⟨#[83, 116, 111, 114, 101, 69, 114, 114, 111, 114]⟩, .string ⟨#[83, 105, 122, 101, 69, 114, 114, 111, 114]⟩, .string ⟨#[83, 116, 97, 116, 101, 69, 114, 114, 111, 114]⟩, .string ⟨#[76, 105, 110, 107, 69, 114, 114, 111, 114]⟩, .string ⟨#[73, 110, 105, 116, 69, 114, 114, 111, 114]⟩, .string ⟨#[83, 116, 111, 112, 69, 114, 114, 111, 114]⟩]) (.int .i64 2)).run Tryz.prog W = .ok (.string ⟨#[66, 111, 117, 110, 100, 115, 69, 114, 114, 111, 114]⟩) W by kernel_rfl)
 | 3, _ => exact (show (Instr.index 145 (.agg #[.string ⟨#[78, 117, 108, 108, 69, 114, 114, 111, 114]⟩, .string ⟨#[65, 114, 105, 116, 104, 69, 114, 114, 111, 114]⟩, .string ⟨#[66, 111, 117, 110, 100, 115, 69, 114, 114, 111, 114]⟩, .string ⟨#[67, 97, 115, 116, 69, 114, 114, 111, 114]⟩, .string ⟨#[83, 116, 111, 114, 101, 69, 114, 114, 111, 114]⟩, .string ⟨#[83, 105, 122, 101, 69, 114, 114, 111, 114]⟩, .string ⟨#[83, 116, 97, 116, 101, 69, 114, 114, 111, 114]⟩, .string ⟨#[76, 105, 110, 107, 69, 114, 114, 111, 114]⟩, .string ⟨#[73, 110, 105, 116, 69, 114, 114, 111, 114]⟩, .string ⟨#[83, 116, 111, 112, 69, 114, 114, 111, 114]⟩]) (.int .i64 3)).run Tryz.prog W = .ok (.string ⟨#[67, 97, 115, 116, 69, 114, 114, 111, 114]⟩) W by kernel_rfl)
 | 4, _ => exact (show (Instr.index 145 (.agg #[.string ⟨#[78, 117, 108, 108, 69, 114, 114, 111, 114]⟩, .string ⟨#[65, 114, 105, 116, 104, 69, 114, 114, 111, 114]⟩, .string ⟨#[66, 111, 117, 110, 100, 115, 69, 114, 114, 111, 114]⟩, .string ⟨#[67, 97, 115, 116, 69, 114, 114, 111, 114]⟩, .string ⟨#[83, 116, 111, 114, 101, 69, 114, 114, 111, 114]⟩, .string ⟨#[83, 105, 122, 101, 69, 114, 114, 111, 114]⟩, .string ⟨#[83, 116, 97, 116, 101, 69, 114, 114, 111, 114]⟩, .string ⟨#[76, 105, 110, 107, 69, 114, 114, 111, 114]⟩, .string ⟨#[73, 110, 105, 116, 69, 114, 114, 111, 114]⟩, .string ⟨#[83, 116, 111, 112, 69, 114, 114, 111, 114]⟩]) (.int .i64 4)).run Tryz.prog W = .ok (.string ⟨#[83, 116, 111, 114, 101, 69, 114, 114, 111, 114]⟩) W by kernel_rfl)
 | 5, _ => exact (show (Instr.index 145 (.agg #[.string ⟨#[78, 117, 108, 108, 69, 114, 114, 111, 114]⟩, .string ⟨#[65, 114, 105, 116, 104, 69, 114, 114, 111, 114]⟩, .string ⟨#[66, 111, 117, 110, 100, 115, 69, 114, 114, 111, 114]⟩, .string ⟨#[67, 97, 115, 116, 69, 114, 114, 111, 114]⟩, .string ⟨#[83, 116, 111, 114, 101, 69, 114, 114, 111, 114]⟩, .string ⟨#[83, 105, 122, 101, 69, 114, 114, 111, 114]⟩, .string ⟨#[83, 116, 97, 116, 101, 69, 114, 114, 111, 114]⟩, .string ⟨#[76, 105, 110, 107, 69, 114, 114, 111, 114]⟩, .string ⟨#[73, 110, 105, 116, 69, 114, 114, 111, 114]⟩, .string ⟨#[83, 116, 111, 112, 69, 114, 114, 111, 114]⟩]) (.int .i64 5)).run Tryz.prog W = .ok (.string ⟨#[83, 105, 122, 101, 69, 114, 114, 111, 114]⟩) W by kernel_rfl)
 | 6, _ => exact (show (Instr.index 145 (.agg #[.string ⟨#[78, 117, 108, 108, 69, 114, 114, 111, 114]⟩, .string ⟨#[65, 114, 105, 116, 104, 69, 114, 114, 111, 114]⟩, .string ⟨#[66, 111, 117, 110, 100, 115, 69, 114, 114, 111, 114]⟩, .string ⟨#[67, 97, 115, 116, 69, 114, 114, 111, 114]⟩, .string ⟨#[83, 116, 111, 114, 101, 69, 114, 114, 111, 114]⟩, .string ⟨#[83, 105, 122, 101, 69, 114, 114, 111, 114]⟩, .string ⟨#[83, 116, 97, 116, 101, 69, 114, 114, 111, 114]⟩, .string ⟨#[76, 105, 110, 107, 69, 114, 114, 111, 114]⟩, .string ⟨#[73, 110, 105, 116, 69, 114, 114, 111, 114]⟩, .string ⟨#[83, 116, 111, 112, 69, 114, 114, 111, 114]⟩]) (.int .i64 6)).run Tryz.prog W = .ok (.string ⟨#[83, 116, 97, 116, 101, 69, 114, 114, 111, 114]⟩) W by kernel_rfl)
 | 7, _ => exact (show (Instr.index 145 (.agg #[.string ⟨#[78, 117, 108, 108, 69, 114, 114, 111, 114]⟩, .string ⟨#[65, 114, 105, 116, 104, 69, 114, 114, 111, 114]⟩, .string ⟨#[66, 111, 117, 110, 100, 115, 69, 114, 114, 111, 114]⟩, .string ⟨#[67, 97, 115, 116, 69, 114, 114, 111, 114]⟩, .string ⟨#[83, 116, 111, 114, 101, 69, 114, 114, 111, 114]⟩, .string ⟨#[83, 105, 122, 101, 69, 114, 114, 111, 114]⟩, .string ⟨#[83, 116, 97, 116, 101, 69, 114, 114, 111, 114]⟩, .string ⟨#[76, 105, 110, 107, 69, 114, 114, 111, 114]⟩, .string ⟨#[73, 110, 105, 116, 69, 114, 114, 111, 114]⟩, .string ⟨#[83, 116, 111, 112, 69, 114, 114, 111, 114]⟩]) (.int .i64 7)).run Tryz.prog W = .ok (.string ⟨#[76, 105, 110, 107, 69, 114, 114, 111, 114]⟩) W by kernel_rfl)
 | 8, _ => exact (show (Instr.index 145 (.agg #[.string ⟨#[78, 117, 108, 108, 69, 114, 114, 111, 114]⟩, .string ⟨#[65, 114, 105, 116, 104, 69, 114, 114, 111, 114]⟩, .string ⟨#[66, 111, 117, 110, 100, 115, 69, 114, 114, 111, 114]⟩, .string ⟨#[67, 97, 115, 116, 69, 114, 114, 111, 114]⟩, .string ⟨#[83, 116, 111, 114, 101, 69, 114, 114, 111, 114]⟩, .string ⟨#[83, 105, 122, 101, 69, 114, 114, 111, 114]⟩, .string ⟨#[83, 116, 97, 116, 101, 69, 114, 114, 111, 114]⟩, .string ⟨#[76, 105, 110, 107, 69, 114, 114, 111, 114]⟩, .string ⟨#[73, 110, 105, 116, 69, 114, 114, 111, 114]⟩, .string ⟨#[83, 116, 111, 112, 69, 114, 114, 111, 114]⟩]) (.int .i64 8)).run Tryz.prog W = .ok (.string ⟨#[73, 110, 105, 116, 69, 114, 114, 111, 114]⟩) W by kernel_rfl)
 | 9, _ => exact (show (Instr.index 145 (.agg #[.string ⟨#[78, 117, 108, 108, 69, 114, 114, 111, 114]⟩, .string ⟨#[65, 114, 105, 116, 104, 69, 114, 114, 111, 114]⟩, .string ⟨#[66, 111, 117, 110, 100, 115, 69, 114, 114, 111, 114]⟩, .string ⟨#[67, 97, 115, 116, 69, 114, 114, 111, 114]⟩, .string ⟨#[83, 116, 111, 114, 101, 69, 114, 114, 111, 114]⟩, .string ⟨#[83, 105, 122, 101, 69, 114, 114, 111, 114]⟩, .string ⟨#[83, 116, 97, 116, 101, 69, 114, 114, 111, 114]⟩, .string ⟨#[76, 105, 110, 107, 69, 114, 114, 111, 114]⟩, .string ⟨#[73, 110, 105, 116, 69, 114, 114, 111, 114]⟩, .string ⟨#[83, 116, 111, 112, 69, 114, 114, 111, 114]⟩]) (.int .i64 9)).run Tryz.prog W = .ok (.string ⟨#[83, 116, 111, 112, 69, 114, 114, 111, 114]⟩) W by kernel_rfl)
theorem cells_newP (W : World) (p : Nat) (cs : Array Value) (t : TypeId) (hp : p = W.heap.size) (j : Nat) (u : Value) (h : cs.toList[j]? = some u) : (W.alloc (.cells cs t)).cell? ((⟨p, 0, none⟩ : Addr).add j) = some u := by
 subst hp
 have := rangeAt_heap (heap_alloc_new W (.cells cs t)) j u h
 rw [Addr.add_mid]
 exact this
theorem ones7 (s t : ByteArray) (b : Nat) : ∀ u ∈ ([.string s, .string t, .slice none 0 0, .int .i64 0, .slice none 0 0, .slice none 0 0, .slice (some ⟨b, 0, none⟩) 1 1] : List Value), u.oneCell' = true := fun u hu => List.all_eq_true.1 (show List.all [.string s, .string t, .slice none 0 0, .int .i64 0, .slice none 0 0, .slice none 0 0, .slice (some ⟨b, 0, none⟩) 1 1] (·.oneCell') = true from rfl) u hu
theorem ones14 (b c : Nat) : ∀ u ∈ ([.string ⟨#[84, 104, 114, 101, 97, 100]⟩, .string ⟨#[79, 98, 106, 101, 99, 116]⟩, .slice none 0 0, .int .i64 0, .slice none 0 0, .slice none 0 0, .slice (some ⟨b, 0, none⟩) 6 6] ++ [.string ⟨#[83, 121, 115, 116, 101, 109]⟩, .string ⟨#[79, 98, 106, 101, 99, 116]⟩, .slice none 0 0, .int .i64 2, .slice none 0 0, .slice none 0 0, .slice (some ⟨c, 0, none⟩) 4 4] : List Value), u.oneCell' = true := fun u hu => List.all_eq_true.1 (show List.all ([.string ⟨#[84, 104, 114, 101, 97, 100]⟩, .string ⟨#[79, 98, 106, 101, 99, 116]⟩, .slice none 0 0, .int .i64 0, .slice none 0 0, .slice none 0 0, .slice (some ⟨b, 0, none⟩) 6 6] ++ [.string ⟨#[83, 121, 115, 116, 101, 109]⟩, .string ⟨#[79, 98, 106, 101, 99, 116]⟩, .slice none 0 0, .int .i64 2, .slice none 0 0, .slice none 0 0, .slice (some ⟨c, 0, none⟩) 4 4]) (·.oneCell') = true from rfl) u hu
theorem info42 : (Tryz.prog.info? 49).map (fun i => (i.zero, i.size, i.bytes)) = some (some (.agg #[.string ⟨#[]⟩, .string ⟨#[]⟩, .slice none 0 0, .int .i64 0, .slice none 0 0, .slice none 0 0, .slice none 0 0]), 7, 136) := by kernel_rfl
def rowsOf (cs : Clss) : List Value := (cs.map (·.2.1)).flatten
theorem rowsOf_snoc (cs : Clss) (x : ClassL) (row : List Value) (F : List Nat) : rowsOf (cs ++ [(x, row, F)]) = rowsOf cs ++ row := by simp [rowsOf]
theorem implBoot_calls (w : World) (he : BootEnv w) : Calls Tryz.prog 86 #[] w fun e w' => (∃ v F, e = .returned v ∧ ListF ClassF 7 49 w' v bootL F ∧ F.Nodup ∧ (∀ b ∈ F, w.heap.size ≤ b) ∧ ∃ cells, w'.ownsRow w.heap.size 49 7 v 16 cells) ∧ Below w.heap.size w w' := by
 obtain ⟨i0, hi0, hz0, hz1, hz2⟩ := info_parts info42
 have heH : Hid (BootEnv w) := he
 clear he
 go_enter Tryz.func86, Tryz.ntmps86
 go_wp2_with fail
 refine (bootObject_calls w).mono ?_
 rintro e w1 ⟨⟨p1, rfl, o1⟩, b1⟩
 obtain ⟨F1, c1⟩ := (ClsIn.nil w w).add b1 (Nat.le_refl _) rfl o1
 have c1H : Hid (ClsIn w _ w1) := c1
 have b1H : Hid (Below w.heap.size w w1) := b1
 clear o1 b1 c1
 go_wp2_with fail
 refine (bootString_calls w1).mono ?_
 rintro e w2 ⟨⟨p2, rfl, o2⟩, b2⟩
 obtain ⟨F2, c2⟩ := c1H.out.add b2 b1H.out.size rfl o2
 have c2H : Hid (ClsIn w _ w2) := c2
 have b2H : Hid (Below w.heap.size w w2) := below_on b1H.out b2
 clear o2 b2 c2 c1H b1H
 go_wp2_with fail
 refine (bootThrowable_calls w2).mono ?_
 rintro e w3 ⟨⟨p3, q3, rfl, o3⟩, b3⟩
 obtain ⟨F3, c3⟩ := c2H.out.add b3 b2H.out.size rfl o3
 have c3H : Hid (ClsIn w _ w3) := c3
 have b3H : Hid (Below w.heap.size w w3) := below_on b2H.out b3
 clear o3 b3 c3 c2H b2H
 go_wp2_with fail
 refine (bootError_calls _ _ w3).mono ?_
 rintro e w4 ⟨⟨p4, rfl, o4⟩, b4⟩
 obtain ⟨F4, c4⟩ := c3H.out.add b4 b3H.out.size rfl o4
 have c4H : Hid (ClsIn w _ w4) := c4
 have b4H : Hid (Below w.heap.size w w4) := below_on b3H.out b4
 clear o4 b4 c4 c3H b3H
 have hg : ∀ A, BootEnv (w4.alloc A) := fun A => (heH.out.kept b4H.out).kept (below_1 _ _)
 have g0 : ∀ A, (w4.alloc A).cell? ⟨0, 0, none⟩ = some (.string ⟨#[78, 117, 108, 108, 69, 114, 114, 111, 114]⟩) := fun A => (hg A).1 0 _ rfl
 have g1 : ∀ A, (w4.alloc A).cell? ⟨0, 1, none⟩ = some (.string ⟨#[65, 114, 105, 116, 104, 69, 114, 114, 111, 114]⟩) := fun A => (hg A).1 1 _ rfl
 have g2 : ∀ A, (w4.alloc A).cell? ⟨0, 2, none⟩ = some (.string ⟨#[66, 111, 117, 110, 100, 115, 69, 114, 114, 111, 114]⟩) := fun A => (hg A).1 2 _ rfl
 have g3 : ∀ A, (w4.alloc A).cell? ⟨0, 3, none⟩ = some (.string ⟨#[67, 97, 115, 116, 69, 114, 114, 111, 114]⟩) := fun A => (hg A).1 3 _ rfl
 have g4 : ∀ A, (w4.alloc A).cell? ⟨0, 4, none⟩ = some (.string ⟨#[83, 116, 111, 114, 101, 69, 114, 114, 111, 114]⟩) := fun A => (hg A).1 4 _ rfl
 have g5 : ∀ A, (w4.alloc A).cell? ⟨0, 5, none⟩ = some (.string ⟨#[83, 105, 122, 101, 69, 114, 114, 111, 114]⟩) := fun A => (hg A).1 5 _ rfl
 have g6 : ∀ A, (w4.alloc A).cell? ⟨0, 6, none⟩ = some (.string ⟨#[83, 116, 97, 116, 101, 69, 114, 114, 111, 114]⟩) := fun A => (hg A).1 6 _ rfl
 have g7 : ∀ A, (w4.alloc A).cell? ⟨0, 7, none⟩ = some (.string ⟨#[76, 105, 110, 107, 69, 114, 114, 111, 114]⟩) := fun A => (hg A).1 7 _ rfl
 have g8 : ∀ A, (w4.alloc A).cell? ⟨0, 8, none⟩ = some (.string ⟨#[73, 110, 105, 116, 69, 114, 114, 111, 114]⟩) := fun A => (hg A).1 8 _ rfl
 have g9 : ∀ A, (w4.alloc A).cell? ⟨0, 9, none⟩ = some (.string ⟨#[83, 116, 111, 112, 69, 114, 114, 111, 114]⟩) := fun A => (hg A).1 9 _ rfl
 clear hg
 go_wp2
 clear g0 g1 g2 g3 g4 g5 g6 g7 g8 g9
 go_loopw [1, 10] (fun v i wr => ∃ (m : Nat) (cs : Clss), m ≤ 10 ∧ i = .int .i64 m ∧ Hid (wr.ownsRow w.heap.size 49 7 v (4 + m) (rowsOf cs)) ∧ Hid (ClsIn w cs wr) ∧ Hid (cs.map (·.1) = boot4 ++ (bootErrs.take m).map (fun n => errC n errS)) ∧ Hid (Below w.heap.size w wr)) (fun _ i _ => 10 - (intOf i).toNat)
 case atStart =>
  refine ⟨0, _, Nat.zero_le _, rfl, ?_, c4H.out.call (below_1 _ _), rfl, below_on b4H.out (below_1 _ _)⟩
  exact World.ownsRow_lit w4 _ 4 b4H.out.size (by unfold maxLen; omega) rfl
 case round =>
  obtain ⟨m, cs, hm, rfl, ho, hc, hx, hb⟩ := hrel
  clear c4H b4H
  by_cases hlt : m < 10
  ·have hlt' : (m : Int) < 10 := by omega
   have hbl : m < bootErrs.length := hlt
   have hidx := idxE m hbl
   have htk := List.take_append_getElem hbl
   obtain ⟨s, hs⟩ : ∃ s, s = bootErrs[m] := ⟨_, rfl⟩
   rw [← hs] at hidx htk
   have htkH : Hid (bootErrs.take m ++ [s] = bootErrs.take (m + 1)) := htk
   clear hs htk
   go_wp2_with (first
    | (go_at_call 122; refine (bootError_calls _ _ _).mono ?_; rintro e wq ⟨⟨b, rfl, oq⟩, hbq⟩; have ho1 := ho.out.kept (grown_below hbq) (Classical.em _))
    | (refine wpList_append_own _ rfl _ _ 26 rfl w.heap.size 49 i0 _ 7 136 Tryz.underlying26 hi0 hz0 hz1 hz2 rfl (by decide) _ (4 + m) (rowsOf cs) rfl (ho1.alloc _) ⟨wq.heap.size, 0, none⟩ 1 1 [.string s, .string errS, .slice none 0 0, .int .i64 0, .slice none 0 0, .slice none 0 0, .slice (some ⟨b, 0, none⟩) 1 1] rfl rfl (fun j u hu => cells_newP wq _ _ 49 rfl j u hu) (ones7 s errS b) (by unfold maxLen; omega) (by omega) (by have h1 := hb.out.size; have h2 := hbq.size; simp; omega) ?_; intro v' w' hown' hgrow hnil))
   go_roundw
   case rel =>
    obtain ⟨F, cq⟩ := hc.out.add hbq hb.out.size rfl oq
    have cz := (cq.call (below_1 wq (.cells #[.string s, .string errS, .slice none 0 0, .int .i64 0, .slice none 0 0, .slice none 0 0, .slice (some ⟨b, 0, none⟩) 1 1] 49))).grown (ho1.alloc _) hgrow
    have hbz : Below w.heap.size w (wq.alloc (.cells #[.string s, .string errS, .slice none 0 0, .int .i64 0, .slice none 0 0, .slice none 0 0, .slice (some ⟨b, 0, none⟩) 1 1] 49)) := below_on (below_on hb.out hbq) (below_1 _ _)
    refine ⟨m + 1, _, by omega, by go_num, ?_, cz, ?_, hbz.grown hgrow hbz.size (fun k hk => ((ho1.alloc (.cells #[.string s, .string errS, .slice none 0 0, .int .i64 0, .slice none 0 0, .slice none 0 0, .slice (some ⟨b, 0, none⟩) 1 1] 49)).lt k hk).1)⟩
    ·show World.ownsRow _ _ _ _ _ _ _
     rw [rowsOf_snoc]
     exact hown'
    ·show _ = _
     rw [List.map_append, hx.out, ← htkH.out, List.map_append, List.append_assoc]
     rfl
   case measure => simp [intOf]; omega
  ·obtain rfl : m = 10 := by omega
   clear hlt
   have ho14 : Hid (wr.ownsRow w.heap.size 49 7 u1 14 (rowsOf cs)) := ho.out
   clear ho
   go_wp2_with fail
   refine (bootThread_calls wr).mono ?_
   rintro e w5 ⟨⟨p5, rfl, o5⟩, b5⟩
   obtain ⟨F5, c5⟩ := hc.out.add b5 hb.out.size rfl o5
   have c5H : Hid (ClsIn w _ w5) := c5
   have b5H : Hid (Below w.heap.size w w5) := below_on hb.out b5
   have ho5 : Hid (w5.ownsRow w.heap.size 49 7 u1 14 (rowsOf cs)) := ho14.out.kept (grown_below b5) (Classical.em _)
   clear o5 b5 c5 hc hb ho14
   go_wp2_with fail
   refine (bootSystem_calls w5).mono ?_
   rintro e w6 ⟨⟨p6, rfl, o6⟩, b6⟩
   obtain ⟨F6, c6⟩ := c5H.out.add b6 b5H.out.size rfl o6
   have c6H : Hid (ClsIn w _ w6) := c6
   have b6H : Hid (Below w.heap.size w w6) := below_on b5H.out b6
   have ho6 : Hid (w6.ownsRow w.heap.size 49 7 u1 14 (rowsOf cs)) := ho5.out.kept (grown_below b6) (Classical.em _)
   clear o6 b6 c6 c5H b5H ho5
   go_wp2_with (refine wpList_append_own _ rfl _ _ 26 rfl w.heap.size 49 i0 _ 7 136 Tryz.underlying26 hi0 hz0 hz1 hz2 rfl (by decide) _ 14 (rowsOf cs) rfl (ho6.out.alloc _) ⟨w6.heap.size, 0, none⟩ 2 2 ([.string ⟨#[84, 104, 114, 101, 97, 100]⟩, .string ⟨#[79, 98, 106, 101, 99, 116]⟩, .slice none 0 0, .int .i64 0, .slice none 0 0, .slice none 0 0, .slice (some ⟨p5, 0, none⟩) 6 6] ++ [.string ⟨#[83, 121, 115, 116, 101, 109]⟩, .string ⟨#[79, 98, 106, 101, 99, 116]⟩, .slice none 0 0, .int .i64 2, .slice none 0 0, .slice none 0 0, .slice (some ⟨p6, 0, none⟩) 4 4]) rfl rfl (fun j u hu => cells_newP w6 _ _ 49 rfl j u hu) (ones14 p5 p6) (by unfold maxLen; omega) (by omega) (by have h1 := b6H.out.size; simp; omega) ?_; intro v' w' hown' hgrow hnil)
   go_ret
   have cz := (c6H.out.call (below_1 w6 (.cells #[.string ⟨#[84, 104, 114, 101, 97, 100]⟩, .string ⟨#[79, 98, 106, 101, 99, 116]⟩, .slice none 0 0, .int .i64 0, .slice none 0 0, .slice none 0 0, .slice (some ⟨p5, 0, none⟩) 6 6, .string ⟨#[83, 121, 115, 116, 101, 109]⟩, .string ⟨#[79, 98, 106, 101, 99, 116]⟩, .slice none 0 0, .int .i64 2, .slice none 0 0, .slice none 0 0, .slice (some ⟨p6, 0, none⟩) 4 4] 49))).grown (ho6.out.alloc _) hgrow
   have hbz : Below w.heap.size w (w6.alloc (.cells #[.string ⟨#[84, 104, 114, 101, 97, 100]⟩, .string ⟨#[79, 98, 106, 101, 99, 116]⟩, .slice none 0 0, .int .i64 0, .slice none 0 0, .slice none 0 0, .slice (some ⟨p5, 0, none⟩) 6 6, .string ⟨#[83, 121, 115, 116, 101, 109]⟩, .string ⟨#[79, 98, 106, 101, 99, 116]⟩, .slice none 0 0, .int .i64 2, .slice none 0 0, .slice none 0 0, .slice (some ⟨p6, 0, none⟩) 4 4] 49)) := below_on b6H.out (below_1 _ _)
   have hL := cz.list (v := v') (n := 16) (by
    rw [show ∀ c : Clss, (c.map (·.2.1)).flatten = rowsOf c from fun _ => rfl, rowsOf_snoc, rowsOf_snoc, List.append_assoc]
    exact hown') (by
    have := congrArg List.length hx.out
    simp [boot4, bootErrs] at this
    simp [this]) (by simp)
   obtain ⟨F, h1, h2, h3⟩ := hL
   refine ⟨⟨v', F, rfl, ?_, h2, h3, _, hown'⟩, hbz.grown hgrow hbz.size (fun k hk => (ho6.out.lt k hk).1)⟩
   rw [List.map_append, List.map_append, hx.out] at h1
   exact h1
end Go.Proofs.YtjjccimeikkogaaGreatDoor.Bt
/- spec's helpers of Boot; methods from a bound on. -/
namespace Go.Proofs.YtjjccimeikkogaaGreatDoor.Bt
set_option linter.unusedVariables false
open Go.ChangeShapes Go.WideShapes Go.ChangeAt Go.RowKit
theorem l2Return_calls  (w : World) : Calls Tryz.prog 73 #[] w fun e w' => e = .returned (.agg #[.int .i64 44, .int .i64 0, .int .i64 0, .int .i64 0, .string ⟨#[]⟩, .string ⟨#[]⟩, .string ⟨#[]⟩, .string ⟨#[]⟩, .slice none 0 0]) ∧ Below w.heap.size w w' := by
 go_enter Tryz.func73, Tryz.ntmps73
 go_wp2
 refine bodyPost_ret (v := .agg #[.int .i64 44, .int .i64 0, .int .i64 0, .int .i64 0, .string ⟨#[]⟩, .string ⟨#[]⟩, .string ⟨#[]⟩, .string ⟨#[]⟩, .slice none 0 0]) (results_cell_mid rfl _ _ w.heap.size [.int .i64 44, .int .i64 0, .int .i64 0, .int .i64 0, .string ⟨#[]⟩, .string ⟨#[]⟩, .string ⟨#[]⟩, .string ⟨#[]⟩, .slice none 0 0] _ rfl (rangeAt_heap (heap_alloc_new w _)) Tryz.underlying110 rfl (by kernel_rfl)) rfl ⟨rfl, below_1 _ _⟩
theorem l2Native_calls (n s : ByteArray) (f : Int) (h0 : 0 ≤ f) (h1 : f ≤ 2) (w : World) : Calls Tryz.prog 74 #[.string n, .string s, .int .i64 f] w fun e w' => e = .returned (.agg #[.string n, .string s, .int .i64 (f + 64), .int .i64 0, .int .i64 0, .slice none 0 0, .slice none 0 0, .slice none 0 0, .slice none 0 0]) ∧ Below w.heap.size w w' := by
 go_enter Tryz.func74, Tryz.ntmps74
 go_wp2
 refine bodyPost_ret (v := .agg #[.string n, .string s, .int .i64 (f + 64), .int .i64 0, .int .i64 0, .slice none 0 0, .slice none 0 0, .slice none 0 0, .slice none 0 0]) (results_cell_mid rfl _ _ w.heap.size [.string n, .string s, .int .i64 (f + 64), .int .i64 0, .int .i64 0, .slice none 0 0, .slice none 0 0, .slice none 0 0, .slice none 0 0] _ rfl (rangeAt_heap (heap_alloc_new w _)) Tryz.underlying91 rfl (by kernel_rfl)) rfl ⟨rfl, below_1 _ _⟩
theorem l2Load_calls (k p : Int) (w : World) : Calls Tryz.prog 75 #[.int .i64 k, .int .i64 p] w fun e w' => e = .returned (.agg #[.int .i64 4, .int .i64 k, .int .i64 p, .int .i64 0, .string ⟨#[]⟩, .string ⟨#[]⟩, .string ⟨#[]⟩, .string ⟨#[]⟩, .slice none 0 0]) ∧ Below w.heap.size w w' := by
 go_enter Tryz.func75, Tryz.ntmps75
 go_wp2
 refine bodyPost_ret (v := .agg #[.int .i64 4, .int .i64 k, .int .i64 p, .int .i64 0, .string ⟨#[]⟩, .string ⟨#[]⟩, .string ⟨#[]⟩, .string ⟨#[]⟩, .slice none 0 0]) (results_cell_mid rfl _ _ w.heap.size [.int .i64 4, .int .i64 k, .int .i64 p, .int .i64 0, .string ⟨#[]⟩, .string ⟨#[]⟩, .string ⟨#[]⟩, .string ⟨#[]⟩, .slice none 0 0] _ rfl (rangeAt_heap (heap_alloc_new w _)) Tryz.underlying110 rfl (by kernel_rfl)) rfl ⟨rfl, below_1 _ _⟩
theorem l2Call_calls (h : Int) (c n s : ByteArray) (w : World) : Calls Tryz.prog 76 #[.int .i64 h, .string c, .string n, .string s] w fun e w' => e = .returned (.agg #[.int .i64 33, .int .i64 0, .int .i64 0, .int .i64 h, .string ⟨#[]⟩, .string c, .string n, .string s, .slice none 0 0]) ∧ Below w.heap.size w w' := by
 go_enter Tryz.func76, Tryz.ntmps76
 go_wp2
 refine bodyPost_ret (v := .agg #[.int .i64 33, .int .i64 0, .int .i64 0, .int .i64 h, .string ⟨#[]⟩, .string c, .string n, .string s, .slice none 0 0]) (results_cell_mid rfl _ _ w.heap.size [.int .i64 33, .int .i64 0, .int .i64 0, .int .i64 h, .string ⟨#[]⟩, .string c, .string n, .string s, .slice none 0 0] _ rfl (rangeAt_heap (heap_alloc_new w _)) Tryz.underlying110 rfl (by kernel_rfl)) rfl ⟨rfl, below_1 _ _⟩
def MethsB (B : Nat) (ms : Meths) (W : World) : Prop := (∀ m ∈ ms, ListF InsF 9 110 W m.2.1 m.1.code m.2.2) ∧ ms.foot.Nodup ∧ ∀ b ∈ ms.foot, B ≤ b
theorem MethsB.lt {B : Nat} {W : World} {ms : Meths} (h : MethsB B ms W) : ∀ b ∈ ms.foot, b < W.heap.size := fun b hb => by
 obtain ⟨G, hG, hbG⟩ := List.mem_flatten.1 hb
 obtain ⟨m, hm, rfl⟩ := List.mem_map.1 hG
 exact (h.1 m hm).lt InsF.good b hbG
theorem MethsB.call {B : Nat} {W W' : World} {ms : Meths} (h : MethsB B ms W) (hb : Below W.heap.size W W') : MethsB B ms W' := ⟨fun m hm => (h.1 m hm).below InsF.good hb, h.2⟩
theorem MethsB.nil (B : Nat) (W : World) : MethsB B [] W := ⟨fun m hm => (List.not_mem_nil hm).elim, List.nodup_nil, fun b hb => (List.not_mem_nil hb).elim⟩
theorem MethsB.native {B : Nat} {W : World} {ms : Meths} (h : MethsB B ms W) (x : MethL) (hx : x.code = []) : MethsB B (ms ++ [(x, nilV, [])]) W := by
 refine ⟨fun m hm => ?_, ?_, ?_⟩
 ·rcases List.mem_append.1 hm with hm | hm
  ·exact h.1 m hm
  ·simp only [List.mem_singleton] at hm
   subst hm
   exact .inl ⟨hx, rfl, rfl⟩
 ·have := h.2.1
  simpa [Meths.foot] using this
 ·have := h.2.2
  simpa [Meths.foot] using this
theorem MethsB.written {B : Nat} {W : World} {ms : Meths} (h : MethsB B ms W) (x : MethL) (b c : Nat) (cur : Array Value) (hh : W.heap[b]? = some (.cells cur 110 (0, 0))) (hc : cur.toList = (x.code.map InsL.row).flatten) (hb : B ≤ b) (hn : b ∉ ms.foot) : MethsB B (ms ++ [(x, .slice (some ⟨b, 0, none⟩) x.code.length c, [b])]) W := by
 have e : Meths.foot (ms ++ [(x, .slice (some ⟨b, 0, none⟩) x.code.length c, [b])]) = ms.foot ++ [b] := by simp [Meths.foot]
 refine ⟨fun m hm => ?_, ?_, ?_⟩
 ·rcases List.mem_append.1 hm with hm | hm
  ·exact h.1 m hm
  ·simp only [List.mem_singleton] at hm
   subst hm
   exact insF_list x.code hh hc
 ·rw [e, List.nodup_append]
  exact ⟨h.2.1, by simp, fun a ha b' hb' e2 => by simp only [List.mem_singleton] at hb'; subst e2; subst hb'; exact hn ha⟩
 ·rw [e]
  intro d hd
  rcases List.mem_append.1 hd with hd | hd
  ·exact h.2.2 d hd
  ·simp only [List.mem_singleton] at hd; omega
theorem classOwn_at {w W : World} {ms : Meths} (hM : MethsB w.heap.size ms W) (M : Array Value) (p : Nat) (hp : W.heap[p]? = some (.cells M 91 (0, 0))) (bp : w.heap.size ≤ p) (n s : ByteArray) (f : Int) (hc : M.toList = (ms.map fun m => m.1.row m.2.1).flatten) (c : Nat) (row : List Value) (hrow : row = [.string n, .string s, nilV, .int .i64 f, nilV, nilV, .slice (some ⟨p, 0, none⟩) ms.length c]) :
  ClassOwn w W row ⟨n, s, f, [], ms.map (·.1)⟩ := by
 have hn : p ∉ ms.foot := fun hm => by
  obtain ⟨G, hG, hbG⟩ := List.mem_flatten.1 hm
  obtain ⟨m, hm', rfl⟩ := List.mem_map.1 hG
  rcases hM.1 m hm' with ⟨_, _, h3⟩ | ⟨b, c', Fs, cur, hv, h3, hl, hh, _⟩
  ·rw [h3] at hbG; cases hbG
  ·have hF : ∀ d ∈ m.2.2, ∃ cur t, W.heap[d]? = some (.cells cur t (0, 0)) ∧ t = 110 := fun d hd => by
    have := (hM.1 m hm').other (by decide) (fun row x G hG => by rw [hG.2]; intro b hb; cases hb) d hd
    rcases hM.1 m hm' with ⟨_, _, h4⟩ | ⟨b', c'', Fs', cur'', hv', h4, hl', hh', hs', hc'⟩
    ·rw [h4] at hd; cases hd
    ·rw [h4] at hd
     rcases List.mem_cons.1 hd with rfl | hd
     ·exact ⟨_, _, hh', rfl⟩
     ·obtain ⟨G', hG', hdG⟩ := List.mem_flatten.1 hd
      obtain ⟨j, hj, rfl⟩ := List.getElem_of_mem hG'
      obtain ⟨row', q1, q2, q3⟩ := hc' j (by omega)
      rw [List.getElem?_eq_getElem hj] at q3
      have := q3.2
      simp only [Option.getD_some] at this
      rw [this] at hdG; cases hdG
   obtain ⟨cur1, t1, e1, e2⟩ := hF p hbG
   rw [hp] at e1
   injection e1 with e1
   injection e1 with _ e3 _
   rw [e2] at e3
   exact absurd e3 (by decide)
 refine ⟨[] ++ p :: ms.foot, ⟨nilV, _, [], _, hrow, .inl ⟨rfl, rfl, rfl⟩, methF_list ms hp hc hM.1, rfl⟩, ?_, ?_⟩
 ·simp only [List.nil_append, List.nodup_cons]
  exact ⟨hn, hM.2.1⟩
 ·intro b hb
  simp only [List.nil_append, List.mem_cons] at hb
  rcases hb with rfl | hb
  ·exact bp
  ·exact hM.2.2 b hb
theorem err_own {w W : World} {n s : ByteArray} (hsz : w.heap.size + 1 ≤ W.heap.size) (C M : Array Value) (hC : C.toList = (List.map InsL.row [loadI 0, loadI 1, callI s sigS, retI]).flatten) (hM : M.toList = (wriM newS sigS 2 2 [loadI 0, loadI 1, callI s sigS, retI]).row (.slice (some ⟨W.heap.size, 0, none⟩) 4 4)) :
  ClassOwn w (((W.alloc (.cells C 110)).alloc (.cells M 91)).setCells w.heap.size 0 [.string n, .string s, .slice none 0 0, .int .i64 0, .slice none 0 0, .slice none 0 0, .slice (some ⟨W.heap.size + 1, 0, none⟩) 1 1]) [.string n, .string s, .slice none 0 0, .int .i64 0, .slice none 0 0, .slice none 0 0, .slice (some ⟨W.heap.size + 1, 0, none⟩) 1 1] (errC n s) := by
 have k1 := (heap_setCells w.heap.size [.string n, .string s, .slice none 0 0, .int .i64 0, .slice none 0 0, .slice none 0 0, .slice (some ⟨W.heap.size + 1, 0, none⟩) 1 1] 0 ((W.alloc (.cells C 110)).alloc (.cells M 91)) (W.heap.size + 1) (by omega)).trans (blk_second _ _)
 have k2 := (heap_setCells w.heap.size [.string n, .string s, .slice none 0 0, .int .i64 0, .slice none 0 0, .slice none 0 0, .slice (some ⟨W.heap.size + 1, 0, none⟩) 1 1] 0 ((W.alloc (.cells C 110)).alloc (.cells M 91)) W.heap.size (by omega)).trans (blk_alloc _ (heap_alloc_new W _))
 exact classOwn_at ((MethsB.nil w.heap.size _).written (wriM newS sigS 2 2 [loadI 0, loadI 1, callI s sigS, retI]) W.heap.size 4 C k2 hC (by omega) (List.not_mem_nil)) M _ k1 (by omega) n s 0 (by rw [hM]; simp; rfl) 1 _ rfl
theorem l2Error_calls (n s : ByteArray) (w : World) : Calls Tryz.prog 77 #[.string n, .string s] w fun e w' => (∃ p, e = .returned (.agg #[.string n, .string s, .slice none 0 0, .int .i64 0, .slice none 0 0, .slice none 0 0, .slice (some ⟨p, 0, none⟩) 1 1]) ∧ ClassOwn w w' [.string n, .string s, .slice none 0 0, .int .i64 0, .slice none 0 0, .slice none 0 0, .slice (some ⟨p, 0, none⟩) 1 1] (errC n s)) ∧ Below w.heap.size w w' := by
 have hinf : Hid ((Tryz.prog.info? 49).map (·.size) = some 7) := by show (Tryz.prog.info? 49).map (·.size) = some 7; kernel_rfl
 go_enter Tryz.func77, Tryz.ntmps77
 go_wp2_with fail
 refine (l2Load_calls 4 0 _).mono ?_
 rintro e w1 ⟨rfl, hb1⟩
 have r1 : Hid (Own7 w w1) := (Own7.start w _ _ _ _ _ _ _ _).call hb1
 clear hb1
 go_wp2_with fail
 refine (l2Load_calls 4 1 _).mono ?_
 rintro e w2 ⟨rfl, hb2⟩
 have r2 : Hid (Own7 w w2) := r1.out.call hb2
 clear hb2 r1
 go_wp2_with fail
 refine (l2Call_calls _ _ _ _ _).mono ?_
 rintro e w3 ⟨rfl, hb3⟩
 have r3 : Hid (Own7 w w3) := r2.out.call hb3
 clear hb3 r2
 go_wp2_with fail
 refine (l2Return_calls _).mono ?_
 rintro e w4 ⟨rfl, hb4⟩
 have r4 : Hid (Own7 w w4) := r3.out.call hb4
 clear hb4 r3
 have h6 : Hid (∀ A B, Own7 w ((w4.alloc A).alloc B)) := fun A B => r4.out.call (below_2 _ _ _)
 go_wp2_with (refine wpList_store_mid rfl 49 _ _ rfl w.heap.size 0 #[.string n, .string s, .slice none 0 0, .int .i64 0, .slice none 0 0, .slice none 0 0, .slice (some ⟨w4.heap.size + 1, 0, none⟩) 1 1] rfl (by first | rfl | (simp; done)) (h6.out _ _).th hinf.out (OneCells.all (row := [.string n, .string s, .slice none 0 0, .int .i64 0, .slice none 0 0, .slice none 0 0, .slice (some ⟨w4.heap.size + 1, 0, none⟩) 1 1]) rfl) ?_)
 refine bodyPost_ret (v := .agg #[.string n, .string s, .slice none 0 0, .int .i64 0, .slice none 0 0, .slice none 0 0, .slice (some ⟨w4.heap.size + 1, 0, none⟩) 1 1]) (results_cell_mid rfl _ _ w.heap.size [.string n, .string s, .slice none 0 0, .int .i64 0, .slice none 0 0, .slice none 0 0, .slice (some ⟨w4.heap.size + 1, 0, none⟩) 1 1] _ rfl (World.rangeAt_setCells_same _ _ _ _ (h6.out _ _).th) Tryz.underlying49 rfl hinf.out) rfl ⟨⟨_, rfl, ?_⟩, below_setCells _ (Nat.le_refl _) _ _ _ (h6.out _ _).hb⟩
 exact err_own r4.out.sz _ _ rfl rfl
end Go.Proofs.YtjjccimeikkogaaGreatDoor.Bt
