import Derived.Test.YtjjccimeikkogaaGreatDoorBtA
set_option maxRecDepth 1000000
set_option maxHeartbeats 8000000
namespace Go.Proofs.YtjjccimeikkogaaGreatDoor.Bt
set_option linter.unusedVariables false
open Go.ChangeShapes Go.WideShapes Go.ChangeAt Go.RowKit
def newS : ByteArray := ⟨#[110, 101, 119]⟩
def sigS : ByteArray := ⟨#[40, 64, 83, 116, 114, 105, 110, 103, 41, 86]⟩
def sigV : ByteArray := ⟨#[40, 41, 86]⟩
def objS : ByteArray := ⟨#[79, 98, 106, 101, 99, 116]⟩
def retI : InsL := ⟨44, 0, 0, 0, ⟨#[]⟩, ⟨#[]⟩, ⟨#[]⟩, ⟨#[]⟩⟩
def loadI (p : Int) : InsL := ⟨4, 4, p, 0, ⟨#[]⟩, ⟨#[]⟩, ⟨#[]⟩, ⟨#[]⟩⟩
def callI (c s : ByteArray) : InsL := ⟨33, 0, 0, 3, ⟨#[]⟩, c, newS, s⟩
def putI : InsL := ⟨32, 0, 0, 0, ⟨#[]⟩, ⟨#[84, 104, 114, 111, 119, 97, 98, 108, 101]⟩, ⟨#[109, 101, 115, 115, 97, 103, 101]⟩, ⟨#[64, 83, 116, 114, 105, 110, 103]⟩⟩
def natM (n s : ByteArray) (f : Int) : MethL := ⟨n, s, f + 64, 0, 0, []⟩
def wriM (n s : ByteArray) (a b : Int) (code : List InsL) : MethL := ⟨n, s, 0, a, b, code⟩
theorem loadRef_calls (p : Int) (w : World) : Calls Tryz.prog 161 #[.int .i64 p] w fun e w' => e = .returned (.agg #[.int .i64 4, .int .i64 4, .int .i64 p, .int .i64 0, .string ⟨#[]⟩, .string ⟨#[]⟩, .string ⟨#[]⟩, .string ⟨#[]⟩, .slice none 0 0]) ∧ Below w.heap.size w w' := by
 go_enter Tryz.func161, Tryz.ntmps161
 go_wp2
 refine bodyPost_ret (v := .agg #[.int .i64 4, .int .i64 4, .int .i64 p, .int .i64 0, .string ⟨#[]⟩, .string ⟨#[]⟩, .string ⟨#[]⟩, .string ⟨#[]⟩, .slice none 0 0]) (results_cell_mid rfl _ _ w.heap.size [.int .i64 4, .int .i64 4, .int .i64 p, .int .i64 0, .string ⟨#[]⟩, .string ⟨#[]⟩, .string ⟨#[]⟩, .string ⟨#[]⟩, .slice none 0 0] _ rfl (rangeAt_heap (heap_alloc_new w _)) Tryz.underlying110 rfl (by kernel_rfl)) rfl ⟨rfl, below_1 _ _⟩
theorem callNew_calls (c s : ByteArray) (w : World) : Calls Tryz.prog 162 #[.string c, .string s] w fun e w' => e = .returned (.agg #[.int .i64 33, .int .i64 0, .int .i64 0, .int .i64 3, .string ⟨#[]⟩, .string c, .string ⟨#[110, 101, 119]⟩, .string s, .slice none 0 0]) ∧ Below w.heap.size w w' := by
 go_enter Tryz.func162, Tryz.ntmps162
 go_wp2
 refine bodyPost_ret (v := .agg #[.int .i64 33, .int .i64 0, .int .i64 0, .int .i64 3, .string ⟨#[]⟩, .string c, .string ⟨#[110, 101, 119]⟩, .string s, .slice none 0 0]) (results_cell_mid rfl _ _ w.heap.size [.int .i64 33, .int .i64 0, .int .i64 0, .int .i64 3, .string ⟨#[]⟩, .string c, .string ⟨#[110, 101, 119]⟩, .string s, .slice none 0 0] _ rfl (rangeAt_heap (heap_alloc_new w _)) Tryz.underlying110 rfl (by kernel_rfl)) rfl ⟨rfl, below_1 _ _⟩
theorem native0_calls (n s : ByteArray) (w : World) : Calls Tryz.prog 160 #[.string n, .string s, .int .i64 0] w fun e w' => e = .returned (.agg #[.string n, .string s, .int .i64 64, .int .i64 0, .int .i64 0, .slice none 0 0, .slice none 0 0, .slice none 0 0, .slice none 0 0]) ∧ Below w.heap.size w w' := by
 go_enter Tryz.func160, Tryz.ntmps160
 go_wp2
 refine bodyPost_ret (v := .agg #[.string n, .string s, .int .i64 64, .int .i64 0, .int .i64 0, .slice none 0 0, .slice none 0 0, .slice none 0 0, .slice none 0 0]) (results_cell_mid rfl _ _ w.heap.size [.string n, .string s, .int .i64 64, .int .i64 0, .int .i64 0, .slice none 0 0, .slice none 0 0, .slice none 0 0, .slice none 0 0] _ rfl (rangeAt_heap (heap_alloc_new w _)) Tryz.underlying91 rfl (by kernel_rfl)) rfl ⟨rfl, below_1 _ _⟩
theorem native1_calls (n s : ByteArray) (w : World) : Calls Tryz.prog 160 #[.string n, .string s, .int .i64 1] w fun e w' => e = .returned (.agg #[.string n, .string s, .int .i64 65, .int .i64 0, .int .i64 0, .slice none 0 0, .slice none 0 0, .slice none 0 0, .slice none 0 0]) ∧ Below w.heap.size w w' := by
 go_enter Tryz.func160, Tryz.ntmps160
 go_wp2
 refine bodyPost_ret (v := .agg #[.string n, .string s, .int .i64 65, .int .i64 0, .int .i64 0, .slice none 0 0, .slice none 0 0, .slice none 0 0, .slice none 0 0]) (results_cell_mid rfl _ _ w.heap.size [.string n, .string s, .int .i64 65, .int .i64 0, .int .i64 0, .slice none 0 0, .slice none 0 0, .slice none 0 0, .slice none 0 0] _ rfl (rangeAt_heap (heap_alloc_new w _)) Tryz.underlying91 rfl (by kernel_rfl)) rfl ⟨rfl, below_1 _ _⟩
theorem native2_calls (n s : ByteArray) (w : World) : Calls Tryz.prog 160 #[.string n, .string s, .int .i64 2] w fun e w' => e = .returned (.agg #[.string n, .string s, .int .i64 66, .int .i64 0, .int .i64 0, .slice none 0 0, .slice none 0 0, .slice none 0 0, .slice none 0 0]) ∧ Below w.heap.size w w' := by
 go_enter Tryz.func160, Tryz.ntmps160
 go_wp2
 refine bodyPost_ret (v := .agg #[.string n, .string s, .int .i64 66, .int .i64 0, .int .i64 0, .slice none 0 0, .slice none 0 0, .slice none 0 0, .slice none 0 0]) (results_cell_mid rfl _ _ w.heap.size [.string n, .string s, .int .i64 66, .int .i64 0, .int .i64 0, .slice none 0 0, .slice none 0 0, .slice none 0 0, .slice none 0 0] _ rfl (rangeAt_heap (heap_alloc_new w _)) Tryz.underlying91 rfl (by kernel_rfl)) rfl ⟨rfl, below_1 _ _⟩
theorem written_calls (n s : ByteArray) (x y : Int) (a : Option Addr) (m c : Nat) (w : World) : Calls Tryz.prog 159 #[.string n, .string s, .int .i64 x, .int .i64 y, .slice a m c] w fun e w' => e = .returned (.agg #[.string n, .string s, .int .i64 0, .int .i64 x, .int .i64 y, .slice a m c, .slice none 0 0, .slice none 0 0, .slice none 0 0]) ∧ Below w.heap.size w w' := by
 go_enter Tryz.func159, Tryz.ntmps159
 go_wp2
 refine bodyPost_ret (v := .agg #[.string n, .string s, .int .i64 0, .int .i64 x, .int .i64 y, .slice a m c, .slice none 0 0, .slice none 0 0, .slice none 0 0]) (results_cell_mid rfl _ _ w.heap.size [.string n, .string s, .int .i64 0, .int .i64 x, .int .i64 y, .slice a m c, .slice none 0 0, .slice none 0 0, .slice none 0 0] _ rfl (rangeAt_heap (heap_alloc_new w _)) Tryz.underlying91 rfl (by kernel_rfl)) rfl ⟨rfl, below_1 _ _⟩
theorem bootObject_calls  (w : World) : Calls Tryz.prog 119 #[] w fun e w' => (∃ p, e = .returned (.agg #[.string ⟨#[79, 98, 106, 101, 99, 116]⟩, .string ⟨#[]⟩, .slice none 0 0, .int .i64 0, .slice none 0 0, .slice none 0 0, .slice (some ⟨p, 0, none⟩) 5 5]) ∧ ClassOwn w w' [.string ⟨#[79, 98, 106, 101, 99, 116]⟩, .string ⟨#[]⟩, .slice none 0 0, .int .i64 0, .slice none 0 0, .slice none 0 0, .slice (some ⟨p, 0, none⟩) 5 5] ⟨⟨#[79, 98, 106, 101, 99, 116]⟩, ⟨#[]⟩, 0, [], [wriM newS sigV 0 1 [retI], natM ⟨#[119, 97, 105, 116]⟩ ⟨#[40, 41, 86]⟩ 2, natM ⟨#[110, 111, 116, 105, 102, 121]⟩ ⟨#[40, 41, 86]⟩ 2, natM ⟨#[119, 97, 107, 101]⟩ ⟨#[40, 41, 86]⟩ 2, natM ⟨#[104, 97, 115, 104]⟩ ⟨#[40, 41, 73]⟩ 2]⟩) ∧ Below w.heap.size w w' := by
 have hinf : Hid ((Tryz.prog.info? 49).map (·.size) = some 7) := by show (Tryz.prog.info? 49).map (·.size) = some 7; kernel_rfl
 go_enter Tryz.func119, Tryz.ntmps119
 go_wp2_with fail
 refine (written_calls _ _ _ _ _ _ _ _).mono ?_
 rintro e w1 ⟨rfl, hb1⟩
 have r1 : Hid (Own7 w w1) := ((Own7.start w _ _ _ _ _ _ _ _).call (below_1 _ _)).call hb1
 have q1 : Hid (MethsIn w _ w1) := MethsIn.writtenB (MethsIn.nil w _) (wriM newS sigV 0 1 [retI]) (w.heap.size + 1) 1 _ (by simp) hb1 rfl (by simp)
 clear hb1
 go_wp2_with fail
 refine (native2_calls _ _ _).mono ?_
 rintro e w2 ⟨rfl, hb2⟩
 have r2 : Hid (Own7 w w2) := r1.out.call hb2
 have q2 : Hid (MethsIn w _ w2) := MethsIn.native (q1.out.call hb2) (natM ⟨#[119, 97, 105, 116]⟩ ⟨#[40, 41, 86]⟩ 2) rfl
 clear hb2 r1
 go_wp2_with fail
 refine (native2_calls _ _ _).mono ?_
 rintro e w3 ⟨rfl, hb3⟩
 have r3 : Hid (Own7 w w3) := r2.out.call hb3
 have q3 : Hid (MethsIn w _ w3) := MethsIn.native (q2.out.call hb3) (natM ⟨#[110, 111, 116, 105, 102, 121]⟩ ⟨#[40, 41, 86]⟩ 2) rfl
 clear hb3 r2
 go_wp2_with fail
 refine (native2_calls _ _ _).mono ?_
 rintro e w4 ⟨rfl, hb4⟩
 have r4 : Hid (Own7 w w4) := r3.out.call hb4
 have q4 : Hid (MethsIn w _ w4) := MethsIn.native (q3.out.call hb4) (natM ⟨#[119, 97, 107, 101]⟩ ⟨#[40, 41, 86]⟩ 2) rfl
 clear hb4 r3
 go_wp2_with fail
 refine (native2_calls _ _ _).mono ?_
 rintro e w5 ⟨rfl, hb5⟩
 have r5 : Hid (Own7 w w5) := r4.out.call hb5
 have q5 : Hid (MethsIn w _ w5) := MethsIn.native (q4.out.call hb5) (natM ⟨#[104, 97, 115, 104]⟩ ⟨#[40, 41, 73]⟩ 2) rfl
 clear hb5 r4
 have h6 : Hid (∀ A, Own7 w (w5.alloc A)) := fun A => r5.out.call (below_1 _ _)
 go_wp2_with (refine wpList_store_mid rfl 49 _ _ rfl w.heap.size 0 #[.string ⟨#[79, 98, 106, 101, 99, 116]⟩, .string ⟨#[]⟩, .slice none 0 0, .int .i64 0, .slice none 0 0, .slice none 0 0, .slice (some ⟨w5.heap.size, 0, none⟩) 5 5] rfl (by first | rfl | (simp; done)) (h6.out _).th hinf.out (OneCells.all (row := [.string ⟨#[79, 98, 106, 101, 99, 116]⟩, .string ⟨#[]⟩, .slice none 0 0, .int .i64 0, .slice none 0 0, .slice none 0 0, .slice (some ⟨w5.heap.size, 0, none⟩) 5 5]) rfl) ?_)
 refine bodyPost_ret (v := .agg #[.string ⟨#[79, 98, 106, 101, 99, 116]⟩, .string ⟨#[]⟩, .slice none 0 0, .int .i64 0, .slice none 0 0, .slice none 0 0, .slice (some ⟨w5.heap.size, 0, none⟩) 5 5]) (results_cell_mid rfl _ _ w.heap.size [.string ⟨#[79, 98, 106, 101, 99, 116]⟩, .string ⟨#[]⟩, .slice none 0 0, .int .i64 0, .slice none 0 0, .slice none 0 0, .slice (some ⟨w5.heap.size, 0, none⟩) 5 5] _ rfl (World.rangeAt_setCells_same _ _ _ _ (h6.out _).th) Tryz.underlying49 rfl hinf.out) rfl ⟨⟨_, rfl, ?_⟩, below_setCells _ (Nat.le_refl _) _ _ _ (h6.out _).hb⟩
 exact classOwn_mk r5.out q5.out _ _ _ _ rfl _ _ rfl
theorem bootString_calls  (w : World) : Calls Tryz.prog 120 #[] w fun e w' => (∃ p, e = .returned (.agg #[.string ⟨#[83, 116, 114, 105, 110, 103]⟩, .string ⟨#[79, 98, 106, 101, 99, 116]⟩, .slice none 0 0, .int .i64 2, .slice none 0 0, .slice none 0 0, .slice (some ⟨p, 0, none⟩) 5 5]) ∧ ClassOwn w w' [.string ⟨#[83, 116, 114, 105, 110, 103]⟩, .string ⟨#[79, 98, 106, 101, 99, 116]⟩, .slice none 0 0, .int .i64 2, .slice none 0 0, .slice none 0 0, .slice (some ⟨p, 0, none⟩) 5 5] ⟨⟨#[83, 116, 114, 105, 110, 103]⟩, ⟨#[79, 98, 106, 101, 99, 116]⟩, 2, [], [natM ⟨#[108, 101, 110, 103, 116, 104]⟩ ⟨#[40, 41, 73]⟩ 0, natM ⟨#[97, 116]⟩ ⟨#[40, 73, 41, 73]⟩ 0, natM ⟨#[106, 111, 105, 110]⟩ ⟨#[40, 64, 83, 116, 114, 105, 110, 103, 41, 64, 83, 116, 114, 105, 110, 103]⟩ 0, natM ⟨#[115, 97, 109, 101]⟩ ⟨#[40, 64, 79, 98, 106, 101, 99, 116, 41, 73]⟩ 0, natM ⟨#[112, 97, 114, 116]⟩ ⟨#[40, 73, 44, 73, 41, 64, 83, 116, 114, 105, 110, 103]⟩ 0]⟩) ∧ Below w.heap.size w w' := by
 have hinf : Hid ((Tryz.prog.info? 49).map (·.size) = some 7) := by show (Tryz.prog.info? 49).map (·.size) = some 7; kernel_rfl
 go_enter Tryz.func120, Tryz.ntmps120
 go_wp2_with fail
 refine (native0_calls _ _ _).mono ?_
 rintro e w1 ⟨rfl, hb1⟩
 have r1 : Hid (Own7 w w1) := (Own7.start w _ _ _ _ _ _ _ _).call hb1
 have q1 : Hid (MethsIn w _ w1) := MethsIn.native (MethsIn.nil w w1) (natM ⟨#[108, 101, 110, 103, 116, 104]⟩ ⟨#[40, 41, 73]⟩ 0) rfl
 clear hb1
 go_wp2_with fail
 refine (native0_calls _ _ _).mono ?_
 rintro e w2 ⟨rfl, hb2⟩
 have r2 : Hid (Own7 w w2) := r1.out.call hb2
 have q2 : Hid (MethsIn w _ w2) := MethsIn.native (q1.out.call hb2) (natM ⟨#[97, 116]⟩ ⟨#[40, 73, 41, 73]⟩ 0) rfl
 clear hb2 r1
 go_wp2_with fail
 refine (native0_calls _ _ _).mono ?_
 rintro e w3 ⟨rfl, hb3⟩
 have r3 : Hid (Own7 w w3) := r2.out.call hb3
 have q3 : Hid (MethsIn w _ w3) := MethsIn.native (q2.out.call hb3) (natM ⟨#[106, 111, 105, 110]⟩ ⟨#[40, 64, 83, 116, 114, 105, 110, 103, 41, 64, 83, 116, 114, 105, 110, 103]⟩ 0) rfl
 clear hb3 r2
 go_wp2_with fail
 refine (native0_calls _ _ _).mono ?_
 rintro e w4 ⟨rfl, hb4⟩
 have r4 : Hid (Own7 w w4) := r3.out.call hb4
 have q4 : Hid (MethsIn w _ w4) := MethsIn.native (q3.out.call hb4) (natM ⟨#[115, 97, 109, 101]⟩ ⟨#[40, 64, 79, 98, 106, 101, 99, 116, 41, 73]⟩ 0) rfl
 clear hb4 r3
 go_wp2_with fail
 refine (native0_calls _ _ _).mono ?_
 rintro e w5 ⟨rfl, hb5⟩
 have r5 : Hid (Own7 w w5) := r4.out.call hb5
 have q5 : Hid (MethsIn w _ w5) := MethsIn.native (q4.out.call hb5) (natM ⟨#[112, 97, 114, 116]⟩ ⟨#[40, 73, 44, 73, 41, 64, 83, 116, 114, 105, 110, 103]⟩ 0) rfl
 clear hb5 r4
 have h6 : Hid (∀ A, Own7 w (w5.alloc A)) := fun A => r5.out.call (below_1 _ _)
 go_wp2_with (refine wpList_store_mid rfl 49 _ _ rfl w.heap.size 0 #[.string ⟨#[83, 116, 114, 105, 110, 103]⟩, .string ⟨#[79, 98, 106, 101, 99, 116]⟩, .slice none 0 0, .int .i64 2, .slice none 0 0, .slice none 0 0, .slice (some ⟨w5.heap.size, 0, none⟩) 5 5] rfl (by first | rfl | (simp; done)) (h6.out _).th hinf.out (OneCells.all (row := [.string ⟨#[83, 116, 114, 105, 110, 103]⟩, .string ⟨#[79, 98, 106, 101, 99, 116]⟩, .slice none 0 0, .int .i64 2, .slice none 0 0, .slice none 0 0, .slice (some ⟨w5.heap.size, 0, none⟩) 5 5]) rfl) ?_)
 refine bodyPost_ret (v := .agg #[.string ⟨#[83, 116, 114, 105, 110, 103]⟩, .string ⟨#[79, 98, 106, 101, 99, 116]⟩, .slice none 0 0, .int .i64 2, .slice none 0 0, .slice none 0 0, .slice (some ⟨w5.heap.size, 0, none⟩) 5 5]) (results_cell_mid rfl _ _ w.heap.size [.string ⟨#[83, 116, 114, 105, 110, 103]⟩, .string ⟨#[79, 98, 106, 101, 99, 116]⟩, .slice none 0 0, .int .i64 2, .slice none 0 0, .slice none 0 0, .slice (some ⟨w5.heap.size, 0, none⟩) 5 5] _ rfl (World.rangeAt_setCells_same _ _ _ _ (h6.out _).th) Tryz.underlying49 rfl hinf.out) rfl ⟨⟨_, rfl, ?_⟩, below_setCells _ (Nat.le_refl _) _ _ _ (h6.out _).hb⟩
 exact classOwn_mk r5.out q5.out _ _ _ _ rfl _ _ rfl
theorem bootError_calls (n s : ByteArray) (w : World) : Calls Tryz.prog 122 #[.string n, .string s] w fun e w' => (∃ p, e = .returned (.agg #[.string n, .string s, .slice none 0 0, .int .i64 0, .slice none 0 0, .slice none 0 0, .slice (some ⟨p, 0, none⟩) 1 1]) ∧ ClassOwn w w' [.string n, .string s, .slice none 0 0, .int .i64 0, .slice none 0 0, .slice none 0 0, .slice (some ⟨p, 0, none⟩) 1 1] ⟨n, s, 0, [], [wriM newS sigS 2 2 [loadI 0, loadI 1, callI s sigS, retI]]⟩) ∧ Below w.heap.size w w' := by
 have hinf : Hid ((Tryz.prog.info? 49).map (·.size) = some 7) := by show (Tryz.prog.info? 49).map (·.size) = some 7; kernel_rfl
 go_enter Tryz.func122, Tryz.ntmps122
 go_wp2_with fail
 refine (loadRef_calls 0 _).mono ?_
 rintro e w1 ⟨rfl, hb1⟩
 have r1 : Hid (Own7 w w1) := (Own7.start w _ _ _ _ _ _ _ _).call hb1
 clear hb1
 go_wp2_with fail
 refine (loadRef_calls 1 _).mono ?_
 rintro e w2 ⟨rfl, hb2⟩
 have r2 : Hid (Own7 w w2) := r1.out.call hb2
 clear hb2 r1
 go_wp2_with fail
 refine (callNew_calls _ _ _).mono ?_
 rintro e w3 ⟨rfl, hb3⟩
 have r3 : Hid (Own7 w w3) := r2.out.call hb3
 clear hb3 r2
 go_wp2_with fail
 refine (written_calls _ _ _ _ _ _ _ _).mono ?_
 rintro e w4 ⟨rfl, hb4⟩
 have r4 : Hid (Own7 w w4) := (r3.out.call (below_1 _ _)).call hb4
 have q4 : Hid (MethsIn w _ w4) := MethsIn.writtenA (MethsIn.nil w _) (wriM newS sigS 2 2 [loadI 0, loadI 1, callI s sigS, retI]) 4 _ hb4 rfl r3.out.sz
 clear hb4 r3
 have h6 : Hid (∀ A, Own7 w (w4.alloc A)) := fun A => r4.out.call (below_1 _ _)
 go_wp2_with (refine wpList_store_mid rfl 49 _ _ rfl w.heap.size 0 #[.string n, .string s, .slice none 0 0, .int .i64 0, .slice none 0 0, .slice none 0 0, .slice (some ⟨w4.heap.size, 0, none⟩) 1 1] rfl (by first | rfl | (simp; done)) (h6.out _).th hinf.out (OneCells.all (row := [.string n, .string s, .slice none 0 0, .int .i64 0, .slice none 0 0, .slice none 0 0, .slice (some ⟨w4.heap.size, 0, none⟩) 1 1]) rfl) ?_)
 refine bodyPost_ret (v := .agg #[.string n, .string s, .slice none 0 0, .int .i64 0, .slice none 0 0, .slice none 0 0, .slice (some ⟨w4.heap.size, 0, none⟩) 1 1]) (results_cell_mid rfl _ _ w.heap.size [.string n, .string s, .slice none 0 0, .int .i64 0, .slice none 0 0, .slice none 0 0, .slice (some ⟨w4.heap.size, 0, none⟩) 1 1] _ rfl (World.rangeAt_setCells_same _ _ _ _ (h6.out _).th) Tryz.underlying49 rfl hinf.out) rfl ⟨⟨_, rfl, ?_⟩, below_setCells _ (Nat.le_refl _) _ _ _ (h6.out _).hb⟩
 exact classOwn_mk r4.out q4.out _ _ _ _ rfl _ _ rfl
theorem bootThread_calls  (w : World) : Calls Tryz.prog 123 #[] w fun e w' => (∃ p, e = .returned (.agg #[.string ⟨#[84, 104, 114, 101, 97, 100]⟩, .string ⟨#[79, 98, 106, 101, 99, 116]⟩, .slice none 0 0, .int .i64 0, .slice none 0 0, .slice none 0 0, .slice (some ⟨p, 0, none⟩) 6 6]) ∧ ClassOwn w w' [.string ⟨#[84, 104, 114, 101, 97, 100]⟩, .string ⟨#[79, 98, 106, 101, 99, 116]⟩, .slice none 0 0, .int .i64 0, .slice none 0 0, .slice none 0 0, .slice (some ⟨p, 0, none⟩) 6 6] ⟨⟨#[84, 104, 114, 101, 97, 100]⟩, ⟨#[79, 98, 106, 101, 99, 116]⟩, 0, [], [wriM newS sigV 1 1 [loadI 0, callI objS sigV, retI], wriM ⟨#[114, 117, 110]⟩ sigV 0 1 [retI], natM ⟨#[98, 101, 103, 105, 110]⟩ ⟨#[40, 41, 86]⟩ 2, natM ⟨#[106, 111, 105, 110]⟩ ⟨#[40, 41, 86]⟩ 2, natM ⟨#[115, 116, 111, 112]⟩ ⟨#[40, 41, 86]⟩ 2, natM ⟨#[115, 116, 111, 112, 112, 101, 100]⟩ ⟨#[40, 41, 73]⟩ 2]⟩) ∧ Below w.heap.size w w' := by
 have hinf : Hid ((Tryz.prog.info? 49).map (·.size) = some 7) := by show (Tryz.prog.info? 49).map (·.size) = some 7; kernel_rfl
 go_enter Tryz.func123, Tryz.ntmps123
 go_wp2_with fail
 refine (loadRef_calls 0 _).mono ?_
 rintro e w1 ⟨rfl, hb1⟩
 have r1 : Hid (Own7 w w1) := (Own7.start w _ _ _ _ _ _ _ _).call hb1
 clear hb1
 go_wp2_with fail
 refine (callNew_calls _ _ _).mono ?_
 rintro e w2 ⟨rfl, hb2⟩
 have r2 : Hid (Own7 w w2) := r1.out.call hb2
 clear hb2 r1
 go_wp2_with fail
 refine (written_calls _ _ _ _ _ _ _ _).mono ?_
 rintro e w3 ⟨rfl, hb3⟩
 have r3 : Hid (Own7 w w3) := (r2.out.call (below_1 _ _)).call hb3
 have q3 : Hid (MethsIn w _ w3) := MethsIn.writtenA (MethsIn.nil w _) (wriM newS sigV 1 1 [loadI 0, callI objS sigV, retI]) 3 _ hb3 rfl r2.out.sz
 clear hb3 r2
 go_wp2_with fail
 refine (written_calls _ _ _ _ _ _ _ _).mono ?_
 rintro e w4 ⟨rfl, hb4⟩
 have r4 : Hid (Own7 w w4) := (r3.out.call (below_1 _ _)).call hb4
 have q4 : Hid (MethsIn w _ w4) := MethsIn.writtenA q3.out (wriM ⟨#[114, 117, 110]⟩ sigV 0 1 [retI]) 1 _ hb4 rfl r3.out.sz
 clear hb4 r3
 go_wp2_with fail
 refine (native2_calls _ _ _).mono ?_
 rintro e w5 ⟨rfl, hb5⟩
 have r5 : Hid (Own7 w w5) := r4.out.call hb5
 have q5 : Hid (MethsIn w _ w5) := MethsIn.native (q4.out.call hb5) (natM ⟨#[98, 101, 103, 105, 110]⟩ ⟨#[40, 41, 86]⟩ 2) rfl
 clear hb5 r4
 go_wp2_with fail
 refine (native2_calls _ _ _).mono ?_
 rintro e w6 ⟨rfl, hb6⟩
 have r6 : Hid (Own7 w w6) := r5.out.call hb6
 have q6 : Hid (MethsIn w _ w6) := MethsIn.native (q5.out.call hb6) (natM ⟨#[106, 111, 105, 110]⟩ ⟨#[40, 41, 86]⟩ 2) rfl
 clear hb6 r5
 go_wp2_with fail
 refine (native2_calls _ _ _).mono ?_
 rintro e w7 ⟨rfl, hb7⟩
 have r7 : Hid (Own7 w w7) := r6.out.call hb7
 have q7 : Hid (MethsIn w _ w7) := MethsIn.native (q6.out.call hb7) (natM ⟨#[115, 116, 111, 112]⟩ ⟨#[40, 41, 86]⟩ 2) rfl
 clear hb7 r6
 go_wp2_with fail
 refine (native2_calls _ _ _).mono ?_
 rintro e w8 ⟨rfl, hb8⟩
 have r8 : Hid (Own7 w w8) := r7.out.call hb8
 have q8 : Hid (MethsIn w _ w8) := MethsIn.native (q7.out.call hb8) (natM ⟨#[115, 116, 111, 112, 112, 101, 100]⟩ ⟨#[40, 41, 73]⟩ 2) rfl
 clear hb8 r7
 have h6 : Hid (∀ A, Own7 w (w8.alloc A)) := fun A => r8.out.call (below_1 _ _)
 go_wp2_with (refine wpList_store_mid rfl 49 _ _ rfl w.heap.size 0 #[.string ⟨#[84, 104, 114, 101, 97, 100]⟩, .string ⟨#[79, 98, 106, 101, 99, 116]⟩, .slice none 0 0, .int .i64 0, .slice none 0 0, .slice none 0 0, .slice (some ⟨w8.heap.size, 0, none⟩) 6 6] rfl (by first | rfl | (simp; done)) (h6.out _).th hinf.out (OneCells.all (row := [.string ⟨#[84, 104, 114, 101, 97, 100]⟩, .string ⟨#[79, 98, 106, 101, 99, 116]⟩, .slice none 0 0, .int .i64 0, .slice none 0 0, .slice none 0 0, .slice (some ⟨w8.heap.size, 0, none⟩) 6 6]) rfl) ?_)
 refine bodyPost_ret (v := .agg #[.string ⟨#[84, 104, 114, 101, 97, 100]⟩, .string ⟨#[79, 98, 106, 101, 99, 116]⟩, .slice none 0 0, .int .i64 0, .slice none 0 0, .slice none 0 0, .slice (some ⟨w8.heap.size, 0, none⟩) 6 6]) (results_cell_mid rfl _ _ w.heap.size [.string ⟨#[84, 104, 114, 101, 97, 100]⟩, .string ⟨#[79, 98, 106, 101, 99, 116]⟩, .slice none 0 0, .int .i64 0, .slice none 0 0, .slice none 0 0, .slice (some ⟨w8.heap.size, 0, none⟩) 6 6] _ rfl (World.rangeAt_setCells_same _ _ _ _ (h6.out _).th) Tryz.underlying49 rfl hinf.out) rfl ⟨⟨_, rfl, ?_⟩, below_setCells _ (Nat.le_refl _) _ _ _ (h6.out _).hb⟩
 exact classOwn_mk r8.out q8.out _ _ _ _ rfl _ _ rfl
theorem bootSystem_calls  (w : World) : Calls Tryz.prog 124 #[] w fun e w' => (∃ p, e = .returned (.agg #[.string ⟨#[83, 121, 115, 116, 101, 109]⟩, .string ⟨#[79, 98, 106, 101, 99, 116]⟩, .slice none 0 0, .int .i64 2, .slice none 0 0, .slice none 0 0, .slice (some ⟨p, 0, none⟩) 4 4]) ∧ ClassOwn w w' [.string ⟨#[83, 121, 115, 116, 101, 109]⟩, .string ⟨#[79, 98, 106, 101, 99, 116]⟩, .slice none 0 0, .int .i64 2, .slice none 0 0, .slice none 0 0, .slice (some ⟨p, 0, none⟩) 4 4] ⟨⟨#[83, 121, 115, 116, 101, 109]⟩, ⟨#[79, 98, 106, 101, 99, 116]⟩, 2, [], [natM ⟨#[112, 114, 105, 110, 116]⟩ ⟨#[40, 73, 41, 86]⟩ 1, natM ⟨#[112, 114, 105, 110, 116]⟩ ⟨#[40, 74, 41, 86]⟩ 1, natM ⟨#[112, 114, 105, 110, 116]⟩ ⟨#[40, 68, 41, 86]⟩ 1, natM ⟨#[112, 114, 105, 110, 116]⟩ ⟨#[40, 64, 83, 116, 114, 105, 110, 103, 41, 86]⟩ 1]⟩) ∧ Below w.heap.size w w' := by
 have hinf : Hid ((Tryz.prog.info? 49).map (·.size) = some 7) := by show (Tryz.prog.info? 49).map (·.size) = some 7; kernel_rfl
 go_enter Tryz.func124, Tryz.ntmps124
 go_wp2_with fail
 refine (native1_calls _ _ _).mono ?_
 rintro e w1 ⟨rfl, hb1⟩
 have r1 : Hid (Own7 w w1) := (Own7.start w _ _ _ _ _ _ _ _).call hb1
 have q1 : Hid (MethsIn w _ w1) := MethsIn.native (MethsIn.nil w w1) (natM ⟨#[112, 114, 105, 110, 116]⟩ ⟨#[40, 73, 41, 86]⟩ 1) rfl
 clear hb1
 go_wp2_with fail
 refine (native1_calls _ _ _).mono ?_
 rintro e w2 ⟨rfl, hb2⟩
 have r2 : Hid (Own7 w w2) := r1.out.call hb2
 have q2 : Hid (MethsIn w _ w2) := MethsIn.native (q1.out.call hb2) (natM ⟨#[112, 114, 105, 110, 116]⟩ ⟨#[40, 74, 41, 86]⟩ 1) rfl
 clear hb2 r1
 go_wp2_with fail
 refine (native1_calls _ _ _).mono ?_
 rintro e w3 ⟨rfl, hb3⟩
 have r3 : Hid (Own7 w w3) := r2.out.call hb3
 have q3 : Hid (MethsIn w _ w3) := MethsIn.native (q2.out.call hb3) (natM ⟨#[112, 114, 105, 110, 116]⟩ ⟨#[40, 68, 41, 86]⟩ 1) rfl
 clear hb3 r2
 go_wp2_with fail
 refine (native1_calls _ _ _).mono ?_
 rintro e w4 ⟨rfl, hb4⟩
 have r4 : Hid (Own7 w w4) := r3.out.call hb4
 have q4 : Hid (MethsIn w _ w4) := MethsIn.native (q3.out.call hb4) (natM ⟨#[112, 114, 105, 110, 116]⟩ ⟨#[40, 64, 83, 116, 114, 105, 110, 103, 41, 86]⟩ 1) rfl
 clear hb4 r3
 have h6 : Hid (∀ A, Own7 w (w4.alloc A)) := fun A => r4.out.call (below_1 _ _)
 go_wp2_with (refine wpList_store_mid rfl 49 _ _ rfl w.heap.size 0 #[.string ⟨#[83, 121, 115, 116, 101, 109]⟩, .string ⟨#[79, 98, 106, 101, 99, 116]⟩, .slice none 0 0, .int .i64 2, .slice none 0 0, .slice none 0 0, .slice (some ⟨w4.heap.size, 0, none⟩) 4 4] rfl (by first | rfl | (simp; done)) (h6.out _).th hinf.out (OneCells.all (row := [.string ⟨#[83, 121, 115, 116, 101, 109]⟩, .string ⟨#[79, 98, 106, 101, 99, 116]⟩, .slice none 0 0, .int .i64 2, .slice none 0 0, .slice none 0 0, .slice (some ⟨w4.heap.size, 0, none⟩) 4 4]) rfl) ?_)
 refine bodyPost_ret (v := .agg #[.string ⟨#[83, 121, 115, 116, 101, 109]⟩, .string ⟨#[79, 98, 106, 101, 99, 116]⟩, .slice none 0 0, .int .i64 2, .slice none 0 0, .slice none 0 0, .slice (some ⟨w4.heap.size, 0, none⟩) 4 4]) (results_cell_mid rfl _ _ w.heap.size [.string ⟨#[83, 121, 115, 116, 101, 109]⟩, .string ⟨#[79, 98, 106, 101, 99, 116]⟩, .slice none 0 0, .int .i64 2, .slice none 0 0, .slice none 0 0, .slice (some ⟨w4.heap.size, 0, none⟩) 4 4] _ rfl (World.rangeAt_setCells_same _ _ _ _ (h6.out _).th) Tryz.underlying49 rfl hinf.out) rfl ⟨⟨_, rfl, ?_⟩, below_setCells _ (Nat.le_refl _) _ _ _ (h6.out _).hb⟩
 exact classOwn_mk r4.out q4.out _ _ _ _ rfl _ _ rfl
end Go.Proofs.YtjjccimeikkogaaGreatDoor.Bt
