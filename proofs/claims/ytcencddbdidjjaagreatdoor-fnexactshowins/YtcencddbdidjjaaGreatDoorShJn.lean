/- Contracts of the library, laid: strings.Join, slices.Grow. -/
import Derived.Shelf.Strings.Builder1
import Derived.Shelf.Strings.Builder2
import Derived.Shelf.Strings.OnBuilder
import Derived.Shelf.Spec.SlicesGrow
import Derived.Test.YtcencddbdidjjaaGreatDoorProg
import Derived.Test.YtcencddbdidjjaaGreatDoorRwB
namespace Go.Proofs
open Go.Shelf
def Tryz.lays156_ren : Go.Shelf.Ren := ⟨fun | 156 => 40 | 165 => 64 | 166 => 65 | 169 => 66 | 240 => 93 | 241 => 94 | 276 => 112 | 277 => 113 | n => n, fun | 31 => 34 | 9 => 9 | 3 => 3 | 4 => 4 | 0 => 0 | 20 => 20 | 72 => 75 | 76 => 79 | 70 => 73 | 37 => 70 | 75 => 78 | 127 => 98 | 164 => 124 | 5 => 5 | 80 => 81 | n => n, fun | n => n⟩
theorem Tryz.lays156 : Go.Proofs.Lays.n156 Tryz.prog Tryz.lays156_ren := {
  mixed := by kernel_rfl
  f156 := Tryz.func40.trans (congrArg some (by kernel_rfl))
  f165 := Tryz.func64.trans (congrArg some (by kernel_rfl))
  f166 := Tryz.func65.trans (congrArg some (by kernel_rfl))
  f169 := Tryz.func66.trans (congrArg some (by kernel_rfl))
  f240 := Tryz.func93.trans (congrArg some (by kernel_rfl))
  f241 := Tryz.func94.trans (congrArg some (by kernel_rfl))
  f276 := Tryz.func112.trans (congrArg some (by kernel_rfl))
  f277 := Tryz.func113.trans (congrArg some (by kernel_rfl))
  t0 := Tryz.underlying0
  a0 := Tryz.isAgg0
  z0 := Tryz.sizeOf0
  v0 := Tryz.zeroValue0
  t3 := Tryz.underlying3
  a3 := Tryz.isAgg3
  z3 := Tryz.sizeOf3
  v3 := Tryz.zeroValue3
  t4 := Tryz.underlying4
  a4 := Tryz.isAgg4
  z4 := Tryz.sizeOf4
  v4 := Tryz.zeroValue4
  t9 := Tryz.underlying9
  a9 := Tryz.isAgg9
  z9 := Tryz.sizeOf9
  v9 := Tryz.zeroValue9
  t20 := Tryz.underlying20
  a20 := Tryz.isAgg20
  z20 := Tryz.sizeOf20
  v20 := Tryz.zeroValue20
  t31 := Tryz.underlying34
  a31 := Tryz.isAgg34
  z31 := Tryz.sizeOf34
  v31 := Tryz.zeroValue34
  t37 := Tryz.underlying70
  a37 := Tryz.isAgg70
  z37 := Tryz.sizeOf70
  v37 := Tryz.zeroValue70
  t70 := Tryz.underlying73
  a70 := Tryz.isAgg73
  z70 := Tryz.sizeOf73
  v70 := Tryz.zeroValue73
  t72 := Tryz.underlying75
  a72 := Tryz.isAgg75
  z72 := Tryz.sizeOf75
  v72 := Tryz.zeroValue75
  t75 := Tryz.underlying78
  a75 := Tryz.isAgg78
  z75 := Tryz.sizeOf78
  v75 := Tryz.zeroValue78
  t76 := Tryz.underlying79
  a76 := Tryz.isAgg79
  z76 := Tryz.sizeOf79
  v76 := Tryz.zeroValue79
  t127 := Tryz.underlying98
  a127 := Tryz.isAgg98
  z127 := Tryz.sizeOf98
  v127 := Tryz.zeroValue98
  t164 := Tryz.underlying124
  a164 := Tryz.isAgg124
  z164 := Tryz.sizeOf124
  v164 := Tryz.zeroValue124 }
theorem Tryz.Builder_Extra_156 : Builder.Extra Tryz.prog Tryz.lays156_ren := {
  sizeBuilder := by kernel_rfl
  liesBuilder := by kernel_rfl
  t5 := Tryz.underlying5
  a5 := Tryz.isAgg5
  z5 := Tryz.sizeOf5
  v5 := Tryz.zeroValue5
  infoByte := by kernel_rfl
  cellsByte := by kernel_rfl
  sizeByte := by kernel_rfl
  neB5 := by decide }
open Go.RowKit in
theorem Tryz.strings_Join_none (a : Option Addr) (c : Nat) (sep : ByteArray) (w : World) :
    Calls Tryz.prog 40 #[.slice a 0 c, .string sep] w fun e w' => e = .returned (.string ⟨#[]⟩) ∧ w' = w := Any.strings_Join_none Tryz.lays156 Tryz.Builder_Extra_156 a c sep w
open Go.RowKit in
theorem Tryz.strings_Join (bk o c : Nat) (xs : List ByteArray) (sep : ByteArray) (w : World) (hcells : ∀ (j : Nat) x, xs[j]? = some x → w.cell? ⟨bk, o + j, none⟩ = some (.string x)) (hbk : bk < w.heap.size) (hN : xs.length ≤ 140737488355328) (hcap : xs.length ≤ c) (hlen : (Lib.join (xs.map (·.data.toList)) sep.data.toList).length ≤ 140737488355328) :
    Calls Tryz.prog 40 #[.slice (some ⟨bk, o, none⟩) xs.length c, .string sep] w fun e w' => e = .returned (.string ⟨(Lib.join (xs.map (·.data.toList)) sep.data.toList).toArray⟩) ∧ Below w.heap.size w w' := Any.strings_Join Tryz.lays156 Tryz.Builder_Extra_156 bk o c xs sep w hcells hbk hN hcap hlen
def Tryz.laysG4_ren : Go.Shelf.Ren := ⟨fun | 4 => 67 | n => n, fun | 0 => 0 | 3 => 3 | 4 => 4 | 9 => 9 | 20 => 20 | 22 => 34 | 25 => 9 | n => n, fun | n => n⟩
theorem Tryz.laysG4 : Go.Proofs.Lays8.n4 Tryz.prog Tryz.laysG4_ren := {
  mixed := by kernel_rfl
  f4 := ⟨"slices.Grow[[]string,string]", by decide, Tryz.func67.trans (congrArg some (by kernel_rfl))⟩
  t0 := Tryz.underlying0
  a0 := Tryz.isAgg0
  z0 := Tryz.sizeOf0
  v0 := Tryz.zeroValue0
  t3 := Tryz.underlying3
  a3 := Tryz.isAgg3
  z3 := Tryz.sizeOf3
  v3 := Tryz.zeroValue3
  t4 := Tryz.underlying4
  a4 := Tryz.isAgg4
  z4 := Tryz.sizeOf4
  v4 := Tryz.zeroValue4
  t9 := Tryz.underlying9
  a9 := Tryz.isAgg9
  z9 := Tryz.sizeOf9
  v9 := Tryz.zeroValue9
  t20 := Tryz.underlying20
  a20 := Tryz.isAgg20
  z20 := Tryz.sizeOf20
  v20 := Tryz.zeroValue20
  t22 := Tryz.underlying34
  a22 := Tryz.isAgg34
  z22 := Tryz.sizeOf34
  v22 := Tryz.zeroValue34
}
end Go.Proofs

/- slices.Concat of one part; impl.lineOf. -/
namespace Go.Proofs.YtcencddbdidjjaaGreatDoor
set_option linter.unusedVariables false
open Go.ChangeShapes Go.WideShapes Go.ChangeAt Go.RowKit

theorem appM {ops : Array Oper} {rest : List Oper} {o : Oper} {a : Act} {Q : Exit → Act → World → Prop} (hgd : o.guard = none) (W : World) (s x : Operand)
    (ho : o.op = .call { callee := .builtin .append, args := #[s, x], argTypes := #[34, 34] }) (B : Nat) (v : Value) (ws p : List (List UInt8)) (m c g : Nat) (hm : m = p.length) (hs : a.eval s = v) (hx : a.eval x = .slice (some ⟨g, 0, none⟩) m c)
    (hc : ∀ j u, (rowS p)[j]? = some u → W.cell? ⟨g, j, none⟩ = some u) (hw : WordsAt B W v ws) (hB : B ≤ W.heap.size) (hn : ws.length + p.length ≤ 1073741824)
    (h : ∀ v' w', Hid (WordsAt B w' v' (ws ++ p)) → Hid (Below B W w') → wpList Tryz.prog ops Q rest (a.put o.dst v') w') : wpList Tryz.prog ops Q (o :: rest) a W := by
  obtain ⟨i0, hi, hz0, hz1, hz2⟩ := str_info
  subst hm
  refine wpList_append_own_wide W hgd s x 34 ho B 9 i0 (.string ByteArray.empty) 1 16 Tryz.underlying34 hi hz0 hz1 hz2 rfl (by decide) v ws.length (rowS ws) hs hw ⟨g, 0, none⟩ p.length c (rowS p) hx (by rw [rowS_length, Nat.mul_one]) ?_ ?_ (by unfold maxLen; omega) (by omega) hB ?_
  · intro j u hj
    rw [show (⟨g, 0, none⟩ : Addr).add j = ⟨g, j, none⟩ by simp [Addr.add]; omega]
    exact hc j u hj
  · intro u hu
    simp only [rowS, List.mem_map] at hu
    obtain ⟨p, _, rfl⟩ := hu
    rfl
  · intro v' w' h2 h3 _
    have hb1 : Below B W w' := (Below.refl B W).grown h3 hB (fun j hj => ((hw.lt j hj).1))
    refine h v' w' ?_ hb1
    show WordsAt _ _ _ _
    unfold WordsAt
    rw [List.length_append, rowS_append]; exact h2
theorem WordsAt.cells {B : Nat} {W : World} {v : Value} {ws : List (List UInt8)} (h : WordsAt B W v ws) (hne : ws ≠ []) : ∃ g cap, v = .slice (some ⟨g, 0, none⟩) ws.length cap ∧ B ≤ g ∧ g < W.heap.size ∧ ws.length ≤ cap ∧ cap ≤ maxLen ∧ ∀ j u, (rowS ws)[j]? = some u → W.cell? ⟨g, j, none⟩ = some u := by
  obtain ⟨h1, ⟨h2, h3⟩ | ⟨g, cap, cur, e1, e2, e3, e4, e5, e6, e7⟩⟩ := h
  · exact absurd (List.eq_nil_of_length_eq_zero h3) hne
  · refine ⟨g, cap, e1, e2, (Array.getElem?_eq_some_iff.1 e3).1, e4, e5, fun j u hj => ?_⟩
    have hlt : j < ws.length := by have := (List.getElem?_eq_some_iff.1 hj).1; rw [rowS_length] at this; exact this
    have hcur : cur[j]? = some u := by
      rw [← e7, List.getElem?_take_of_lt (by omega)] at hj
      simpa using hj
    simp [World.cell?, e3, hcur]
theorem grow_calls (n : Nat) (w : World) (hn : 0 < n) (hn2 : n ≤ 1073741824) : Calls Tryz.prog 67 #[.slice none 0 0, .int .i64 n] w fun e w' => ∃ v, e = .returned v ∧ WordsAt w.heap.size w' v [] ∧ Below w.heap.size w w' := by
  obtain ⟨i0, hi, hz0, hz1, hz2⟩ := str_info
  refine (Any8.slices_Grow_grow Tryz.laysG4 i0 (.string ByteArray.empty) hi hz0 (by rw [hz1]; decide) none 0 0 n [] w (by omega) (by omega) (by rw [hz2]; omega) (by omega) (by simp) (fun _ => rfl) (fun a h => by cases h)).mono ?_
  rintro e w' ⟨rfl, rfl⟩
  have h1 := grownCap_ge w (0 + n) 0 9
  have h2 := grownCap_le_maxLen w (0 + n) 0 9 (by unfold maxLen; omega)
  refine ⟨_, rfl, ⟨rfl, .inr ⟨w.heap.size, grownCap w (0 + n) 0 9, _, rfl, Nat.le_refl _, heap_alloc_last w.drew _, Nat.zero_le _, h2, ?_, ?_⟩⟩, (Below.refl _ _).drew.alloc (Nat.le_refl _) _⟩
  · have hz : (Value.string ByteArray.empty).cells.size = 1 := rfl
    show (#[] ++ _ ++ _ : Array Value).size = grownCap w (0 + n) 0 9 * 1
    rw [Array.size_append, Array.size_append, size_zeroCells, size_zeroCells, hz]
    show 0 + (0 + n - 0) * 1 + (grownCap w (0 + n) 0 9 - (0 + n)) * 1 = grownCap w (0 + n) 0 9 * 1
    omega
  · simp [rowS]

set_option maxRecDepth 1000000 in
set_option maxHeartbeats 4000000 in
theorem concat1_calls (p g n cap : Nat) (ws : List (List UInt8)) (w : World) (hp : w.cell? ⟨p, 0, none⟩ = some (.slice (some ⟨g, 0, none⟩) n cap)) (hn : n = ws.length) (hn0 : 0 < n) (hn2 : n ≤ 1073741000) (hg : g < w.heap.size)
    (hcells : ∀ j u, (rowS ws)[j]? = some u → w.cell? ⟨g, j, none⟩ = some u) :
    Calls Tryz.prog 41 #[.slice (some ⟨p, 0, none⟩) 1 1] w fun e w' => ∃ v, e = .returned v ∧ WordsAt w.heap.size w' v ws ∧ Below w.heap.size w w' := by
  have hcH : Hid (∀ j u, (rowS ws)[j]? = some u → w.cell? ⟨g, j, none⟩ = some u) := hcells
  have hnH : Hid (n = ws.length) := hn
  have hgH : Hid (g < w.heap.size) := hg
  clear hcells hn hg
  have hn0' : ¬ (n : Int) < 0 := by omega
  have hn64 : (n : Int) ≤ 1073741000 := by omega
  go_enter Tryz.func41, Tryz.ntmps41
  go_wp2
  go_loopw [3, 11] (fun sv iv wr => wr = w ∧ ((sv = .int .i64 0 ∧ iv = .int .i64 0) ∨ (sv = .int .i64 n ∧ iv = .int .i64 1))) (fun _ iv _ => 1 - (intOf iv).toNat)
  case atStart => exact ⟨rfl, .inl ⟨rfl, rfl⟩⟩
  case round =>
    obtain ⟨hw, ⟨rfl, rfl⟩ | ⟨rfl, rfl⟩⟩ := hrel
    · have hw2 := hw.symm
      subst hw2
      go_wp2
      go_roundw
      case rel => exact ⟨by first | trivial | rfl, .inr ⟨by go_num, by go_num⟩⟩
      case measure => simp [intOf]
    · have hw2 := hw.symm
      subst hw2
      have hpl : Hid (p < w.heap.size) := block_lt_of_cell hp
      have hpH : Hid (w.cell? ⟨p, 0, none⟩ = some (.slice (some ⟨g, 0, none⟩) n cap)) := hp
      go_wp2_with (go_at_call 67; refine (grow_calls n _ hn0 (by omega)).mono ?_; rintro e W2 ⟨v2, rfl, hv2, hb2⟩; have hv2H : Hid (WordsAt w.heap.size W2 v2 []) := hv2; have hb2H : Hid (Below w.heap.size w W2) := hb2; clear hv2 hb2)
      clear hp hw
      go_loopw [6, 27] (fun v iv wr => ((iv = .int .i64 0 ∧ Hid (WordsAt w.heap.size wr v [])) ∨ (iv = .int .i64 1 ∧ Hid (WordsAt w.heap.size wr v ws))) ∧ Hid (Below w.heap.size w wr)) (fun _ iv _ => 1 - (intOf iv).toNat)
      case atStart => exact ⟨.inl ⟨rfl, hv2H⟩, hb2H⟩
      case round =>
        obtain ⟨⟨rfl, hv⟩ | ⟨rfl, hv⟩, hb⟩ := hrel
        · have hp1 : wr.cell? ⟨p, 0, none⟩ = some (.slice (some ⟨g, 0, none⟩) n cap) := by rw [hb.out.cell (p := ⟨p, 0, none⟩) hpl.out]; exact hpH.out
          have hcW : Hid (∀ j u, (rowS ws)[j]? = some u → wr.cell? ⟨g, j, none⟩ = some u) := fun j u hj => by rw [hb.out.cell (p := ⟨g, j, none⟩) hgH.out]; exact hcH.out j u hj
          go_wp2_with (at_builtin; refine appM rfl _ _ _ rfl w.heap.size _ [] ws n cap g hnH.out rfl rfl hcW.out hv.out hb.out.size (by have := hnH.out; simp; omega) ?_; intro v' w' hv' hb')
          go_roundw
          case rel => exact ⟨.inr ⟨by go_num, by simpa using hv'⟩, hb.out.trans hb'.out⟩
          case measure => simp [intOf]
        · go_wp2
          go_ret
          exact ⟨_, rfl, hv.out, hb.out⟩

set_option maxRecDepth 1000000 in
set_option maxHeartbeats 4000000 in
theorem lineOf_calls (p g n cap : Nat) (ws : List (List UInt8)) (w : World) (hp : w.cell? ⟨p, 0, none⟩ = some (.slice (some ⟨g, 0, none⟩) n cap)) (hn : n = ws.length) (hn0 : 0 < n) (hn2 : n ≤ 1073741000) (hg : g < w.heap.size)
    (hcells : ∀ j u, (rowS ws)[j]? = some u → w.cell? ⟨g, j, none⟩ = some u) (hlen : (Lib.join ws [32]).length ≤ 140737488355328) :
    Calls Tryz.prog 15 #[.slice (some ⟨p, 0, none⟩) 1 1] w fun e w' => e = .returned (.string (mkS (Lib.join ws [32]))) ∧ Below w.heap.size w w' := by
  have hne : ws ≠ [] := by intro e; rw [e] at hn; simp at hn; omega
  go_enter Tryz.func15, Tryz.ntmps15
  go_wp2_with (go_at_call 41; fail)
  refine (concat1_calls p g n cap ws w hp hn hn0 hn2 hg hcells).mono ?_
  rintro e W2 ⟨v, rfl, hv, hb⟩
  obtain ⟨g2, cap2, rfl, hB2, hg2, hc2, hm2, hcell2⟩ := hv.cells hne
  have hj := Tryz.strings_Join g2 0 cap2 (ws.map mkS) (mkS [32]) W2 (fun j x hx => by
    rw [Nat.zero_add]
    refine hcell2 j _ ?_
    rw [List.getElem?_map] at hx
    cases h : ws[j]? with
    | none => rw [h] at hx; cases hx
    | some y => rw [h] at hx; injection hx with hx; subst hx; simp [rowS, h]) hg2 (by rw [List.length_map]; omega) (by rw [List.length_map]; exact hc2) (by
      rw [List.map_map, show ((fun x => x.data.toList) ∘ mkS) = id from rfl, List.map_id]; exact hlen)
  rw [List.length_map, List.map_map, show ((fun x => x.data.toList) ∘ mkS) = id from rfl, List.map_id] at hj
  have hjH := hj
  go_wp2_with (go_at_call 40; fail)
  refine hj.mono ?_
  rintro e W3 ⟨rfl, hb3⟩
  go_wp2
  go_ret
  exact ⟨rfl, hb.trans (hb3.mono hb.size)⟩
end Go.Proofs.YtcencddbdidjjaaGreatDoor
