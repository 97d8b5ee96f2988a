/- A text in quotes: spec.l3Quote, impl.quoted. -/
import Derived.Test.YtcencddbdidjjaaGreatDoorRwB
import Derived.Deep.RegionLaw
import Derived.Laws.IdiomStrings
import Derived.Maps.AppendAt
import Derived.Lib.ConvBytes
namespace Go.Proofs.YtcencddbdidjjaaGreatDoor
set_option linter.unusedVariables false
open Go.ChangeShapes Go.WideShapes Go.ChangeAt Go.RowKit

def hexB (n : Nat) : UInt8 := if n < 10 then UInt8.ofNat (48 + n) else UInt8.ofNat (87 + n)
def escB (c : UInt8) : Bool := decide (c.toNat < 32) || decide (126 < c.toNat) || c.toNat == 34 || c.toNat == 92
def quoC (c : UInt8) : List UInt8 := if escB c then [92, hexB (c.toNat / 16), hexB (c.toNat % 16)] else [c]
def quoM (l : List UInt8) : List UInt8 := 34 :: l.flatMap quoC
def quoL (l : List UInt8) : List UInt8 := quoM l ++ [34]
theorem quoM_next {l : List UInt8} {i : Nat} (h : i < l.length) : quoM (l.take (i + 1)) = quoM (l.take i) ++ quoC (l[i]'h) := by
  unfold quoM
  rw [List.take_succ_eq_append_getElem h, List.flatMap_append]
  simp
theorem quoM_len (l : List UInt8) : (quoM l).length ≤ 3 * l.length + 1 := by
  unfold quoM
  induction l with
  | nil => simp
  | cons c t ih =>
    have : (quoC c).length ≤ 3 := by unfold quoC; split <;> simp
    simp only [List.flatMap_cons, List.length_cons, List.length_append] at ih ⊢
    omega
def rowU (l : List UInt8) : List Value := l.map fun b => .int .u8 b.toNat
theorem rowU_append (a b : List UInt8) : rowU (a ++ b) = rowU a ++ rowU b := by simp [rowU]
theorem byte_info : ∃ i, Tryz.prog.info? 5 = some i ∧ i.zero = some (.int .u8 0) ∧ i.size = 1 ∧ i.bytes = 1 := by
  obtain ⟨i0, hi⟩ : ∃ i, Tryz.prog.info? 5 = some i := Option.isSome_iff_exists.1 (by kernel_rfl)
  refine ⟨i0, hi, ?_, ?_, ?_⟩
  · have : (Tryz.prog.info? 5).bind (·.zero) = some (.int .u8 0) := by kernel_rfl
    rw [hi] at this; exact this
  · have : (Tryz.prog.info? 5).map (·.size) = some 1 := by kernel_rfl
    rw [hi] at this; exact Option.some.inj this
  · have : (Tryz.prog.info? 5).map (·.bytes) = some 1 := by kernel_rfl
    rw [hi] at this; exact Option.some.inj this
/-- At work on bytes: they lie in v, from B on; all below B is as it was. -/
structure WrkU (B : Nat) (w : World) (bs : List UInt8) (v : Value) (W : World) : Prop where
  bytes : W.ownsRow B 5 1 v bs.length (rowU bs)
  below : Below B w W
  le : B ≤ W.heap.size
theorem WrkU.drew {B : Nat} {w W : World} {bs : List UInt8} {v : Value} (h : WrkU B w bs v W) : WrkU B w bs v W.drew := ⟨h.bytes.drew, h.below.drew, h.le⟩
theorem WrkU.alloc {B : Nat} {w W : World} {bs : List UInt8} {v : Value} (h : WrkU B w bs v W) (o : Obj) : WrkU B w bs v (W.alloc o) := ⟨World.ownsRow.alloc h.bytes o, h.below.alloc h.le o, by simp; have := h.le; omega⟩
theorem wp_appU {o : Oper} {a : Act} {K : Act → World → Prop} {Q : Exit → Act → World → Prop} (W : World) (s x : Operand)
    (ho : o.op = .call { callee := .builtin .append, args := #[s, x], argTypes := #[70, 70] }) (B : Nat) (w : World) (v : Value) (bs p : List UInt8) (m g : Nat) (hm : m = p.length) (hs : a.eval s = v) (hx : a.eval x = .slice (some ⟨g, 0, none⟩) m m)
    (hc : ∀ j u, (rowU p)[j]? = some u → W.cell? ⟨g, j, none⟩ = some u) (hw : WrkU B w bs v W) (hn : bs.length + p.length ≤ 1073741824)
    (h : ∀ v' w', Hid (WrkU B w (bs ++ p) v' w') → K (a.put o.dst v') w') : o.wp Tryz.prog a W K Q := by
  obtain ⟨i0, hi, hz0, hz1, hz2⟩ := byte_info
  subst hm
  refine wp_append_own_wide W s x 70 ho B 5 i0 (.int .u8 0) 1 1 Tryz.underlying70 hi hz0 hz1 hz2 rfl (by decide) v bs.length (rowU bs) hs hw.bytes ⟨g, 0, none⟩ p.length p.length (rowU p) hx (by simp [rowU]) ?_ ?_ (by unfold maxLen; omega) (by omega) hw.le ?_
  · intro j u hj
    rw [show (⟨g, 0, none⟩ : Addr).add j = ⟨g, j, none⟩ by simp [Addr.add]; omega]
    exact hc j u hj
  · intro u hu
    simp only [rowU, List.mem_map] at hu
    obtain ⟨b, _, rfl⟩ := hu
    rfl
  · intro v' w' h2 h3 _
    have hb1 : Below B W w' := (Below.refl B W).grown h3 hw.le (fun j hj => ((hw.bytes.lt j hj).1))
    refine h v' w' ⟨?_, hw.below.trans hb1, Nat.le_trans hw.le hb1.size⟩
    rw [List.length_append, rowU_append]; exact h2
theorem appU {ops : Array Oper} {rest : List Oper} {o : Oper} {a : Act} {Q : Exit → Act → World → Prop} (hgd : o.guard = none) (W : World) (s x : Operand)
    (ho : o.op = .call { callee := .builtin .append, args := #[s, x], argTypes := #[70, 70] }) (B : Nat) (w : World) (v : Value) (bs p : List UInt8) (m g : Nat) (hm : m = p.length) (hs : a.eval s = v) (hx : a.eval x = .slice (some ⟨g, 0, none⟩) m m)
    (hc : ∀ j u, (rowU p)[j]? = some u → W.cell? ⟨g, j, none⟩ = some u) (hw : WrkU B w bs v W) (hn : bs.length + p.length ≤ 1073741824)
    (h : ∀ v' w', Hid (WrkU B w (bs ++ p) v' w') → wpList Tryz.prog ops Q rest (a.put o.dst v') w') : wpList Tryz.prog ops Q (o :: rest) a W :=
  wpList_plain hgd fun _ hK => wp_appU W s x ho B w v bs p m g hm hs hx hc hw hn fun v' w' h2 => hK _ _ (h v' w' h2)
theorem cells1 (W : World) (t : TypeId) (b : UInt8) (g : Nat) (hg : W.heap.size = g) : ∀ j u, (rowU [b])[j]? = some u → (W.alloc (.cells #[.int .u8 b.toNat] t)).cell? ⟨g, j, none⟩ = some u := fun j u hj => by
  subst hg
  rw [World.cell?_alloc_new]
  simpa [rowU] using hj

theorem nib (c : UInt8) : IntKind.u8.wrap ((c.toNat : Int) / 16) < 16 ∧ 0 ≤ IntKind.u8.wrap ((c.toNat : Int) / 16) ∧ ((c.toNat : Int)).tmod 16 < 16 ∧ 0 ≤ ((c.toNat : Int)).tmod 16 := by
  have := c.toNat_lt
  have e : IntKind.u8.wrap ((c.toNat : Int) / 16) = (c.toNat : Int) / 16 := by
    simp only [IntKind.wrap, IntKind.bits, IntKind.signed]
    simp
    omega
  rw [e, Int.tmod_eq_emod_of_nonneg (by omega)]
  omega
theorem hexX : ∀ z : Fin 16, (⟨#[48, 49, 50, 51, 52, 53, 54, 55, 56, 57, 97, 98, 99, 100, 101, 102]⟩ : ByteArray)[z.1]'(show z.1 < 16 from z.2) = hexB z.1 := by decide
theorem hexq (c : UInt8) (h : (IntKind.u8.wrap ((c.toNat : Int) / 16)).toNat < (⟨#[48, 49, 50, 51, 52, 53, 54, 55, 56, 57, 97, 98, 99, 100, 101, 102]⟩ : ByteArray).size) : (⟨#[48, 49, 50, 51, 52, 53, 54, 55, 56, 57, 97, 98, 99, 100, 101, 102]⟩ : ByteArray)[(IntKind.u8.wrap ((c.toNat : Int) / 16)).toNat]'h = hexB (c.toNat / 16) := by
  have := c.toNat_lt
  have e : (IntKind.u8.wrap ((c.toNat : Int) / 16)).toNat = c.toNat / 16 := by
    simp only [IntKind.wrap, IntKind.bits, IntKind.signed]
    simp
    omega
  rw [← hexX ⟨c.toNat / 16, by omega⟩]
  congr 1
theorem hexr (c : UInt8) (h : (((c.toNat : Int)).tmod 16).toNat < (⟨#[48, 49, 50, 51, 52, 53, 54, 55, 56, 57, 97, 98, 99, 100, 101, 102]⟩ : ByteArray).size) : (⟨#[48, 49, 50, 51, 52, 53, 54, 55, 56, 57, 97, 98, 99, 100, 101, 102]⟩ : ByteArray)[(((c.toNat : Int)).tmod 16).toNat]'h = hexB (c.toNat % 16) := by
  have e : (((c.toNat : Int)).tmod 16).toNat = c.toNat % 16 := by
    rw [Int.tmod_eq_emod_of_nonneg (by omega)]; omega
  rw [← hexX ⟨c.toNat % 16, by omega⟩]
  congr 1
theorem esc_step {c x y : UInt8} (h : escB c = true) (hx : x = hexB (c.toNat / 16)) (hy : y = hexB (c.toNat % 16)) : quoC c = [92, x, y] := by
  unfold quoC
  rw [if_pos h, hx, hy]
theorem plain_step {c : UInt8} (h : escB c = false) : quoC c = [c] := by
  unfold quoC
  rw [h]; rfl
theorem cells3 (W : World) (t : TypeId) (x y z : UInt8) (g : Nat) (hg : W.heap.size = g) : ∀ j u, (rowU [x, y, z])[j]? = some u → (W.alloc (.cells #[.int .u8 x.toNat, .int .u8 y.toNat, .int .u8 z.toNat] t)).cell? ⟨g, j, none⟩ = some u := fun j u hj => by
  subst hg
  rw [World.cell?_alloc_new]
  simpa [rowU] using hj
theorem formU {B : Nat} {w W : World} {bs : List UInt8} {v : Value} (h : WrkU B w bs v W) (hne : bs ≠ []) : ∃ g n cap, v = .slice (some ⟨g, 0, none⟩) n cap ∧ (convert 70 9 (.slice (some ⟨g, 0, none⟩) n cap)).run Tryz.prog W = .ok (.string (mkS bs)) W := by
  obtain ⟨h1, ⟨h2, h3⟩ | ⟨g, cap, cur, e1, e2, e3, e4, e5, e6, e7⟩⟩ := h.bytes
  · exact absurd (List.eq_nil_of_length_eq_zero h3) hne
  · refine ⟨g, bs.length, cap, e1, run_convert_bytes_back _ 70 9 5 ⟨g, 0, none⟩ cap bs Tryz.underlying70 Tryz.underlying5 Tryz.underlying9 ?_⟩
    intro j hj
    have hcur : cur[j]? = some (.int .u8 (bs[j]'hj).toNat) := by
      have e : (cur.toList.take (bs.length * 1))[j]? = (rowU bs)[j]? := by rw [e7]
      rw [List.getElem?_take_of_lt (by omega)] at e
      simp only [Array.getElem?_toList] at e
      rw [e]; simp [rowU, hj]
    rw [show (⟨g, 0, none⟩ : Addr).add j = ⟨g, j, none⟩ by simp [Addr.add]; omega]
    simp [World.cell?, e3, hcur]
theorem startU (w : World) : Hid (WrkU w.heap.size w (quoM (List.take 0 ([] : List UInt8))) (.slice (some ⟨w.heap.size, 0, none⟩) 1 1) (w.alloc (.cells #[.int .u8 34] 5))) :=
  ⟨⟨by simp [rowU, quoM], .inr ⟨w.heap.size, 1, _, rfl, Nat.le_refl _, heap_alloc_last w _, Nat.le_refl _, by unfold maxLen; omega, rfl, rfl⟩⟩, (Below.refl _ _).alloc (Nat.le_refl _) _, by simp⟩
set_option maxRecDepth 1000000 in
set_option maxHeartbeats 4000000 in
theorem specQuote_calls (s : ByteArray) (w : World) (hs : s.size ≤ 1048576) : Calls Tryz.prog 33 #[.string s] w fun e w' => e = .returned (.string (mkS (quoL s.data.toList))) ∧ Below w.heap.size w w' := by
  have hlen := toList_size s
  go_enter Tryz.func33, Tryz.ntmps33
  go_wp2
  go_loopw [3, 4] (fun ov iv wr => ∃ i : Nat, i ≤ s.size ∧ iv = .int .i64 i ∧ Hid (WrkU w.heap.size w (quoM (s.data.toList.take i)) ov wr)) (fun _ iv _ => s.size - (intOf iv).toNat)
  case atStart => exact ⟨0, by omega, rfl, startU w⟩
  case round =>
    obtain ⟨i, hi, rfl, hwk⟩ := hrel
    by_cases hlt : i < s.size
    · have hi0 : (0 : Int) ≤ i := by omega
      have hi1 : (i : Int) < s.size := by omega
      have hnx : Hid (quoM (s.data.toList.take (i + 1)) = quoM (s.data.toList.take i) ++ quoC (s[i]'hlt)) := by
        show _ = _
        rw [quoM_next (by rw [hlen]; exact hlt), get_toList s i hlt]
      by_cases h1 : ((s[i]'hlt).toNat : Int) < 32
      · have hesc : Hid (escB (s[i]'hlt) = true) := by
          show _ = _
          unfold escB
          simp
          omega
        obtain ⟨hd1, hd0, hr1, hr0⟩ := nib (s[i]'hlt)
        go_wp2_with (at_builtin; fail)
        go_region_law (refine wp_appU _ _ _ rfl w.heap.size w u3 (quoM (s.data.toList.take i)) [92, _, _] 3 _ rfl rfl rfl (cells3 _ 5 92 _ _ _ (by simp)) (by repeat (first | exact hwk.out | refine WrkU.drew ?_ | refine WrkU.alloc ?_ _)) (by have := quoM_len (s.data.toList.take i); have := List.length_take_le i s.data.toList; simp; omega) ?_; intro v' w' hvH)
        all_goals (
          go_wp2
          go_roundw
          case rel =>
            refine ⟨i + 1, by omega, by go_num, ?_⟩
            show WrkU _ _ _ _ _
            rw [hnx.out, esc_step hesc.out (hexq _ _) (hexr _ _)]
            exact hvH.out
          case measure => simp [intOf]; omega)
      by_cases h2 : (126 : Int) < ((s[i]'hlt).toNat : Int)
      · have hesc : Hid (escB (s[i]'hlt) = true) := by
          show _ = _
          unfold escB
          simp
          omega
        obtain ⟨hd1, hd0, hr1, hr0⟩ := nib (s[i]'hlt)
        go_wp2_with (at_builtin; fail)
        go_region_law (refine wp_appU _ _ _ rfl w.heap.size w u3 (quoM (s.data.toList.take i)) [92, _, _] 3 _ rfl rfl rfl (cells3 _ 5 92 _ _ _ (by simp)) (by repeat (first | exact hwk.out | refine WrkU.drew ?_ | refine WrkU.alloc ?_ _)) (by have := quoM_len (s.data.toList.take i); have := List.length_take_le i s.data.toList; simp; omega) ?_; intro v' w' hvH)
        all_goals (
          go_wp2
          go_roundw
          case rel =>
            refine ⟨i + 1, by omega, by go_num, ?_⟩
            show WrkU _ _ _ _ _
            rw [hnx.out, esc_step hesc.out (hexq _ _) (hexr _ _)]
            exact hvH.out
          case measure => simp [intOf]; omega)
      by_cases h3 : (((s[i]'hlt).toNat : Int) == 34) = true
      · have hesc : Hid (escB (s[i]'hlt) = true) := by
          have e : (s[i]'hlt).toNat = 34 := by
            have := h3
            simp only [beq_iff_eq] at this
            omega
          show _ = _
          unfold escB
          rw [e]; rfl
        obtain ⟨hd1, hd0, hr1, hr0⟩ := nib (s[i]'hlt)
        go_wp2_with (at_builtin; fail)
        go_region_law (refine wp_appU _ _ _ rfl w.heap.size w u3 (quoM (s.data.toList.take i)) [92, _, _] 3 _ rfl rfl rfl (cells3 _ 5 92 _ _ _ (by simp)) (by repeat (first | exact hwk.out | refine WrkU.drew ?_ | refine WrkU.alloc ?_ _)) (by have := quoM_len (s.data.toList.take i); have := List.length_take_le i s.data.toList; simp; omega) ?_; intro v' w' hvH)
        all_goals (
          go_wp2
          go_roundw
          case rel =>
            refine ⟨i + 1, by omega, by go_num, ?_⟩
            show WrkU _ _ _ _ _
            rw [hnx.out, esc_step hesc.out (hexq _ _) (hexr _ _)]
            exact hvH.out
          case measure => simp [intOf]; omega)
      by_cases h4 : (((s[i]'hlt).toNat : Int) == 92) = true
      · have h3n : (((s[i]'hlt).toNat : Int) == 34) = false := by simpa using h3
        have hesc : Hid (escB (s[i]'hlt) = true) := by
          have e : (s[i]'hlt).toNat = 92 := by
            have := h4
            simp only [beq_iff_eq] at this
            omega
          show _ = _
          unfold escB
          rw [e]; rfl
        obtain ⟨hd1, hd0, hr1, hr0⟩ := nib (s[i]'hlt)
        go_wp2_with (at_builtin; fail)
        go_region_law (refine wp_appU _ _ _ rfl w.heap.size w u3 (quoM (s.data.toList.take i)) [92, _, _] 3 _ rfl rfl rfl (cells3 _ 5 92 _ _ _ (by simp)) (by repeat (first | exact hwk.out | refine WrkU.drew ?_ | refine WrkU.alloc ?_ _)) (by have := quoM_len (s.data.toList.take i); have := List.length_take_le i s.data.toList; simp; omega) ?_; intro v' w' hvH)
        all_goals (
          go_wp2
          go_roundw
          case rel =>
            refine ⟨i + 1, by omega, by go_num, ?_⟩
            show WrkU _ _ _ _ _
            rw [hnx.out, esc_step hesc.out (hexq _ _) (hexr _ _)]
            exact hvH.out
          case measure => simp [intOf]; omega)
      have h3n : (((s[i]'hlt).toNat : Int) == 34) = false := by simpa using h3
      have h4n : (((s[i]'hlt).toNat : Int) == 92) = false := by simpa using h4
      have h3' : ((s[i]'hlt).toNat : Int) ≠ 34 := by simpa using h3
      have h4' : ((s[i]'hlt).toNat : Int) ≠ 92 := by simpa using h4
      have hpl : Hid (escB (s[i]'hlt) = false) := by
        show _ = _
        unfold escB
        simp
        omega
      go_wp2_with (at_builtin; refine appU rfl _ _ _ rfl w.heap.size w u3 (quoM (s.data.toList.take i)) [s[i]'hlt] 1 _ rfl rfl rfl (cells1 _ 5 _ _ (by simp)) (by repeat (first | exact hwk.out | refine WrkU.drew ?_ | refine WrkU.alloc ?_ _)) (by have := quoM_len (s.data.toList.take i); have := List.length_take_le i s.data.toList; simp; omega) ?_; intro v' w' hvH)
      go_roundw
      case rel =>
        refine ⟨i + 1, by omega, by go_num, ?_⟩
        show WrkU _ _ _ _ _
        rw [hnx.out, plain_step hpl.out]
        exact hvH.out
      case measure => simp [intOf]; omega
    · have hie : i = s.size := by omega
      subst hie
      have hfull : Hid (quoM (s.data.toList.take s.size) = quoM s.data.toList) := by
        show _ = _
        rw [← hlen, List.take_length]
      go_wp2_with (at_builtin; refine appU rfl _ _ _ rfl w.heap.size w u3 (quoM (s.data.toList.take s.size)) [34] 1 _ rfl rfl rfl (cells1 _ 5 34 _ (by simp)) (by repeat (first | exact hwk.out | refine WrkU.drew ?_ | refine WrkU.alloc ?_ _)) (by have := quoM_len (s.data.toList.take s.size); have := List.length_take_le s.size s.data.toList; simp; omega) ?_; intro v' w' hvH; obtain ⟨g, n, cap, hv, hcv⟩ := formU hvH.out (by simp); subst hv)
      go_ret
      refine ⟨?_, hvH.out.below⟩
      rw [hfull.out]; rfl
end Go.Proofs.YtcencddbdidjjaaGreatDoor

/- impl.quoted. -/
namespace Go.Proofs.YtcencddbdidjjaaGreatDoor
set_option linter.unusedVariables false
open Go.ChangeShapes Go.WideShapes Go.ChangeAt Go.RowKit

/-- At work on bytes, with the text's own bytes in block q. -/
structure WrkV (B : Nat) (w : World) (bs : List UInt8) (s : ByteArray) (q : Nat) (v : Value) (W : World) : Prop where
  wrk : WrkU B w bs v W
  src : ∀ j (h : j < s.size), W.cell? ⟨q, j, none⟩ = some (.int .u8 (s[j]'h).toNat)
  ql : q < W.heap.size
  ne : v.ownBlock ≠ some q
theorem WrkV.drew {B : Nat} {w W : World} {bs : List UInt8} {s : ByteArray} {q : Nat} {v : Value} (h : WrkV B w bs s q v W) : WrkV B w bs s q v W.drew := ⟨h.wrk.drew, h.src, h.ql, h.ne⟩
theorem WrkV.alloc {B : Nat} {w W : World} {bs : List UInt8} {s : ByteArray} {q : Nat} {v : Value} (h : WrkV B w bs s q v W) (o : Obj) : WrkV B w bs s q v (W.alloc o) :=
  ⟨h.wrk.alloc o, fun j hj => by rw [World.cell?_alloc_past _ _ _ (show q < W.heap.size from h.ql)]; exact h.src j hj, by simp; have := h.ql; omega, h.ne⟩
theorem wp_appV {o : Oper} {a : Act} {K : Act → World → Prop} {Q : Exit → Act → World → Prop} (W : World) (sa x : Operand)
    (ho : o.op = .call { callee := .builtin .append, args := #[sa, x], argTypes := #[70, 70] }) (B : Nat) (w : World) (v : Value) (bs p : List UInt8) (s : ByteArray) (q m g : Nat) (hm : m = p.length) (hs : a.eval sa = v) (hx : a.eval x = .slice (some ⟨g, 0, none⟩) m m)
    (hc : ∀ j u, (rowU p)[j]? = some u → W.cell? ⟨g, j, none⟩ = some u) (hw : WrkV B w bs s q v W) (hn : bs.length + p.length ≤ 1073741824)
    (h : ∀ v' w', Hid (WrkV B w (bs ++ p) s q v' w') → K (a.put o.dst v') w') : o.wp Tryz.prog a W K Q := by
  obtain ⟨i0, hi, hz0, hz1, hz2⟩ := byte_info
  subst hm
  obtain ⟨v', w', hr, h2, h3, -, h5⟩ := run_append_own_at (P := Tryz.prog) W B 70 o.type 5 i0 (.int .u8 0) 1 1 Tryz.underlying70 hi hz0 hz1 hz2 rfl (by decide) v bs.length (rowU bs) hw.wrk.bytes ⟨g, 0, none⟩ p.length p.length (rowU p) (by simp [rowU]) (by
      intro j u hj
      rw [show (⟨g, 0, none⟩ : Addr).add j = ⟨g, j, none⟩ by simp [Addr.add]; omega]
      exact hc j u hj) (by
      intro u hu
      simp only [rowU, List.mem_map] at hu
      obtain ⟨b, _, rfl⟩ := hu
      rfl) (by unfold maxLen; omega) (by omega) hw.wrk.le
  unfold Oper.wp execOp
  simp only [ho, resolve, invoke, builtin, Sem.run_bind, Sem.run_pure, Result.andThen_ok, List.map_toArray, List.map_cons, List.map_nil, hs, hx, hr]
  have hb1 : Below B W w' := (Below.refl B W).grown h3 hw.wrk.le (fun j hj => ((hw.wrk.bytes.lt j hj).1))
  have hq := hw.ql
  refine h v' w' ⟨⟨?_, hw.wrk.below.trans hb1, Nat.le_trans hw.wrk.le hb1.size⟩, fun j hj => ?_, by have := hb1.size; omega, ?_⟩
  · rw [List.length_append, rowU_append]; exact h2
  · obtain ⟨_, _, _, _, hk⟩ := h3
    rw [World.cell?_of_block (w := W) (hk q hw.ql (by intro e; exact hw.ne e.symm))]
    exact hw.src j hj
  · rcases h5 with e | e
    · rw [e]; exact hw.ne
    · rw [e]; intro e2; injection e2 with e2; omega
theorem appV {ops : Array Oper} {rest : List Oper} {o : Oper} {a : Act} {Q : Exit → Act → World → Prop} (hgd : o.guard = none) (W : World) (sa x : Operand)
    (ho : o.op = .call { callee := .builtin .append, args := #[sa, x], argTypes := #[70, 70] }) (B : Nat) (w : World) (v : Value) (bs p : List UInt8) (s : ByteArray) (q m g : Nat) (hm : m = p.length) (hs : a.eval sa = v) (hx : a.eval x = .slice (some ⟨g, 0, none⟩) m m)
    (hc : ∀ j u, (rowU p)[j]? = some u → W.cell? ⟨g, j, none⟩ = some u) (hw : WrkV B w bs s q v W) (hn : bs.length + p.length ≤ 1073741824)
    (h : ∀ v' w', Hid (WrkV B w (bs ++ p) s q v' w') → wpList Tryz.prog ops Q rest (a.put o.dst v') w') : wpList Tryz.prog ops Q (o :: rest) a W :=
  wpList_plain hgd fun _ hK => wp_appV W sa x ho B w v bs p s q m g hm hs hx hc hw hn fun v' w' h2 => hK _ _ (h v' w' h2)
theorem below_bytes (W : World) (e : TypeId) (s : ByteArray) : Below W.heap.size W (Lib.bytesWorld W e s) := by
  refine ⟨rfl, rfl, rfl, ?_, fun j hj => ?_⟩
  · rw [Lib.bytesWorld_size]; omega
  · exact Lib.bytesWorld_at_old W e s j hj
theorem startV (w : World) (s : ByteArray) : Hid (WrkV w.heap.size w (quoM (s.data.toList.take 0)) s (w.heap.size + 1) (.slice (some ⟨w.heap.size, 0, none⟩) 1 1) (Lib.bytesWorld (w.alloc (.cells #[.int .u8 34] 5)) 5 s)) := by
  have h := (startU w).out
  have hb := below_bytes (w.alloc (.cells #[.int .u8 34] 5)) 5 s
  have hs : (w.alloc (.cells #[.int .u8 34] 5)).heap.size = w.heap.size + 1 := by simp
  refine ⟨⟨?_, h.below.trans (hb.mono h.le), Nat.le_trans h.le hb.size⟩, fun j hj => ?_, ?_, ?_⟩
  · obtain ⟨h1, ⟨_, h2⟩ | ⟨g, cap, cur, e1, e2, e3, e4⟩⟩ := h.bytes
    · simp [quoM] at h2
    · exact ⟨h1, .inr ⟨g, cap, cur, e1, e2, by rw [hb.block g (Array.getElem?_eq_some_iff.1 e3).1]; exact e3, e4⟩⟩
  · have := Lib.bytesWorld_cell (w.alloc (.cells #[.int .u8 34] 5)) 5 s j hj
    rw [hs] at this
    rw [this, get_toList s j hj, List.getD_eq_getElem?_getD, List.getElem?_eq_getElem (by rw [toList_size]; exact hj)]; rfl
  · rw [Lib.bytesWorld_size, hs]; omega
  · simp [Value.ownBlock]

set_option maxRecDepth 1000000 in
theorem and15F : ∀ n : Fin 256, bits BinOp.and IntKind.u8 (n.1 : Int) 15 = ((n.1 % 16 : Nat) : Int) := by decide
theorem and15 (c : UInt8) : bits BinOp.and IntKind.u8 (c.toNat : Int) 15 = ((c.toNat % 16 : Nat) : Int) := and15F ⟨c.toNat, c.toNat_lt⟩
theorem nib2 (c : UInt8) : (c.toNat : Int) / 16 < 16 ∧ 0 ≤ (c.toNat : Int) / 16 ∧ bits BinOp.and IntKind.u8 (c.toNat : Int) 15 < 16 ∧ 0 ≤ bits BinOp.and IntKind.u8 (c.toNat : Int) 15 := by
  have := c.toNat_lt
  rw [and15]
  omega
theorem hexs (c : UInt8) (h : ((c.toNat : Int) / 16).toNat < (⟨#[48, 49, 50, 51, 52, 53, 54, 55, 56, 57, 97, 98, 99, 100, 101, 102]⟩ : ByteArray).size) : (⟨#[48, 49, 50, 51, 52, 53, 54, 55, 56, 57, 97, 98, 99, 100, 101, 102]⟩ : ByteArray)[((c.toNat : Int) / 16).toNat]'h = hexB (c.toNat / 16) := by
  have := c.toNat_lt
  have e : ((c.toNat : Int) / 16).toNat = c.toNat / 16 := by omega
  rw [← hexX ⟨c.toNat / 16, by omega⟩]
  congr 1
theorem hexa (c : UInt8) (h : (bits BinOp.and IntKind.u8 (c.toNat : Int) 15).toNat < (⟨#[48, 49, 50, 51, 52, 53, 54, 55, 56, 57, 97, 98, 99, 100, 101, 102]⟩ : ByteArray).size) : (⟨#[48, 49, 50, 51, 52, 53, 54, 55, 56, 57, 97, 98, 99, 100, 101, 102]⟩ : ByteArray)[(bits BinOp.and IntKind.u8 (c.toNat : Int) 15).toNat]'h = hexB (c.toNat % 16) := by
  have e : (bits BinOp.and IntKind.u8 (c.toNat : Int) 15).toNat = c.toNat % 16 := by rw [and15]; omega
  rw [← hexX ⟨c.toNat % 16, by omega⟩]
  congr 1
set_option maxRecDepth 1000000 in
set_option maxHeartbeats 4000000 in
theorem quoted_calls (s : ByteArray) (w : World) (hs : s.size ≤ 1048576) : Calls Tryz.prog 75 #[.string s] w fun e w' => e = .returned (.string (mkS (quoL s.data.toList))) ∧ Below w.heap.size w w' := by
  have hlen := toList_size s
  have hcv0 := Lib.run_convert_string_bytes (P := Tryz.prog) (w.alloc (.cells #[.int .u8 34] 5)) 9 70 5 s (u := .string) Tryz.underlying9 Tryz.underlying70 Tryz.underlying5
  have hst := startV w s
  obtain ⟨cp, hcp⟩ : ∃ cp, cp = grownCap (w.alloc (.cells #[.int .u8 34] 5)) s.size 0 5 := ⟨_, rfl⟩
  obtain ⟨W2, hW2⟩ : ∃ W2, W2 = Lib.bytesWorld (w.alloc (.cells #[.int .u8 34] 5)) 5 s := ⟨_, rfl⟩
  rw [← hcp, ← hW2] at hcv0
  rw [← hW2] at hst
  clear hcp hW2
  rw [show (w.alloc (.cells #[.int .u8 34] 5)).heap.size = w.heap.size + 1 by simp] at hcv0
  go_enter Tryz.func75, Tryz.ntmps75
  go_wp2
  go_loopw [3, 10] (fun ov iv wr => ∃ i : Nat, i ≤ s.size ∧ iv = .int .i64 i ∧ Hid (WrkV w.heap.size w (quoM (s.data.toList.take i)) s (w.heap.size + 1) ov wr)) (fun _ iv _ => s.size - (intOf iv).toNat)
  case atStart => exact ⟨0, by omega, rfl, hst⟩
  case round =>
    obtain ⟨i, hi, rfl, hwk⟩ := hrel
    clear hcv0 hst
    by_cases hlt : i < s.size
    · have hi0 : (0 : Int) ≤ i := by omega
      have hi1 : (i : Int) < s.size := by omega
      have hsrc := hwk.out.src i hlt
      obtain ⟨c, hc⟩ : ∃ c, s[i]'hlt = c := ⟨_, rfl⟩
      have hnx : Hid (quoM (s.data.toList.take (i + 1)) = quoM (s.data.toList.take i) ++ quoC c) := by
        show _ = _
        rw [quoM_next (by rw [hlen]; exact hlt), ← get_toList s i hlt, hc]
      rw [hc] at hsrc
      clear hc
      by_cases h1 : (c.toNat : Int) < 32
      · have hesc : Hid (escB c = true) := by
          show _ = _
          unfold escB
          simp
          omega
        obtain ⟨hd1, hd0, hr1, hr0⟩ := nib2 c
        go_wp2_with (at_builtin; fail)
        go_region_law (refine wp_appV _ _ _ rfl w.heap.size w u3 (quoM (s.data.toList.take i)) [92, _, _] s (w.heap.size + 1) 3 _ rfl rfl rfl (cells3 _ 5 92 _ _ _ (by simp)) (by repeat (first | exact hwk.out | refine WrkV.drew ?_ | refine WrkV.alloc ?_ _)) (by have := quoM_len (s.data.toList.take i); have := List.length_take_le i s.data.toList; simp; omega) ?_; intro v' w' hvH)
        all_goals (
          go_wp2
          go_roundw
          case rel =>
            refine ⟨i + 1, by omega, by go_num, ?_⟩
            show WrkV _ _ _ _ _ _ _
            rw [hnx.out, esc_step hesc.out (hexs _ _) (hexa _ _)]
            exact hvH.out
          case measure => simp [intOf]; omega)
      by_cases h2 : (126 : Int) < (c.toNat : Int)
      · have hesc : Hid (escB c = true) := by
          show _ = _
          unfold escB
          simp
          omega
        obtain ⟨hd1, hd0, hr1, hr0⟩ := nib2 c
        go_wp2_with (at_builtin; fail)
        go_region_law (refine wp_appV _ _ _ rfl w.heap.size w u3 (quoM (s.data.toList.take i)) [92, _, _] s (w.heap.size + 1) 3 _ rfl rfl rfl (cells3 _ 5 92 _ _ _ (by simp)) (by repeat (first | exact hwk.out | refine WrkV.drew ?_ | refine WrkV.alloc ?_ _)) (by have := quoM_len (s.data.toList.take i); have := List.length_take_le i s.data.toList; simp; omega) ?_; intro v' w' hvH)
        all_goals (
          go_wp2
          go_roundw
          case rel =>
            refine ⟨i + 1, by omega, by go_num, ?_⟩
            show WrkV _ _ _ _ _ _ _
            rw [hnx.out, esc_step hesc.out (hexs _ _) (hexa _ _)]
            exact hvH.out
          case measure => simp [intOf]; omega)
      by_cases h3 : ((c.toNat : Int) == 34) = true
      · have hesc : Hid (escB c = true) := by
          have e : c.toNat = 34 := by simp only [beq_iff_eq] at h3; omega
          show _ = _
          unfold escB
          simp
          omega
        obtain ⟨hd1, hd0, hr1, hr0⟩ := nib2 c
        go_wp2_with (at_builtin; fail)
        go_region_law (refine wp_appV _ _ _ rfl w.heap.size w u3 (quoM (s.data.toList.take i)) [92, _, _] s (w.heap.size + 1) 3 _ rfl rfl rfl (cells3 _ 5 92 _ _ _ (by simp)) (by repeat (first | exact hwk.out | refine WrkV.drew ?_ | refine WrkV.alloc ?_ _)) (by have := quoM_len (s.data.toList.take i); have := List.length_take_le i s.data.toList; simp; omega) ?_; intro v' w' hvH)
        all_goals (
          go_wp2
          go_roundw
          case rel =>
            refine ⟨i + 1, by omega, by go_num, ?_⟩
            show WrkV _ _ _ _ _ _ _
            rw [hnx.out, esc_step hesc.out (hexs _ _) (hexa _ _)]
            exact hvH.out
          case measure => simp [intOf]; omega)
      by_cases h4 : ((c.toNat : Int) == 92) = true
      · have h3n : ((c.toNat : Int) == 34) = false := by simpa using h3
        have hesc : Hid (escB c = true) := by
          have e : c.toNat = 92 := by simp only [beq_iff_eq] at h4; omega
          show _ = _
          unfold escB
          simp
          omega
        obtain ⟨hd1, hd0, hr1, hr0⟩ := nib2 c
        go_wp2_with (at_builtin; fail)
        go_region_law (refine wp_appV _ _ _ rfl w.heap.size w u3 (quoM (s.data.toList.take i)) [92, _, _] s (w.heap.size + 1) 3 _ rfl rfl rfl (cells3 _ 5 92 _ _ _ (by simp)) (by repeat (first | exact hwk.out | refine WrkV.drew ?_ | refine WrkV.alloc ?_ _)) (by have := quoM_len (s.data.toList.take i); have := List.length_take_le i s.data.toList; simp; omega) ?_; intro v' w' hvH)
        all_goals (
          go_wp2
          go_roundw
          case rel =>
            refine ⟨i + 1, by omega, by go_num, ?_⟩
            show WrkV _ _ _ _ _ _ _
            rw [hnx.out, esc_step hesc.out (hexs _ _) (hexa _ _)]
            exact hvH.out
          case measure => simp [intOf]; omega)
      have hpl : Hid (escB c = false) := by
        have e3 : ¬ c.toNat = 34 := by intro e; rw [e] at h3; exact h3 rfl
        have e4 : ¬ c.toNat = 92 := by intro e; rw [e] at h4; exact h4 rfl
        show _ = _
        unfold escB
        simp
        omega
      have h3n : ((c.toNat : Int) == 34) = false := by simpa using h3
      have h4n : ((c.toNat : Int) == 92) = false := by simpa using h4
      go_wp2_with (at_builtin; refine appV rfl _ _ _ rfl w.heap.size w u3 (quoM (s.data.toList.take i)) [c] s (w.heap.size + 1) 1 _ rfl rfl rfl (cells1 _ 5 _ _ (by simp)) (by repeat (first | exact hwk.out | refine WrkV.drew ?_ | refine WrkV.alloc ?_ _)) (by have := quoM_len (s.data.toList.take i); have := List.length_take_le i s.data.toList; simp; omega) ?_; intro v' w' hvH)
      go_roundw
      case rel =>
        refine ⟨i + 1, by omega, by go_num, ?_⟩
        show WrkV _ _ _ _ _ _ _
        rw [hnx.out, plain_step hpl.out]
        exact hvH.out
      case measure => simp [intOf]; omega
    · have hie : i = s.size := by omega
      subst hie
      have hfull : Hid (quoM (s.data.toList.take s.size) = quoM s.data.toList) := by
        show _ = _
        rw [← hlen, List.take_length]
      go_wp2_with (at_builtin; refine appV rfl _ _ _ rfl w.heap.size w u3 (quoM (s.data.toList.take s.size)) [34] s (w.heap.size + 1) 1 _ rfl rfl rfl (cells1 _ 5 34 _ (by simp)) (by repeat (first | exact hwk.out | refine WrkV.drew ?_ | refine WrkV.alloc ?_ _)) (by have := quoM_len (s.data.toList.take s.size); have := List.length_take_le s.size s.data.toList; simp; omega) ?_; intro v' w' hvH; obtain ⟨g, n, cap, hv, hcv⟩ := formU hvH.out.wrk (by simp); subst hv)
      go_ret
      refine ⟨?_, hvH.out.wrk.below⟩
      rw [hfull.out]; rfl
end Go.Proofs.YtcencddbdidjjaaGreatDoor
