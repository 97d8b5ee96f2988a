/- The program's marker: its queue, and shading. -/
import Derived.Test.YtchcdlelaklnnaaKsM
namespace Go.Proofs.Ytchcdlelaklnnaa
set_option linter.unusedVariables false
open Go.ChangeShapes Go.WideShapes Go.ChangeAt Go.RowKit

set_option maxRecDepth 100000 in
set_option maxHeartbeats 1000000 in
theorem put_calls (w : World) (F : Nat → Prop) (M : Nat) (s : StM) (ps fs : List Nat) (ov tv : Value) (z : Int) (pp : Nat) (h : ImW w F M s ps fs ov tv) (hrl : s.row.length ≤ 400) (hpp : pp = ps.getD (z.toNat - 1) 0) :
    Calls Try.prog 88 #[.pointer (some ⟨M, 11, none⟩), .pointer (some ⟨pp, 0, none⟩)] w fun e w' => e = .returned (.tuple #[]) ∧ (∃ tv', ImW w' F M { s with row := s.row ++ [z] } ps fs ov tv') ∧ Keep F w w' := by
  have hH : Hid (ImW w F M s ps fs ov tv) := h
  have hppH : Hid (pp = ps.getD (z.toNat - 1) 0) := hpp
  have k11 : w.cell? ⟨M, 11, none⟩ = some tv := h.mode.2.2.2.1
  obtain ⟨i8, hi8, hz8, hs8, hb8⟩ := ptr_info
  obtain ⟨ta, tc, rfl⟩ := h.ro.form
  have hQ : Hid (QAt (w.alloc (.cells #[.pointer (some ⟨pp, 0, none⟩)] 62)) 62 (.slice ta (rowP ps s.row).length tc) (rowP ps s.row)) := h.ro.kept fun k q => Below.heap_alloc _ _ _ (h.ltT q).1
  have hxc : Hid ((w.alloc (.cells #[.pointer (some ⟨pp, 0, none⟩)] 62)).cell? ⟨w.heap.size, 0, none⟩ = some (.pointer (some ⟨pp, 0, none⟩))) := cell_of (heap_alloc_new _ _) rfl
  have hlen : (rowP ps s.row).length ≤ 1000000000000 := by simp [rowP]; omega
  clear h hpp hrl
  go_enter Try.func88, Try.ntmps88
  go_wp2_with (refine wpList_append_q rfl (.tmp 8) (.tmp 10) 59 rfl 62 i8 (.pointer none) Try.underlying59 hi8 hz8 hs8 rfl hb8 _ (rowP ps s.row) rfl hQ.out (rowP_one _ _) w.heap.size 1 (.pointer (some ⟨pp, 0, none⟩)) rfl hxc.out rfl hlen (fun tv' w2 hq2 hg2 ha2 hn2 => ?_); rw [hppH.out] at hq2 hg2; obtain ⟨pa, pb, pc, pd⟩ := hH.out.push hg2 hq2 (by rw [hppH.out] at ha2; exact ha2); have hf : ∃ a c, tv' = .slice a ((rowP ps s.row).length + 1) c := (by obtain ⟨a, c, e⟩ := hq2.form; exact ⟨a, c, by rw [e, List.length_append, List.length_singleton]⟩); have hpa : Hid _ := pa; have hpb : Hid _ := pb; obtain ⟨ta', tc', rfl⟩ := hf; clear pa pb hq2 hg2 ha2 hn2)
  first | (refine bodyPost_ret (results_none rfl _ _ _) rfl ?_) | go_end0
  exact ⟨rfl, ⟨_, hpa.out⟩, hpb.out⟩
set_option maxRecDepth 100000 in
set_option maxHeartbeats 1000000 in
theorem length_calls (w : World) (F : Nat → Prop) (M : Nat) (s : StM) (ps fs : List Nat) (ov tv : Value) (h : ImW w F M s ps fs ov tv) (hrl : s.row.length ≤ 400) :
    Calls Try.prog 29 #[.pointer (some ⟨M, 11, none⟩)] w fun e w' => e = .returned (.int .i64 s.row.length) ∧ w' = w := by
  have k11 : w.cell? ⟨M, 11, none⟩ = some tv := h.mode.2.2.2.1
  obtain ⟨ta, tc, rfl⟩ := h.ro.form
  have hl : (rowP ps s.row).length = s.row.length := by simp [rowP]
  rw [hl] at k11
  clear h hl
  go_enter Try.func29, Try.ntmps29
  go_wp2
  go_ret
  exact ⟨rfl, rfl⟩
set_option maxRecDepth 100000 in
set_option maxHeartbeats 1000000 in
theorem take_calls (w : World) (F : Nat → Prop) (M : Nat) (s : StM) (ps fs : List Nat) (ov tv : Value) (z : Int) (r : List Int) (h : ImW w F M s ps fs ov tv) (hr : s.row = z :: r) (hrl : s.row.length ≤ 400) :
    Calls Try.prog 74 #[.pointer (some ⟨M, 11, none⟩)] w fun e w' => e = .returned (.pointer (some ⟨ps.getD (z.toNat - 1) 0, 0, none⟩)) ∧ (∃ tv', ImW w' F M { s with row := r } ps fs ov tv') ∧ Keep F w w' := by
  have hH : Hid (ImW w F M s ps fs ov tv) := h
  have k11 : w.cell? ⟨M, 11, none⟩ = some tv := h.mode.2.2.2.1
  have kf : w.frozen? ⟨M, 11, none⟩ = false := h.mode.2.2.2.2.2 11
  have hq := h.ro
  rw [show rowP ps s.row = .pointer (some ⟨ps.getD (z.toNat - 1) 0, 0, none⟩) :: rowP ps r by rw [hr]; rfl] at hq
  rcases hq with ⟨_, q⟩ | ⟨b, o, c, rfl, hT⟩
  · simp at q
  rw [hr] at hrl
  simp only [List.length_cons] at hrl k11
  have hcap := hT.cap
  simp only [List.length_cons] at hcap
  have hl : (rowP ps r).length = r.length := by simp [rowP]
  rw [hl] at hcap k11
  have hcap1 : (r.length : Int) + 1 ≤ c := by omega
  have hc1 : (1 : Int) ≤ c := by omega
  have hr1 : (1 : Int) ≤ (r.length : Int) + 1 := by omega
  have hrl' : (r.length : Int) + 1 ≤ 400 := by omega
  have k0 : w.cell? ⟨b, o, none⟩ = some (.pointer (some ⟨ps.getD (z.toNat - 1) 0, 0, none⟩)) := by simpa using hT.cells 0 (by simp)
  have hT1 : Hid (TodoV w 62 b (o + 1) (c - 1) (rowP ps r)) := hT.tail
  have hT0 : Hid (c = 1 → TodoV w 62 b o 0 (rowP ps r)) := fun e => by
    have : r = [] := List.eq_nil_of_length_eq_zero (by omega)
    subst this
    exact hT.none o
  have hlH : Hid ((rowP ps r).length = r.length) := hl
  clear h hT hr hl hcap
  obtain ⟨pp, hpp⟩ : ∃ pp, pp = ps.getD (z.toNat - 1) 0 := ⟨_, rfl⟩
  have hppH : Hid (pp = ps.getD (z.toNat - 1) 0) := hpp
  rw [← hpp] at k0 ⊢
  clear hpp
  go_enter Try.func74, Try.ntmps74
  go_wp2
  all_goals go_ret
  · have p := hH.out.pop (r := r) (tv' := .slice (some ⟨b, o, none⟩) r.length 0) (.inr ⟨b, o, 0, by rw [hlH.out], by first | exact hT0.out rfl | exact hT0.out (by assumption)⟩) (fun k q => q)
    exact ⟨rfl, ⟨_, p.1⟩, p.2⟩
  · have p := hH.out.pop (r := r) (tv' := .slice (some ⟨b, o + 1, none⟩) r.length (c - 1)) (.inr ⟨b, o + 1, c - 1, by rw [hlH.out], hT1.out⟩) (fun k q => q)
    exact ⟨rfl, ⟨_, p.1⟩, p.2⟩
theorem ImW.tab {w : World} {F : Nat → Prop} {M : Nat} {s : StM} {ps fs : List Nat} {ov tv : Value} (h : ImW w F M s ps fs ov tv) : ∃ g c, ov = .slice (some ⟨g, 0, none⟩) (s.obs.length + 1) c ∧ ∀ z : Int, 0 ≤ z → z ≤ (s.obs.length : Int) → w.cell? ⟨g, z.toNat, none⟩ = some (match getM s.obs z with | some _ => .pointer (some ⟨ps.getD (z.toNat - 1) 0, 0, none⟩) | none => .pointer none) := by
  obtain ⟨g, c, e⟩ := own_some h.ow (by omega)
  refine ⟨g, c, e, fun z h0 hl => ?_⟩
  subst e
  have hlt : z.toNat < (tabP ps s.obs).length := by rw [tabP_length]; omega
  rw [World.ownsRow.cellAt h.ow z.toNat (by omega)]
  cases hg : getM s.obs z with
  | none => simpa using tabP_none (ps := ps) hg h0 hl
  | some o => simpa using tabP_some (ps := ps) hg
set_option maxRecDepth 100000 in
set_option maxHeartbeats 1000000 in
theorem shadeM_calls (w : World) (F : Nat → Prop) (M : Nat) (s : StM) (ps fs : List Nat) (ov tv : Value) (zs : List Int) (sa : Option Addr) (sc : Nat) (h : ImW w F M s ps fs ov tv) (hl : s.obs.length ≤ 400) (hrng : ∀ z ∈ zs, 0 ≤ z ∧ z ≤ (s.obs.length : Int)) (hzl : zs.length ≤ 400) (hrow : ∀ m, (s.shades (zs.take m)).row.length ≤ 400)
    (hsrc : ∀ (W : World) (tv' : Value) (m : Nat), ImW W F M (s.shades (zs.take m)) ps fs ov tv' → Keep F w W → ∀ j (hj : j < zs.length), ∃ g o, sa = some ⟨g, o, none⟩ ∧ W.cell? ⟨g, o + j, none⟩ = some (.int .i64 zs[j])) :
    Calls Try.prog 72 #[.pointer (some ⟨M, 0, none⟩), .slice sa zs.length sc] w fun e w' => e = .returned (.tuple #[]) ∧ (∃ tv', ImW w' F M (s.shades zs) ps fs ov tv') ∧ Keep F w w' := by
  have hH : Hid (ImW w F M s ps fs ov tv) := h
  have hrngH : Hid (∀ z ∈ zs, 0 ≤ z ∧ z ≤ (s.obs.length : Int)) := hrng
  have hrowH : Hid (∀ m, (s.shades (zs.take m)).row.length ≤ 400) := hrow
  have hsrcH : Hid (∀ (W : World) (tv' : Value) (m : Nat), ImW W F M (s.shades (zs.take m)) ps fs ov tv' → Keep F w W → ∀ j (hj : j < zs.length), ∃ g o, sa = some ⟨g, o, none⟩ ∧ W.cell? ⟨g, o + j, none⟩ = some (.int .i64 zs[j])) := hsrc
  obtain ⟨tg, tc0, hov, _⟩ := h.tab
  subst hov
  clear h hrng hrow hsrc
  have hzl' : (zs.length : Int) ≤ 400 := by omega
  go_enter Try.func72, Try.ntmps72
  go_wp2
  go_loopw [9] (fun i wr => ∃ (m : Nat) (tv : Value), m ≤ zs.length ∧ i = .int .i64 m ∧ Hid (ImW wr F M (s.shades (zs.take m)) ps fs (.slice (some ⟨tg, 0, none⟩) (s.obs.length + 1) tc0) tv) ∧ Hid (Keep F w wr)) (fun i _ => zs.length - (intOf i).toNat)
  case atStart => exact ⟨0, tv, Nat.zero_le _, rfl, by simpa [shades_nil] using hH, Keep.refl _ _⟩
  case round =>
    obtain ⟨m, tv, hm, rfl, hS, hB⟩ := hrel
    have hm0 : (0 : Int) ≤ m := by omega
    by_cases hlt : m < zs.length
    · have hlt' : (m : Int) < (zs.length : Int) := by omega
      obtain ⟨sg, so, rfl, ks⟩ := hsrcH.out wr tv m hS.out hB.out m hlt
      have hfr := shades_frame s (zs.take m)
      have hzr := hrngH.out _ (List.getElem_mem hlt)
      have hsh : Hid ((s.shades (zs.take m)).shade zs[m] = s.shades (zs.take (m + 1))) := by show _ = _; rw [take_snoc hlt, shades_snoc]
      obtain ⟨z, hz⟩ : ∃ z, z = zs[m] := ⟨_, rfl⟩
      rw [← hz] at ks hzr hsh
      clear hz
      obtain ⟨zn, rfl⟩ : ∃ zn : Nat, z = zn := ⟨z.toNat, by omega⟩
      have hzn : (zn : Int) < (s.obs.length : Int) + 1 := by omega
      have k1 : wr.cell? ⟨M, 1, none⟩ = some (.slice (some ⟨tg, 0, none⟩) (s.obs.length + 1) tc0) := hS.out.mode.2.1
      obtain ⟨tg', tc', e, htab⟩ := hS.out.tab
      rw [hfr.2.2.2] at e htab
      injection e with e1 e2 e3
      injection e1 with e1
      injection e1 with e1
      subst e1
      have kt := htab zn hzr.1 hzr.2
      rw [Int.toNat_natCast] at kt
      clear htab e2 e3
      cases hg : getM (s.shades (zs.take m)).obs zn with
      | none =>
        rw [hg] at kt
        have hsame : Hid (s.shades (zs.take (m + 1)) = s.shades (zs.take m)) := by
          show _ = _
          rw [← hsh.out]
          exact shade_none fun o ho => by rw [hg] at ho; cases ho
        have hnx : Hid (ImW wr F M (s.shades (zs.take (m + 1))) ps fs (.slice (some ⟨tg, 0, none⟩) (s.obs.length + 1) tc0) tv) := by rw [hsame.out]; exact hS
        clear hS hg hfr hsh hsame
        go_wp2
        go_roundw
        case rel => exact ⟨m + 1, tv, by omega, by go_num, hnx, hB⟩
        case measure => simp [intOf]; omega
      | some o =>
        rw [hg] at kt
        have hob := hS.out.ob.get hg
        rw [Int.toNat_natCast] at hob
        have kc : wr.cell? ⟨ps.getD (zn - 1) 0, 2, none⟩ = some (.int .i64 o.col) := cell_of hob.blk rfl
        have kcf : wr.frozen? ⟨ps.getD (zn - 1) 0, 2, none⟩ = false := free_of hob.blk
        by_cases hc : o.col = 1
        · have hcol := hS.out.colour hg 2
          rw [Int.toNat_natCast] at hcol
          have hpush : Hid ({ ({ (s.shades (zs.take m)) with obs := setCol (s.shades (zs.take m)).obs zn 2 } : StM) with row := (s.shades (zs.take m)).row ++ [(zn : Int)] } = s.shades (zs.take (m + 1))) := by
            show _ = _
            rw [← hsh.out, shade_some hg hc]
          have hputc : Hid (Calls Try.prog 88 #[.pointer (some ⟨M, 11, none⟩), .pointer (some ⟨ps.getD (zn - 1) 0, 0, none⟩)] (wr.setCell ⟨ps.getD (zn - 1) 0, 2, none⟩ (.int .i64 2)) fun e w' => e = .returned (.tuple #[]) ∧ (∃ tv', ImW w' F M (s.shades (zs.take (m + 1))) ps fs (.slice (some ⟨tg, 0, none⟩) (s.obs.length + 1) tc0) tv') ∧ Keep F (wr.setCell ⟨ps.getD (zn - 1) 0, 2, none⟩ (.int .i64 2)) w') := by
            have := put_calls _ F M _ ps fs _ tv zn (ps.getD (zn - 1) 0) hcol.1 (hrowH.out m) (by rw [Int.toNat_natCast])
            rw [hpush.out] at this
            exact this
          have hB2 : Hid (Keep F w (wr.setCell ⟨ps.getD (zn - 1) 0, 2, none⟩ (.int .i64 2))) := hB.out.trans hcol.2
          rw [hc] at kc
          generalize ps.getD (zn - 1) 0 = pp at kt kc kcf hputc hB2
          clear hS hB hg hfr hsh hob hcol hpush hc
          go_wp2_with (go_at_call 88; refine (show Calls _ _ _ _ _ from hputc.out).mono ?_; rintro e w1 ⟨rfl, ⟨tv1, hS1⟩, hB1⟩; have hS1H : Hid _ := hS1; have hB3 : Hid _ := hB2.out.trans hB1; clear hS1 hB1)
          go_roundw
          case rel => exact ⟨m + 1, tv1, by omega, by go_num, hS1H, hB3⟩
          case measure => simp [intOf]; omega
        · have hsame : Hid (s.shades (zs.take (m + 1)) = s.shades (zs.take m)) := by
            show _ = _
            rw [← hsh.out]
            exact shade_none fun o' ho => by rw [hg] at ho; injection ho with ho; subst ho; exact hc
          have hnx : Hid (ImW wr F M (s.shades (zs.take (m + 1))) ps fs (.slice (some ⟨tg, 0, none⟩) (s.obs.length + 1) tc0) tv) := by rw [hsame.out]; exact hS
          generalize ps.getD (zn - 1) 0 = pp at kt kc kcf
          clear hS hg hfr hsh hsame hob
          go_wp2
          go_roundw
          case rel => exact ⟨m + 1, tv, by omega, by go_num, hnx, hB⟩
          case measure => simp [intOf]; omega
    · have hge : ¬ ((m : Int) < (zs.length : Int)) := by omega
      have hfin : Hid (ImW wr F M (s.shades zs) ps fs (.slice (some ⟨tg, 0, none⟩) (s.obs.length + 1) tc0) tv) := by
        have h1 := hS.out
        rw [List.take_of_length_le (by omega)] at h1
        exact h1
      clear hS
      go_wp2
      first | (refine bodyPost_ret (results_none rfl _ _ _) rfl ?_) | go_end0
      exact ⟨rfl, ⟨_, hfin.out⟩, hB.out⟩
end Go.Proofs.Ytchcdlelaklnnaa
