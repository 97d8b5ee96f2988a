import Derived.Test.YtjjccimeikkogaaGreatDoorLkE
namespace Go.Proofs.YtjjccimeikkogaaGreatDoor
set_option linter.unusedVariables false
open Go.ChangeShapes Go.WideShapes Go.ChangeAt Go.RowKit
def namesD (all : List ClassL) : List (List UInt8) := all.map fun c => c.name.data.toList
theorem named_iff (all : List ClassL) : Named all ↔ (namesD all).Nodup := by
 unfold Named namesD
 rw [show (fun c : ClassL => c.name.toList) = fun c => c.name.data.toList from funext fun c => ByteArray.toList_eq _]
theorem bootD : namesD bootC = bootNames.map fun s => s.data.toList := by decide +kernel
theorem boot_nd : (bootNames.map fun s => s.data.toList).Nodup := by decide +kernel
theorem boot_oks : bootC.all (fun x => nameOk x.name.data.toList && decide (x.name.size ≤ 1048576) && decide (x.ifs.length ≤ 1048576) && (parL x).all (fun s => decide (s.size ≤ 1048576))) = true := by decide +kernel
theorem allOk_boot : AllOk bootC := by
 refine ⟨?_, by decide, fun x hx => ?_, fun x hx => ?_, fun x hx => ?_, fun x hx => ?_⟩
 ·rw [named_iff, bootD]; exact boot_nd
 all_goals
  have := List.all_eq_true.1 boot_oks x hx
  simp only [Bool.and_eq_true, decide_eq_true_eq] at this
 ·exact this.1.2
 ·exact this.1.1.2
 ·exact this.1.1.1
 ·exact fun s hs => of_decide_eq_true (List.all_eq_true.1 this.2 s hs)
theorem allOk_of {xs : List ClassL} (hs : ∀ x ∈ xs, x.small) (hw : ∀ x ∈ xs, x.wide) (h : spaceS xs = true) : AllOk (bootC ++ xs) := by
 rw [space_same xs hw] at h
 unfold spaceI at h
 simp only [Bool.and_eq_true, decide_eq_true_eq] at h
 obtain ⟨h1, h2, h3⟩ := h
 have hown : ∀ x ∈ xs, classI x = true ∧ isBootB x.name = false := fun x hx => by
  have := List.all_eq_true.1 h2 x hx
  unfold ownB at this
  simpa using this
 refine ⟨?_, ?_, fun x hx => ?_, fun x hx => ?_, fun x hx => ?_, fun x hx => ?_⟩
 ·rw [named_iff]
  unfold namesD
  rw [List.map_append, List.nodup_append]
  refine ⟨?_, h3, fun a ha b hb e => ?_⟩
  ·have := boot_nd
   rw [← bootD] at this
   exact this
  ·obtain ⟨x, hx, rfl⟩ := List.mem_map.1 hb
   have hm : a ∈ namesD bootC := ha
   rw [bootD] at hm
   obtain ⟨y, hy, rfl⟩ := List.mem_map.1 hm
   have hb2 := (hown x hx).2
   rw [← boot_any] at hb2
   have := List.any_eq_false.1 hb2 y hy
   rw [ByteArray.toList_eq, ByteArray.toList_eq] at this
   exact this (by simpa using e)
 ·rw [List.length_append, bootC_len]; omega
 ·rcases List.mem_append.1 hx with hx | hx
  ·exact allOk_boot.ifs x hx
  ·exact (hs x hx).2.2.1.1
 ·rcases List.mem_append.1 hx with hx | hx
  ·exact allOk_boot.nsz x hx
  ·exact (hs x hx).1
 ·rcases List.mem_append.1 hx with hx | hx
  ·exact allOk_boot.nok x hx
  ·have := (hown x hx).1
   unfold classI at this
   simp only [Bool.and_eq_true] at this
   exact this.1
 ·rcases List.mem_append.1 hx with hx | hx
  ·exact allOk_boot.psz x hx
  ·intro s hsm
   rcases List.mem_cons.1 hsm with rfl | hsm
   ·exact (hs x hx).2.1
   ·exact (hs x hx).2.2.1.2 s hsm
theorem allOk_all {xs : List ClassL} (hs : ∀ x ∈ xs, x.small) (hw : ∀ x ∈ xs, x.wide) : AllOk (allL xs) := by
 unfold allL
 split
 ·rename_i h; exact allOk_of hs hw h
 ·exact allOk_boot
set_option maxRecDepth 1000000 in
set_option maxHeartbeats 4000000 in
theorem spaceOf_calls (v : Value) (xs : List ClassL) (w : World) (lo hi : Nat) (hh : hi ≤ w.heap.size) (ht : ListAt ClassR 7 true lo hi w v xs) (hn : xs.length ≤ 1048576) (hs : ∀ x ∈ xs, x.small) (hw : ∀ x ∈ xs, x.wide) (he : EnvOk w) (hbe : BootEnv w) :
  Calls Tryz.prog 28 #[v] w fun e w' => (∃ b0 P av ov M J R rc D, w.heap.size ≤ b0 ∧ e = .returned (.pointer (some ⟨P, 0, none⟩)) ∧ SpcAt w' b0 P (allL xs) av ov M J R rc D) ∧ Below w.heap.size w w' := by
 have hsp := implSpace_calls v xs w lo hi hh ht hn hs hw he hbe
 rw [← space_same xs hw] at hsp
 obtain ⟨a, c, rfl⟩ := ht.form
 have hspH : Hid (Calls Tryz.prog 50 #[.slice a xs.length c] w fun e w' => e = .returned (.bool (spaceS xs)) ∧ Below w.heap.size w w') := hsp
 have hbH : Hid (BootEnv w) := hbe
 have hlH : Hid (LstK ClsK 7 w.heap.size w (.slice a xs.length c) xs) := allAt_own ht hh
 have hokT : spaceS xs = true → AllOk (bootC ++ xs) := allOk_of hs hw
 have hok2 : Hid (spaceS xs = true → AllOk (bootC ++ xs)) := hokT
 obtain ⟨L, hL⟩ : ∃ L, allL xs = L := ⟨_, rfl⟩
 rw [hL]
 have hLH : Hid (allL xs = L) := hL
 generalize hnn : xs.length = n at *
 clear hsp ht hs hw he hbe hokT hL hn
 cases hb : spaceS xs with
 | false =>
  rw [hb] at hspH
  go_enter Tryz.func28, Tryz.ntmps28
  go_wp2_with fail
  refine hspH.out.mono ?_
  rintro e w1 ⟨rfl, hb1⟩
  have hb1H : Hid (Below w.heap.size w w1) := hb1
  clear hb1
  go_wp2_with fail
  refine (newSpace_calls none 0 0 [] w1 (.inl ⟨rfl, rfl⟩) (hbH.out.kept hb1H.out) (by rw [List.append_nil]; exact allOk_boot)).mono ?_
  rintro e w2 ⟨⟨P, av, ov, M, J, R, rc, D, rfl, hS⟩, hb2⟩
  have e1 : bootC ++ [] = L := by rw [← hLH.out]; unfold allL; rw [hb]; simp
  rw [e1] at hS
  have hSH : Hid (SpcAt w2 w1.heap.size P L av ov M J R rc D ∧ Below w.heap.size w w2 ∧ w.heap.size ≤ w1.heap.size) := ⟨hS, below_on2 hb1H.out hb2, hb1H.out.size⟩
  clear hS hb2 e1
  go_wp2
  go_ret
  exact ⟨⟨w1.heap.size, P, av, ov, M, J, R, rc, D, hSH.out.2.2, rfl, hSH.out.1⟩, hSH.out.2.1⟩
 | true =>
  rw [hb] at hspH
  go_enter Tryz.func28, Tryz.ntmps28
  go_wp2_with fail
  refine hspH.out.mono ?_
  rintro e w1 ⟨rfl, hb1⟩
  have hb1H : Hid (Below w.heap.size w w1) := hb1
  clear hb1
  go_wp2_with fail
  refine (newSpace_calls a n c xs w1 (AllAt.on hlH.out (Nat.le_refl _) hb1H.out) (hbH.out.kept hb1H.out) (hok2.out hb)).mono ?_
  rintro e w2 ⟨⟨P, av, ov, M, J, R, rc, D, rfl, hS⟩, hb2⟩
  have e1 : bootC ++ xs = L := by rw [← hLH.out]; unfold allL; rw [hb]; rfl
  rw [e1] at hS
  have hSH : Hid (SpcAt w2 w1.heap.size P L av ov M J R rc D ∧ Below w.heap.size w w2 ∧ w.heap.size ≤ w1.heap.size) := ⟨hS, below_on2 hb1H.out hb2, hb1H.out.size⟩
  clear hS hb2 e1
  go_wp2
  go_ret
  exact ⟨⟨w1.heap.size, P, av, ov, M, J, R, rc, D, hSH.out.2.2, rfl, hSH.out.1⟩, hSH.out.2.1⟩
end Go.Proofs.YtjjccimeikkogaaGreatDoor
