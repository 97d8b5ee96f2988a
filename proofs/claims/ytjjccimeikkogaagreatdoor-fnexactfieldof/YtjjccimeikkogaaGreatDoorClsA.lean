import Derived.Maps.OwnSet
import Derived.Test.YtjjccimeikkogaaGreatDoorMethA
import Derived.DeepKeys4
import Derived.DeepKeys3
set_option maxRecDepth 1000000
set_option maxHeartbeats 4000000
namespace Go.Proofs.YtjjccimeikkogaaGreatDoor
set_option linter.unusedVariables false
open Go.Maps Go.WideShapes
theorem addKey_len (acc : List Lit) (x : Lit) : (addKey acc x).length = if acc.any (fun y => y.sameKey x) then acc.length else acc.length + 1 := by
 unfold addKey
 split <;> simp_all
theorem fold_addKey_le : ∀ (xs acc : List Lit), acc.length ≤ (xs.foldl addKey acc).length ∧ (xs.foldl addKey acc).length ≤ acc.length + xs.length
 | [], acc => by simp
 | x :: r, acc => by
  have h := fold_addKey_le r (addKey acc x)
  have hl := addKey_len acc x
  simp only [List.foldl_cons, List.length_cons]
  split at hl <;> omega
theorem any_same (acc : List Lit) (x : Lit) (hx : WideAt.IsKeyLit x) : acc.any (fun y => y.sameKey x) = true ↔ x ∈ acc := by
 rw [List.any_eq_true]
 constructor
 ·rintro ⟨y, hy, h⟩
  rw [← WideAt.sameKey_eq h]; exact hy
 ·intro h
  exact ⟨x, h, WideAt.sameKey_self hx⟩
theorem fold_addKey_nodup : ∀ (xs acc : List Lit), (∀ x ∈ xs, WideAt.IsKeyLit x) → ((xs.foldl addKey acc).length = acc.length + xs.length ↔ (xs.Nodup ∧ ∀ x ∈ xs, x ∉ acc))
 | [], acc, _ => by simp
 | x :: r, acc, hk => by
  have hx := hk x (by simp)
  have ih := fold_addKey_nodup r (addKey acc x) (fun y hy => hk y (by simp [hy]))
  have hle := fold_addKey_le r (addKey acc x)
  have hl := addKey_len acc x
  have ha := any_same acc x hx
  simp only [List.foldl_cons, List.length_cons, List.nodup_cons, List.mem_cons, forall_eq_or_imp]
  by_cases hm : x ∈ acc
  ·rw [if_pos (ha.2 hm)] at hl
   constructor
   ·intro h; omega
   ·intro h; exact absurd hm h.2.1
  ·have hf : ¬ (acc.any (fun y => y.sameKey x) = true) := fun h => hm (ha.1 h)
   rw [if_neg hf] at hl
   have hadd : addKey acc x = acc ++ [x] := by unfold addKey; rw [if_neg hf]
   rw [hadd] at ih hl hle ⊢
   have e : (r.foldl addKey (acc ++ [x])).length = acc.length + (r.length + 1) ↔ (r.foldl addKey (acc ++ [x])).length = (acc ++ [x]).length + r.length := by
    rw [hl]; omega
   rw [e, ih]
   simp only [List.mem_append, List.mem_singleton, not_or]
   constructor
   ·rintro ⟨h1, h2⟩
    exact ⟨⟨fun h => (h2 x h).2 rfl, h1⟩, hm, fun y hy => (h2 y hy).1⟩
   ·rintro ⟨⟨h1, h2⟩, _, h3⟩
    exact ⟨h2, fun y hy => ⟨h3 y hy, fun e => h1 (e ▸ hy)⟩⟩
theorem size_nodup {H : Type} (u : DataW H) (xs : List Lit) (h : ∀ x ∈ xs, WideAt.IsKeyLit x) : size (setOf u xs) = xs.length ↔ xs.Nodup := by
 have e := fold_addKey_nodup xs [] h
 rw [size_setOf u xs h]
 simpa using e
theorem nodup_map {α : Type} {f : α → Lit} (hf : ∀ a b, f a = f b → a = b) : ∀ xs : List α, (xs.map f).Nodup ↔ xs.Nodup
 | [] => by simp
 | x :: r => by
  simp only [List.map_cons, List.nodup_cons, nodup_map hf r, List.mem_map, not_exists, not_and]
  constructor
  ·rintro ⟨h1, h2⟩; exact ⟨fun h => h1 x h rfl, h2⟩
  ·rintro ⟨h1, h2⟩; exact ⟨fun y hy e => h1 (hf _ _ e ▸ hy), h2⟩
open Go.ChangeShapes Go.WideShapes Go.ChangeAt Go.RowKit
structure FieldL where
 name : ByteArray
 ty : ByteArray
 flags : Int
structure ClassL where
 name : ByteArray
 super : ByteArray
 ifs : List ByteArray
 flags : Int
 perms : List ByteArray
 fields : List FieldL
 meths : List MethL
def FieldR : Rd FieldL := fun own lo hi w row x => row = [.string x.name, .string x.ty, .int .i64 x.flags]
theorem FieldR.stable : Stable FieldR := fun _ _ _ _ _ _ _ _ _ h _ _ _ => h
def CapB (v : Value) : Prop := ∀ a n c, v = .slice a n c → n ≤ c
def StrsAt (own : Bool) (lo hi : Nat) (w : World) (v : Value) (xs : List ByteArray) : Prop := ListAt StrR 1 own lo hi w v xs ∧ (own = true → CapB v)
theorem StrsAt.kept {own : Bool} {lo hi lo' hi' : Nat} {w w' : World} {v : Value} {xs : List ByteArray} (h : StrsAt own lo hi w v xs) (hR : Stable StrR) (h1 : lo' ≤ lo) (h2 : hi ≤ hi') (hs : Same lo hi w w') : StrsAt own lo' hi' w' v xs := ⟨h.1.kept hR h1 h2 hs, h.2⟩
theorem StrsAt.form {own : Bool} {lo hi : Nat} {w : World} {v : Value} {xs : List ByteArray} (h : StrsAt own lo hi w v xs) : ∃ a c, v = .slice a xs.length c := h.1.form
def ClassR : Rd ClassL := fun own lo hi w row x => ∃ p q s t, row = [.string x.name, .string x.super, p, .int .i64 x.flags, q, s, t] ∧ StrsAt own lo hi w p x.ifs ∧ StrsAt own lo hi w q x.perms ∧ ListAt FieldR 3 own lo hi w s x.fields ∧ ListAt MethR 9 own lo hi w t x.meths
theorem ClassR.stable : Stable ClassR := fun _ _ _ _ _ _ _ _ _ ⟨p, q, s, t, hv, hx, hy, hz, hl⟩ h1 h2 hs => ⟨p, q, s, t, hv, hx.kept StrR.stable h1 h2 hs, hy.kept StrR.stable h1 h2 hs, hz.kept FieldR.stable h1 h2 hs, hl.kept MethR.stable h1 h2 hs⟩
def FieldL.small (x : FieldL) : Prop := x.name.size ≤ 1048576 ∧ x.ty.size ≤ 1048576
def ClassL.small (x : ClassL) : Prop := x.name.size ≤ 1048576 ∧ x.super.size ≤ 1048576 ∧ (x.ifs.length ≤ 1048576 ∧ ∀ s ∈ x.ifs, s.size ≤ 1048576) ∧ (x.perms.length ≤ 1048576 ∧ ∀ s ∈ x.perms, s.size ≤ 1048576) ∧ (x.fields.length ≤ 1048576 ∧ ∀ y ∈ x.fields, y.small) ∧ (x.meths.length ≤ 1048576 ∧ ∀ y ∈ x.meths, y.small)
theorem elemT116 : ∃ i z, Tryz.prog.info? 36 = some i ∧ i.zero = some z ∧ i.size = 3 ∧ i.bytes = 40 := by
 obtain ⟨i0, hi0⟩ : ∃ i, Tryz.prog.info? 36 = some i := Option.isSome_iff_exists.1 (by kernel_rfl)
 obtain ⟨z, hz⟩ : ∃ z, (Tryz.prog.info? 36).bind (·.zero) = some z := Option.isSome_iff_exists.1 (by kernel_rfl)
 refine ⟨i0, z, hi0, ?_, ?_, ?_⟩
 ·rw [hi0] at hz; exact hz
 ·have : (Tryz.prog.info? 36).map (·.size) = some 3 := by kernel_rfl
  rw [hi0] at this; exact Option.some.inj this
 ·have : (Tryz.prog.info? 36).map (·.bytes) = some 40 := by kernel_rfl
  rw [hi0] at this; exact Option.some.inj this
theorem elemT35 : ∃ i z, Tryz.prog.info? 91 = some i ∧ i.zero = some z ∧ i.size = 9 ∧ i.bytes = 152 := by
 obtain ⟨i0, hi0⟩ : ∃ i, Tryz.prog.info? 91 = some i := Option.isSome_iff_exists.1 (by kernel_rfl)
 obtain ⟨z, hz⟩ : ∃ z, (Tryz.prog.info? 91).bind (·.zero) = some z := Option.isSome_iff_exists.1 (by kernel_rfl)
 refine ⟨i0, z, hi0, ?_, ?_, ?_⟩
 ·rw [hi0] at hz; exact hz
 ·have : (Tryz.prog.info? 91).map (·.size) = some 9 := by kernel_rfl
  rw [hi0] at this; exact Option.some.inj this
 ·have : (Tryz.prog.info? 91).map (·.bytes) = some 152 := by kernel_rfl
  rw [hi0] at this; exact Option.some.inj this
theorem toFieldS_calls (v : Value) (xs : List FieldL) (w : World) (base : Nat) (hbase : base ≤ w.heap.size) (ht : ListAt FieldR 3 false 0 base w v xs) (hn : xs.length ≤ 1048576) (hel : ∀ x ∈ xs, ElemTo 78 3 FieldR base x) :
  Calls Tryz.prog 48 #[v] w fun e w' => ∃ u, e = .returned u ∧ ListAt FieldR 3 true w.heap.size w'.heap.size w' u xs ∧ Below w.heap.size w w' := by
 obtain ⟨i0, z0, hi0, hz0, hz1, hz2⟩ := elemT116
 have hld : (Tryz.prog.info? 100).map (·.size) = some 3 := by kernel_rfl
 have hst : (Tryz.prog.info? 36).map (·.size) = some 3 := by kernel_rfl
 have hldH : Hid ((Tryz.prog.info? 100).map (·.size) = some 3) := hld
 have hstH : Hid ((Tryz.prog.info? 36).map (·.size) = some 3) := hst
 clear hld hst
 obtain ⟨a, c, rfl⟩ := ht.form
 have helH : Hid (∀ x ∈ xs, ElemTo 78 3 FieldR base x) := hel
 have htH : Hid (∀ wr, Below w.heap.size w wr → ListAt FieldR 3 false 0 base wr (.slice a xs.length c) xs) := fun wr hw => ht.kept FieldR.stable (Nat.le_refl _) (Nat.le_refl _) ((Same.below hw).mono (Nat.zero_le _) hbase)
 have hbH : Hid (base ≤ w.heap.size) := hbase
 clear ht hel hbase
 go_enter Tryz.func48, Tryz.ntmps48
 go_wp2_with (refine wpList_make_full _ rfl (.tmp 6) (.tmp 6) 46 rfl w.heap.size 36 i0 z0 3 Tryz.underlying46 hi0 hz0 hz1 .i64 .i64 xs.length xs.length xs.length rfl rfl rfl rfl (by rw [hz2]; omega) (by unfold maxLen; omega) (Nat.le_refl _) ?_; intro w1 hown1 hgrow1)
 have hFH : Hid (FilledL FieldR 3 xs w 0 w1) := FilledL.start hown1 hgrow1
 clear hown1 hgrow1 hi0 hz0 hz1 hz2
 go_loopw [4] (fun i wr => ∃ m : Nat, m ≤ xs.length ∧ i = .int .i64 m ∧ Hid (FilledL FieldR 3 xs w m wr)) (fun i _ => xs.length - (intOf i).toNat)
 case atStart => exact ⟨0, Nat.zero_le _, rfl, hFH⟩
 case round =>
  obtain ⟨m, hm, rfl, hF⟩ := hrel
  by_cases hlt : m < xs.length
  ·obtain ⟨b, off, row, rfl, hbb, hrl, hrr, hrx⟩ := (htH.out wr hF.out.1).at m hlt
   have hlt' : (m : Int) < (xs.length : Int) := by omega
   have hcall := helH.out xs[m] (List.getElem_mem hlt) wr row (Nat.le_trans hbH.out hF.out.1.size) hrx hrl
   have hcallH : Hid (Calls Tryz.prog 78 #[.agg row.toArray] wr _) := hcall
   have hrrH : Hid (wr.rangeAt b (off + m * 3) row) := hrr
   have hrlH : Hid (row.length = 3) := hrl
   clear hcall hrr hrl hrx
   go_wp2_with (first
    | (refine wpList_load_mid rfl 100 _ rfl b (off + m * 3) (by first | rfl | (simp; done)) row _ hrrH.out Tryz.underlying100 rfl (by rw [hrlH.out]; exact hldH.out) ?_)
    | (go_at_call 78; refine hcallH.out.mono ?_; rintro e w2 ⟨row', rfl, hl', hone, hx', hb2⟩)
    | (refine wpList_store_mid rfl 36 _ _ rfl w.heap.size (m * 3) row'.toArray (by first | rfl | (simp; done)) (by first | rfl | (simp; done)) (by simpa [hl'] using hF.out.room hlt hb2) (by simpa [hl'] using hstH.out) hone.all ?_))
   go_roundw
   case rel => exact ⟨m + 1, by omega, by go_num, hF.out.next FieldR.stable hlt hb2 hl' hx'⟩
   case measure => simp [intOf]; omega
  ·have hend := hF.out
   go_wp2
   go_ret
   exact ⟨_, rfl, hend.done FieldR.stable (by omega), hend.1⟩
theorem toMethS_calls (v : Value) (xs : List MethL) (w : World) (base : Nat) (hbase : base ≤ w.heap.size) (ht : ListAt MethR 9 false 0 base w v xs) (hn : xs.length ≤ 1048576) (hel : ∀ x ∈ xs, ElemTo 79 9 MethR base x) :
  Calls Tryz.prog 49 #[v] w fun e w' => ∃ u, e = .returned u ∧ ListAt MethR 9 true w.heap.size w'.heap.size w' u xs ∧ Below w.heap.size w w' := by
 obtain ⟨i0, z0, hi0, hz0, hz1, hz2⟩ := elemT35
 have hld : (Tryz.prog.info? 107).map (·.size) = some 9 := by kernel_rfl
 have hst : (Tryz.prog.info? 91).map (·.size) = some 9 := by kernel_rfl
 have hldH : Hid ((Tryz.prog.info? 107).map (·.size) = some 9) := hld
 have hstH : Hid ((Tryz.prog.info? 91).map (·.size) = some 9) := hst
 clear hld hst
 obtain ⟨a, c, rfl⟩ := ht.form
 have helH : Hid (∀ x ∈ xs, ElemTo 79 9 MethR base x) := hel
 have htH : Hid (∀ wr, Below w.heap.size w wr → ListAt MethR 9 false 0 base wr (.slice a xs.length c) xs) := fun wr hw => ht.kept MethR.stable (Nat.le_refl _) (Nat.le_refl _) ((Same.below hw).mono (Nat.zero_le _) hbase)
 have hbH : Hid (base ≤ w.heap.size) := hbase
 clear ht hel hbase
 go_enter Tryz.func49, Tryz.ntmps49
 go_wp2_with (refine wpList_make_full _ rfl (.tmp 6) (.tmp 6) 47 rfl w.heap.size 91 i0 z0 9 Tryz.underlying47 hi0 hz0 hz1 .i64 .i64 xs.length xs.length xs.length rfl rfl rfl rfl (by rw [hz2]; omega) (by unfold maxLen; omega) (Nat.le_refl _) ?_; intro w1 hown1 hgrow1)
 have hFH : Hid (FilledL MethR 9 xs w 0 w1) := FilledL.start hown1 hgrow1
 clear hown1 hgrow1 hi0 hz0 hz1 hz2
 go_loopw [4] (fun i wr => ∃ m : Nat, m ≤ xs.length ∧ i = .int .i64 m ∧ Hid (FilledL MethR 9 xs w m wr)) (fun i _ => xs.length - (intOf i).toNat)
 case atStart => exact ⟨0, Nat.zero_le _, rfl, hFH⟩
 case round =>
  obtain ⟨m, hm, rfl, hF⟩ := hrel
  by_cases hlt : m < xs.length
  ·obtain ⟨b, off, row, rfl, hbb, hrl, hrr, hrx⟩ := (htH.out wr hF.out.1).at m hlt
   have hlt' : (m : Int) < (xs.length : Int) := by omega
   have hcall := helH.out xs[m] (List.getElem_mem hlt) wr row (Nat.le_trans hbH.out hF.out.1.size) hrx hrl
   have hcallH : Hid (Calls Tryz.prog 79 #[.agg row.toArray] wr _) := hcall
   have hrrH : Hid (wr.rangeAt b (off + m * 9) row) := hrr
   have hrlH : Hid (row.length = 9) := hrl
   clear hcall hrr hrl hrx
   go_wp2_with (first
    | (refine wpList_load_mid rfl 107 _ rfl b (off + m * 9) (by first | rfl | (simp; done)) row _ hrrH.out Tryz.underlying107 rfl (by rw [hrlH.out]; exact hldH.out) ?_)
    | (go_at_call 79; refine hcallH.out.mono ?_; rintro e w2 ⟨row', rfl, hl', hone, hx', hb2⟩)
    | (refine wpList_store_mid rfl 91 _ _ rfl w.heap.size (m * 9) row'.toArray (by first | rfl | (simp; done)) (by first | rfl | (simp; done)) (by simpa [hl'] using hF.out.room hlt hb2) (by simpa [hl'] using hstH.out) hone.all ?_))
   go_roundw
   case rel => exact ⟨m + 1, by omega, by go_num, hF.out.next MethR.stable hlt hb2 hl' hx'⟩
   case measure => simp [intOf]; omega
  ·have hend := hF.out
   go_wp2
   go_ret
   exact ⟨_, rfl, hend.done MethR.stable (by omega), hend.1⟩
theorem toField_calls (x : FieldL) (base : Nat) : ElemTo 78 3 FieldR base x := by
 intro w row hbase hrx hrl
 have hrow : row = [.string x.name, .string x.ty, .int .i64 x.flags] := hrx
 subst hrow
 clear hrx hrl hbase
 go_enter Tryz.func78, Tryz.ntmps78
 go_wp2
 refine bodyPost_ret (v := .agg #[.string x.name, .string x.ty, .int .i64 x.flags]) (results_cell_mid rfl _ _ (w.heap.size + 1) [.string x.name, .string x.ty, .int .i64 x.flags] _ rfl (rangeAt_heap (heap_mid3 w _ _ _)) Tryz.underlying36 rfl (by kernel_rfl)) rfl ⟨[.string x.name, .string x.ty, .int .i64 x.flags], rfl, rfl, rfl, rfl, below_3 w _ _ _⟩
theorem toStrsC_calls (v : Value) (xs : List ByteArray) (w : World) (base : Nat) (hbase : base ≤ w.heap.size) (ht' : StrsAt false 0 base w v xs) (hn : xs.length ≤ 1048576) :
  Calls Tryz.prog 47 #[v] w fun e w' => ∃ u, e = .returned u ∧ StrsAt true w.heap.size w'.heap.size w' u xs ∧ Below w.heap.size w w' := by
 have ht := ht'.1
 obtain ⟨i0, z0, hi0, hz0, hz1, hz2⟩ := elemT9
 obtain ⟨a, c, rfl⟩ := ht.form
 have htH : Hid (∀ wr, Below w.heap.size w wr → ListAt StrR 1 false 0 base wr (.slice a xs.length c) xs) := fun wr hw => ht.kept StrR.stable (Nat.le_refl _) (Nat.le_refl _) ((Same.below hw).mono (Nat.zero_le _) hbase)
 clear ht ht' hbase
 go_enter Tryz.func47, Tryz.ntmps47
 go_wp2_with (refine wpList_make_full _ rfl (.tmp 6) (.tmp 6) 24 rfl w.heap.size 9 i0 z0 1 Tryz.underlying24 hi0 hz0 hz1 .i64 .i64 xs.length xs.length xs.length rfl rfl rfl rfl (by rw [hz2]; omega) (by unfold maxLen; omega) (Nat.le_refl _) ?_; intro w1 hown1 hgrow1)
 have hFH : Hid (FilledL StrR 1 xs w 0 w1) := FilledL.start hown1 hgrow1
 clear hown1 hgrow1 hi0 hz0 hz1 hz2
 go_loopw [4] (fun i wr => ∃ m : Nat, m ≤ xs.length ∧ i = .int .i64 m ∧ Hid (FilledL StrR 1 xs w m wr)) (fun i _ => xs.length - (intOf i).toNat)
 case atStart => exact ⟨0, Nat.zero_le _, rfl, hFH⟩
 case round =>
  obtain ⟨m, hm, rfl, hF⟩ := hrel
  by_cases hlt : m < xs.length
  ·obtain ⟨b, off, row, rfl, hbb, hrl, hrr, hrx⟩ := (htH.out wr hF.out.1).at m hlt
   have hlt' : (m : Int) < (xs.length : Int) := by omega
   have hrow : row = [.string xs[m]] := hrx
   have hcell : wr.cell? ⟨b, off + m, none⟩ = some (.string xs[m]) := by simpa using hrr 0 (.string xs[m]) (by rw [hrow]; rfl)
   have hroom := hF.out.room hlt (Below.refl _ _) 0 (by omega)
   have hsome : ∃ u, wr.cell? ⟨w.heap.size, m, none⟩ = some u := Option.isSome_iff_exists.1 (by simpa using hroom.1)
   have hfz : wr.frozen? ⟨w.heap.size, m, none⟩ = false := by simpa using hroom.2
   obtain ⟨u, hu⟩ := hsome
   have hnx : FilledL StrR 1 xs w (m + 1) (wr.setCells w.heap.size (m * 1) [.string xs[m]]) := hF.out.next StrR.stable hlt (Below.refl _ _) rfl rfl
   have hnxH : Hid (FilledL StrR 1 xs w (m + 1) (wr.setCell ⟨w.heap.size, m, none⟩ (.string xs[m]))) := by
    have e : m * 1 = m := Nat.mul_one m
    rw [e] at hnx; exact hnx
   obtain ⟨z, hz⟩ : ∃ z, z = xs[m] := ⟨_, rfl⟩
   rw [← hz] at hcell hnxH
   clear hz hnx hrow hrx hrr hrl hroom
   go_wp2
   go_roundw
   case rel => exact ⟨m + 1, by omega, by go_num, hnxH⟩
   case measure => simp [intOf]; omega
  ·have hend := hF.out
   go_wp2
   go_ret
   exact ⟨_, rfl, ⟨hend.done StrR.stable (by omega), fun _ a n c h => by injection h with h1 h2 h3; omega⟩, hend.1⟩
theorem toClass_calls (x : ClassL) (base : Nat) (hy : x.small) : ElemTo 26 7 ClassR base x := by
 intro w row hbase hrx hrl
 have hinf : Hid ((Tryz.prog.info? 49).map (·.size) = some 7) := by show (Tryz.prog.info? 49).map (·.size) = some 7; kernel_rfl
 obtain ⟨v2, v4, v5, v6, rfl, h2, h4, h5, h6⟩ := hrx
 have c2H : Hid (∀ W, Below w.heap.size w W → Calls Tryz.prog 47 #[v2] W fun e w' => ∃ u, e = .returned u ∧ StrsAt true W.heap.size w'.heap.size w' u x.ifs ∧ Below W.heap.size W w') := fun W hW => toStrsC_calls v2 x.ifs W base (Nat.le_trans hbase hW.size) (h2.kept StrR.stable (Nat.le_refl _) (Nat.le_refl _) ((Same.below hW).mono (Nat.zero_le _) hbase)) hy.2.2.1.1
 have c4H : Hid (∀ W, Below w.heap.size w W → Calls Tryz.prog 47 #[v4] W fun e w' => ∃ u, e = .returned u ∧ StrsAt true W.heap.size w'.heap.size w' u x.perms ∧ Below W.heap.size W w') := fun W hW => toStrsC_calls v4 x.perms W base (Nat.le_trans hbase hW.size) (h4.kept StrR.stable (Nat.le_refl _) (Nat.le_refl _) ((Same.below hW).mono (Nat.zero_le _) hbase)) hy.2.2.2.1.1
 have c5H : Hid (∀ W, Below w.heap.size w W → Calls Tryz.prog 48 #[v5] W fun e w' => ∃ u, e = .returned u ∧ ListAt FieldR 3 true W.heap.size w'.heap.size w' u x.fields ∧ Below W.heap.size W w') := fun W hW => toFieldS_calls v5 x.fields W base (Nat.le_trans hbase hW.size) (h5.kept FieldR.stable (Nat.le_refl _) (Nat.le_refl _) ((Same.below hW).mono (Nat.zero_le _) hbase)) hy.2.2.2.2.1.1 (fun y hy1 => toField_calls y base)
 have c6H : Hid (∀ W, Below w.heap.size w W → Calls Tryz.prog 49 #[v6] W fun e w' => ∃ u, e = .returned u ∧ ListAt MethR 9 true W.heap.size w'.heap.size w' u x.meths ∧ Below W.heap.size W w') := fun W hW => toMethS_calls v6 x.meths W base (Nat.le_trans hbase hW.size) (h6.kept MethR.stable (Nat.le_refl _) (Nat.le_refl _) ((Same.below hW).mono (Nat.zero_le _) hbase)) hy.2.2.2.2.2.1 (fun y hy1 => toMeth_calls y base (hy.2.2.2.2.2.2 y hy1))
 obtain ⟨a2, n2, rfl⟩ := h2.form
 obtain ⟨len2, hlen2⟩ : ∃ n, n = (x.ifs).length := ⟨_, rfl⟩
 have hlen2H : Hid (len2 = (x.ifs).length) := hlen2
 rw [← hlen2] at c2H ⊢
 obtain ⟨a4, n4, rfl⟩ := h4.form
 obtain ⟨len4, hlen4⟩ : ∃ n, n = (x.perms).length := ⟨_, rfl⟩
 have hlen4H : Hid (len4 = (x.perms).length) := hlen4
 rw [← hlen4] at c4H ⊢
 obtain ⟨a5, n5, rfl⟩ := h5.form
 obtain ⟨len5, hlen5⟩ : ∃ n, n = (x.fields).length := ⟨_, rfl⟩
 have hlen5H : Hid (len5 = (x.fields).length) := hlen5
 rw [← hlen5] at c5H ⊢
 obtain ⟨a6, n6, rfl⟩ := h6.form
 obtain ⟨len6, hlen6⟩ : ∃ n, n = (x.meths).length := ⟨_, rfl⟩
 have hlen6H : Hid (len6 = (x.meths).length) := hlen6
 rw [← hlen6] at c6H ⊢
 clear hrl hbase h2 h4 h5 h6 hlen2 hlen4 hlen5 hlen6
 go_enter Tryz.func26, Tryz.ntmps26
 go_wp2_with fail
 obtain ⟨W0, hW0⟩ : ∃ W : World, W = ((w.alloc (.cells #[.string x.name, .string x.super, .slice a2 len2 n2, .int .i64 x.flags, .slice a4 len4 n4, .slice a5 len5 n5, .slice a6 len6 n6] 44)).alloc (.cells #[.string ⟨#[]⟩, .string ⟨#[]⟩, .slice none 0 0, .int .i64 0, .slice none 0 0, .slice none 0 0, .slice none 0 0] 49)).alloc (.cells #[.string x.name, .string x.super, .slice none 0 0, .int .i64 0, .slice none 0 0, .slice none 0 0, .slice none 0 0] 49) := ⟨_, rfl⟩
 rw [← hW0]
 have r0 : Hid (Rec3 w W0 7 [.string x.name, .string x.super, .slice a2 len2 n2, .int .i64 x.flags, .slice a4 len4 n4, .slice a5 len5 n5, .slice a6 len6 n6] [.string x.name, .string x.super, .slice none 0 0, .int .i64 0, .slice none 0 0, .slice none 0 0, .slice none 0 0]) := Rec3.start hW0 rfl rfl
 clear hW0
 refine (c2H.out W0 r0.out.hb).mono ?_
 rintro e w1 ⟨u2, rfl, g2, hb1⟩
 obtain ⟨b2, m2, rfl⟩ := g2.form
 rw [← hlen2H.out] at g2 ⊢
 have rc1 : Hid (Rec3 w w1 7 [.string x.name, .string x.super, .slice a2 len2 n2, .int .i64 x.flags, .slice a4 len4 n4, .slice a5 len5 n5, .slice a6 len6 n6] [.string x.name, .string x.super, .slice none 0 0, .int .i64 0, .slice none 0 0, .slice none 0 0, .slice none 0 0]) := r0.out.call hb1
 have g2H : Hid (StrsAt true (w.heap.size + 3) w1.heap.size w1 (.slice b2 len2 m2) x.ifs) := g2.kept StrR.stable r0.out.sz (Nat.le_refl _) (Same.refl _ _ _)
 have xi1_3 := rc1.out.cellI 3 _ rfl
 have xi1_4 := rc1.out.cellI 4 _ rfl
 obtain ⟨⟨q1_2, xo1_2⟩, xf1_2⟩ := rc1.out.cellO 2 (by omega)
 obtain ⟨⟨q1_3, xo1_3⟩, xf1_3⟩ := rc1.out.cellO 3 (by omega)
 clear g2 hb1
 have r1 : Hid (Rec3 w ((w1.setCell ⟨w.heap.size + 1 + 1, 2, none⟩ (.slice b2 len2 m2)).setCell ⟨w.heap.size + 1 + 1, 3, none⟩ (.int .i64 x.flags)) 7 [.string x.name, .string x.super, .slice a2 len2 n2, .int .i64 x.flags, .slice a4 len4 n4, .slice a5 len5 n5, .slice a6 len6 n6] [.string x.name, .string x.super, .slice b2 len2 m2, .int .i64 x.flags, .slice none 0 0, .slice none 0 0, .slice none 0 0]) := ((rc1.out.set 2 (.slice b2 len2 m2) (by omega) rfl).set 3 (.int .i64 x.flags) (by omega) rfl)
 have g2H : Hid (StrsAt true (w.heap.size + 3) ((w1.setCell ⟨w.heap.size + 1 + 1, 2, none⟩ (.slice b2 len2 m2)).setCell ⟨w.heap.size + 1 + 1, 3, none⟩ (.int .i64 x.flags)).heap.size ((w1.setCell ⟨w.heap.size + 1 + 1, 2, none⟩ (.slice b2 len2 m2)).setCell ⟨w.heap.size + 1 + 1, 3, none⟩ (.int .i64 x.flags)) (.slice b2 len2 m2) x.ifs) := g2H.out.kept StrR.stable (Nat.le_refl _) (by simp) (Same.trans ((Same.trans (Same.refl _ _ _) (same_setCell _ _ _ _ (.inl (by omega))))) (same_setCell _ _ _ _ (.inl (by omega))))
 go_wp2_with fail
 obtain ⟨W1, hW1⟩ : ∃ W : World, W = ((w1.setCell ⟨w.heap.size + 1 + 1, 2, none⟩ (.slice b2 len2 m2)).setCell ⟨w.heap.size + 1 + 1, 3, none⟩ (.int .i64 x.flags)) := ⟨_, rfl⟩
 rw [← hW1] at r1 g2H ⊢
 clear hW1 rc1 xi1_3 xi1_4 xo1_2 xf1_2 xo1_3 xf1_3
 refine (c4H.out W1 r1.out.hb).mono ?_
 rintro e w2 ⟨u4, rfl, g4, hb2⟩
 obtain ⟨b4, m4, rfl⟩ := g4.form
 rw [← hlen4H.out] at g4 ⊢
 have rc2 : Hid (Rec3 w w2 7 [.string x.name, .string x.super, .slice a2 len2 n2, .int .i64 x.flags, .slice a4 len4 n4, .slice a5 len5 n5, .slice a6 len6 n6] [.string x.name, .string x.super, .slice b2 len2 m2, .int .i64 x.flags, .slice none 0 0, .slice none 0 0, .slice none 0 0]) := r1.out.call hb2
 have g4H : Hid (StrsAt true (w.heap.size + 3) w2.heap.size w2 (.slice b4 len4 m4) x.perms) := g4.kept StrR.stable r1.out.sz (Nat.le_refl _) (Same.refl _ _ _)
 have g2H : Hid (StrsAt true (w.heap.size + 3) w2.heap.size w2 (.slice b2 len2 m2) x.ifs) := g2H.out.kept StrR.stable (Nat.le_refl _) hb2.size ((Same.below hb2).mono (Nat.zero_le _) (Nat.le_refl _))
 have xi2_5 := rc2.out.cellI 5 _ rfl
 obtain ⟨⟨q2_4, xo2_4⟩, xf2_4⟩ := rc2.out.cellO 4 (by omega)
 clear g4 hb2
 have r2 : Hid (Rec3 w (w2.setCell ⟨w.heap.size + 1 + 1, 4, none⟩ (.slice b4 len4 m4)) 7 [.string x.name, .string x.super, .slice a2 len2 n2, .int .i64 x.flags, .slice a4 len4 n4, .slice a5 len5 n5, .slice a6 len6 n6] [.string x.name, .string x.super, .slice b2 len2 m2, .int .i64 x.flags, .slice b4 len4 m4, .slice none 0 0, .slice none 0 0]) := (rc2.out.set 4 (.slice b4 len4 m4) (by omega) rfl)
 have g2H : Hid (StrsAt true (w.heap.size + 3) (w2.setCell ⟨w.heap.size + 1 + 1, 4, none⟩ (.slice b4 len4 m4)).heap.size (w2.setCell ⟨w.heap.size + 1 + 1, 4, none⟩ (.slice b4 len4 m4)) (.slice b2 len2 m2) x.ifs) := g2H.out.kept StrR.stable (Nat.le_refl _) (by simp) (Same.trans (Same.refl _ _ _) (same_setCell _ _ _ _ (.inl (by omega))))
 have g4H : Hid (StrsAt true (w.heap.size + 3) (w2.setCell ⟨w.heap.size + 1 + 1, 4, none⟩ (.slice b4 len4 m4)).heap.size (w2.setCell ⟨w.heap.size + 1 + 1, 4, none⟩ (.slice b4 len4 m4)) (.slice b4 len4 m4) x.perms) := g4H.out.kept StrR.stable (Nat.le_refl _) (by simp) (Same.trans (Same.refl _ _ _) (same_setCell _ _ _ _ (.inl (by omega))))
 go_wp2_with fail
 obtain ⟨W2, hW2⟩ : ∃ W : World, W = (w2.setCell ⟨w.heap.size + 1 + 1, 4, none⟩ (.slice b4 len4 m4)) := ⟨_, rfl⟩
 rw [← hW2] at r2 g2H g4H ⊢
 clear hW2 rc2 xi2_5 xo2_4 xf2_4
 refine (c5H.out W2 r2.out.hb).mono ?_
 rintro e w3 ⟨u5, rfl, g5, hb3⟩
 obtain ⟨b5, m5, rfl⟩ := g5.form
 rw [← hlen5H.out] at g5 ⊢
 have rc3 : Hid (Rec3 w w3 7 [.string x.name, .string x.super, .slice a2 len2 n2, .int .i64 x.flags, .slice a4 len4 n4, .slice a5 len5 n5, .slice a6 len6 n6] [.string x.name, .string x.super, .slice b2 len2 m2, .int .i64 x.flags, .slice b4 len4 m4, .slice none 0 0, .slice none 0 0]) := r2.out.call hb3
 have g5H : Hid (ListAt FieldR 3 true (w.heap.size + 3) w3.heap.size w3 (.slice b5 len5 m5) x.fields) := g5.kept FieldR.stable r2.out.sz (Nat.le_refl _) (Same.refl _ _ _)
 have g2H : Hid (StrsAt true (w.heap.size + 3) w3.heap.size w3 (.slice b2 len2 m2) x.ifs) := g2H.out.kept StrR.stable (Nat.le_refl _) hb3.size ((Same.below hb3).mono (Nat.zero_le _) (Nat.le_refl _))
 have g4H : Hid (StrsAt true (w.heap.size + 3) w3.heap.size w3 (.slice b4 len4 m4) x.perms) := g4H.out.kept StrR.stable (Nat.le_refl _) hb3.size ((Same.below hb3).mono (Nat.zero_le _) (Nat.le_refl _))
 have xi3_6 := rc3.out.cellI 6 _ rfl
 obtain ⟨⟨q3_5, xo3_5⟩, xf3_5⟩ := rc3.out.cellO 5 (by omega)
 clear g5 hb3
 have r3 : Hid (Rec3 w (w3.setCell ⟨w.heap.size + 1 + 1, 5, none⟩ (.slice b5 len5 m5)) 7 [.string x.name, .string x.super, .slice a2 len2 n2, .int .i64 x.flags, .slice a4 len4 n4, .slice a5 len5 n5, .slice a6 len6 n6] [.string x.name, .string x.super, .slice b2 len2 m2, .int .i64 x.flags, .slice b4 len4 m4, .slice b5 len5 m5, .slice none 0 0]) := (rc3.out.set 5 (.slice b5 len5 m5) (by omega) rfl)
 have g2H : Hid (StrsAt true (w.heap.size + 3) (w3.setCell ⟨w.heap.size + 1 + 1, 5, none⟩ (.slice b5 len5 m5)).heap.size (w3.setCell ⟨w.heap.size + 1 + 1, 5, none⟩ (.slice b5 len5 m5)) (.slice b2 len2 m2) x.ifs) := g2H.out.kept StrR.stable (Nat.le_refl _) (by simp) (Same.trans (Same.refl _ _ _) (same_setCell _ _ _ _ (.inl (by omega))))
 have g4H : Hid (StrsAt true (w.heap.size + 3) (w3.setCell ⟨w.heap.size + 1 + 1, 5, none⟩ (.slice b5 len5 m5)).heap.size (w3.setCell ⟨w.heap.size + 1 + 1, 5, none⟩ (.slice b5 len5 m5)) (.slice b4 len4 m4) x.perms) := g4H.out.kept StrR.stable (Nat.le_refl _) (by simp) (Same.trans (Same.refl _ _ _) (same_setCell _ _ _ _ (.inl (by omega))))
 have g5H : Hid (ListAt FieldR 3 true (w.heap.size + 3) (w3.setCell ⟨w.heap.size + 1 + 1, 5, none⟩ (.slice b5 len5 m5)).heap.size (w3.setCell ⟨w.heap.size + 1 + 1, 5, none⟩ (.slice b5 len5 m5)) (.slice b5 len5 m5) x.fields) := g5H.out.kept FieldR.stable (Nat.le_refl _) (by simp) (Same.trans (Same.refl _ _ _) (same_setCell _ _ _ _ (.inl (by omega))))
 go_wp2_with fail
 obtain ⟨W3, hW3⟩ : ∃ W : World, W = (w3.setCell ⟨w.heap.size + 1 + 1, 5, none⟩ (.slice b5 len5 m5)) := ⟨_, rfl⟩
 rw [← hW3] at r3 g2H g4H g5H ⊢
 clear hW3 rc3 xi3_6 xo3_5 xf3_5
 refine (c6H.out W3 r3.out.hb).mono ?_
 rintro e w4 ⟨u6, rfl, g6, hb4⟩
 obtain ⟨b6, m6, rfl⟩ := g6.form
 rw [← hlen6H.out] at g6 ⊢
 have rc4 : Hid (Rec3 w w4 7 [.string x.name, .string x.super, .slice a2 len2 n2, .int .i64 x.flags, .slice a4 len4 n4, .slice a5 len5 n5, .slice a6 len6 n6] [.string x.name, .string x.super, .slice b2 len2 m2, .int .i64 x.flags, .slice b4 len4 m4, .slice b5 len5 m5, .slice none 0 0]) := r3.out.call hb4
 have g6H : Hid (ListAt MethR 9 true (w.heap.size + 3) w4.heap.size w4 (.slice b6 len6 m6) x.meths) := g6.kept MethR.stable r3.out.sz (Nat.le_refl _) (Same.refl _ _ _)
 have g2H : Hid (StrsAt true (w.heap.size + 3) w4.heap.size w4 (.slice b2 len2 m2) x.ifs) := g2H.out.kept StrR.stable (Nat.le_refl _) hb4.size ((Same.below hb4).mono (Nat.zero_le _) (Nat.le_refl _))
 have g4H : Hid (StrsAt true (w.heap.size + 3) w4.heap.size w4 (.slice b4 len4 m4) x.perms) := g4H.out.kept StrR.stable (Nat.le_refl _) hb4.size ((Same.below hb4).mono (Nat.zero_le _) (Nat.le_refl _))
 have g5H : Hid (ListAt FieldR 3 true (w.heap.size + 3) w4.heap.size w4 (.slice b5 len5 m5) x.fields) := g5H.out.kept FieldR.stable (Nat.le_refl _) hb4.size ((Same.below hb4).mono (Nat.zero_le _) (Nat.le_refl _))
 obtain ⟨⟨q4_6, xo4_6⟩, xf4_6⟩ := rc4.out.cellO 6 (by omega)
 clear g6 hb4
 have r4 : Hid (Rec3 w (w4.setCell ⟨w.heap.size + 1 + 1, 6, none⟩ (.slice b6 len6 m6)) 7 [.string x.name, .string x.super, .slice a2 len2 n2, .int .i64 x.flags, .slice a4 len4 n4, .slice a5 len5 n5, .slice a6 len6 n6] [.string x.name, .string x.super, .slice b2 len2 m2, .int .i64 x.flags, .slice b4 len4 m4, .slice b5 len5 m5, .slice b6 len6 m6]) := (rc4.out.set 6 (.slice b6 len6 m6) (by omega) rfl)
 have g2H : Hid (StrsAt true (w.heap.size + 3) (w4.setCell ⟨w.heap.size + 1 + 1, 6, none⟩ (.slice b6 len6 m6)).heap.size (w4.setCell ⟨w.heap.size + 1 + 1, 6, none⟩ (.slice b6 len6 m6)) (.slice b2 len2 m2) x.ifs) := g2H.out.kept StrR.stable (Nat.le_refl _) (by simp) (Same.trans (Same.refl _ _ _) (same_setCell _ _ _ _ (.inl (by omega))))
 have g4H : Hid (StrsAt true (w.heap.size + 3) (w4.setCell ⟨w.heap.size + 1 + 1, 6, none⟩ (.slice b6 len6 m6)).heap.size (w4.setCell ⟨w.heap.size + 1 + 1, 6, none⟩ (.slice b6 len6 m6)) (.slice b4 len4 m4) x.perms) := g4H.out.kept StrR.stable (Nat.le_refl _) (by simp) (Same.trans (Same.refl _ _ _) (same_setCell _ _ _ _ (.inl (by omega))))
 have g5H : Hid (ListAt FieldR 3 true (w.heap.size + 3) (w4.setCell ⟨w.heap.size + 1 + 1, 6, none⟩ (.slice b6 len6 m6)).heap.size (w4.setCell ⟨w.heap.size + 1 + 1, 6, none⟩ (.slice b6 len6 m6)) (.slice b5 len5 m5) x.fields) := g5H.out.kept FieldR.stable (Nat.le_refl _) (by simp) (Same.trans (Same.refl _ _ _) (same_setCell _ _ _ _ (.inl (by omega))))
 have g6H : Hid (ListAt MethR 9 true (w.heap.size + 3) (w4.setCell ⟨w.heap.size + 1 + 1, 6, none⟩ (.slice b6 len6 m6)).heap.size (w4.setCell ⟨w.heap.size + 1 + 1, 6, none⟩ (.slice b6 len6 m6)) (.slice b6 len6 m6) x.meths) := g6H.out.kept MethR.stable (Nat.le_refl _) (by simp) (Same.trans (Same.refl _ _ _) (same_setCell _ _ _ _ (.inl (by omega))))
 go_wp2_with (first | (refine wpList_load_mid rfl 49 _ rfl (w.heap.size + 1 + 1) 0 rfl [.string x.name, .string x.super, .slice b2 len2 m2, .int .i64 x.flags, .slice b4 len4 m4, .slice b5 len5 m5, .slice b6 len6 m6] _ r4.out.o Tryz.underlying49 rfl hinf.out ?_) | (refine wpList_store_mid rfl 49 _ _ rfl (w.heap.size + 1) 0 #[.string x.name, .string x.super, .slice b2 len2 m2, .int .i64 x.flags, .slice b4 len4 m4, .slice b5 len5 m5, .slice b6 len6 m6] rfl rfl r4.out.z hinf.out (OneCells.all (row := [.string x.name, .string x.super, .slice b2 len2 m2, .int .i64 x.flags, .slice b4 len4 m4, .slice b5 len5 m5, .slice b6 len6 m6]) rfl) ?_))
 refine bodyPost_ret (v := .agg #[.string x.name, .string x.super, .slice b2 len2 m2, .int .i64 x.flags, .slice b4 len4 m4, .slice b5 len5 m5, .slice b6 len6 m6]) (results_cell_mid rfl _ _ (w.heap.size + 1) [.string x.name, .string x.super, .slice b2 len2 m2, .int .i64 x.flags, .slice b4 len4 m4, .slice b5 len5 m5, .slice b6 len6 m6] _ rfl (World.rangeAt_setCells_same _ _ _ _ r4.out.z) Tryz.underlying49 rfl hinf.out) rfl ⟨[.string x.name, .string x.super, .slice b2 len2 m2, .int .i64 x.flags, .slice b4 len4 m4, .slice b5 len5 m5, .slice b6 len6 m6], rfl, rfl, rfl, ⟨_, _, _, _, rfl, ?_, ?_, ?_, ?_⟩, below_setCells _ (by omega) _ _ _ r4.out.hb⟩
 ·exact g2H.out.kept StrR.stable (by omega) (by rw [size_setCells]; exact Nat.le_refl _) (Same.setCells _ _ _ _ (.inl (by omega)))
 ·exact g4H.out.kept StrR.stable (by omega) (by rw [size_setCells]; exact Nat.le_refl _) (Same.setCells _ _ _ _ (.inl (by omega)))
 ·exact g5H.out.kept FieldR.stable (by omega) (by rw [size_setCells]; exact Nat.le_refl _) (Same.setCells _ _ _ _ (.inl (by omega)))
 ·exact g6H.out.kept MethR.stable (by omega) (by rw [size_setCells]; exact Nat.le_refl _) (Same.setCells _ _ _ _ (.inl (by omega)))
theorem allFieldOk_calls (p : FieldL → Bool) (v : Value) (xs : List FieldL) (w : World) (lo hi : Nat) (hh : hi ≤ w.heap.size) (ht : ListAt FieldR 3 true lo hi w v xs) (hn : xs.length ≤ 1048576)
  (hG : ∀ x ∈ xs, ∀ (W : World) (row : List Value), Below w.heap.size w W → FieldR true lo hi W row x → Calls Tryz.prog 149 #[.agg row.toArray] W fun e w' => e = .returned (.bool (p x)) ∧ Below W.heap.size W w') :
  Calls Tryz.prog 148 #[v, .func (.func 149) #[] #[]] w fun e w' => e = .returned (.bool (xs.all p)) ∧ Below w.heap.size w w' := by
 obtain ⟨a, c, rfl⟩ := ht.form
 have htH : Hid (∀ W, Below w.heap.size w W → ListAt FieldR 3 true lo hi W (.slice a xs.length c) xs) := fun W hW => ht.kept FieldR.stable (Nat.le_refl _) (Nat.le_refl _) ((Same.below hW).mono (Nat.zero_le _) hh)
 have gH : Hid (∀ x ∈ xs, ∀ (W : World) (row : List Value), Below w.heap.size w W → FieldR true lo hi W row x → Calls Tryz.prog 149 #[.agg row.toArray] W fun e w' => e = .returned (.bool (p x)) ∧ Below W.heap.size W w') := hG
 have hhH : Hid (hi ≤ w.heap.size) := hh
 have isz : Hid ((Tryz.prog.info? 36).map (·.size) = some 3) := by show (Tryz.prog.info? 36).map (·.size) = some 3; kernel_rfl
 obtain ⟨R, hR⟩ : ∃ R, xs.all p = R := ⟨_, rfl⟩
 rw [hR]
 have hRH : Hid (xs.all p = R) := hR
 clear hR ht hh hG
 go_enter Tryz.func148, Tryz.ntmps148
 go_wp2
 go_loopw [9] (fun i wr => ∃ m : Nat, m ≤ xs.length ∧ i = .int .i64 m ∧ Hid ((xs.drop m).all p = R) ∧ Hid (Below w.heap.size w wr)) (fun i _ => xs.length - (intOf i).toNat)
 case atStart => exact ⟨0, Nat.zero_le _, rfl, hRH.out, Below.refl _ _⟩
 case round =>
  obtain ⟨m, hm, rfl, hz, hB⟩ := hrel
  by_cases hlt : m < xs.length
  ·obtain ⟨b, off, row, rfl, hbb, hrl, hrr, hrx⟩ := (htH.out wr hB.out).at m hlt
   have hlt' : (m : Int) < (xs.length : Int) := by omega
   have hmem := List.getElem_mem hlt
   have hdr := List.drop_eq_getElem_cons hlt
   obtain ⟨x, hxm⟩ : ∃ x, x = xs[m] := ⟨_, rfl⟩
   rw [← hxm] at hrx hdr hmem
   have hc : Hid (∀ W, Below wr.heap.size wr W → Calls Tryz.prog 149 #[.agg row.toArray] W fun e w' => e = .returned (.bool (p x)) ∧ Below W.heap.size W w') := fun W hW =>
    gH.out x hmem W row (below_on2 hB.out hW) (FieldR.stable _ _ _ _ _ _ _ _ _ hrx (Nat.le_refl _) (Nat.le_refl _) ((Same.below hW).mono (Nat.zero_le _) (by have := hhH.out; have := hB.out.size; omega)))
   obtain rfl : row = [.string x.name, .string x.ty, .int .i64 x.flags] := hrx
   have hstep : Hid (R = (p x && (xs.drop (m + 1)).all p)) := by
    have := hz.out
    rw [hdr] at this
    exact this.symm
   obtain ⟨ib, hib⟩ : ∃ ib, p x = ib := ⟨_, rfl⟩
   rw [hib] at hstep hc
   have hrrH : Hid (wr.rangeAt b (off + m * 3) [.string x.name, .string x.ty, .int .i64 x.flags]) := hrr
   have hBn : Hid (Below w.heap.size w (wr.alloc (.cells #[.string x.name, .string x.ty, .int .i64 x.flags] 36))) := below_on2 hB.out (below_1 _ _)
   clear hrr hrl hxm hdr hmem hib
   cases ib with
   | false =>
    go_wp2_with (first | (refine wpList_load_mid rfl 36 _ rfl b (off + m * 3) (by first | rfl | (simp; done)) _ _ hrrH.out Tryz.underlying36 rfl isz.out ?_) | (go_at_call 149; refine (hc.out _ (below_1 _ _)).mono ?_; rintro e w2 ⟨rfl, hb2⟩))
    go_ret
    exact ⟨by rw [hstep.out]; rfl, below_on2 hBn.out hb2⟩
   | true =>
    go_wp2_with (first | (refine wpList_load_mid rfl 36 _ rfl b (off + m * 3) (by first | rfl | (simp; done)) _ _ hrrH.out Tryz.underlying36 rfl isz.out ?_) | (go_at_call 149; refine (hc.out _ (below_1 _ _)).mono ?_; rintro e w2 ⟨rfl, hb2⟩))
    go_roundw
    case rel => exact ⟨m + 1, by omega, by go_num, (show _ = R by rw [hstep.out]; rfl), below_on2 hBn.out hb2⟩
    case measure => simp [intOf]; omega
  ·have hend := hz.out
   rw [List.drop_eq_nil_of_le (by omega)] at hend
   have hR : R = true := hend.symm
   subst hR
   clear hend
   go_wp2
   go_ret
   exact ⟨rfl, hB.out⟩
theorem allConst_calls (p : FieldL → Bool) (v : Value) (xs : List FieldL) (w : World) (lo hi : Nat) (hh : hi ≤ w.heap.size) (ht : ListAt FieldR 3 true lo hi w v xs) (hn : xs.length ≤ 1048576)
  (hG : ∀ x ∈ xs, ∀ (W : World) (row : List Value), Below w.heap.size w W → FieldR true lo hi W row x → Calls Tryz.prog 157 #[.agg row.toArray] W fun e w' => e = .returned (.bool (p x)) ∧ Below W.heap.size W w') :
  Calls Tryz.prog 148 #[v, .func (.func 157) #[] #[]] w fun e w' => e = .returned (.bool (xs.all p)) ∧ Below w.heap.size w w' := by
 obtain ⟨a, c, rfl⟩ := ht.form
 have htH : Hid (∀ W, Below w.heap.size w W → ListAt FieldR 3 true lo hi W (.slice a xs.length c) xs) := fun W hW => ht.kept FieldR.stable (Nat.le_refl _) (Nat.le_refl _) ((Same.below hW).mono (Nat.zero_le _) hh)
 have gH : Hid (∀ x ∈ xs, ∀ (W : World) (row : List Value), Below w.heap.size w W → FieldR true lo hi W row x → Calls Tryz.prog 157 #[.agg row.toArray] W fun e w' => e = .returned (.bool (p x)) ∧ Below W.heap.size W w') := hG
 have hhH : Hid (hi ≤ w.heap.size) := hh
 have isz : Hid ((Tryz.prog.info? 36).map (·.size) = some 3) := by show (Tryz.prog.info? 36).map (·.size) = some 3; kernel_rfl
 obtain ⟨R, hR⟩ : ∃ R, xs.all p = R := ⟨_, rfl⟩
 rw [hR]
 have hRH : Hid (xs.all p = R) := hR
 clear hR ht hh hG
 go_enter Tryz.func148, Tryz.ntmps148
 go_wp2
 go_loopw [9] (fun i wr => ∃ m : Nat, m ≤ xs.length ∧ i = .int .i64 m ∧ Hid ((xs.drop m).all p = R) ∧ Hid (Below w.heap.size w wr)) (fun i _ => xs.length - (intOf i).toNat)
 case atStart => exact ⟨0, Nat.zero_le _, rfl, hRH.out, Below.refl _ _⟩
 case round =>
  obtain ⟨m, hm, rfl, hz, hB⟩ := hrel
  by_cases hlt : m < xs.length
  ·obtain ⟨b, off, row, rfl, hbb, hrl, hrr, hrx⟩ := (htH.out wr hB.out).at m hlt
   have hlt' : (m : Int) < (xs.length : Int) := by omega
   have hmem := List.getElem_mem hlt
   have hdr := List.drop_eq_getElem_cons hlt
   obtain ⟨x, hxm⟩ : ∃ x, x = xs[m] := ⟨_, rfl⟩
   rw [← hxm] at hrx hdr hmem
   have hc : Hid (∀ W, Below wr.heap.size wr W → Calls Tryz.prog 157 #[.agg row.toArray] W fun e w' => e = .returned (.bool (p x)) ∧ Below W.heap.size W w') := fun W hW =>
    gH.out x hmem W row (below_on2 hB.out hW) (FieldR.stable _ _ _ _ _ _ _ _ _ hrx (Nat.le_refl _) (Nat.le_refl _) ((Same.below hW).mono (Nat.zero_le _) (by have := hhH.out; have := hB.out.size; omega)))
   obtain rfl : row = [.string x.name, .string x.ty, .int .i64 x.flags] := hrx
   have hstep : Hid (R = (p x && (xs.drop (m + 1)).all p)) := by
    have := hz.out
    rw [hdr] at this
    exact this.symm
   obtain ⟨ib, hib⟩ : ∃ ib, p x = ib := ⟨_, rfl⟩
   rw [hib] at hstep hc
   have hrrH : Hid (wr.rangeAt b (off + m * 3) [.string x.name, .string x.ty, .int .i64 x.flags]) := hrr
   have hBn : Hid (Below w.heap.size w (wr.alloc (.cells #[.string x.name, .string x.ty, .int .i64 x.flags] 36))) := below_on2 hB.out (below_1 _ _)
   clear hrr hrl hxm hdr hmem hib
   cases ib with
   | false =>
    go_wp2_with (first | (refine wpList_load_mid rfl 36 _ rfl b (off + m * 3) (by first | rfl | (simp; done)) _ _ hrrH.out Tryz.underlying36 rfl isz.out ?_) | (go_at_call 157; refine (hc.out _ (below_1 _ _)).mono ?_; rintro e w2 ⟨rfl, hb2⟩))
    go_ret
    exact ⟨by rw [hstep.out]; rfl, below_on2 hBn.out hb2⟩
   | true =>
    go_wp2_with (first | (refine wpList_load_mid rfl 36 _ rfl b (off + m * 3) (by first | rfl | (simp; done)) _ _ hrrH.out Tryz.underlying36 rfl isz.out ?_) | (go_at_call 157; refine (hc.out _ (below_1 _ _)).mono ?_; rintro e w2 ⟨rfl, hb2⟩))
    go_roundw
    case rel => exact ⟨m + 1, by omega, by go_num, (show _ = R by rw [hstep.out]; rfl), below_on2 hBn.out hb2⟩
    case measure => simp [intOf]; omega
  ·have hend := hz.out
   rw [List.drop_eq_nil_of_le (by omega)] at hend
   have hR : R = true := hend.symm
   subst hR
   clear hend
   go_wp2
   go_ret
   exact ⟨rfl, hB.out⟩
theorem allMethOk_calls (p : MethL → Bool) (v : Value) (xs : List MethL) (w : World) (lo hi : Nat) (hh : hi ≤ w.heap.size) (ht : ListAt MethR 9 true lo hi w v xs) (hn : xs.length ≤ 1048576)
  (hG : ∀ x ∈ xs, ∀ (W : World) (row : List Value), Below w.heap.size w W → MethR true lo hi W row x → Calls Tryz.prog 151 #[.agg row.toArray] W fun e w' => e = .returned (.bool (p x)) ∧ Below W.heap.size W w') :
  Calls Tryz.prog 150 #[v, .func (.func 151) #[] #[]] w fun e w' => e = .returned (.bool (xs.all p)) ∧ Below w.heap.size w w' := by
 obtain ⟨a, c, rfl⟩ := ht.form
 have htH : Hid (∀ W, Below w.heap.size w W → ListAt MethR 9 true lo hi W (.slice a xs.length c) xs) := fun W hW => ht.kept MethR.stable (Nat.le_refl _) (Nat.le_refl _) ((Same.below hW).mono (Nat.zero_le _) hh)
 have gH : Hid (∀ x ∈ xs, ∀ (W : World) (row : List Value), Below w.heap.size w W → MethR true lo hi W row x → Calls Tryz.prog 151 #[.agg row.toArray] W fun e w' => e = .returned (.bool (p x)) ∧ Below W.heap.size W w') := hG
 have hhH : Hid (hi ≤ w.heap.size) := hh
 have isz : Hid ((Tryz.prog.info? 91).map (·.size) = some 9) := by show (Tryz.prog.info? 91).map (·.size) = some 9; kernel_rfl
 obtain ⟨R, hR⟩ : ∃ R, xs.all p = R := ⟨_, rfl⟩
 rw [hR]
 have hRH : Hid (xs.all p = R) := hR
 clear hR ht hh hG
 go_enter Tryz.func150, Tryz.ntmps150
 go_wp2
 go_loopw [9] (fun i wr => ∃ m : Nat, m ≤ xs.length ∧ i = .int .i64 m ∧ Hid ((xs.drop m).all p = R) ∧ Hid (Below w.heap.size w wr)) (fun i _ => xs.length - (intOf i).toNat)
 case atStart => exact ⟨0, Nat.zero_le _, rfl, hRH.out, Below.refl _ _⟩
 case round =>
  obtain ⟨m, hm, rfl, hz, hB⟩ := hrel
  by_cases hlt : m < xs.length
  ·obtain ⟨b, off, row, rfl, hbb, hrl, hrr, hrx⟩ := (htH.out wr hB.out).at m hlt
   have hlt' : (m : Int) < (xs.length : Int) := by omega
   have hmem := List.getElem_mem hlt
   have hdr := List.drop_eq_getElem_cons hlt
   obtain ⟨x, hxm⟩ : ∃ x, x = xs[m] := ⟨_, rfl⟩
   rw [← hxm] at hrx hdr hmem
   have hc : Hid (∀ W, Below wr.heap.size wr W → Calls Tryz.prog 151 #[.agg row.toArray] W fun e w' => e = .returned (.bool (p x)) ∧ Below W.heap.size W w') := fun W hW =>
    gH.out x hmem W row (below_on2 hB.out hW) (MethR.stable _ _ _ _ _ _ _ _ _ hrx (Nat.le_refl _) (Nat.le_refl _) ((Same.below hW).mono (Nat.zero_le _) (by have := hhH.out; have := hB.out.size; omega)))
   obtain ⟨p1, p2, p3, p4, rfl, f1, f2, f3, f4⟩ := hrx
   obtain ⟨a1, c1, rfl⟩ := f1.form
   obtain ⟨a2, c2, rfl⟩ := f2.form
   obtain ⟨a3, c3, rfl⟩ := f3.form
   obtain ⟨a4, c4, rfl⟩ := f4.form
   clear f1 f2 f3 f4
   generalize x.code.length = n1 at *
   generalize x.hands.length = n2 at *
   generalize x.frames.length = n3 at *
   generalize x.lines.length = n4 at *
   have hstep : Hid (R = (p x && (xs.drop (m + 1)).all p)) := by
    have := hz.out
    rw [hdr] at this
    exact this.symm
   obtain ⟨ib, hib⟩ : ∃ ib, p x = ib := ⟨_, rfl⟩
   rw [hib] at hstep hc
   have hrrH : Hid (wr.rangeAt b (off + m * 9) [.string x.name, .string x.sig, .int .i64 x.flags, .int .i64 x.stack, .int .i64 x.locals, .slice a1 n1 c1, .slice a2 n2 c2, .slice a3 n3 c3, .slice a4 n4 c4]) := hrr
   have hBn : Hid (Below w.heap.size w (wr.alloc (.cells #[.string x.name, .string x.sig, .int .i64 x.flags, .int .i64 x.stack, .int .i64 x.locals, .slice a1 n1 c1, .slice a2 n2 c2, .slice a3 n3 c3, .slice a4 n4 c4] 91))) := below_on2 hB.out (below_1 _ _)
   clear hrr hrl hxm hdr hmem hib
   cases ib with
   | false =>
    go_wp2_with (first | (refine wpList_load_mid rfl 91 _ rfl b (off + m * 9) (by first | rfl | (simp; done)) _ _ hrrH.out Tryz.underlying91 rfl isz.out ?_) | (go_at_call 151; refine (hc.out _ (below_1 _ _)).mono ?_; rintro e w2 ⟨rfl, hb2⟩))
    go_ret
    exact ⟨by rw [hstep.out]; rfl, below_on2 hBn.out hb2⟩
   | true =>
    go_wp2_with (first | (refine wpList_load_mid rfl 91 _ rfl b (off + m * 9) (by first | rfl | (simp; done)) _ _ hrrH.out Tryz.underlying91 rfl isz.out ?_) | (go_at_call 151; refine (hc.out _ (below_1 _ _)).mono ?_; rintro e w2 ⟨rfl, hb2⟩))
    go_roundw
    case rel => exact ⟨m + 1, by omega, by go_num, (show _ = R by rw [hstep.out]; rfl), below_on2 hBn.out hb2⟩
    case measure => simp [intOf]; omega
  ·have hend := hz.out
   rw [List.drop_eq_nil_of_le (by omega)] at hend
   have hR : R = true := hend.symm
   subst hR
   clear hend
   go_wp2
   go_ret
   exact ⟨rfl, hB.out⟩
theorem allWhole_calls (p : MethL → Bool) (v : Value) (xs : List MethL) (w : World) (lo hi : Nat) (hh : hi ≤ w.heap.size) (ht : ListAt MethR 9 true lo hi w v xs) (hn : xs.length ≤ 1048576)
  (hG : ∀ x ∈ xs, ∀ (W : World) (row : List Value), Below w.heap.size w W → MethR true lo hi W row x → Calls Tryz.prog 156 #[.agg row.toArray] W fun e w' => e = .returned (.bool (p x)) ∧ Below W.heap.size W w') :
  Calls Tryz.prog 150 #[v, .func (.func 156) #[] #[]] w fun e w' => e = .returned (.bool (xs.all p)) ∧ Below w.heap.size w w' := by
 obtain ⟨a, c, rfl⟩ := ht.form
 have htH : Hid (∀ W, Below w.heap.size w W → ListAt MethR 9 true lo hi W (.slice a xs.length c) xs) := fun W hW => ht.kept MethR.stable (Nat.le_refl _) (Nat.le_refl _) ((Same.below hW).mono (Nat.zero_le _) hh)
 have gH : Hid (∀ x ∈ xs, ∀ (W : World) (row : List Value), Below w.heap.size w W → MethR true lo hi W row x → Calls Tryz.prog 156 #[.agg row.toArray] W fun e w' => e = .returned (.bool (p x)) ∧ Below W.heap.size W w') := hG
 have hhH : Hid (hi ≤ w.heap.size) := hh
 have isz : Hid ((Tryz.prog.info? 91).map (·.size) = some 9) := by show (Tryz.prog.info? 91).map (·.size) = some 9; kernel_rfl
 obtain ⟨R, hR⟩ : ∃ R, xs.all p = R := ⟨_, rfl⟩
 rw [hR]
 have hRH : Hid (xs.all p = R) := hR
 clear hR ht hh hG
 go_enter Tryz.func150, Tryz.ntmps150
 go_wp2
 go_loopw [9] (fun i wr => ∃ m : Nat, m ≤ xs.length ∧ i = .int .i64 m ∧ Hid ((xs.drop m).all p = R) ∧ Hid (Below w.heap.size w wr)) (fun i _ => xs.length - (intOf i).toNat)
 case atStart => exact ⟨0, Nat.zero_le _, rfl, hRH.out, Below.refl _ _⟩
 case round =>
  obtain ⟨m, hm, rfl, hz, hB⟩ := hrel
  by_cases hlt : m < xs.length
  ·obtain ⟨b, off, row, rfl, hbb, hrl, hrr, hrx⟩ := (htH.out wr hB.out).at m hlt
   have hlt' : (m : Int) < (xs.length : Int) := by omega
   have hmem := List.getElem_mem hlt
   have hdr := List.drop_eq_getElem_cons hlt
   obtain ⟨x, hxm⟩ : ∃ x, x = xs[m] := ⟨_, rfl⟩
   rw [← hxm] at hrx hdr hmem
   have hc : Hid (∀ W, Below wr.heap.size wr W → Calls Tryz.prog 156 #[.agg row.toArray] W fun e w' => e = .returned (.bool (p x)) ∧ Below W.heap.size W w') := fun W hW =>
    gH.out x hmem W row (below_on2 hB.out hW) (MethR.stable _ _ _ _ _ _ _ _ _ hrx (Nat.le_refl _) (Nat.le_refl _) ((Same.below hW).mono (Nat.zero_le _) (by have := hhH.out; have := hB.out.size; omega)))
   obtain ⟨p1, p2, p3, p4, rfl, f1, f2, f3, f4⟩ := hrx
   obtain ⟨a1, c1, rfl⟩ := f1.form
   obtain ⟨a2, c2, rfl⟩ := f2.form
   obtain ⟨a3, c3, rfl⟩ := f3.form
   obtain ⟨a4, c4, rfl⟩ := f4.form
   clear f1 f2 f3 f4
   generalize x.code.length = n1 at *
   generalize x.hands.length = n2 at *
   generalize x.frames.length = n3 at *
   generalize x.lines.length = n4 at *
   have hstep : Hid (R = (p x && (xs.drop (m + 1)).all p)) := by
    have := hz.out
    rw [hdr] at this
    exact this.symm
   obtain ⟨ib, hib⟩ : ∃ ib, p x = ib := ⟨_, rfl⟩
   rw [hib] at hstep hc
   have hrrH : Hid (wr.rangeAt b (off + m * 9) [.string x.name, .string x.sig, .int .i64 x.flags, .int .i64 x.stack, .int .i64 x.locals, .slice a1 n1 c1, .slice a2 n2 c2, .slice a3 n3 c3, .slice a4 n4 c4]) := hrr
   have hBn : Hid (Below w.heap.size w (wr.alloc (.cells #[.string x.name, .string x.sig, .int .i64 x.flags, .int .i64 x.stack, .int .i64 x.locals, .slice a1 n1 c1, .slice a2 n2 c2, .slice a3 n3 c3, .slice a4 n4 c4] 91))) := below_on2 hB.out (below_1 _ _)
   clear hrr hrl hxm hdr hmem hib
   cases ib with
   | false =>
    go_wp2_with (first | (refine wpList_load_mid rfl 91 _ rfl b (off + m * 9) (by first | rfl | (simp; done)) _ _ hrrH.out Tryz.underlying91 rfl isz.out ?_) | (go_at_call 156; refine (hc.out _ (below_1 _ _)).mono ?_; rintro e w2 ⟨rfl, hb2⟩))
    go_ret
    exact ⟨by rw [hstep.out]; rfl, below_on2 hBn.out hb2⟩
   | true =>
    go_wp2_with (first | (refine wpList_load_mid rfl 91 _ rfl b (off + m * 9) (by first | rfl | (simp; done)) _ _ hrrH.out Tryz.underlying91 rfl isz.out ?_) | (go_at_call 156; refine (hc.out _ (below_1 _ _)).mono ?_; rintro e w2 ⟨rfl, hb2⟩))
    go_roundw
    case rel => exact ⟨m + 1, by omega, by go_num, (show _ = R by rw [hstep.out]; rfl), below_on2 hBn.out hb2⟩
    case measure => simp [intOf]; omega
  ·have hend := hz.out
   rw [List.drop_eq_nil_of_le (by omega)] at hend
   have hR : R = true := hend.symm
   subst hR
   clear hend
   go_wp2
   go_ret
   exact ⟨rfl, hB.out⟩
theorem allOpen_calls (p : MethL → Bool) (v : Value) (xs : List MethL) (w : World) (lo hi : Nat) (hh : hi ≤ w.heap.size) (ht : ListAt MethR 9 true lo hi w v xs) (hn : xs.length ≤ 1048576)
  (hG : ∀ x ∈ xs, ∀ (W : World) (row : List Value), Below w.heap.size w W → MethR true lo hi W row x → Calls Tryz.prog 158 #[.agg row.toArray] W fun e w' => e = .returned (.bool (p x)) ∧ Below W.heap.size W w') :
  Calls Tryz.prog 150 #[v, .func (.func 158) #[] #[]] w fun e w' => e = .returned (.bool (xs.all p)) ∧ Below w.heap.size w w' := by
 obtain ⟨a, c, rfl⟩ := ht.form
 have htH : Hid (∀ W, Below w.heap.size w W → ListAt MethR 9 true lo hi W (.slice a xs.length c) xs) := fun W hW => ht.kept MethR.stable (Nat.le_refl _) (Nat.le_refl _) ((Same.below hW).mono (Nat.zero_le _) hh)
 have gH : Hid (∀ x ∈ xs, ∀ (W : World) (row : List Value), Below w.heap.size w W → MethR true lo hi W row x → Calls Tryz.prog 158 #[.agg row.toArray] W fun e w' => e = .returned (.bool (p x)) ∧ Below W.heap.size W w') := hG
 have hhH : Hid (hi ≤ w.heap.size) := hh
 have isz : Hid ((Tryz.prog.info? 91).map (·.size) = some 9) := by show (Tryz.prog.info? 91).map (·.size) = some 9; kernel_rfl
 obtain ⟨R, hR⟩ : ∃ R, xs.all p = R := ⟨_, rfl⟩
 rw [hR]
 have hRH : Hid (xs.all p = R) := hR
 clear hR ht hh hG
 go_enter Tryz.func150, Tryz.ntmps150
 go_wp2
 go_loopw [9] (fun i wr => ∃ m : Nat, m ≤ xs.length ∧ i = .int .i64 m ∧ Hid ((xs.drop m).all p = R) ∧ Hid (Below w.heap.size w wr)) (fun i _ => xs.length - (intOf i).toNat)
 case atStart => exact ⟨0, Nat.zero_le _, rfl, hRH.out, Below.refl _ _⟩
 case round =>
  obtain ⟨m, hm, rfl, hz, hB⟩ := hrel
  by_cases hlt : m < xs.length
  ·obtain ⟨b, off, row, rfl, hbb, hrl, hrr, hrx⟩ := (htH.out wr hB.out).at m hlt
   have hlt' : (m : Int) < (xs.length : Int) := by omega
   have hmem := List.getElem_mem hlt
   have hdr := List.drop_eq_getElem_cons hlt
   obtain ⟨x, hxm⟩ : ∃ x, x = xs[m] := ⟨_, rfl⟩
   rw [← hxm] at hrx hdr hmem
   have hc : Hid (∀ W, Below wr.heap.size wr W → Calls Tryz.prog 158 #[.agg row.toArray] W fun e w' => e = .returned (.bool (p x)) ∧ Below W.heap.size W w') := fun W hW =>
    gH.out x hmem W row (below_on2 hB.out hW) (MethR.stable _ _ _ _ _ _ _ _ _ hrx (Nat.le_refl _) (Nat.le_refl _) ((Same.below hW).mono (Nat.zero_le _) (by have := hhH.out; have := hB.out.size; omega)))
   obtain ⟨p1, p2, p3, p4, rfl, f1, f2, f3, f4⟩ := hrx
   obtain ⟨a1, c1, rfl⟩ := f1.form
   obtain ⟨a2, c2, rfl⟩ := f2.form
   obtain ⟨a3, c3, rfl⟩ := f3.form
   obtain ⟨a4, c4, rfl⟩ := f4.form
   clear f1 f2 f3 f4
   generalize x.code.length = n1 at *
   generalize x.hands.length = n2 at *
   generalize x.frames.length = n3 at *
   generalize x.lines.length = n4 at *
   have hstep : Hid (R = (p x && (xs.drop (m + 1)).all p)) := by
    have := hz.out
    rw [hdr] at this
    exact this.symm
   obtain ⟨ib, hib⟩ : ∃ ib, p x = ib := ⟨_, rfl⟩
   rw [hib] at hstep hc
   have hrrH : Hid (wr.rangeAt b (off + m * 9) [.string x.name, .string x.sig, .int .i64 x.flags, .int .i64 x.stack, .int .i64 x.locals, .slice a1 n1 c1, .slice a2 n2 c2, .slice a3 n3 c3, .slice a4 n4 c4]) := hrr
   have hBn : Hid (Below w.heap.size w (wr.alloc (.cells #[.string x.name, .string x.sig, .int .i64 x.flags, .int .i64 x.stack, .int .i64 x.locals, .slice a1 n1 c1, .slice a2 n2 c2, .slice a3 n3 c3, .slice a4 n4 c4] 91))) := below_on2 hB.out (below_1 _ _)
   clear hrr hrl hxm hdr hmem hib
   cases ib with
   | false =>
    go_wp2_with (first | (refine wpList_load_mid rfl 91 _ rfl b (off + m * 9) (by first | rfl | (simp; done)) _ _ hrrH.out Tryz.underlying91 rfl isz.out ?_) | (go_at_call 158; refine (hc.out _ (below_1 _ _)).mono ?_; rintro e w2 ⟨rfl, hb2⟩))
    go_ret
    exact ⟨by rw [hstep.out]; rfl, below_on2 hBn.out hb2⟩
   | true =>
    go_wp2_with (first | (refine wpList_load_mid rfl 91 _ rfl b (off + m * 9) (by first | rfl | (simp; done)) _ _ hrrH.out Tryz.underlying91 rfl isz.out ?_) | (go_at_call 158; refine (hc.out _ (below_1 _ _)).mono ?_; rintro e w2 ⟨rfl, hb2⟩))
    go_roundw
    case rel => exact ⟨m + 1, by omega, by go_num, (show _ = R by rw [hstep.out]; rfl), below_on2 hBn.out hb2⟩
    case measure => simp [intOf]; omega
  ·have hend := hz.out
   rw [List.drop_eq_nil_of_le (by omega)] at hend
   have hR : R = true := hend.symm
   subst hR
   clear hend
   go_wp2
   go_ret
   exact ⟨rfl, hB.out⟩
open Go.Maps Go.WideMaps
open Go.ChangeShapes Go.WideShapes Go.ChangeAt Go.RowKit
def constF (x : FieldL) : Bool := x.flags == 3
def wholeM (x : MethL) : Bool := !hasB x.flags 4
def openQ (x : MethL) : Bool := !(x.name.toList == [110, 101, 119]) && !hasB x.flags 34
def fieldI (x : FieldL) : Bool := nameOk x.name.data.toList && (typeL x.ty.data.toList && (sumB x.flags 27 && !(hasB x.flags 2 && hasB x.flags 16)))
theorem itself_calls (s : ByteArray) (w : World) : Calls Tryz.prog 144 #[.string s] w fun e w' => e = .returned (.string s) ∧ w' = w := by
 go_enter Tryz.func144, Tryz.ntmps144
 go_wp2
 go_ret
 exact ⟨rfl, rfl⟩
theorem fieldKey_calls (a b : ByteArray) (f : Int) (w : World) : Calls Tryz.prog 152 #[.agg #[.string a, .string b, .int .i64 f]] w fun e w' => e = .returned (.string a) ∧ ∃ o, w' = w.alloc o := by
 go_enter Tryz.func152, Tryz.ntmps152
 go_wp2
 go_ret
 exact ⟨rfl, _, rfl⟩
theorem constF_calls (x : FieldL) (w : World) (row : List Value) (lo hi : Nat) (hx : FieldR true lo hi w row x) : Calls Tryz.prog 157 #[.agg row.toArray] w fun e w' => e = .returned (.bool (constF x)) ∧ Below w.heap.size w w' := by
 obtain rfl : row = [.string x.name, .string x.ty, .int .i64 x.flags] := hx
 unfold constF
 go_enter Tryz.func157, Tryz.ntmps157
 go_wp2
 go_ret
 exact ⟨by first | rfl | simp, below_1 _ _⟩
theorem wholeM_calls (x : MethL) (w : World) (row : List Value) (lo hi : Nat) (hx : MethR true lo hi w row x) : Calls Tryz.prog 156 #[.agg row.toArray] w fun e w' => e = .returned (.bool (wholeM x)) ∧ Below w.heap.size w w' := by
 obtain ⟨p1, p2, p3, p4, rfl, f1, f2, f3, f4⟩ := hx
 obtain ⟨a1, c1, rfl⟩ := f1.form
 obtain ⟨a2, c2, rfl⟩ := f2.form
 obtain ⟨a3, c3, rfl⟩ := f3.form
 obtain ⟨a4, c4, rfl⟩ := f4.form
 have fH : Hid (∀ g W, Calls Tryz.prog 98 #[.int .i64 x.flags, .int .i64 g] W fun e w' => e = .returned (.bool (hasB x.flags g)) ∧ w' = W) := fun g W => hasFlag_calls x.flags g W
 clear f1 f2 f3 f4
 unfold wholeM
 go_enter Tryz.func156, Tryz.ntmps156
 go_wp2_with (go_at_call 98; refine (fH.out _ _).mono ?_; rintro e w2 ⟨rfl, rfl⟩)
 go_ret
 exact ⟨rfl, below_1 _ _⟩
theorem openQ_calls (x : MethL) (w : World) (row : List Value) (lo hi : Nat) (hx : MethR true lo hi w row x) : Calls Tryz.prog 158 #[.agg row.toArray] w fun e w' => e = .returned (.bool (openQ x)) ∧ Below w.heap.size w w' := by
 obtain ⟨p1, p2, p3, p4, rfl, f1, f2, f3, f4⟩ := hx
 obtain ⟨a1, c1, rfl⟩ := f1.form
 obtain ⟨a2, c2, rfl⟩ := f2.form
 obtain ⟨a3, c3, rfl⟩ := f3.form
 obtain ⟨a4, c4, rfl⟩ := f4.form
 have fH : Hid (∀ g W, Calls Tryz.prog 98 #[.int .i64 x.flags, .int .i64 g] W fun e w' => e = .returned (.bool (hasB x.flags g)) ∧ w' = W) := fun g W => hasFlag_calls x.flags g W
 clear f1 f2 f3 f4
 unfold openQ
 by_cases hn : x.name.toList = [110, 101, 119]
 ·have hb : (x.name.toList == [110, 101, 119]) = true := by rw [hn]; rfl
  rw [hb]
  go_enter Tryz.func158, Tryz.ntmps158
  go_wp2_with (go_at_call 98; refine (fH.out _ _).mono ?_; rintro e w2 ⟨rfl, rfl⟩)
  go_ret
  exact ⟨rfl, below_1 _ _⟩
 ·have hb : (x.name.toList == [110, 101, 119]) = false := by simpa using hn
  rw [hb]
  go_enter Tryz.func158, Tryz.ntmps158
  go_wp2_with (go_at_call 98; refine (fH.out _ _).mono ?_; rintro e w2 ⟨rfl, rfl⟩)
  go_ret
  exact ⟨rfl, below_1 _ _⟩
theorem methKey_calls (x : MethL) (w : World) (a1 : Option Addr) (n1 c1 : Nat) (a2 : Option Addr) (n2 c2 : Nat) (a3 : Option Addr) (n3 c3 : Nat) (a4 : Option Addr) (n4 c4 : Nat) : Calls Tryz.prog 153 #[.agg #[.string x.name, .string x.sig, .int .i64 x.flags, .int .i64 x.stack, .int .i64 x.locals, .slice a1 n1 c1, .slice a2 n2 c2, .slice a3 n3 c3, .slice a4 n4 c4]] w fun e w' => e = .returned (.agg #[.string x.name, .string x.sig]) ∧ ∃ o1 o2, w' = (w.alloc o1).alloc o2 := by
 go_enter Tryz.func153, Tryz.ntmps153
 go_wp2
 refine bodyPost_ret (v := .agg #[.string x.name, .string x.sig]) (results_cell_mid rfl _ _ (w.heap.size + 1) [.string x.name, .string x.sig] _ rfl (rangeAt_heap (by simpa using heap_alloc_new (w.alloc _) _)) Tryz.underlying177 rfl (by kernel_rfl)) rfl ⟨rfl, _, _, rfl⟩
theorem fieldOk_calls (x : FieldL) (w : World) (row : List Value) (lo hi : Nat) (hx : FieldR true lo hi w row x) (hy : x.small) : Calls Tryz.prog 149 #[.agg row.toArray] w fun e w' => e = .returned (.bool (fieldI x)) ∧ Below w.heap.size w w' := by
 obtain rfl : row = [.string x.name, .string x.ty, .int .i64 x.flags] := hx
 obtain ⟨hN, hT⟩ := hy
 have nH : Hid (∀ W, Calls Tryz.prog 111 #[.string x.name] W fun e w' => e = .returned (.bool (nameOk x.name.data.toList)) ∧ Below W.heap.size W w') := fun W => implName_below x.name W (by omega)
 have tH : Hid (∀ W, Calls Tryz.prog 179 #[.string x.ty] W fun e w' => e = .returned (.bool (typeL x.ty.data.toList)) ∧ Below W.heap.size W w') := fun W => implType_calls x.ty W (by omega)
 have sH : Hid (∀ W, Calls Tryz.prog 113 #[.int .i64 x.flags, .int .i64 27] W fun e w' => e = .returned (.bool (sumB x.flags 27)) ∧ w' = W) := fun W => sumOf_calls x.flags 27 W
 have fH : Hid (∀ g W, Calls Tryz.prog 98 #[.int .i64 x.flags, .int .i64 g] W fun e w' => e = .returned (.bool (hasB x.flags g)) ∧ w' = W) := fun g W => hasFlag_calls x.flags g W
 obtain ⟨R, hR⟩ : ∃ R, fieldI x = R := ⟨_, rfl⟩
 rw [hR]
 unfold fieldI at hR
 generalize nameOk x.name.data.toList = b1 at *
 generalize typeL x.ty.data.toList = b2 at *
 generalize sumB x.flags 27 = b3 at *
 have hRH : Hid (_ = R) := hR
 clear hR hN hT
 go_enter Tryz.func149, Tryz.ntmps149
 go_wp2_with fail
 obtain ⟨W0, hW0⟩ : ∃ W : World, W = w.alloc (.cells #[.string x.name, .string x.ty, .int .i64 x.flags] 36) := ⟨_, rfl⟩
 rw [← hW0]
 have r0 : Hid (Rec1 w W0 [.string x.name, .string x.ty, .int .i64 x.flags]) := Rec1.start hW0
 clear hW0
 refine (nH.out W0).mono ?_
 rintro e w1 ⟨rfl, hb1⟩
 have r1 : Hid (Rec1 w w1 [.string x.name, .string x.ty, .int .i64 x.flags]) := r0.out.call hb1
 have y1 := r1.out.cell 1 _ rfl
 clear hb1
 cases b1 with
 | false =>
  go_wp2
  go_ret
  exact ⟨by rw [← hRH.out]; rfl, r1.out.hb⟩
 | true =>
  go_wp2_with fail
  clear y1
  refine (tH.out _).mono ?_
  rintro e w2 ⟨rfl, hb2⟩
  have r2 : Hid (Rec1 w w2 [.string x.name, .string x.ty, .int .i64 x.flags]) := r1.out.call hb2
  have y2 := r2.out.cell 2 _ rfl
  clear hb2
  cases b2 with
  | false =>
   go_wp2
   go_ret
   exact ⟨by rw [← hRH.out]; rfl, r2.out.hb⟩
  | true =>
   go_wp2_with fail
   refine (sH.out _).mono ?_
   rintro e w3 ⟨rfl, rfl⟩
   cases b3 with
   | false =>
    go_wp2
    go_ret
    exact ⟨by rw [← hRH.out]; rfl, r2.out.hb⟩
   | true =>
    cases h2 : hasB x.flags 2
    all_goals (
     go_wp2_with (go_at_call 98; refine (fH.out _ _).mono ?_; rintro e w2 ⟨rfl, rfl⟩)
     go_ret
     exact ⟨by rw [← hRH.out]; simp [h2], r2.out.hb⟩)
theorem run_makeMap_hint {P : Program} {t k e : TypeId} (hu : P.underlying t = some (.map k e)) (n : Int) (w : World) : (Instr.makeMap t (some (.int .i64 n))).run P w = .ok (.map (some w.heap.size)) (w.alloc (.map #[] 0)) := by
 simp [Instr.makeMap, run_underlying hu, asInt, asIntOf, Result.andThen]
theorem take_map_succ {α : Type} (f : α → Lit) (xs : List α) (m : Nat) (h : m < xs.length) : (xs.take (m + 1)).map f = (xs.take m).map f ++ [f xs[m]] := by
 rw [List.take_add_one, List.map_append]
 simp [List.getElem?_eq_getElem h]
theorem law9 : Keyed Tryz.prog 9 := string_keyed Tryz.underlying9
theorem laidOut_prog : laidOutB Tryz.prog = true := by kernel_rfl
theorem row125 : (177 : TypeId) < Tryz.prog.types.size := of_decide_eq_true (by kernel_rfl)
theorem wide125 : (match Tryz.prog.underlying 177 with | some (.array _ _) | some (.struct _) => true | _ => false) = true := by kernel_rfl
theorem key125 : Tryz.prog.keyTypeAt 2 177 = true := by kernel_rfl
theorem law125 : Keyed Tryz.prog 177 := Keyed.of_law (deep_law_laid laidOut_prog (m := 2) (by omega) row125 key125 wide125)
def strLit (s : ByteArray) : List UInt8 := s.data.toList
def pairLit (a b : ByteArray) : List UInt8 := keyBytes [.string a.data.toList, .string b.data.toList]
def setD {α : Type} (f : α → List UInt8) (xs : List α) (m : Nat) : DataW Unit := setOf (.agg []) ((xs.take m).map fun x => .string (f x))
theorem setD_succ {α : Type} (f : α → List UInt8) (xs : List α) (m : Nat) (h : m < xs.length) : setD f xs (m + 1) = (setD f xs m).put (.string (f xs[m])) (.agg []) := by
 unfold setD; rw [take_map_succ (fun x => .string (f x)) xs m h, setOf_snoc]
theorem setD_size {α : Type} (f : α → List UInt8) (xs : List α) : size (setD f xs xs.length) = xs.length ↔ (xs.map f).Nodup := by
 have h := size_nodup (H := Unit) (.agg []) (xs.map fun x => Lit.string (f x)) (fun x hx => by obtain ⟨y, -, rfl⟩ := List.mem_map.1 hx; simp [WideAt.IsKeyLit])
 have e : (xs.map fun x => Lit.string (f x)) = (xs.map f).map Lit.string := by simp
 rw [e, nodup_map (fun a b h => by injection h), ← e] at h
 simpa [setD] using h
theorem differS_calls (v : Value) (xs : List ByteArray) (w : World) (lo hi : Nat) (hh : hi ≤ w.heap.size) (ht : ListAt StrR 1 true lo hi w v xs) (hn : xs.length ≤ 1048576) (hs : ∀ x ∈ xs, x.size ≤ 1048576) :
  Calls Tryz.prog 146 #[v, .func (.func 144) #[] #[]] w fun e w' => e = .returned (.bool (decide ((xs.map strLit).Nodup))) ∧ Below w.heap.size w w' := by
 have hmm := run_makeMap_hint (P := Tryz.prog) Tryz.underlying146
 obtain ⟨a, c, rfl⟩ := ht.form
 have htH : Hid (∀ W, Below w.heap.size w W → ListAt StrR 1 true lo hi W (.slice a xs.length c) xs) := fun W hW => ht.kept StrR.stable (Nat.le_refl _) (Nat.le_refl _) ((Same.below hW).mono (Nat.zero_le _) hh)
 have hsH : Hid (∀ x ∈ xs, x.size ≤ 1048576) := hs
 have isz : Hid ((Tryz.prog.info? 9).map (·.size) = some 1) := by show (Tryz.prog.info? 9).map (·.size) = some 1; kernel_rfl
 have hfin : Hid (size (setD strLit xs xs.length) = xs.length ↔ (xs.map strLit).Nodup) := setD_size _ _
 obtain ⟨R, hR⟩ : ∃ R, decide ((xs.map strLit).Nodup) = R := ⟨_, rfl⟩
 rw [hR]
 have hRH : Hid (decide ((xs.map strLit).Nodup) = R) := hR
 clear hR ht hh hs
 go_enter Tryz.func146, Tryz.ntmps146
 go_wp2
 go_loopw [13] (fun i wr => ∃ m : Nat, m ≤ xs.length ∧ i = .int .i64 m ∧ Hid (wr.ownsMap Tryz.prog 9 unitElem w.heap.size m (setD strLit xs m)) ∧ Hid (Below w.heap.size w wr)) (fun i _ => xs.length - (intOf i).toNat)
 case atStart => exact ⟨0, Nat.zero_le _, rfl, World.ownsMap_made _ _ _ _, below_1 _ _⟩
 case round =>
  obtain ⟨m, hm, rfl, hO, hB⟩ := hrel
  clear hmm
  by_cases hlt : m < xs.length
  ·obtain ⟨b, off, row, rfl, hbb, hrl, hrr, hrx⟩ := (htH.out wr hB.out).at m hlt
   have hlt' : (m : Int) < (xs.length : Int) := by omega
   have hsucc := setD_succ strLit xs m hlt
   have hsm := hsH.out _ (List.getElem_mem hlt)
   obtain ⟨x, hxm⟩ : ∃ x, x = xs[m] := ⟨_, rfl⟩
   rw [← hxm] at hrx hsucc hsm
   have hkey : Hid (keyOf Tryz.prog 9 (.string x) = some (.string (strLit x))) := keyOf_string_mk Tryz.underlying9 (by unfold maxLen; omega)
   have hsuccH : Hid (setD strLit xs (m + 1) = (setD strLit xs m).put (.string (strLit x)) (.agg [])) := hsucc
   have hrow : row = [.string x] := hrx
   have hcell : wr.cell? ⟨b, off + m, none⟩ = some (.string x) := by simpa using hrr 0 (.string x) (by rw [hrow]; rfl)
   clear hrow hrx
   clear hsucc hsm hrr hrl hxm
   go_wp2_with (first
    | (go_at_call 144; refine (itself_calls _ _).mono ?_; rintro e w2 ⟨rfl, rfl⟩)
    | (at_mapUpdate; refine wpList_mapUpdate_own _ rfl _ _ _ 146 rfl 9 147 law9 Tryz.underlying146 (unitElem (H := Unit)) w.heap.size m _ rfl hO.out (by unfold maxLen; omega) _ _ _ rfl rfl hkey.out _ [] unitElem_mk ?_; intro w5 hown5 hgrow5))
   go_roundw
   case rel => exact ⟨m + 1, by omega, by go_num, hsuccH.out ▸ hown5, (hB.out).grown hgrow5 (hB.out).size (fun j hj => by cases hj; exact Nat.le_refl _)⟩
   case measure => simp [intOf]; omega
  ·have hme : m = xs.length := by omega
   subst hme
   have hle := hO.out.size_le
   cases R with
   | false =>
    have hne : ¬ size (setD strLit xs xs.length) = xs.length := fun e => by have h2 := hRH.out; rw [decide_eq_true (hfin.out.1 e)] at h2; cases h2
    go_wp2_with (refine wpList_len_own _ rfl _ 146 rfl 9 147 Tryz.underlying146 _ w.heap.size _ _ rfl hO.out ?_)
    go_ret
    exact ⟨by generalize size (setD strLit xs xs.length) = z at *; simp; omega, hB.out⟩
   | true =>
    have he : size (setD strLit xs xs.length) = xs.length := hfin.out.2 (of_decide_eq_true hRH.out)
    go_wp2_with (refine wpList_len_own _ rfl _ 146 rfl 9 147 Tryz.underlying146 _ w.heap.size _ _ rfl hO.out ?_)
    go_ret
    exact ⟨by simp, hB.out⟩
theorem differF_calls (v : Value) (xs : List FieldL) (w : World) (lo hi : Nat) (hh : hi ≤ w.heap.size) (ht : ListAt FieldR 3 true lo hi w v xs) (hn : xs.length ≤ 1048576) (hs : ∀ x ∈ xs, x.small) :
  Calls Tryz.prog 154 #[v, .func (.func 152) #[] #[]] w fun e w' => e = .returned (.bool (decide ((xs.map (fun x : FieldL => strLit x.name)).Nodup))) ∧ Below w.heap.size w w' := by
 have hmm := run_makeMap_hint (P := Tryz.prog) Tryz.underlying146
 obtain ⟨a, c, rfl⟩ := ht.form
 have htH : Hid (∀ W, Below w.heap.size w W → ListAt FieldR 3 true lo hi W (.slice a xs.length c) xs) := fun W hW => ht.kept FieldR.stable (Nat.le_refl _) (Nat.le_refl _) ((Same.below hW).mono (Nat.zero_le _) hh)
 have hsH : Hid (∀ x ∈ xs, x.small) := hs
 have isz : Hid ((Tryz.prog.info? 36).map (·.size) = some 3) := by show (Tryz.prog.info? 36).map (·.size) = some 3; kernel_rfl
 have hfin : Hid (size (setD (fun x : FieldL => strLit x.name) xs xs.length) = xs.length ↔ (xs.map (fun x : FieldL => strLit x.name)).Nodup) := setD_size _ _
 obtain ⟨R, hR⟩ : ∃ R, decide ((xs.map (fun x : FieldL => strLit x.name)).Nodup) = R := ⟨_, rfl⟩
 rw [hR]
 have hRH : Hid (decide ((xs.map (fun x : FieldL => strLit x.name)).Nodup) = R) := hR
 clear hR ht hh hs
 go_enter Tryz.func154, Tryz.ntmps154
 go_wp2
 go_loopw [13] (fun i wr => ∃ m : Nat, m ≤ xs.length ∧ i = .int .i64 m ∧ Hid (wr.ownsMap Tryz.prog 9 unitElem w.heap.size m (setD (fun x : FieldL => strLit x.name) xs m)) ∧ Hid (Below w.heap.size w wr)) (fun i _ => xs.length - (intOf i).toNat)
 case atStart => exact ⟨0, Nat.zero_le _, rfl, World.ownsMap_made _ _ _ _, below_1 _ _⟩
 case round =>
  obtain ⟨m, hm, rfl, hO, hB⟩ := hrel
  clear hmm
  by_cases hlt : m < xs.length
  ·obtain ⟨b, off, row, rfl, hbb, hrl, hrr, hrx⟩ := (htH.out wr hB.out).at m hlt
   have hlt' : (m : Int) < (xs.length : Int) := by omega
   have hsucc := setD_succ (fun x : FieldL => strLit x.name) xs m hlt
   have hsm := hsH.out _ (List.getElem_mem hlt)
   obtain ⟨x, hxm⟩ : ∃ x, x = xs[m] := ⟨_, rfl⟩
   rw [← hxm] at hrx hsucc hsm
   obtain rfl : row = [.string x.name, .string x.ty, .int .i64 x.flags] := hrx
   have hkey : Hid (keyOf Tryz.prog 9 (.string x.name) = some (.string ((fun x : FieldL => strLit x.name) x))) := keyOf_string_mk Tryz.underlying9 (by unfold maxLen; have := hsm.1; omega)
   have hsuccH : Hid (setD (fun x : FieldL => strLit x.name) xs (m + 1) = (setD (fun x : FieldL => strLit x.name) xs m).put (.string ((fun x : FieldL => strLit x.name) x)) (.agg [])) := hsucc
   have hrrH : Hid (wr.rangeAt b (off + m * 3) [.string x.name, .string x.ty, .int .i64 x.flags]) := hrr
   clear hsucc hsm hrr hrl hxm
   go_wp2_with (first
    | (refine wpList_load_mid rfl 36 _ rfl b (off + m * 3) (by first | rfl | (simp; done)) _ _ hrrH.out Tryz.underlying36 rfl isz.out ?_)
    | (go_at_call 152; refine (fieldKey_calls _ _ _ _).mono ?_; rintro e w2 ⟨rfl, o1, rfl⟩)
    | (at_mapUpdate; refine wpList_mapUpdate_own _ rfl _ _ _ 146 rfl 9 147 law9 Tryz.underlying146 (unitElem (H := Unit)) w.heap.size m _ rfl ((hO.out.alloc _).alloc _) (by unfold maxLen; omega) _ _ _ rfl rfl hkey.out _ [] unitElem_mk ?_; intro w5 hown5 hgrow5))
   go_roundw
   case rel => exact ⟨m + 1, by omega, by go_num, hsuccH.out ▸ hown5, (below_on2 hB.out (below_2 _ _ _)).grown hgrow5 (below_on2 hB.out (below_2 _ _ _)).size (fun j hj => by cases hj; exact Nat.le_refl _)⟩
   case measure => simp [intOf]; omega
  ·have hme : m = xs.length := by omega
   subst hme
   have hle := hO.out.size_le
   cases R with
   | false =>
    have hne : ¬ size (setD (fun x : FieldL => strLit x.name) xs xs.length) = xs.length := fun e => by have h2 := hRH.out; rw [decide_eq_true (hfin.out.1 e)] at h2; cases h2
    go_wp2_with (refine wpList_len_own _ rfl _ 146 rfl 9 147 Tryz.underlying146 _ w.heap.size _ _ rfl hO.out ?_)
    go_ret
    exact ⟨by generalize size (setD (fun x : FieldL => strLit x.name) xs xs.length) = z at *; simp; omega, hB.out⟩
   | true =>
    have he : size (setD (fun x : FieldL => strLit x.name) xs xs.length) = xs.length := hfin.out.2 (of_decide_eq_true hRH.out)
    go_wp2_with (refine wpList_len_own _ rfl _ 146 rfl 9 147 Tryz.underlying146 _ w.heap.size _ _ rfl hO.out ?_)
    go_ret
    exact ⟨by simp, hB.out⟩
theorem pairLit_key (a b : ByteArray) (ha : a.size ≤ maxLen) (hb : b.size ≤ maxLen) : keyOf Tryz.prog 177 (.agg #[.string a, .string b]) = some (.string (pairLit a b)) := by
 have hk : Tryz.prog.keyType 177 = true := by kernel_rfl
 have hp : 0 < Tryz.prog.types.size := Nat.lt_of_le_of_lt (Nat.zero_le _) row125
 obtain ⟨n, hn⟩ : ∃ n, Tryz.prog.types.size = n + 1 := ⟨Tryz.prog.types.size - 1, (Nat.succ_pred_eq_of_pos hp).symm⟩
 have hc : Tryz.prog.cellsOf 177 = 2 := by kernel_rfl
 have hc9 : Tryz.prog.cellsOf 9 = 1 := by kernel_rfl
 have h1 : Tryz.prog.keyLits (n + 1) 9 [.string a] = some [.string a.data.toList] := by
  simp only [Program.keyLits, Tryz.underlying9, if_pos ha]
 have h2 : Tryz.prog.keyLits (n + 1) 9 [.string b] = some [.string b.data.toList] := by
  simp only [Program.keyLits, Tryz.underlying9, if_pos hb]
 have h3 : Tryz.prog.keyLits (n + 1 + 1) 177 [.string a, .string b] = some [.string a.data.toList, .string b.data.toList] := by
  unfold Program.keyLits
  simp only [Tryz.underlying177, hc]
  simp [hc9, h1, h2]
 have hf : Value.formed Tryz.prog 177 (.agg #[.string a, .string b]) = true := by
  simp only [Value.formed, Tryz.underlying177, hc]
  rfl
 unfold keyOf pairLit
 rw [Tryz.underlying177]
 simp only [hk, hf, hn, Value.cells, Bool.and_self, if_true]
 rw [h3]
 rfl
theorem differM_calls (v : Value) (xs : List MethL) (w : World) (lo hi : Nat) (hh : hi ≤ w.heap.size) (ht : ListAt MethR 9 true lo hi w v xs) (hn : xs.length ≤ 1048576) (hs : ∀ x ∈ xs, x.small) :
  Calls Tryz.prog 155 #[v, .func (.func 153) #[] #[]] w fun e w' => e = .returned (.bool (decide ((xs.map (fun x : MethL => pairLit x.name x.sig)).Nodup))) ∧ Below w.heap.size w w' := by
 have hmm := run_makeMap_hint (P := Tryz.prog) Tryz.underlying198
 obtain ⟨a, c, rfl⟩ := ht.form
 have htH : Hid (∀ W, Below w.heap.size w W → ListAt MethR 9 true lo hi W (.slice a xs.length c) xs) := fun W hW => ht.kept MethR.stable (Nat.le_refl _) (Nat.le_refl _) ((Same.below hW).mono (Nat.zero_le _) hh)
 have hsH : Hid (∀ x ∈ xs, x.small) := hs
 have isz : Hid ((Tryz.prog.info? 91).map (·.size) = some 9) := by show (Tryz.prog.info? 91).map (·.size) = some 9; kernel_rfl
 have hfin : Hid (size (setD (fun x : MethL => pairLit x.name x.sig) xs xs.length) = xs.length ↔ (xs.map (fun x : MethL => pairLit x.name x.sig)).Nodup) := setD_size _ _
 obtain ⟨R, hR⟩ : ∃ R, decide ((xs.map (fun x : MethL => pairLit x.name x.sig)).Nodup) = R := ⟨_, rfl⟩
 rw [hR]
 have hRH : Hid (decide ((xs.map (fun x : MethL => pairLit x.name x.sig)).Nodup) = R) := hR
 clear hR ht hh hs
 go_enter Tryz.func155, Tryz.ntmps155
 go_wp2
 go_loopw [13] (fun i wr => ∃ m : Nat, m ≤ xs.length ∧ i = .int .i64 m ∧ Hid (wr.ownsMap Tryz.prog 177 unitElem w.heap.size m (setD (fun x : MethL => pairLit x.name x.sig) xs m)) ∧ Hid (Below w.heap.size w wr)) (fun i _ => xs.length - (intOf i).toNat)
 case atStart => exact ⟨0, Nat.zero_le _, rfl, World.ownsMap_made _ _ _ _, below_1 _ _⟩
 case round =>
  obtain ⟨m, hm, rfl, hO, hB⟩ := hrel
  clear hmm
  by_cases hlt : m < xs.length
  ·obtain ⟨b, off, row, rfl, hbb, hrl, hrr, hrx⟩ := (htH.out wr hB.out).at m hlt
   have hlt' : (m : Int) < (xs.length : Int) := by omega
   have hsucc := setD_succ (fun x : MethL => pairLit x.name x.sig) xs m hlt
   have hsm := hsH.out _ (List.getElem_mem hlt)
   obtain ⟨x, hxm⟩ : ∃ x, x = xs[m] := ⟨_, rfl⟩
   rw [← hxm] at hrx hsucc hsm
   obtain ⟨p1, p2, p3, p4, rfl, f1, f2, f3, f4⟩ := hrx
   obtain ⟨a1, c1, rfl⟩ := f1.form
   obtain ⟨a2, c2, rfl⟩ := f2.form
   obtain ⟨a3, c3, rfl⟩ := f3.form
   obtain ⟨a4, c4, rfl⟩ := f4.form
   clear f1 f2 f3 f4
   generalize x.code.length = n1 at *
   generalize x.hands.length = n2 at *
   generalize x.frames.length = n3 at *
   generalize x.lines.length = n4 at *
   have hkey : Hid (keyOf Tryz.prog 177 (.agg #[.string x.name, .string x.sig]) = some (.string ((fun x : MethL => pairLit x.name x.sig) x))) := pairLit_key _ _ (by unfold maxLen; have := hsm.1; omega) (by unfold maxLen; have := hsm.2.1; omega)
   have hsuccH : Hid (setD (fun x : MethL => pairLit x.name x.sig) xs (m + 1) = (setD (fun x : MethL => pairLit x.name x.sig) xs m).put (.string ((fun x : MethL => pairLit x.name x.sig) x)) (.agg [])) := hsucc
   have hrrH : Hid (wr.rangeAt b (off + m * 9) [.string x.name, .string x.sig, .int .i64 x.flags, .int .i64 x.stack, .int .i64 x.locals, .slice a1 n1 c1, .slice a2 n2 c2, .slice a3 n3 c3, .slice a4 n4 c4]) := hrr
   clear hsucc hsm hrr hrl hxm
   go_wp2_with (first
    | (refine wpList_load_mid rfl 91 _ rfl b (off + m * 9) (by first | rfl | (simp; done)) _ _ hrrH.out Tryz.underlying91 rfl isz.out ?_)
    | (go_at_call 153; refine (methKey_calls x _ _ _ _ _ _ _ _ _ _ _ _ _).mono ?_; rintro e w2 ⟨rfl, o1, o2, rfl⟩)
    | (at_mapUpdate; refine wpList_mapUpdate_own _ rfl _ _ _ 198 rfl 177 147 law125 Tryz.underlying198 (unitElem (H := Unit)) w.heap.size m _ rfl (((hO.out.alloc _).alloc _).alloc _) (by unfold maxLen; omega) _ _ _ rfl rfl hkey.out _ [] unitElem_mk ?_; intro w5 hown5 hgrow5))
   go_roundw
   case rel => exact ⟨m + 1, by omega, by go_num, hsuccH.out ▸ hown5, (below_on2 hB.out (below_3 _ _ _ _)).grown hgrow5 (below_on2 hB.out (below_3 _ _ _ _)).size (fun j hj => by cases hj; exact Nat.le_refl _)⟩
   case measure => simp [intOf]; omega
  ·have hme : m = xs.length := by omega
   subst hme
   have hle := hO.out.size_le
   cases R with
   | false =>
    have hne : ¬ size (setD (fun x : MethL => pairLit x.name x.sig) xs xs.length) = xs.length := fun e => by have h2 := hRH.out; rw [decide_eq_true (hfin.out.1 e)] at h2; cases h2
    go_wp2_with (refine wpList_len_own _ rfl _ 198 rfl 177 147 Tryz.underlying198 _ w.heap.size _ _ rfl hO.out ?_)
    go_ret
    exact ⟨by generalize size (setD (fun x : MethL => pairLit x.name x.sig) xs xs.length) = z at *; simp; omega, hB.out⟩
   | true =>
    have he : size (setD (fun x : MethL => pairLit x.name x.sig) xs xs.length) = xs.length := hfin.out.2 (of_decide_eq_true hRH.out)
    go_wp2_with (refine wpList_len_own _ rfl _ 198 rfl 177 147 Tryz.underlying198 _ w.heap.size _ _ rfl hO.out ?_)
    go_ret
    exact ⟨by simp, hB.out⟩
end Go.Proofs.YtjjccimeikkogaaGreatDoor
