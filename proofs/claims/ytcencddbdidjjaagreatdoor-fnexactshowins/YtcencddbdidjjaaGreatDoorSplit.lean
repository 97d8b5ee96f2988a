/- A text cut at its commas, as lists of bytes; spec.l2Split: what it answers. -/
import Derived.Test.YtcencddbdidjjaaGreatDoorType
import Derived.OwnWalk
import Derived.LoopTactic
import Derived.Below
namespace Go.Proofs.YtcencddbdidjjaaGreatDoor
set_option linter.unusedVariables false
open Go.ChangeShapes Go.WideShapes Go.ChangeAt Go.RowKit

def mkS (p : List UInt8) : ByteArray := ⟨p.toArray⟩
theorem mkS_list (p : List UInt8) : (mkS p).data.toList = p := rfl
theorem mkS_of (s : ByteArray) : mkS s.data.toList = s := rfl
def rowS (ps : List (List UInt8)) : List Value := ps.map fun p => .string (mkS p)
theorem rowS_length (ps : List (List UInt8)) : (rowS ps).length = ps.length := by simp [rowS]

/-- The pieces between the commas. -/
def splitL : List UInt8 → List (List UInt8)
  | [] => [[]]
  | b :: t => if b = 44 then [] :: splitL t else match splitL t with
    | [] => [[b]]
    | p :: r => (b :: p) :: r
theorem splitL_ne (l : List UInt8) : splitL l ≠ [] := by
  cases l with
  | nil => simp [splitL]
  | cons b t =>
    simp only [splitL]
    split
    · simp
    · split <;> simp
theorem splitL_end : ∀ p : List UInt8, (∀ b ∈ p, b ≠ 44) → splitL p = [p]
  | [], _ => rfl
  | b :: t, h => by
    have ih := splitL_end t (fun x hx => h x (by simp [hx]))
    simp [splitL, h b (by simp), ih]
theorem splitL_step : ∀ (p t : List UInt8), (∀ b ∈ p, b ≠ 44) → splitL (p ++ 44 :: t) = p :: splitL t
  | [], t, _ => by simp [splitL]
  | b :: p, t, h => by
    have ih := splitL_step p t (fun x hx => h x (by simp [hx]))
    simp [splitL, h b (by simp), ih]
theorem splitL_length : ∀ l : List UInt8, (splitL l).length ≤ l.length + 1
  | [] => by simp [splitL]
  | b :: t => by
    have ih := splitL_length t
    simp only [splitL]
    split
    · simp; omega
    · split
      · simp
      · rename_i h; rw [h] at ih; simp at ih ⊢; omega

/-- Where the walk stands: 'pre' is laid, the piece that is under way began at f and goes to i. -/
def Mid (l : List UInt8) (pre : List (List UInt8)) (f i : Nat) : Prop :=
  (i ≤ l.length ∧ f ≤ i ∧ splitL l = pre ++ splitL (l.drop f) ∧ ∀ b ∈ (l.drop f).take (i - f), b ≠ 44) ∨ (i = l.length + 1 ∧ splitL l = pre)
theorem Mid.start (l : List UInt8) : Mid l [] 0 0 := .inl ⟨Nat.zero_le _, Nat.le_refl _, by simp, by simp⟩
theorem Mid.le {l : List UInt8} {pre : List (List UInt8)} {f i : Nat} (h : Mid l pre f i) : i ≤ l.length + 1 := by rcases h with h | h <;> omega
theorem Mid.count {l : List UInt8} {pre : List (List UInt8)} {f i : Nat} (h : Mid l pre f i) : pre.length ≤ l.length + 1 := by
  have := splitL_length l
  rcases h with ⟨_, _, h, _⟩ | ⟨_, h⟩
  · rw [h, List.length_append] at this; omega
  · rw [h] at this; exact this
theorem Mid.lt {l : List UInt8} {pre : List (List UInt8)} {f i : Nat} (h : Mid l pre f i) (hi : i ≤ l.length) : f ≤ i := by
  rcases h with h | h
  · exact h.2.1
  · omega
theorem take_next {l : List UInt8} {f i : Nat} (hf : f ≤ i) (hi : i < l.length) : (l.drop f).take (i + 1 - f) = (l.drop f).take (i - f) ++ [l[i]] := by
  rw [show i + 1 - f = (i - f) + 1 by omega, List.take_succ_eq_append_getElem (by rw [List.length_drop]; omega)]
  congr 2
  rw [List.getElem_drop]
  congr 1; omega
theorem Mid.skip {l : List UInt8} {pre : List (List UInt8)} {f i : Nat} (h : Mid l pre f i) (hi : i < l.length) (hb : l[i] ≠ 44) : Mid l pre f (i + 1) := by
  rcases h with ⟨h1, h2, h3, h4⟩ | h
  · refine .inl ⟨by omega, by omega, h3, ?_⟩
    rw [take_next h2 hi]
    intro b hx
    rw [List.mem_append] at hx
    rcases hx with hx | hx
    · exact h4 b hx
    · simp at hx; rw [hx]; exact hb
  · omega
theorem drop_cut {l : List UInt8} {f i : Nat} (hf : f ≤ i) (hi : i < l.length) : l.drop f = (l.drop f).take (i - f) ++ l[i] :: l.drop (i + 1) := by
  have h := (List.take_append_drop (i - f) (l.drop f)).symm
  rw [List.drop_drop, show f + (i - f) = i by omega, List.drop_eq_getElem_cons hi] at h
  exact h
theorem Mid.cut {l : List UInt8} {pre : List (List UInt8)} {f i : Nat} (h : Mid l pre f i) (hi : i < l.length) (hb : l[i] = 44) : Mid l (pre ++ [(l.drop f).take (i - f)]) (i + 1) (i + 1) := by
  rcases h with ⟨h1, h2, h3, h4⟩ | h
  · refine .inl ⟨by omega, Nat.le_refl _, ?_, by simp⟩
    have e := drop_cut h2 hi
    rw [hb] at e
    generalize (l.drop f).take (i - f) = p at *
    rw [h3, e, splitL_step _ _ h4, List.append_assoc]
    rfl
  · omega
theorem Mid.last {l : List UInt8} {pre : List (List UInt8)} {f : Nat} (h : Mid l pre f l.length) : Mid l (pre ++ [(l.drop f).take (l.length - f)]) (l.length + 1) (l.length + 1) := by
  rcases h with ⟨h1, h2, h3, h4⟩ | h
  · refine .inr ⟨rfl, ?_⟩
    have e : (l.drop f).take (l.length - f) = l.drop f := List.take_of_length_le (by rw [List.length_drop]; exact Nat.le_refl _)
    rw [e] at h4 ⊢
    rw [h3, splitL_end _ h4]
  · omega
theorem Mid.done {l : List UInt8} {pre : List (List UInt8)} {f i : Nat} (h : Mid l pre f i) (hi : ¬ i ≤ l.length) : splitL l = pre := by
  rcases h with h | h
  · omega
  · exact h.2
theorem piece_list (s : ByteArray) (f i : Nat) (hi : i ≤ s.size) : s.extract f i = mkS ((s.data.toList.drop f).take (i - f)) := by
  rw [← mkS_of (s.extract f i), ByteArray.data_extract, Array.toList_extract, List.extract_eq_take_drop]

theorem heap_alloc_last (w : World) (o : Obj) : (w.alloc o).heap[w.heap.size]? = some o := (MapKept.heap_alloc w _).1

set_option maxRecDepth 1000000 in
set_option maxHeartbeats 4000000 in
theorem specSplit_calls (s : ByteArray) (w : World) (hs : s.size ≤ 1048576) : Calls Tryz.prog 76 #[.string s, .int .u8 44] w fun e w' =>
    ∃ v, e = .returned v ∧ w'.ownsRow w.heap.size 9 1 v (splitL s.data.toList).length (rowS (splitL s.data.toList)) ∧ Below w.heap.size w w' := by
  obtain ⟨i0, hi⟩ : ∃ i, Tryz.prog.info? 9 = some i := Option.isSome_iff_exists.1 (by kernel_rfl)
  have hz0 : i0.zero = some (.string ByteArray.empty) := by have : (Tryz.prog.info? 9).bind (·.zero) = some (.string ByteArray.empty) := by kernel_rfl
                                                            rw [hi] at this; exact this
  have hz1 : i0.size = 1 := by have : (Tryz.prog.info? 9).map (·.size) = some 1 := by kernel_rfl
                               rw [hi] at this; exact Option.some.inj this
  have hz2 : i0.bytes = 16 := by have : (Tryz.prog.info? 9).map (·.bytes) = some 16 := by kernel_rfl
                                 rw [hi] at this; exact Option.some.inj this
  have hlen := toList_size s
  go_enter Tryz.func76, Tryz.ntmps76
  go_wp2
  go_loopw [5, 6, 7] (fun v fv iv wr => ∃ (pre : List (List UInt8)) (f i : Nat), fv = .int .i64 f ∧ iv = .int .i64 i ∧ Hid (Mid s.data.toList pre f i) ∧ wr.ownsRow w.heap.size 9 1 v pre.length (rowS pre) ∧ Below w.heap.size w wr) (fun _ _ iv _ => s.size + 1 - (intOf iv).toNat)
  case atStart => exact ⟨[], 0, 0, rfl, rfl, Mid.start _, ⟨by simp [rowS], .inr ⟨w.heap.size, 0, #[], rfl, Nat.le_refl _, heap_alloc_last w _, Nat.le_refl _, Nat.zero_le _, rfl, by simp [rowS]⟩⟩, (Below.refl _ _).alloc (Nat.le_refl _) _⟩
  case round =>
    obtain ⟨pre, f, i, rfl, rfl, hmid, hown, hbel⟩ := hrel
    by_cases hle : i ≤ s.size
    · have hfi := hmid.out.lt (by rw [hlen]; exact hle)
      have hcnt := hmid.out.count
      have hle1 : (i : Int) ≤ s.size := by omega
      have hcnt2 : pre.length ≤ s.size + 1 := by rw [← hlen]; exact hcnt
      have hfi1 : (f : Int) ≤ i := by omega
      obtain ⟨X, hX⟩ : ∃ X, s.extract f i = X := ⟨_, rfl⟩
      have hXl : Hid (X = mkS ((s.data.toList.drop f).take (i - f))) := by rw [← hX]; exact piece_list s f i hle
      clear hcnt
      by_cases hend : i = s.size
      · subst hend
        have hmid3 : Hid (Mid s.data.toList (pre ++ [(s.data.toList.drop f).take (s.size - f)]) (s.size + 1) (s.size + 1)) := by
          have h := hmid.out
          show Mid _ _ _ _
          rw [← hlen] at h ⊢
          exact h.last
        clear hmid
        go_wp2_with (at_builtin; refine wpList_append_own _ rfl _ _ 34 rfl w.heap.size 9 i0 (.string ByteArray.empty) 1 16 Tryz.underlying34 hi hz0 hz1 hz2 rfl (by decide) _ _ _ rfl (hown.alloc _) ⟨wr.heap.size, 0, none⟩ 1 1 [.string X] rfl rfl ?c1 ?c2 ?c3 ?c4 ?c5 ?_)
        case c1 =>
          intro j u hj
          match j, hj with
          | 0, hj => simp at hj; subst hj; simp [Addr.add]
        case c2 => intro u hu; simp at hu; subst hu; rfl
        case c3 => unfold maxLen; omega
        case c4 => omega
        case c5 => have := hbel.size; simp; omega
        · intro v' w1 hown' hgrow _
          have hb1 : Below w.heap.size w w1 := (hbel.alloc hbel.size _).grown hgrow (by have := hbel.size; simp; omega) (fun j hj => by
            obtain ⟨_, ⟨rfl, _⟩ | ⟨g, cap, cur, rfl, hg, _⟩⟩ := hown
            · simp [Value.ownBlock] at hj
            · simp [Value.ownBlock] at hj; omega)
          clear hgrow hown
          go_wp2
          go_roundw
          case rel =>
            refine ⟨pre ++ [(s.data.toList.drop f).take (s.size - f)], s.size + 1, s.size + 1, by simp, by simp, hmid3, ?_, hb1⟩
            rw [List.length_append, rowS, List.map_append, List.map_cons, List.map_nil, ← hXl.out]
            exact hown'
          case measure => first | (simp [intOf]; done) | (simp [intOf]; omega)
      · have e1 : ((i : Int) == s.size) = false := by simp; omega
        have hlt : i < s.size := by omega
        have hi0 : (0 : Int) ≤ i := by omega
        have hi1 : (i : Int) < s.size := by omega
        by_cases hb : (s[i]'hlt) = 44
        · have e2 : (((s[i]'hlt).toNat : Int) == 44) = true := by rw [hb]; rfl
          have hmid3 : Hid (Mid s.data.toList (pre ++ [(s.data.toList.drop f).take (i - f)]) (i + 1) (i + 1)) := hmid.out.cut (by rw [hlen]; exact hlt) (by rw [← get_toList s i hlt]; exact hb)
          clear hmid hb
          go_wp2_with (at_builtin; refine wpList_append_own _ rfl _ _ 34 rfl w.heap.size 9 i0 (.string ByteArray.empty) 1 16 Tryz.underlying34 hi hz0 hz1 hz2 rfl (by decide) _ _ _ rfl (hown.alloc _) ⟨wr.heap.size, 0, none⟩ 1 1 [.string X] rfl rfl ?c1 ?c2 ?c3 ?c4 ?c5 ?_)
          case c1 =>
            intro j u hj
            match j, hj with
            | 0, hj => simp at hj; subst hj; simp [Addr.add]
          case c2 => intro u hu; simp at hu; subst hu; rfl
          case c3 => unfold maxLen; omega
          case c4 => omega
          case c5 => have := hbel.size; simp; omega
          · intro v' w1 hown' hgrow _
            have hb1 : Below w.heap.size w w1 := (hbel.alloc hbel.size _).grown hgrow (by have := hbel.size; simp; omega) (fun j hj => by
              obtain ⟨_, ⟨rfl, _⟩ | ⟨g, cap, cur, rfl, hg, _⟩⟩ := hown
              · simp [Value.ownBlock] at hj
              · simp [Value.ownBlock] at hj; omega)
            clear hgrow hown
            go_wp2
            go_roundw
            case rel =>
              refine ⟨pre ++ [(s.data.toList.drop f).take (i - f)], i + 1, i + 1, by simp, by simp, hmid3, ?_, hb1⟩
              rw [List.length_append, rowS, List.map_append, List.map_cons, List.map_nil, ← hXl.out]
              exact hown'
            case measure => first | (simp [intOf]; done) | (simp [intOf]; omega)
        · have e2 : (((s[i]'hlt).toNat : Int) == 44) = false := by
            rw [beq_eq_false_iff_ne]; intro h
            exact hb (UInt8.toNat_inj.1 (by simp only [UInt8.reduceToNat]; omega))
          have hmid3 : Hid (Mid s.data.toList pre f (i + 1)) := hmid.out.skip (by rw [hlen]; exact hlt) (by rw [← get_toList s i hlt]; exact hb)
          clear hmid hb
          go_wp2
          go_roundw
          case rel => exact ⟨pre, f, i + 1, rfl, by simp, hmid3, hown, hbel⟩
          case measure => first | (simp [intOf]; done) | (simp [intOf]; omega)
    · have hle1 : ¬ (i : Int) ≤ s.size := by omega
      have hd := hmid.out.done (by rw [hlen]; exact hle)
      go_wp2
      go_ret
      refine ⟨_, rfl, ?_, hbel⟩
      first | exact hown | (rw [hd]; exact hown)
end Go.Proofs.YtcencddbdidjjaaGreatDoor
