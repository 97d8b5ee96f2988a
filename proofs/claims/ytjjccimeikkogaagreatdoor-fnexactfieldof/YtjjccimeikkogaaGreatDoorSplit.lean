import Derived.Test.YtjjccimeikkogaaGreatDoorShelf
import Derived.OwnWalk
import Derived.LoopTactic
import Derived.Below
import Derived.Lib.Split
import Derived.Deep.Quiet
import Derived.Deep.QuietTactic
set_option maxRecDepth 1000000
set_option maxHeartbeats 4000000
namespace Go.Proofs.YtjjccimeikkogaaGreatDoor
set_option linter.unusedVariables false
open Go.ChangeShapes Go.WideShapes Go.ChangeAt Go.RowKit
def mkS (p : List UInt8) : ByteArray := ⟨p.toArray⟩
theorem mkS_list (p : List UInt8) : (mkS p).data.toList = p := rfl
theorem mkS_of (s : ByteArray) : mkS s.data.toList = s := rfl
def rowS (ps : List (List UInt8)) : List Value := ps.map fun p => .string (mkS p)
theorem rowS_length (ps : List (List UInt8)) : (rowS ps).length = ps.length := by simp [rowS]
def splitL : List UInt8 → List (List UInt8)
 | [] => [[]]
 | b :: t => if b = 44 then [] :: splitL t else match splitL t with
  | [] => [[b]]
  | p :: r => (b :: p) :: r
theorem splitL_ne (l : List UInt8) : splitL l ≠ [] := by
 cases l with
 | nil => simp [splitL]
 | cons b t =>
  simp only [splitL]
  split
  ·simp
  ·split <;> simp
theorem splitL_end : ∀ p : List UInt8, (∀ b ∈ p, b ≠ 44) → splitL p = [p]
 | [], _ => rfl
 | b :: t, h => by
  have ih := splitL_end t (fun x hx => h x (by simp [hx]))
  simp [splitL, h b (by simp), ih]
theorem splitL_step : ∀ (p t : List UInt8), (∀ b ∈ p, b ≠ 44) → splitL (p ++ 44 :: t) = p :: splitL t
 | [], t, _ => by simp [splitL]
 | b :: p, t, h => by
  have ih := splitL_step p t (fun x hx => h x (by simp [hx]))
  simp [splitL, h b (by simp), ih]
theorem splitL_length : ∀ l : List UInt8, (splitL l).length ≤ l.length + 1
 | [] => by simp [splitL]
 | b :: t => by
  have ih := splitL_length t
  simp only [splitL]
  split
  ·simp; omega
  ·split
   ·simp
   ·rename_i h; rw [h] at ih; simp at ih ⊢; omega
def Mid (l : List UInt8) (pre : List (List UInt8)) (f i : Nat) : Prop :=
 (i ≤ l.length ∧ f ≤ i ∧ splitL l = pre ++ splitL (l.drop f) ∧ ∀ b ∈ (l.drop f).take (i - f), b ≠ 44) ∨ (i = l.length + 1 ∧ splitL l = pre)
theorem Mid.start (l : List UInt8) : Mid l [] 0 0 := .inl ⟨Nat.zero_le _, Nat.le_refl _, by simp, by simp⟩
theorem Mid.le {l : List UInt8} {pre : List (List UInt8)} {f i : Nat} (h : Mid l pre f i) : i ≤ l.length + 1 := by rcases h with h | h <;> omega
theorem Mid.count {l : List UInt8} {pre : List (List UInt8)} {f i : Nat} (h : Mid l pre f i) : pre.length ≤ l.length + 1 := by
 have := splitL_length l
 rcases h with ⟨_, _, h, _⟩ | ⟨_, h⟩
 ·rw [h, List.length_append] at this; omega
 ·rw [h] at this; exact this
theorem Mid.lt {l : List UInt8} {pre : List (List UInt8)} {f i : Nat} (h : Mid l pre f i) (hi : i ≤ l.length) : f ≤ i := by
 rcases h with h | h
 ·exact h.2.1
 ·omega
theorem take_next {l : List UInt8} {f i : Nat} (hf : f ≤ i) (hi : i < l.length) : (l.drop f).take (i + 1 - f) = (l.drop f).take (i - f) ++ [l[i]] := by
 rw [show i + 1 - f = (i - f) + 1 by omega, List.take_succ_eq_append_getElem (by rw [List.length_drop]; omega)]
 congr 2
 rw [List.getElem_drop]
 congr 1; omega
theorem Mid.skip {l : List UInt8} {pre : List (List UInt8)} {f i : Nat} (h : Mid l pre f i) (hi : i < l.length) (hb : l[i] ≠ 44) : Mid l pre f (i + 1) := by
 rcases h with ⟨h1, h2, h3, h4⟩ | h
 ·refine .inl ⟨by omega, by omega, h3, ?_⟩
  rw [take_next h2 hi]
  intro b hx
  rw [List.mem_append] at hx
  rcases hx with hx | hx
  ·exact h4 b hx
  ·simp at hx; rw [hx]; exact hb
 ·omega
theorem drop_cut {l : List UInt8} {f i : Nat} (hf : f ≤ i) (hi : i < l.length) : l.drop f = (l.drop f).take (i - f) ++ l[i] :: l.drop (i + 1) := by
 have h := (List.take_append_drop (i - f) (l.drop f)).symm
 rw [List.drop_drop, show f + (i - f) = i by omega, List.drop_eq_getElem_cons hi] at h
 exact h
theorem Mid.cut {l : List UInt8} {pre : List (List UInt8)} {f i : Nat} (h : Mid l pre f i) (hi : i < l.length) (hb : l[i] = 44) : Mid l (pre ++ [(l.drop f).take (i - f)]) (i + 1) (i + 1) := by
 rcases h with ⟨h1, h2, h3, h4⟩ | h
 ·refine .inl ⟨by omega, Nat.le_refl _, ?_, by simp⟩
  have e := drop_cut h2 hi
  rw [hb] at e
  generalize (l.drop f).take (i - f) = p at *
  rw [h3, e, splitL_step _ _ h4, List.append_assoc]
  rfl
 ·omega
theorem Mid.last {l : List UInt8} {pre : List (List UInt8)} {f : Nat} (h : Mid l pre f l.length) : Mid l (pre ++ [(l.drop f).take (l.length - f)]) (l.length + 1) (l.length + 1) := by
 rcases h with ⟨h1, h2, h3, h4⟩ | h
 ·refine .inr ⟨rfl, ?_⟩
  have e : (l.drop f).take (l.length - f) = l.drop f := List.take_of_length_le (by rw [List.length_drop]; exact Nat.le_refl _)
  rw [e] at h4 ⊢
  rw [h3, splitL_end _ h4]
 ·omega
theorem Mid.done {l : List UInt8} {pre : List (List UInt8)} {f i : Nat} (h : Mid l pre f i) (hi : ¬ i ≤ l.length) : splitL l = pre := by
 rcases h with h | h
 ·omega
 ·exact h.2
theorem piece_list (s : ByteArray) (f i : Nat) (hi : i ≤ s.size) : s.extract f i = mkS ((s.data.toList.drop f).take (i - f)) := by
 rw [← mkS_of (s.extract f i), ByteArray.data_extract, Array.toList_extract, List.extract_eq_take_drop]
theorem heap_alloc_last (w : World) (o : Obj) : (w.alloc o).heap[w.heap.size]? = some o := (MapKept.heap_alloc w _).1
theorem specSplit_calls (s : ByteArray) (w : World) (hs : s.size ≤ 1048576) : Calls Tryz.prog 201 #[.string s, .int .u8 44] w fun e w' =>
  ∃ v, e = .returned v ∧ w'.ownsRow w.heap.size 9 1 v (splitL s.data.toList).length (rowS (splitL s.data.toList)) ∧ Below w.heap.size w w' := by
 obtain ⟨i0, hi⟩ : ∃ i, Tryz.prog.info? 9 = some i := Option.isSome_iff_exists.1 (by kernel_rfl)
 have hz0 : i0.zero = some (.string ByteArray.empty) := by have : (Tryz.prog.info? 9).bind (·.zero) = some (.string ByteArray.empty) := by kernel_rfl
                                                           rw [hi] at this; exact this
 have hz1 : i0.size = 1 := by have : (Tryz.prog.info? 9).map (·.size) = some 1 := by kernel_rfl
                              rw [hi] at this; exact Option.some.inj this
 have hz2 : i0.bytes = 16 := by have : (Tryz.prog.info? 9).map (·.bytes) = some 16 := by kernel_rfl
                                rw [hi] at this; exact Option.some.inj this
 have hlen := toList_size s
 go_enter Tryz.func201, Tryz.ntmps201
 go_wp2
 go_loopw [5, 6, 7] (fun v fv iv wr => ∃ (pre : List (List UInt8)) (f i : Nat), fv = .int .i64 f ∧ iv = .int .i64 i ∧ Hid (Mid s.data.toList pre f i) ∧ wr.ownsRow w.heap.size 9 1 v pre.length (rowS pre) ∧ Below w.heap.size w wr) (fun _ _ iv _ => s.size + 1 - (intOf iv).toNat)
 case atStart => exact ⟨[], 0, 0, rfl, rfl, Mid.start _, ⟨by simp [rowS], .inr ⟨w.heap.size, 0, #[], rfl, Nat.le_refl _, heap_alloc_last w _, Nat.le_refl _, Nat.zero_le _, rfl, by simp [rowS]⟩⟩, (Below.refl _ _).alloc (Nat.le_refl _) _⟩
 case round =>
  obtain ⟨pre, f, i, rfl, rfl, hmid, hown, hbel⟩ := hrel
  by_cases hle : i ≤ s.size
  ·have hfi := hmid.out.lt (by rw [hlen]; exact hle)
   have hcnt := hmid.out.count
   have hle1 : (i : Int) ≤ s.size := by omega
   have hcnt2 : pre.length ≤ s.size + 1 := by rw [← hlen]; exact hcnt
   have hfi1 : (f : Int) ≤ i := by omega
   obtain ⟨X, hX⟩ : ∃ X, s.extract f i = X := ⟨_, rfl⟩
   have hXl : Hid (X = mkS ((s.data.toList.drop f).take (i - f))) := by rw [← hX]; exact piece_list s f i hle
   clear hcnt
   by_cases hend : i = s.size
   ·subst hend
    have hmid3 : Hid (Mid s.data.toList (pre ++ [(s.data.toList.drop f).take (s.size - f)]) (s.size + 1) (s.size + 1)) := by
     have h := hmid.out
     show Mid _ _ _ _
     rw [← hlen] at h ⊢
     exact h.last
    clear hmid
    go_wp2_with (at_builtin; refine wpList_append_own _ rfl _ _ 24 rfl w.heap.size 9 i0 (.string ByteArray.empty) 1 16 Tryz.underlying24 hi hz0 hz1 hz2 rfl (by decide) _ _ _ rfl (hown.alloc _) ⟨wr.heap.size, 0, none⟩ 1 1 [.string X] rfl rfl ?c1 ?c2 ?c3 ?c4 ?c5 ?_)
    case c1 =>
     intro j u hj
     match j, hj with
     | 0, hj => simp at hj; subst hj; simp [Addr.add]
    case c2 => intro u hu; simp at hu; subst hu; rfl
    case c3 => unfold maxLen; omega
    case c4 => omega
    case c5 => have := hbel.size; simp; omega
    ·intro v' w1 hown' hgrow _
     have hb1 : Below w.heap.size w w1 := (hbel.alloc hbel.size _).grown hgrow (by have := hbel.size; simp; omega) (fun j hj => by
      obtain ⟨_, ⟨rfl, _⟩ | ⟨g, cap, cur, rfl, hg, _⟩⟩ := hown
      ·simp [Value.ownBlock] at hj
      ·simp [Value.ownBlock] at hj; omega)
     clear hgrow hown
     go_wp2
     go_roundw
     case rel =>
      refine ⟨pre ++ [(s.data.toList.drop f).take (s.size - f)], s.size + 1, s.size + 1, by simp, by simp, hmid3, ?_, hb1⟩
      rw [List.length_append, rowS, List.map_append, List.map_cons, List.map_nil, ← hXl.out]
      exact hown'
     case measure => first | (simp [intOf]; done) | (simp [intOf]; omega)
   ·have e1 : ((i : Int) == s.size) = false := by simp; omega
    have hlt : i < s.size := by omega
    have hi0 : (0 : Int) ≤ i := by omega
    have hi1 : (i : Int) < s.size := by omega
    by_cases hb : (s[i]'hlt) = 44
    ·have e2 : (((s[i]'hlt).toNat : Int) == 44) = true := by rw [hb]; rfl
     have hmid3 : Hid (Mid s.data.toList (pre ++ [(s.data.toList.drop f).take (i - f)]) (i + 1) (i + 1)) := hmid.out.cut (by rw [hlen]; exact hlt) (by rw [← get_toList s i hlt]; exact hb)
     clear hmid hb
     go_wp2_with (at_builtin; refine wpList_append_own _ rfl _ _ 24 rfl w.heap.size 9 i0 (.string ByteArray.empty) 1 16 Tryz.underlying24 hi hz0 hz1 hz2 rfl (by decide) _ _ _ rfl (hown.alloc _) ⟨wr.heap.size, 0, none⟩ 1 1 [.string X] rfl rfl ?c1 ?c2 ?c3 ?c4 ?c5 ?_)
     case c1 =>
      intro j u hj
      match j, hj with
      | 0, hj => simp at hj; subst hj; simp [Addr.add]
     case c2 => intro u hu; simp at hu; subst hu; rfl
     case c3 => unfold maxLen; omega
     case c4 => omega
     case c5 => have := hbel.size; simp; omega
     ·intro v' w1 hown' hgrow _
      have hb1 : Below w.heap.size w w1 := (hbel.alloc hbel.size _).grown hgrow (by have := hbel.size; simp; omega) (fun j hj => by
       obtain ⟨_, ⟨rfl, _⟩ | ⟨g, cap, cur, rfl, hg, _⟩⟩ := hown
       ·simp [Value.ownBlock] at hj
       ·simp [Value.ownBlock] at hj; omega)
      clear hgrow hown
      go_wp2
      go_roundw
      case rel =>
       refine ⟨pre ++ [(s.data.toList.drop f).take (i - f)], i + 1, i + 1, by simp, by simp, hmid3, ?_, hb1⟩
       rw [List.length_append, rowS, List.map_append, List.map_cons, List.map_nil, ← hXl.out]
       exact hown'
      case measure => first | (simp [intOf]; done) | (simp [intOf]; omega)
    ·have e2 : (((s[i]'hlt).toNat : Int) == 44) = false := by
      rw [beq_eq_false_iff_ne]; intro h
      exact hb (UInt8.toNat_inj.1 (by simp only [UInt8.reduceToNat]; omega))
     have hmid3 : Hid (Mid s.data.toList pre f (i + 1)) := hmid.out.skip (by rw [hlen]; exact hlt) (by rw [← get_toList s i hlt]; exact hb)
     clear hmid hb
     go_wp2
     go_roundw
     case rel => exact ⟨pre, f, i + 1, rfl, by simp, hmid3, hown, hbel⟩
     case measure => first | (simp [intOf]; done) | (simp [intOf]; omega)
  ·have hle1 : ¬ (i : Int) ≤ s.size := by omega
   have hd := hmid.out.done (by rw [hlen]; exact hle)
   go_wp2
   go_ret
   refine ⟨_, rfl, ?_, hbel⟩
   first | exact hown | (rw [hd]; exact hown)
theorem index_byte (c : UInt8) : ∀ l : List UInt8, (Lib.index l [c] = -1 ∧ ∀ b ∈ l, b ≠ c) ∨ ∃ p t, l = p ++ c :: t ∧ (∀ b ∈ p, b ≠ c) ∧ Lib.index l [c] = p.length
 | [] => .inl ⟨rfl, by simp⟩
 | b :: l => by
  rw [Lib.index_one, Lib.indexByte]
  by_cases hb : b = c
  ·exact .inr ⟨[], l, by rw [hb]; rfl, by simp, by simp [hb]⟩
  ·have hb' : (b == c) = false := by simpa using hb
   rcases index_byte c l with ⟨h1, h2⟩ | ⟨p, t, h1, h2, h3⟩
   ·rw [Lib.index_one] at h1
    refine .inl ⟨by simp [hb', h1], ?_⟩
    intro x hx
    rcases List.mem_cons.1 hx with rfl | hx
    ·exact hb
    ·exact h2 x hx
   ·rw [Lib.index_one] at h3
    refine .inr ⟨b :: p, t, by rw [h1]; rfl, ?_, ?_⟩
    ·intro x hx
     rcases List.mem_cons.1 hx with rfl | hx
     ·exact hb
     ·exact h2 x hx
    ·have : ¬ (p.length : Int) = -1 := by omega
     simp [hb', h3, this]
theorem index_at (c : UInt8) (p t : List UInt8) (h : ∀ b ∈ p, b ≠ c) : Lib.index (p ++ c :: t) [c] = p.length := by
 rcases index_byte c (p ++ c :: t) with ⟨_, h2⟩ | ⟨q, u, h1, h2, h3⟩
 ·exact absurd rfl (h2 c (by simp))
 ·rw [h3]
  have : ∀ (p q t u : List UInt8), p ++ c :: t = q ++ c :: u → (∀ b ∈ p, b ≠ c) → (∀ b ∈ q, b ≠ c) → p.length = q.length := by
   intro p
   induction p with
   | nil =>
    intro q t u h _ hq
    cases q with
    | nil => rfl
    | cons x q => simp at h; exact absurd h.1.symm (hq x (by simp))
   | cons y p ih =>
    intro q t u h hp hq
    cases q with
    | nil => simp at h; exact absurd h.1 (hp y (by simp))
    | cons x q =>
     simp at h
     simp [ih q t u h.2 (fun b hb => hp b (by simp [hb])) (fun b hb => hq b (by simp [hb]))]
  rw [this p q t u h1 h h2]
theorem cut_at (c : UInt8) (p t : List UInt8) (h : ∀ b ∈ p, b ≠ c) : Lib.cut (p ++ c :: t) [c] = (p, t, true) := by
 unfold Lib.cut
 rw [index_at c p t h]
 simp
theorem cut_none (c : UInt8) (l : List UInt8) (h : ∀ b ∈ l, b ≠ c) : Lib.cut l [c] = (l, [], false) := by
 unfold Lib.cut
 rcases index_byte c l with ⟨h1, _⟩ | ⟨p, t, h1, _, _⟩
 ·simp [h1]
 ·exact absurd rfl (h c (by rw [h1]; simp))
def parsOf (p : List UInt8) : List (List UInt8) := if p = [] then [] else splitL p
def okOf (p r : List UInt8) : Bool := decide ((parsOf p).length ≤ 8) && ((r == [86]) || typeL r) && (parsOf p).all typeL
def sigOk (l : List UInt8) : Bool := match l with
 | 40 :: t => (Lib.cut t [41]).2.2 && okOf (Lib.cut t [41]).1 (Lib.cut t [41]).2.1
 | _ => false
def sigPars (l : List UInt8) : List (List UInt8) := if sigOk l then parsOf (Lib.cut l.tail [41]).1 else []
def sigRes (l : List UInt8) : List UInt8 := if sigOk l then (Lib.cut l.tail [41]).2.1 else []
theorem sig_none {l : List UInt8} (h : ∀ b ∈ l, b ≠ 41) : sigOk l = false := by
 cases l with
 | nil => rfl
 | cons b t =>
  by_cases hb : b = 40
  ·subst hb
   simp only [sigOk]
   rw [cut_none 41 t (fun x hx => h x (by simp [hx]))]
   rfl
  ·unfold sigOk; split
   ·rename_i h'; simp at h'; exact absurd h'.1 hb
   ·rfl
theorem sig_head {l : List UInt8} (h : ∀ t, l ≠ 40 :: t) : sigOk l = false := by
 unfold sigOk; split
 ·rename_i t; exact absurd rfl (h t)
 ·rfl
theorem sig_at (p r : List UInt8) (h : ∀ b ∈ p, b ≠ 41) : sigOk (40 :: (p ++ 41 :: r)) = okOf p r := by
 simp only [sigOk]; rw [cut_at 41 p r h]; simp
theorem sigPars_at (p r : List UInt8) (h : ∀ b ∈ p, b ≠ 41) (ho : okOf p r = true) : sigPars (40 :: (p ++ 41 :: r)) = parsOf p := by
 unfold sigPars; rw [sig_at p r h, ho]; simp [cut_at 41 p r h]
theorem sigRes_at (p r : List UInt8) (h : ∀ b ∈ p, b ≠ 41) (ho : okOf p r = true) : sigRes (40 :: (p ++ 41 :: r)) = r := by
 unfold sigRes; rw [sig_at p r h, ho]; simp [cut_at 41 p r h]
theorem sigPars_no {l : List UInt8} (h : sigOk l = false) : sigPars l = [] := by unfold sigPars; simp [h]
theorem sigRes_no {l : List UInt8} (h : sigOk l = false) : sigRes l = [] := by unfold sigRes; simp [h]
theorem sig_split {l : List UInt8} {k : Nat} (hk : k < l.length) (hb : l[k] = 41) (hno : ∀ b ∈ l.take k, b ≠ 41) (h0 : l[0]'(by omega) = 40) :
  1 ≤ k ∧ l = 40 :: ((l.drop 1).take (k - 1) ++ 41 :: l.drop (k + 1)) ∧ ∀ b ∈ (l.drop 1).take (k - 1), b ≠ 41 := by
 cases l with
 | nil => simp at hk
 | cons b t =>
  simp at h0
  subst h0
  cases k with
  | zero => simp at hb
  | succ k =>
   simp at hk hb
   refine ⟨by omega, ?_, ?_⟩
   ·simp only [List.drop_succ_cons, List.drop_zero, Nat.add_sub_cancel]
    congr 1
    have := (List.take_append_drop k t).symm
    rw [List.drop_eq_getElem_cons hk, hb] at this
    exact this
   ·intro x hx
    simp at hx
    exact hno x (by simp [hx])
theorem no_step {l : List UInt8} {k : Nat} (hk : k < l.length) (hno : ∀ b ∈ l.take k, b ≠ 41) (hb : l[k] ≠ 41) : ∀ b ∈ l.take (k + 1), b ≠ 41 := by
 rw [List.take_succ_eq_append_getElem hk]
 intro x hx
 rcases List.mem_append.1 hx with h | h
 ·exact hno x h
 ·simp at h; rw [h]; exact hb
def SigPost (l : List UInt8) (w : World) (e : Ending) (w' : World) : Prop :=
 ∃ v, e = .returned (.tuple #[v, .string (mkS (sigRes l)), .bool (sigOk l)]) ∧ w'.ownsRow w.heap.size 9 1 v (sigPars l).length (rowS (sigPars l)) ∧ Below w.heap.size w w'
theorem emptyRow (w : World) (W : World) (h : w.heap.size ≤ W.heap.size) : (W.alloc (.cells #[] 9)).ownsRow w.heap.size 9 1 (.slice (some ⟨W.heap.size, 0, none⟩) 0 0) 0 (rowS []) :=
 ⟨by simp [rowS], .inr ⟨W.heap.size, 0, #[], rfl, h, heap_alloc_last W _, Nat.le_refl _, Nat.zero_le _, rfl, by simp [rowS]⟩⟩
theorem SigPost.no {l : List UInt8} {w W : World} (h : sigOk l = false) (hb : Below w.heap.size w W) :
  SigPost l w (.returned (.tuple #[.slice (some ⟨W.heap.size, 0, none⟩) 0 0, .string ⟨#[]⟩, .bool false])) (W.alloc (.cells #[] 9)) := by
 refine ⟨_, by rw [h, sigRes_no h]; rfl, ?_, hb.alloc hb.size _⟩
 rw [sigPars_no h]
 exact emptyRow w W hb.size
theorem splitL_mem : ∀ (l p : List UInt8), p ∈ splitL l → p.length ≤ l.length
 | [], p, h => by simp [splitL] at h; simp [h]
 | b :: t, p, h => by
  have ih := splitL_mem t
  simp only [splitL] at h
  split at h
  ·rcases List.mem_cons.1 h with rfl | h
   ·simp
   ·have := ih p h; simp; omega
  ·split at h
   ·simp at h; simp [h]
   ·rename_i q r hq
    rw [hq] at ih
    rcases List.mem_cons.1 h with rfl | h
    ·have := ih q (by simp); simp; omega
    ·have := ih p (by simp [h]); simp; omega
structure RowAt (W : World) (base : Nat) (ps : List (List UInt8)) (v : Value) (g cap : Nat) : Prop where
 eq : v = .slice (some ⟨g, 0, none⟩) ps.length cap
 low : base ≤ g
 lt : g < W.heap.size
 len : ps.length ≤ cap
 max : cap ≤ maxLen
 own : W.ownsRow base 9 1 v ps.length (rowS ps)
 cell : ∀ i (h : i < ps.length), W.cell? ⟨g, i, none⟩ = some (.string (mkS ps[i]))
theorem row_open {W : World} {base : Nat} {ps : List (List UInt8)} {v : Value} (h : W.ownsRow base 9 1 v ps.length (rowS ps)) (hne : v ≠ .slice none 0 0) : ∃ g cap, RowAt W base ps v g cap := by
 have h' := h
 obtain ⟨_, ⟨rfl, _⟩ | ⟨g, cap, cur, rfl, hg, hh, hn, hc, hsz, ht⟩⟩ := h
 ·exact absurd rfl hne
 ·refine ⟨g, cap, rfl, hg, (Array.getElem?_eq_some_iff.1 hh).1, hn, hc, h', fun i hi => ?_⟩
  have h3 : (rowS ps)[i]? = some (.string (mkS ps[i])) := by simp [rowS, hi]
  rw [← ht, List.getElem?_take, if_pos (by omega)] at h3
  simp only [World.cell?, hh]
  simpa using h3
theorem row_filled {W : World} {base : Nat} {ps : List (List UInt8)} {v : Value} (h : W.ownsRow base 9 1 v ps.length (rowS ps)) (hne : ps ≠ []) : ∃ g cap, RowAt W base ps v g cap := by
 refine row_open h ?_
 rintro rfl
 obtain ⟨_, ⟨_, h0⟩ | ⟨_, _, _, h1, _⟩⟩ := h
 ·exact hne (List.eq_nil_of_length_eq_zero h0)
 ·cases h1
theorem RowAt.mono {W : World} {base base' : Nat} {ps : List (List UInt8)} {v : Value} {g cap : Nat} (h : RowAt W base ps v g cap) (hb : base' ≤ base) : RowAt W base' ps v g cap := by
 refine ⟨h.eq, Nat.le_trans hb h.low, h.lt, h.len, h.max, ?_, h.cell⟩
 obtain ⟨h1, h2 | ⟨g, cap, cur, hv, hg, rest⟩⟩ := h.own
 ·exact ⟨h1, .inl h2⟩
 ·exact ⟨h1, .inr ⟨g, cap, cur, hv, Nat.le_trans hb hg, rest⟩⟩
theorem row_kept {W W' : World} {base B : Nat} {ps : List (List UInt8)} {v : Value} {g cap : Nat} (h : RowAt W base ps v g cap) (hb : Below B W W') (hB : g < B) : RowAt W' base ps v g cap := by
 refine ⟨h.eq, h.low, Nat.lt_of_lt_of_le h.lt hb.size, h.len, h.max, ?_, fun i hi => by rw [hb.cell (p := ⟨g, i, none⟩) hB]; exact h.cell i hi⟩
 obtain ⟨h1, h2 | ⟨g', cap', cur, hv, hg, hh, rest⟩⟩ := h.own
 ·exact ⟨h1, .inl h2⟩
 ·have e := h.eq
  rw [hv] at e
  simp only [Value.slice.injEq, Option.some.injEq, Addr.mk.injEq, and_true, true_and] at e
  obtain ⟨rfl, rfl⟩ := e
  exact ⟨h1, .inr ⟨g', cap', cur, hv, hg, by rw [hb.block _ hB]; exact hh, rest⟩⟩
theorem SigPost.yes {l I : List UInt8} {R : ByteArray} {ps : List (List UInt8)} {w w1 : World} {v : Value} {g cap : Nat} (hl : l = 40 :: (I ++ 41 :: R.data.toList)) (hp : ∀ b ∈ I, b ≠ 41) (ho : okOf I R.data.toList = true)
  (hps : ps = parsOf I) (hrow : RowAt w1 w.heap.size ps v g cap) (hb : Below w.heap.size w w1) : SigPost l w (.returned (.tuple #[v, .string R, .bool true])) w1.drew := by
 subst hl; subst hps
 refine ⟨v, ?_, ?_, hb.drew⟩
 ·rw [sigRes_at I _ hp ho, sig_at I _ hp, ho]; rfl
 ·rw [sigPars_at I _ hp ho]; exact hrow.own
theorem specSig_calls (s : ByteArray) (w : World) (hs : s.size ≤ 1048576) : Calls Tryz.prog 189 #[.string s] w (SigPost s.data.toList w) := by
 have hlen := toList_size s
 go_enter Tryz.func189, Tryz.ntmps189
 go_wp2
 go_loop [5] (fun v => ∃ k : Nat, v = .int .i64 k ∧ k ≤ s.size ∧ Hid (∀ b ∈ s.data.toList.take k, b ≠ 41)) (fun v => s.size - (intOf v).toNat)
 case atStart => exact ⟨0, rfl, by omega, by intro b hb; simp at hb⟩
 case round =>
  obtain ⟨k, rfl, hk, hno⟩ := hrel
  by_cases hlt : k < s.size
  ·have hk0 : (0 : Int) ≤ k := by omega
   have hk1 : (k : Int) < s.size := by omega
   by_cases hb : (s[k]'hlt) = 41
   ·have e1 : (((s[k]'hlt).toNat : Int) != 41) = false := by rw [hb]; rfl
    have e2 : ((k : Int) == s.size) = false := by simp; omega
    have hz : 0 < s.size := by omega
    by_cases h0 : (s[0]'hz) = 40
    ·have e3 : (((s[0]'hz).toNat : Int) != 40) = false := by rw [h0]; rfl
     obtain ⟨hk2, hl, hp⟩ := sig_split (l := s.data.toList) (k := k) (by rw [hlen]; exact hlt) (by rw [← get_toList s k hlt]; exact hb) hno.out (by rw [← get_toList s 0 hz]; exact h0)
     have hk3 : (1 : Int) ≤ k := by omega
     have hk4 : (k : Int) ≤ s.size := by omega
     have hk5 : (k : Int) + 1 ≤ s.size := by omega
     obtain ⟨I, hI⟩ : ∃ I, s.extract 1 k = I := ⟨_, rfl⟩
     have hIl : I.data.toList = (s.data.toList.drop 1).take (k - 1) := by rw [← hI, piece_list s 1 k (by omega)]; rfl
     have hIs : I.size ≤ 1048576 := by rw [← hI, ByteArray.size_extract]; omega
     obtain ⟨R, hR⟩ : ∃ R, s.extract (k + 1) s.size = R := ⟨_, rfl⟩
     have hRl : R.data.toList = s.data.toList.drop (k + 1) := by rw [← hR, extract_from]
     have hRs : R.size ≤ 9223372036854775807 := by rw [← hR, ByteArray.size_extract]; omega
     have hRm : R = mkS R.data.toList := rfl
     rw [← hIl] at hl hp
     rw [← hRl] at hl
     have hlH : Hid (s.data.toList = 40 :: (I.data.toList ++ 41 :: R.data.toList)) := hl
     have hpH : Hid (∀ b ∈ I.data.toList, b ≠ 41) := hp
     have hI0 : Hid (k = 1 → I.data.toList = []) := fun h => by rw [hIl, h]; simp
     have hI1 : Hid (1 < k → I.data.toList ≠ []) := fun h e => by
      rw [e] at hIl
      have := congrArg List.length hIl
      rw [List.length_take, List.length_drop, hlen] at this
      simp at this; omega
     clear hl hp hIl hRl h0 hb hno hRm
     have typeH : Hid (∀ w, Calls Tryz.prog 61 #[.string R] w fun e w' => e = .returned (.bool (typeL R.data.toList)) ∧ w' = w) := fun w => specType_calls R w hRs
     by_cases hone : (1 : Int) < k
     ·have hps0 : parsOf I.data.toList = splitL I.data.toList := by unfold parsOf; rw [if_neg (hI1.out (by omega))]
      obtain ⟨ps, hps1⟩ : ∃ ps, ps = parsOf I.data.toList := ⟨_, rfl⟩
      have hps : Hid (ps = parsOf I.data.toList) := hps1
      have hpne : ps ≠ [] := by rw [hps1, hps0]; exact splitL_ne _
      have splitH : Hid (∀ w, Calls Tryz.prog 201 #[.string I, .int .u8 44] w fun e w' => ∃ v, e = .returned v ∧ w'.ownsRow w.heap.size 9 1 v ps.length (rowS ps) ∧ Below w.heap.size w w') := by
       rw [hps1, hps0]; exact fun w => specSplit_calls I w hIs
      have hplen : Hid (∀ p ∈ ps, p.length ≤ 1048576) := by
       rw [hps1, hps0]; intro p hp
       exact Nat.le_trans (splitL_mem _ p hp) (by rw [toList_size]; exact hIs)
      obtain ⟨ok0, hok0'⟩ : ∃ b : Bool, b = (decide ((ps.length : Int) ≤ 8) && ((R.toList == [86]) || typeL R.data.toList)) := ⟨_, rfl⟩
      have hok0 : Hid (ok0 = (decide ((ps.length : Int) ≤ 8) && ((R.toList == [86]) || typeL R.data.toList))) := hok0'
      have hpsb : ps.length ≤ 1048577 := by
       have := splitL_length I.data.toList
       rw [toList_size] at this
       rw [hps1, hps0]; omega
      clear hok0' hps1 hps0
      go_wp2_with (first
       | (go_at_call 201; refine (splitH.out _).mono ?_; rintro e w1 ⟨v, rfl, hown, hbel⟩; obtain ⟨g, cap, hrow1⟩ := row_filled hown hpne; have hv := hrow1.eq; subst hv; have hrow := hrow1.mono (base' := w.heap.size) (by simp); have hbw : Below w.heap.size w w1 := ((Below.refl _ _).alloc (Nat.le_refl _) _).trans (hbel.mono (by simp)); clear hown hrow1 hbel)
       | (go_at_call 61; refine (typeH.out _).mono ?_; rintro e w1 ⟨rfl, he⟩; subst he))
      all_goals (
       go_loop [7, 8] (fun ok iv => ∃ i : Nat, iv = .int .i64 i ∧ i ≤ ps.length ∧ ok = .bool (ok0 && (ps.take i).all typeL)) (fun _ iv => ps.length - (intOf iv).toNat)
       case atStart => exact ⟨0, rfl, Nat.zero_le _, by first | (rw [hok0.out]; done) | (rw [hok0.out]; simp_all; done) | (rw [hok0.out]; simp_all; intro _; omega)⟩
       case round =>
        obtain ⟨i, rfl, hi, rfl⟩ := hrel
        by_cases hin : i < ps.length
        ·have hin1 : (i : Int) < ps.length := by omega
         have hin0 : (0 : Int) ≤ i := by omega
         have hc := hrow.cell i hin
         have hnext : Hid ((ps.take (i + 1)).all typeL = ((ps.take i).all typeL && typeL ps[i])) := by
          show _ = _
          rw [List.take_succ_eq_append_getElem hin, List.all_append]; simp
         have hpl := hplen.out ps[i] (List.getElem_mem hin)
         obtain ⟨X, hX⟩ : ∃ X, mkS ps[i] = X := ⟨_, rfl⟩
         have hXt : Hid (typeL X.data.toList = typeL ps[i]) := by rw [← hX]; rfl
         have hXs : X.size ≤ 9223372036854775807 := by rw [← hX, ← toList_size, mkS_list]; omega
         rw [hX] at hc
         generalize typeL ps[i] = tb at *
         have hXc : Hid (∀ w, Calls Tryz.prog 61 #[.string X] w fun e w' => e = .returned (.bool tb) ∧ w' = w) := fun w => by rw [← hXt.out]; exact specType_calls X w hXs
         clear hX hXt hpl
         cases hbb : (ok0 && (ps.take i).all typeL) with
         | true =>
          go_wp2_with (first
           | (go_at_call 61; refine (hXc.out _).mono ?_; rintro e w1 ⟨rfl, he⟩; subst he))
          go_round
          case rel => exact ⟨i + 1, by simp, by omega, by rw [hnext.out, ← Bool.and_assoc, hbb]; simp⟩
          case measure => first | (simp [intOf]; done) | (simp [intOf]; omega)
         | false =>
          go_wp2
          go_round
          case rel => exact ⟨i + 1, by simp, by omega, by rw [hnext.out, ← Bool.and_assoc, hbb]; simp⟩
          case measure => first | (simp [intOf]; done) | (simp [intOf]; omega)
        ·have hin1 : ¬ (i : Int) < ps.length := by omega
         have hi2 : i = ps.length := by omega
         have hres : (ok0 && (ps.take i).all typeL) = okOf I.data.toList R.data.toList := by
          rw [hi2, List.take_length, hok0.out, okOf, ← hps.out, ByteArray.toList_eq, show decide ((ps.length : Int) ≤ 8) = decide (ps.length ≤ 8) from decide_eq_decide.2 (by omega)]
         rw [hres]
         clear hres hi2
         cases hbb : okOf I.data.toList R.data.toList with
         | true =>
          go_wp2
          have hslice : ∀ W, (Instr.slice 9 (.string s) (some (.int .i64 ((k : Int) + 1))) none none).run Tryz.prog W = .ok (.string R) W := fun W => by
           rw [run_slice_string_from_if W 9 s .i64 _ Tryz.underlying9, if_pos ⟨by omega, hk5⟩, show ((k : Int) + 1).toNat = k + 1 by omega, hR]
          go_region
          all_goals (
           go_wp2
           go_ret3
           exact SigPost.yes hlH.out hpH.out hbb hps.out hrow hbw)
         | false =>
          have hno : sigOk s.data.toList = false := by rw [hlH.out, sig_at _ _ hpH.out, hbb]
          go_wp2
          go_ret3
          exact SigPost.no hno hbw)
     ·have hI2 : I.data.toList = [] := hI0.out (by omega)
      have hps : Hid ([] = parsOf I.data.toList) := by show _ = _; rw [hI2]; rfl
      have hb0 : Below w.heap.size w (w.alloc (.cells #[] 9)) := (Below.refl _ _).alloc (Nat.le_refl _) _
      obtain ⟨g, cap, hrow⟩ := row_open (ps := []) (emptyRow w w (Nat.le_refl _)) (by simp)
      have hrowH : Hid (RowAt (w.alloc (.cells #[] 9)) w.heap.size [] (.slice (some ⟨w.heap.size, 0, none⟩) 0 0) g cap) := hrow
      obtain ⟨ok0, hok0'⟩ : ∃ b : Bool, b = ((R.toList == [86]) || typeL R.data.toList) := ⟨_, rfl⟩
      have hok0 : Hid (ok0 = ((R.toList == [86]) || typeL R.data.toList)) := hok0'
      have hres : ok0 = okOf I.data.toList R.data.toList := by rw [hok0', okOf, ← hps.out, ByteArray.toList_eq]; simp
      clear hok0' hI2 hrow
      go_wp2_with (first
       | (go_at_call 61; refine (typeH.out _).mono ?_; rintro e w1 ⟨rfl, he⟩; subst he))
      all_goals (
       go_loop [7, 8] (fun ok iv => iv = .int .i64 0 ∧ ok = .bool ok0) (fun _ _ => 0)
       case atStart => exact ⟨rfl, by first | (rw [hok0.out]; done) | (rw [hok0.out]; simp_all; done) | (rw [hok0.out]; simp_all; intro _; omega)⟩
       case round =>
        obtain ⟨rfl, rfl⟩ := hrel
        rw [hres]
        clear hres
        cases hbb : okOf I.data.toList R.data.toList with
        | true =>
         go_wp2
         have hslice : ∀ W, (Instr.slice 9 (.string s) (some (.int .i64 ((k : Int) + 1))) none none).run Tryz.prog W = .ok (.string R) W := fun W => by
          rw [run_slice_string_from_if W 9 s .i64 _ Tryz.underlying9, if_pos ⟨by omega, hk5⟩, show ((k : Int) + 1).toNat = k + 1 by omega, hR]
         go_region
         all_goals (
          go_wp2
          go_ret3
          exact SigPost.yes hlH.out hpH.out hbb hps.out hrowH.out hb0)
        | false =>
         have hno : sigOk s.data.toList = false := by rw [hlH.out, sig_at _ _ hpH.out, hbb]
         go_wp2
         go_ret3
         have hn := SigPost.no hno hb0
         rw [show (w.alloc (.cells #[] 9)).heap.size = w.heap.size + 1 by simp] at hn
         exact hn)
    ·have e3 : (((s[0]'hz).toNat : Int) != 40) = true := by
      rw [bne_iff_ne]; intro h
      exact h0 (UInt8.toNat_inj.1 (by simp only [UInt8.reduceToNat]; omega))
     have hr : sigOk s.data.toList = false := sig_head (fun t h => h0 (by rw [get_toList s 0 hz]; simp [h]))
     clear h0 hb
     go_wp2
     go_ret3
     exact SigPost.no hr (Below.refl _ _)
   ·have e1 : (((s[k]'hlt).toNat : Int) != 41) = true := by
     rw [bne_iff_ne]; intro h
     exact hb (UInt8.toNat_inj.1 (by simp only [UInt8.reduceToNat]; omega))
    have hn : Hid (∀ b ∈ s.data.toList.take (k + 1), b ≠ 41) := no_step (by rw [hlen]; exact hlt) hno.out (by rw [← get_toList s k hlt]; exact hb)
    clear hno hb
    go_wp2
    go_round
    case rel => exact ⟨k + 1, by simp, by omega, hn⟩
    case measure => first | (simp [intOf]; done) | (simp [intOf]; omega)
  ·have hk1 : ¬ (k : Int) < s.size := by omega
   have e : k = s.size := by omega
   subst e
   have hr : sigOk s.data.toList = false := sig_none (by have h := hno.out; rwa [← hlen, List.take_length] at h)
   go_wp2
   go_ret3
   exact SigPost.no hr (Below.refl _ _)
end Go.Proofs.YtjjccimeikkogaaGreatDoor
