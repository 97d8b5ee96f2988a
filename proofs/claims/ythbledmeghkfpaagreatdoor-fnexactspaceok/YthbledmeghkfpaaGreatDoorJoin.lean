/- spec.InsOk and impl.InsOk: both answer the same of any instruction of at most 2^20 bytes and numbers. -/
import Derived.Test.YthbledmeghkfpaaGreatDoorJoin0
import Derived.Test.YthbledmeghkfpaaGreatDoorInsHA
import Derived.Test.YthbledmeghkfpaaGreatDoorInsHE
import Derived.Test.YthbledmeghkfpaaGreatDoorSpQA
import Derived.Test.YthbledmeghkfpaaGreatDoorSpQC
import Derived.Test.YthbledmeghkfpaaGreatDoorSpQE
import Derived.Test.YthbledmeghkfpaaGreatDoorSpO
namespace Go.Proofs.YthbledmeghkfpaaGreatDoor
set_option linter.unusedVariables false
open Go.ChangeShapes Go.WideShapes Go.ChangeAt Go.RowKit

/-- What an instruction is held against. -/
def insB (o k a b : Int) (T C N Y : ByteArray) (zs : List Int) (size locals : Int) : Bool := keptB o k a b T C N Y zs && contS o k a b T C N Y zs size locals

theorem contents_calls (o k a b size locals : Int) (T C N Y : ByteArray) (v : Value) (zs : List Int) (w : World) (ht : Tab w v zs) (hz : zs.length ≤ 1048576)
    (ha1 : -9223372036854775808 ≤ a) (ha2 : a < 9223372036854775808) (hT : T.size ≤ 1048576) (hC : C.size ≤ 1048576) (hN : N.size ≤ 1048576) (hY : Y.size ≤ 1048576) (hsh : w.ShapedOpen Tryz.prog) :
    Calls Tryz.prog 143 #[insV o k a b T C N Y v, .int .i64 size, .int .i64 locals] w fun e w' => e = .returned (.bool (contB o k a b T C N Y zs size locals)) ∧ Below w.heap.size w w' := by
  rcases parts_allP o with h | h | h | h | h | h | h | h
  · exact contents_A o k a b size locals T C N Y v zs w ht hz ha1 ha2 hT hC hN hY hsh h
  · exact contents_B o k a b size locals T C N Y v zs w ht hz ha1 ha2 hT hC hN hY hsh h
  · exact contents_C o k a b size locals T C N Y v zs w ht hz ha1 ha2 hT hC hN hY hsh h
  · exact contents_D o k a b size locals T C N Y v zs w ht hz ha1 ha2 hT hC hN hY hsh h
  · exact contents_E o k a b size locals T C N Y v zs w ht hz ha1 ha2 hT hC hN hY hsh h
  · exact contents_F o k a b size locals T C N Y v zs w ht hz ha1 ha2 hT hC hN hY hsh h
  · exact contents_G o k a b size locals T C N Y v zs w ht hz ha1 ha2 hT hC hN hY hsh h
  · exact contents_H o k a b size locals T C N Y v zs w ht hz ha1 ha2 hT hC hN hY hsh h

theorem implIns_calls (o k a b size locals : Int) (T C N Y : ByteArray) (v : Value) (zs : List Int) (w : World) (ht : Tab w v zs) (hz : zs.length ≤ 1048576)
    (ha1 : -9223372036854775808 ≤ a) (ha2 : a < 9223372036854775808) (hT : T.size ≤ 1048576) (hC : C.size ≤ 1048576) (hN : N.size ≤ 1048576) (hY : Y.size ≤ 1048576) (hsh : w.ShapedOpen Tryz.prog) :
    Calls Tryz.prog 115 #[insV o k a b T C N Y v, .int .i64 size, .int .i64 locals] w fun e w' => e = .returned (.bool (insB o k a b T C N Y zs size locals)) ∧ Below w.heap.size w w' := by
  unfold insB
  rw [← agree]
  obtain ⟨ta, c, rfl⟩ := ht.form
  exact insRegion _ _ _ o k a b _ size locals T C N Y ta zs.length c w (fun W => between_calls _ _ _ W) (fun W => partsOf_calls o W) (fun W => noneBeside_calls o k a b _ T C N Y ta zs.length c W)
    (fun W hW => contents_calls o k a b size locals T C N Y _ zs W (ht.kept hW) hz ha1 ha2 hT hC hN hY (shaped_below hsh hW))

theorem specIns_calls (o k a b size locals : Int) (T C N Y : ByteArray) (v : Value) (zs : List Int) (w : World) (ht : Tab w v zs) (hz : zs.length ≤ 1048576)
    (hT : T.size ≤ 1048576) (hC : C.size ≤ 1048576) (hN : N.size ≤ 1048576) (hY : Y.size ≤ 1048576) :
    SpecSays o k a b T C N Y v size locals w (insB o k a b T C N Y zs size locals) := by
  unfold insB
  cases hk : keptB o k a b T C N Y zs with
  | false => rw [Bool.false_and]; exact spec_not o k a b size locals T C N Y v zs w ht hz hk
  | true =>
    rw [Bool.true_and]
    rcases parts_allQ o with h | h | h | h | h | h | h | h | h
    · subst h
      show SpecSays 1 k a b T C N Y v size locals w ((k == 1 && wrap32 a == a) || k == 2 || (k == 3 && fltOk a))
      cases h1 : (k == 1) with
      | true =>
        have e := eq_of_beq h1
        have h2 : (k == 2) = false := by rw [e]; rfl
        have h3 : (k == 3) = false := by rw [e]; rfl
        cases hw : (wrap32 a == a) with
        | true => exact specOne_a k a b size locals T C N Y v zs w ht hz hk h1 hw
        | false => rw [h2, h3]; exact specOne_b k a b size locals T C N Y v zs w ht hz hk h1 hw h2 h3
      | false =>
        cases h2 : (k == 2) with
        | true => rw [Bool.false_and, Bool.false_or, Bool.true_or]; exact specOne_c k a b size locals T C N Y v zs w ht hz hk h1 h2
        | false =>
          rw [Bool.false_and, Bool.false_or, Bool.false_or]
          cases h3 : (k == 3) with
          | true =>
            rw [Bool.true_and]
            unfold fltOk
            cases ho : decide (openC a < 2) with
            | true => exact specOne_d k a b size locals T C N Y v zs w ht hz hk h1 h2 h3 ho
            | false => exact specOne_e k a b size locals T C N Y v zs w ht hz hk h1 h2 h3 ho
          | false => exact specOne_f k a b size locals T C N Y v zs w ht hz hk h1 h2 h3
    · subst h
      show SpecSays 23 k a b T C N Y v size locals w (k == 2 || (k == 3 && (b == -1 || b == 1)))
      by_cases hsg : 0 ≤ a
      · cases h2 : (k == 2) with
        | true => exact specCmp_ap k a b size locals T C N Y v zs w ht hz hk hsg h2
        | false =>
          cases h3 : (k == 3) with
          | false => exact specCmp_bp k a b size locals T C N Y v zs w ht hz hk hsg h2 h3
          | true =>
            cases hb : (b == -1) with
            | true => exact specCmp_cp k a b size locals T C N Y v zs w ht hz hk hsg h2 h3 hb
            | false => exact specCmp_dp k a b size locals T C N Y v zs w ht hz hk hsg h2 h3 hb
      · have hsg : a < 0 := by omega
        cases h2 : (k == 2) with
        | true => exact specCmp_an k a b size locals T C N Y v zs w ht hz hk hsg h2
        | false =>
          cases h3 : (k == 3) with
          | false => exact specCmp_bn k a b size locals T C N Y v zs w ht hz hk hsg h2 h3
          | true =>
            cases hb : (b == -1) with
            | true => exact specCmp_cn k a b size locals T C N Y v zs w ht hz hk hsg h2 h3 hb
            | false => exact specCmp_dn k a b size locals T C N Y v zs w ht hz hk hsg h2 h3 hb
    · subst h
      show SpecSays 30 k a b T C N Y v size locals w (wthn a size && (wrap32 b == b) && decide ((0 : Int) < zs.length) && decide ((zs.length : Int) ≤ 100) && zs.all fun z => wthn z size)
      by_cases hsg : 0 ≤ a
      · have hwt : wthn a size = decide (a < size) := by unfold wthn; simp [hsg]
        rw [hwt]
        cases h7 : decide (a < size) with
        | false => exact specSw_b k a b size locals T C N Y v zs w ht hz hk hsg h7
        | true =>
          cases hw : (wrap32 b == b) with
          | false => exact specSw_c k a b size locals T C N Y v zs w ht hz hk hsg h7 hw
          | true =>
            by_cases hn : 0 < zs.length
            · have : decide ((0 : Int) < zs.length) = true := decide_eq_true (by omega)
              rw [this]
              exact specSw_d k a b size locals T C N Y v zs w ht hz hk hsg h7 hw hn
            · have : decide ((0 : Int) < zs.length) = false := decide_eq_false (by omega)
              rw [this]
              exact specSw_e k a b size locals T C N Y v zs w ht hz hk hsg h7 hw (by omega)
      · have hwt : wthn a size = false := by unfold wthn; simp [hsg]
        rw [hwt]
        exact specSw_a k a b size locals T C N Y v zs w ht hz hk (by omega)
    all_goals (by_cases hsg : 0 ≤ a)
    · exact spec_QAp o k a b size locals T C N Y v zs w ht hz hT hC hN hY hk h hsg
    · exact spec_QAn o k a b size locals T C N Y v zs w ht hz hT hC hN hY hk h (by omega)
    · exact spec_QBp o k a b size locals T C N Y v zs w ht hz hT hC hN hY hk h hsg
    · exact spec_QBn o k a b size locals T C N Y v zs w ht hz hT hC hN hY hk h (by omega)
    · exact spec_QCp o k a b size locals T C N Y v zs w ht hz hT hC hN hY hk h hsg
    · exact spec_QCn o k a b size locals T C N Y v zs w ht hz hT hC hN hY hk h (by omega)
    · exact spec_QDp o k a b size locals T C N Y v zs w ht hz hT hC hN hY hk h hsg
    · exact spec_QDn o k a b size locals T C N Y v zs w ht hz hT hC hN hY hk h (by omega)
    · exact spec_QEp o k a b size locals T C N Y v zs w ht hz hT hC hN hY hk h hsg
    · exact spec_QEn o k a b size locals T C N Y v zs w ht hz hT hC hN hY hk h (by omega)
    · exact spec_QFp o k a b size locals T C N Y v zs w ht hz hT hC hN hY hk h hsg
    · exact spec_QFn o k a b size locals T C N Y v zs w ht hz hT hC hN hY hk h (by omega)
end Go.Proofs.YthbledmeghkfpaaGreatDoor
