/- An instruction held against what its op names of it. -/
import Derived.Test.YtkkfkbcdcdifdaaDoorSpA
import Derived.Test.YtkkfkbcdcdifdaaDoorSpB
import Derived.Test.YtkkfkbcdcdifdaaDoorInsG
namespace Go.Proofs.YtkkfkbcdcdifdaaDoor
set_option linter.unusedVariables false
open Go.ChangeShapes Go.WideShapes Go.ChangeAt Go.RowKit

def keptB (o k a b : Int) (T C N Y : ByteArray) (zs : List Int) : Bool :=
  if o = 1 ∨ o = 24 ∨ o = 4 ∨ o = 5 then sameB o k a b o k a 0 T C N Y ⟨#[]⟩ ⟨#[]⟩ ⟨#[]⟩ ⟨#[]⟩ zs []
  else if o = 2 then sameB o k a b o 0 0 0 T C N Y T ⟨#[]⟩ ⟨#[]⟩ ⟨#[]⟩ zs []
  else if o = 6 ∨ (26 ≤ o ∧ o ≤ 29) then sameB o k a b o 0 a b T C N Y ⟨#[]⟩ ⟨#[]⟩ ⟨#[]⟩ ⟨#[]⟩ zs []
  else if o = 25 then sameB o k a b o 0 a 0 T C N Y ⟨#[]⟩ ⟨#[]⟩ ⟨#[]⟩ ⟨#[]⟩ zs []
  else if o = 23 ∧ k = 3 then sameB o k a b o k 0 b T C N Y ⟨#[]⟩ ⟨#[]⟩ ⟨#[]⟩ ⟨#[]⟩ zs []
  else if o = 23 then sameB o k a b o k 0 0 T C N Y ⟨#[]⟩ ⟨#[]⟩ ⟨#[]⟩ ⟨#[]⟩ zs []
  else if o = 30 then sameB o k a b o 0 a b T C N Y ⟨#[]⟩ ⟨#[]⟩ ⟨#[]⟩ ⟨#[]⟩ zs zs
  else if 31 ≤ o ∧ o ≤ 33 then sameB o k a b o 0 0 b T C N Y ⟨#[]⟩ C N Y zs []
  else if o = 34 then sameB o k a b o 0 0 0 T C N Y ⟨#[]⟩ C ⟨#[]⟩ ⟨#[]⟩ zs []
  else if o = 35 ∨ o = 39 ∨ o = 40 then sameB o k a b o 0 0 0 T C N Y ⟨#[]⟩ ⟨#[]⟩ ⟨#[]⟩ Y zs []
  else if (o = 37 ∨ o = 38 ∨ o = 44) ∨ (11 ≤ o ∧ o ≤ 22) then sameB o k a b o k 0 0 T C N Y ⟨#[]⟩ ⟨#[]⟩ ⟨#[]⟩ ⟨#[]⟩ zs []
  else sameB o k a b o 0 0 0 T C N Y ⟨#[]⟩ ⟨#[]⟩ ⟨#[]⟩ ⟨#[]⟩ zs []

theorem Tab.nil (w : World) : Tab w (.slice none 0 0) [] := .inl ⟨rfl, rfl⟩
theorem sameOnly_calls (o k a b : Int) (T C N Y : ByteArray) (v : Value) (zs : List Int) (w : World) (ht : Tab w v zs) (hz : zs.length ≤ 1048576) :
    Calls Tryd.prog 16 #[insV o k a b T C N Y v, onlyV o k a b T C N Y v] w fun e w' => e = .returned (.bool (keptB o k a b T C N Y zs)) ∧ Below w.heap.size w w' := by
  unfold onlyV keptB
  by_cases h1 : o = 1 ∨ o = 24 ∨ o = 4 ∨ o = 5
  · rw [if_pos h1, if_pos h1]; exact sameIns_calls _ _ _ _ _ _ _ _ _ _ _ _ _ _ _ _ _ _ _ _ w ht (Tab.nil w) hz (by simp)
  rw [if_neg h1, if_neg h1]
  by_cases h2 : o = 2
  · rw [if_pos h2, if_pos h2]; exact sameIns_calls _ _ _ _ _ _ _ _ _ _ _ _ _ _ _ _ _ _ _ _ w ht (Tab.nil w) hz (by simp)
  rw [if_neg h2, if_neg h2]
  by_cases h3 : o = 6 ∨ (26 ≤ o ∧ o ≤ 29)
  · rw [if_pos h3, if_pos h3]; exact sameIns_calls _ _ _ _ _ _ _ _ _ _ _ _ _ _ _ _ _ _ _ _ w ht (Tab.nil w) hz (by simp)
  rw [if_neg h3, if_neg h3]
  by_cases h4 : o = 25
  · rw [if_pos h4, if_pos h4]; exact sameIns_calls _ _ _ _ _ _ _ _ _ _ _ _ _ _ _ _ _ _ _ _ w ht (Tab.nil w) hz (by simp)
  rw [if_neg h4, if_neg h4]
  by_cases h5 : o = 23 ∧ k = 3
  · rw [if_pos h5, if_pos h5]; exact sameIns_calls _ _ _ _ _ _ _ _ _ _ _ _ _ _ _ _ _ _ _ _ w ht (Tab.nil w) hz (by simp)
  rw [if_neg h5, if_neg h5]
  by_cases h6 : o = 23
  · rw [if_pos h6, if_pos h6]; exact sameIns_calls _ _ _ _ _ _ _ _ _ _ _ _ _ _ _ _ _ _ _ _ w ht (Tab.nil w) hz (by simp)
  rw [if_neg h6, if_neg h6]
  by_cases h7 : o = 30
  · rw [if_pos h7, if_pos h7]; exact sameIns_calls _ _ _ _ _ _ _ _ _ _ _ _ _ _ _ _ _ _ _ _ w ht ht hz hz
  rw [if_neg h7, if_neg h7]
  by_cases h8 : 31 ≤ o ∧ o ≤ 33
  · rw [if_pos h8, if_pos h8]; exact sameIns_calls _ _ _ _ _ _ _ _ _ _ _ _ _ _ _ _ _ _ _ _ w ht (Tab.nil w) hz (by simp)
  rw [if_neg h8, if_neg h8]
  by_cases h9 : o = 34
  · rw [if_pos h9, if_pos h9]; exact sameIns_calls _ _ _ _ _ _ _ _ _ _ _ _ _ _ _ _ _ _ _ _ w ht (Tab.nil w) hz (by simp)
  rw [if_neg h9, if_neg h9]
  by_cases ha : o = 35 ∨ o = 39 ∨ o = 40
  · rw [if_pos ha, if_pos ha]; exact sameIns_calls _ _ _ _ _ _ _ _ _ _ _ _ _ _ _ _ _ _ _ _ w ht (Tab.nil w) hz (by simp)
  rw [if_neg ha, if_neg ha]
  by_cases hb : (o = 37 ∨ o = 38 ∨ o = 44) ∨ (11 ≤ o ∧ o ≤ 22)
  · rw [if_pos hb, if_pos hb]; exact sameIns_calls _ _ _ _ _ _ _ _ _ _ _ _ _ _ _ _ _ _ _ _ w ht (Tab.nil w) hz (by simp)
  rw [if_neg hb, if_neg hb]
  exact sameIns_calls _ _ _ _ _ _ _ _ _ _ _ _ _ _ _ _ _ _ _ _ w ht (Tab.nil w) hz (by simp)
end Go.Proofs.YtkkfkbcdcdifdaaDoor
