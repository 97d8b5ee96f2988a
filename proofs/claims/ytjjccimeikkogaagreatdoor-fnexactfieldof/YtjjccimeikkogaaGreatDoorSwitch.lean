import Derived.Test.YtjjccimeikkogaaGreatDoorInsD
import Derived.Deep.CutBlock
namespace Go.Proofs.YtjjccimeikkogaaGreatDoor
set_option linter.unusedVariables false
open Go.RowKit
def RetOr (Q : Exit → Act → World → Prop) : Exit → Act → World → Prop
 | .ret, a, w => Q .ret a w
 | _, _, _ => False
def RetTo (Q : Exit → Act → World → Prop) (K : Act → World → Prop) : Exit → Act → World → Prop
 | .ret, a, w => Q .ret a w
 | .normal, a, w => K a w
 | _, _, _ => False
def lvl (P : Program) (j : Nat) (b : Code) (Q : Exit → Act → World → Prop) : Exit → Act → World → Prop := Exit.inBlock j (Exit.then (b.wp P Q) Q)
theorem wp_lvl {P : Program} {j : Nat} {X b : Code} {Q : Exit → Act → World → Prop} {a : Act} {w : World} (h : X.wp P (lvl P j b Q) a w) : ((Code.block j X).seq b).wp P Q a w := wp_seq (wp_block h)
theorem lvl_eq {P : Program} {j : Nat} {b : Code} {Q : Exit → Act → World → Prop} {a : Act} {w : World} (h : b.wp P Q a w) : lvl P j b Q (.exit j) a w := by
 unfold lvl Exit.inBlock; simp only [if_true]; exact h
theorem lvl_ne {P : Program} {j m : Nat} {b : Code} {Q : Exit → Act → World → Prop} {a : Act} {w : World} (hm : m ≠ j) (h : Q (.exit m) a w) : lvl P j b Q (.exit m) a w := by
 unfold lvl Exit.inBlock; simp only [if_neg hm]; exact h
theorem lvl_ret {P : Program} {j : Nat} {b : Code} {Q : Exit → Act → World → Prop} {a : Act} {w : World} (h : Q .ret a w) : lvl P j b Q .ret a w := h
theorem lvl_normal {P : Program} {j : Nat} {b : Code} {Q : Exit → Act → World → Prop} {a : Act} {w : World} (h : b.wp P Q a w) : lvl P j b Q .normal a w := h
theorem ret_mono {P : Program} {b : Code} {Q S : Exit → Act → World → Prop} {a : Act} {w : World} (hS : ∀ a w, Q .ret a w → S .ret a w) (h : b.wp P (RetOr Q) a w) : b.wp P S a w :=
 Code.wp_mono (fun e a w he => by cases e <;> first | exact hS _ _ he | exact (he : False).elim) h
theorem to_mono {P : Program} {b : Code} {Q S : Exit → Act → World → Prop} {K : Act → World → Prop} {a : Act} {w : World} (hS : ∀ a w, Q .ret a w → S .ret a w) (hK : ∀ a w, K a w → S .normal a w) (h : b.wp P (RetTo Q K) a w) : b.wp P S a w :=
 Code.wp_mono (fun e a w he => by cases e <;> first | exact hS _ _ he | exact hK _ _ he | exact (he : False).elim) h
theorem switch16 {P : Program} {Q : Exit → Act → World → Prop} {a : Act} {w : World} {D b1 b2 b3 b4 b5 b6 b7 b8 b9 b10 b11 b12 b13 b14 b15 b16 : Code}
  (h : ∀ R : Exit → Act → World → Prop, (∀ a w, Q .normal a w → R (.exit 0) a w) →
   (∀ a w, b1.wp P (RetOr Q) a w → R (.exit 1) a w) →
   (∀ a w, b2.wp P (RetOr Q) a w → R (.exit 2) a w) →
   (∀ a w, b3.wp P (RetOr Q) a w → R (.exit 3) a w) →
   (∀ a w, b4.wp P (RetOr Q) a w → R (.exit 4) a w) →
   (∀ a w, b5.wp P (RetTo Q (b6.wp P (RetOr Q))) a w → R (.exit 5) a w) →
   (∀ a w, b6.wp P (RetOr Q) a w → R (.exit 6) a w) →
   (∀ a w, b7.wp P (RetOr Q) a w → R (.exit 7) a w) →
   (∀ a w, b8.wp P (RetOr Q) a w → R (.exit 8) a w) →
   (∀ a w, b9.wp P (RetOr Q) a w → R (.exit 9) a w) →
   (∀ a w, b10.wp P (RetOr Q) a w → R (.exit 10) a w) →
   (∀ a w, b11.wp P (RetOr Q) a w → R (.exit 11) a w) →
   (∀ a w, b12.wp P (RetOr Q) a w → R (.exit 12) a w) →
   (∀ a w, b13.wp P (RetOr Q) a w → R (.exit 13) a w) →
   (∀ a w, b14.wp P (RetOr Q) a w → R (.exit 14) a w) →
   (∀ a w, b15.wp P (RetOr Q) a w → R (.exit 15) a w) →
   (∀ a w, b16.wp P (RetOr Q) a w → R (.exit 16) a w) → D.wp P R a w) :
  (Code.block 0 ((Code.block 16 ((Code.block 15 ((Code.block 14 ((Code.block 13 ((Code.block 12 ((Code.block 11 ((Code.block 10 ((Code.block 9 ((Code.block 8 ((Code.block 7 ((Code.block 6 ((Code.block 5 ((Code.block 4 ((Code.block 3 ((Code.block 2 ((Code.block 1 D).seq b1)).seq b2)).seq b3)).seq b4)).seq b5)).seq b6)).seq b7)).seq b8)).seq b9)).seq b10)).seq b11)).seq b12)).seq b13)).seq b14)).seq b15)).seq b16)).wp P Q a w := by
 refine wp_block ?_
 refine wp_lvl ?_
 refine wp_lvl ?_
 refine wp_lvl ?_
 refine wp_lvl ?_
 refine wp_lvl ?_
 refine wp_lvl ?_
 refine wp_lvl ?_
 refine wp_lvl ?_
 refine wp_lvl ?_
 refine wp_lvl ?_
 refine wp_lvl ?_
 refine wp_lvl ?_
 refine wp_lvl ?_
 refine wp_lvl ?_
 refine wp_lvl ?_
 refine wp_lvl ?_
 have hret : ∀ a w, Q .ret a w → Exit.inBlock 0 Q .ret a w := fun _ _ h => h
 have r16 : ∀ a w, Q .ret a w → (Exit.inBlock 0 Q) .ret a w := hret
 have r15 : ∀ a w, Q .ret a w → (lvl P 16 b16 (Exit.inBlock 0 Q)) .ret a w := fun a w h => lvl_ret (r16 a w h)
 have r14 : ∀ a w, Q .ret a w → (lvl P 15 b15 (lvl P 16 b16 (Exit.inBlock 0 Q))) .ret a w := fun a w h => lvl_ret (r15 a w h)
 have r13 : ∀ a w, Q .ret a w → (lvl P 14 b14 (lvl P 15 b15 (lvl P 16 b16 (Exit.inBlock 0 Q)))) .ret a w := fun a w h => lvl_ret (r14 a w h)
 have r12 : ∀ a w, Q .ret a w → (lvl P 13 b13 (lvl P 14 b14 (lvl P 15 b15 (lvl P 16 b16 (Exit.inBlock 0 Q))))) .ret a w := fun a w h => lvl_ret (r13 a w h)
 have r11 : ∀ a w, Q .ret a w → (lvl P 12 b12 (lvl P 13 b13 (lvl P 14 b14 (lvl P 15 b15 (lvl P 16 b16 (Exit.inBlock 0 Q)))))) .ret a w := fun a w h => lvl_ret (r12 a w h)
 have r10 : ∀ a w, Q .ret a w → (lvl P 11 b11 (lvl P 12 b12 (lvl P 13 b13 (lvl P 14 b14 (lvl P 15 b15 (lvl P 16 b16 (Exit.inBlock 0 Q))))))) .ret a w := fun a w h => lvl_ret (r11 a w h)
 have r9 : ∀ a w, Q .ret a w → (lvl P 10 b10 (lvl P 11 b11 (lvl P 12 b12 (lvl P 13 b13 (lvl P 14 b14 (lvl P 15 b15 (lvl P 16 b16 (Exit.inBlock 0 Q)))))))) .ret a w := fun a w h => lvl_ret (r10 a w h)
 have r8 : ∀ a w, Q .ret a w → (lvl P 9 b9 (lvl P 10 b10 (lvl P 11 b11 (lvl P 12 b12 (lvl P 13 b13 (lvl P 14 b14 (lvl P 15 b15 (lvl P 16 b16 (Exit.inBlock 0 Q))))))))) .ret a w := fun a w h => lvl_ret (r9 a w h)
 have r7 : ∀ a w, Q .ret a w → (lvl P 8 b8 (lvl P 9 b9 (lvl P 10 b10 (lvl P 11 b11 (lvl P 12 b12 (lvl P 13 b13 (lvl P 14 b14 (lvl P 15 b15 (lvl P 16 b16 (Exit.inBlock 0 Q)))))))))) .ret a w := fun a w h => lvl_ret (r8 a w h)
 have r6 : ∀ a w, Q .ret a w → (lvl P 7 b7 (lvl P 8 b8 (lvl P 9 b9 (lvl P 10 b10 (lvl P 11 b11 (lvl P 12 b12 (lvl P 13 b13 (lvl P 14 b14 (lvl P 15 b15 (lvl P 16 b16 (Exit.inBlock 0 Q))))))))))) .ret a w := fun a w h => lvl_ret (r7 a w h)
 have r5 : ∀ a w, Q .ret a w → (lvl P 6 b6 (lvl P 7 b7 (lvl P 8 b8 (lvl P 9 b9 (lvl P 10 b10 (lvl P 11 b11 (lvl P 12 b12 (lvl P 13 b13 (lvl P 14 b14 (lvl P 15 b15 (lvl P 16 b16 (Exit.inBlock 0 Q)))))))))))) .ret a w := fun a w h => lvl_ret (r6 a w h)
 have r4 : ∀ a w, Q .ret a w → (lvl P 5 b5 (lvl P 6 b6 (lvl P 7 b7 (lvl P 8 b8 (lvl P 9 b9 (lvl P 10 b10 (lvl P 11 b11 (lvl P 12 b12 (lvl P 13 b13 (lvl P 14 b14 (lvl P 15 b15 (lvl P 16 b16 (Exit.inBlock 0 Q))))))))))))) .ret a w := fun a w h => lvl_ret (r5 a w h)
 have r3 : ∀ a w, Q .ret a w → (lvl P 4 b4 (lvl P 5 b5 (lvl P 6 b6 (lvl P 7 b7 (lvl P 8 b8 (lvl P 9 b9 (lvl P 10 b10 (lvl P 11 b11 (lvl P 12 b12 (lvl P 13 b13 (lvl P 14 b14 (lvl P 15 b15 (lvl P 16 b16 (Exit.inBlock 0 Q)))))))))))))) .ret a w := fun a w h => lvl_ret (r4 a w h)
 have r2 : ∀ a w, Q .ret a w → (lvl P 3 b3 (lvl P 4 b4 (lvl P 5 b5 (lvl P 6 b6 (lvl P 7 b7 (lvl P 8 b8 (lvl P 9 b9 (lvl P 10 b10 (lvl P 11 b11 (lvl P 12 b12 (lvl P 13 b13 (lvl P 14 b14 (lvl P 15 b15 (lvl P 16 b16 (Exit.inBlock 0 Q))))))))))))))) .ret a w := fun a w h => lvl_ret (r3 a w h)
 have r1 : ∀ a w, Q .ret a w → (lvl P 2 b2 (lvl P 3 b3 (lvl P 4 b4 (lvl P 5 b5 (lvl P 6 b6 (lvl P 7 b7 (lvl P 8 b8 (lvl P 9 b9 (lvl P 10 b10 (lvl P 11 b11 (lvl P 12 b12 (lvl P 13 b13 (lvl P 14 b14 (lvl P 15 b15 (lvl P 16 b16 (Exit.inBlock 0 Q)))))))))))))))) .ret a w := fun a w h => lvl_ret (r2 a w h)
 refine h _ (fun a w h => ?_) (fun a w h => ?_) (fun a w h => ?_) (fun a w h => ?_) (fun a w h => ?_) (fun a w h => ?_) (fun a w h => ?_) (fun a w h => ?_) (fun a w h => ?_) (fun a w h => ?_) (fun a w h => ?_) (fun a w h => ?_) (fun a w h => ?_) (fun a w h => ?_) (fun a w h => ?_) (fun a w h => ?_) (fun a w h => ?_)
 ·exact (lvl_ne (by decide) (lvl_ne (by decide) (lvl_ne (by decide) (lvl_ne (by decide) (lvl_ne (by decide) (lvl_ne (by decide) (lvl_ne (by decide) (lvl_ne (by decide) (lvl_ne (by decide) (lvl_ne (by decide) (lvl_ne (by decide) (lvl_ne (by decide) (lvl_ne (by decide) (lvl_ne (by decide) (lvl_ne (by decide) (lvl_ne (by decide) (show Exit.inBlock 0 Q (.exit 0) a w from h)))))))))))))))))
 ·exact (lvl_eq (ret_mono r1 h))
 ·exact (lvl_ne (by decide) (lvl_eq (ret_mono r2 h)))
 ·exact (lvl_ne (by decide) (lvl_ne (by decide) (lvl_eq (ret_mono r3 h))))
 ·exact (lvl_ne (by decide) (lvl_ne (by decide) (lvl_ne (by decide) (lvl_eq (ret_mono r4 h)))))
 ·exact (lvl_ne (by decide) (lvl_ne (by decide) (lvl_ne (by decide) (lvl_ne (by decide) (lvl_eq (to_mono r5 (fun a w h => lvl_normal (ret_mono r6 h)) h))))))
 ·exact (lvl_ne (by decide) (lvl_ne (by decide) (lvl_ne (by decide) (lvl_ne (by decide) (lvl_ne (by decide) (lvl_eq (ret_mono r6 h)))))))
 ·exact (lvl_ne (by decide) (lvl_ne (by decide) (lvl_ne (by decide) (lvl_ne (by decide) (lvl_ne (by decide) (lvl_ne (by decide) (lvl_eq (ret_mono r7 h))))))))
 ·exact (lvl_ne (by decide) (lvl_ne (by decide) (lvl_ne (by decide) (lvl_ne (by decide) (lvl_ne (by decide) (lvl_ne (by decide) (lvl_ne (by decide) (lvl_eq (ret_mono r8 h)))))))))
 ·exact (lvl_ne (by decide) (lvl_ne (by decide) (lvl_ne (by decide) (lvl_ne (by decide) (lvl_ne (by decide) (lvl_ne (by decide) (lvl_ne (by decide) (lvl_ne (by decide) (lvl_eq (ret_mono r9 h))))))))))
 ·exact (lvl_ne (by decide) (lvl_ne (by decide) (lvl_ne (by decide) (lvl_ne (by decide) (lvl_ne (by decide) (lvl_ne (by decide) (lvl_ne (by decide) (lvl_ne (by decide) (lvl_ne (by decide) (lvl_eq (ret_mono r10 h)))))))))))
 ·exact (lvl_ne (by decide) (lvl_ne (by decide) (lvl_ne (by decide) (lvl_ne (by decide) (lvl_ne (by decide) (lvl_ne (by decide) (lvl_ne (by decide) (lvl_ne (by decide) (lvl_ne (by decide) (lvl_ne (by decide) (lvl_eq (ret_mono r11 h))))))))))))
 ·exact (lvl_ne (by decide) (lvl_ne (by decide) (lvl_ne (by decide) (lvl_ne (by decide) (lvl_ne (by decide) (lvl_ne (by decide) (lvl_ne (by decide) (lvl_ne (by decide) (lvl_ne (by decide) (lvl_ne (by decide) (lvl_ne (by decide) (lvl_eq (ret_mono r12 h)))))))))))))
 ·exact (lvl_ne (by decide) (lvl_ne (by decide) (lvl_ne (by decide) (lvl_ne (by decide) (lvl_ne (by decide) (lvl_ne (by decide) (lvl_ne (by decide) (lvl_ne (by decide) (lvl_ne (by decide) (lvl_ne (by decide) (lvl_ne (by decide) (lvl_ne (by decide) (lvl_eq (ret_mono r13 h))))))))))))))
 ·exact (lvl_ne (by decide) (lvl_ne (by decide) (lvl_ne (by decide) (lvl_ne (by decide) (lvl_ne (by decide) (lvl_ne (by decide) (lvl_ne (by decide) (lvl_ne (by decide) (lvl_ne (by decide) (lvl_ne (by decide) (lvl_ne (by decide) (lvl_ne (by decide) (lvl_ne (by decide) (lvl_eq (ret_mono r14 h)))))))))))))))
 ·exact (lvl_ne (by decide) (lvl_ne (by decide) (lvl_ne (by decide) (lvl_ne (by decide) (lvl_ne (by decide) (lvl_ne (by decide) (lvl_ne (by decide) (lvl_ne (by decide) (lvl_ne (by decide) (lvl_ne (by decide) (lvl_ne (by decide) (lvl_ne (by decide) (lvl_ne (by decide) (lvl_ne (by decide) (lvl_eq (ret_mono r15 h))))))))))))))))
 ·exact (lvl_ne (by decide) (lvl_ne (by decide) (lvl_ne (by decide) (lvl_ne (by decide) (lvl_ne (by decide) (lvl_ne (by decide) (lvl_ne (by decide) (lvl_ne (by decide) (lvl_ne (by decide) (lvl_ne (by decide) (lvl_ne (by decide) (lvl_ne (by decide) (lvl_ne (by decide) (lvl_ne (by decide) (lvl_ne (by decide) (lvl_eq (ret_mono r16 h)))))))))))))))))
open Go.ChangeShapes Go.WideShapes Go.ChangeAt Go.RowKit
theorem retOr_ret {Q : Exit → Act → World → Prop} {a : Act} {w : World} (h : Q .ret a w) : RetOr Q .ret a w := h
theorem retTo_ret {Q : Exit → Act → World → Prop} {K : Act → World → Prop} {a : Act} {w : World} (h : Q .ret a w) : RetTo Q K .ret a w := h
theorem retTo_normal {Q : Exit → Act → World → Prop} {K : Act → World → Prop} {a : Act} {w : World} (h : K a w) : RetTo Q K .normal a w := h
theorem then_ret {Q : Exit → Act → World → Prop} {K : Act → World → Prop} {a : Act} {w : World} (h : Q .ret a w) : Exit.then K Q .ret a w := h
def PA (o : Int) : Prop := o = 1 ∨ o = 2 ∨ o = 4 ∨ o = 5 ∨ o = 6
def PB (o : Int) : Prop := o = 11 ∨ o = 12 ∨ o = 13 ∨ o = 14 ∨ o = 16
def PC (o : Int) : Prop := o = 15 ∨ (17 ≤ o ∧ o ≤ 22)
def PD (o : Int) : Prop := o = 23 ∨ o = 24
def PE (o : Int) : Prop := 25 ≤ o ∧ o ≤ 30
def PF (o : Int) : Prop := o = 31 ∨ o = 32 ∨ o = 33
def PG (o : Int) : Prop := o = 34 ∨ o = 35
def PH (o : Int) : Prop := (36 ≤ o) ∨ o = 3 ∨ (7 ≤ o ∧ o ≤ 10) ∨ o ≤ 0
theorem parts_allP (o : Int) : PA o ∨ PB o ∨ PC o ∨ PD o ∨ PE o ∨ PF o ∨ PG o ∨ PH o := by
 unfold PA PB PC PD PE PF PG PH; omega
end Go.Proofs.YtjjccimeikkogaaGreatDoor
