/- Bytes as columns: plain lists. No program is named here. -/
import Derived.Test.YtpbfohgmhjadpabCurM
import Derived.Test.YtpbfohgmhjadpabSch

namespace Go.Hm
open Go Go.RowKit
/-- A column is read. -/
def colS (S : St) : ColS × St :=
  (((takeS ((lenS 100 S).1 : Int) (lenS 100 S).2).1, ((byteS (takeS ((lenS 100 S).1 : Int) (lenS 100 S).2).2).1 : Int), decide ((byteS (byteS (takeS ((lenS 100 S).1 : Int) (lenS 100 S).2).2).2).1 = 1)),
    if 1 < (byteS (byteS (takeS ((lenS 100 S).1 : Int) (lenS 100 S).2).2).2).1 then none else (byteS (byteS (takeS ((lenS 100 S).1 : Int) (lenS 100 S).2).2).2).2)
def colsS : Nat → St → List ColS × St
  | 0, S => ([], S)
  | n + 1, S => ((colS S).1 :: (colsS n (colS S).2).1, (colsS n (colS S).2).2)
theorem colS_ok {S : St} (h : S.ok) : (colS S).2.ok := by
  unfold colS
  simp only
  split
  · exact St.ok_none
  · exact byteS_ok (byteS_ok (takeS_ok (lenS_ok h)).1)
theorem colsS_ok : ∀ (n : Nat) {S : St}, S.ok → (colsS n S).2.ok
  | 0, _, h => h
  | n + 1, _, h => colsS_ok n (colS_ok h)
theorem colsS_len : ∀ (n : Nat) (S : St), (colsS n S).1.length = n
  | 0, _ => rfl
  | n + 1, S => by rw [colsS, List.length_cons, colsS_len n]
theorem colsS_snoc : ∀ (n : Nat) (S : St), (colsS (n + 1) S).1 = (colsS n S).1 ++ [(colS (colsS n S).2).1] ∧ (colsS (n + 1) S).2 = (colS (colsS n S).2).2
  | 0, S => ⟨rfl, rfl⟩
  | n + 1, S => by
    obtain ⟨h1, h2⟩ := colsS_snoc n (colS S).2
    refine ⟨?_, h2⟩
    rw [colsS, h1]
    rfl
def colFine (c : ColS) : Prop := (∀ x ∈ c.1, x < 256) ∧ c.1.length ≤ 100
theorem colS_fine {S : St} (h : S.ok) : colFine (colS S).1 := by
  refine ⟨(takeS_ok (lenS_ok h)).2, ?_⟩
  have h1 := takeS_len (n := ((lenS 100 S).1 : Int)) (S := (lenS 100 S).2) (by omega)
  have h2 := lenS_le (m := 100) S (by omega) h
  unfold colS
  simp only
  omega
theorem colsS_fine : ∀ (n : Nat) {S : St}, S.ok → ∀ c ∈ (colsS n S).1, colFine c
  | 0, _, _, c, hc => by simp [colsS] at hc
  | n + 1, S, h, c, hc => by
    rw [colsS, List.mem_cons] at hc
    rcases hc with rfl | hc
    · exact colS_fine h
    · exact colsS_fine n (colS_ok h) c hc
/-- Columns are read; none, if there are none. -/
def getC (S : St) : List ColS × St :=
  if (colsS (lenS 64 S).1 (lenS 64 S).2).2 = none ∨ ¬ colsCk (colsS (lenS 64 S).1 (lenS 64 S).2).1 = 0 then ([], none) else colsS (lenS 64 S).1 (lenS 64 S).2

end Go.Hm
