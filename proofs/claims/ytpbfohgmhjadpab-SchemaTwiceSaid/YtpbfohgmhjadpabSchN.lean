/- Columns as bytes, and back: what holds of the plain lists. No program is named here. -/
import Derived.Test.YtpbfohgmhjadpabSchM

namespace Go.Hm
open Go
theorem boolN_one (b : Bool) : decide (boolN b = 1) = b := by cases b <;> decide
def colOf (s : List Nat) (p q : Nat × St) : ColS × St := ((s, (p.1 : Int), decide (q.1 = 1)), if 1 < q.1 then none else q.2)
theorem colS_def (S : St) : colS S = colOf (takeS ((lenS 100 S).1 : Int) (lenS 100 S).2).1 (byteS (takeS ((lenS 100 S).1 : Int) (lenS 100 S).2).2) (byteS (byteS (takeS ((lenS 100 S).1 : Int) (lenS 100 S).2).2).2) := rfl
theorem colS_app (c : ColS) (r : List Nat) (h1 : c.1.length ≤ 100) (h2 : 0 ≤ c.2.1) : colS (some (colB c ++ r)) = (c, some r) := by
  obtain ⟨nm, t, u⟩ := c
  simp only at h1 h2
  obtain ⟨t, rfl⟩ := Int.eq_ofNat_of_zero_le h2
  have e0 : colB (nm, (t : Int), u) ++ r = vp nm.length ++ (nm ++ (t :: boolN u :: r)) := by simp [colB]
  have e1 := lenS_app nm.length (nm ++ (t :: boolN u :: r)) (m := 100) (by omega) (by omega)
  rw [colS_def, e0, e1]
  simp only
  rw [takeS_app]
  have e2 : byteS (some (t :: boolN u :: r)) = (t, some (boolN u :: r)) := rfl
  have e3 : byteS (some (boolN u :: r)) = (boolN u, some r) := rfl
  simp only [e2, e3]
  unfold colOf
  simp only
  rw [if_neg (by cases u <;> decide), boolN_one]
theorem colsS_app : ∀ (l : List ColS) (r : List Nat), (∀ c ∈ l, c.1.length ≤ 100 ∧ 0 ≤ c.2.1) → colsS l.length (some (catC l ++ r)) = (l, some r)
  | [], r, _ => rfl
  | c :: l, r, h => by
    have hc := h c (by simp)
    have e : catC (c :: l) ++ r = colB c ++ (catC l ++ r) := by simp [catC]
    rw [e, List.length_cons, colsS, colS_app c _ hc.1 hc.2, colsS_app l r (fun x hx => h x (by simp [hx]))]
theorem getC_app (l : List ColS) (r : List Nat) (h : colsCk l = 0) : getC (some (vp l.length ++ catC l ++ r)) = (l, some r) := by
  obtain ⟨h1, h2, _⟩ := (colsCk_iff l).1 h
  unfold getC
  rw [List.append_assoc, lenS_app l.length (catC l ++ r) (m := 64) (by omega) (by omega)]
  simp only
  rw [colsS_app l r (fun c hc => ⟨(h2 c hc).2.1, (h2 c hc).2.2.1⟩)]
  rw [if_neg (by simp [h])]
theorem byteS_some {S : St} {b : Nat} {r : List Nat} (h : byteS S = (b, some r)) : S = some (b :: r) := by
  unfold byteS at h
  split at h
  · simp only [Prod.mk.injEq, Option.some.injEq] at h
    rw [h.1, h.2]
  · simp at h
theorem byteS_no {S : St} (h : (byteS S).2 = none) : S = none ∨ S = some [] := by
  unfold byteS at h
  split at h
  · cases h
  · rename_i h1
    rcases S with _ | l
    · exact .inl rfl
    · rcases l with _ | ⟨b, r⟩
      · exact .inr rfl
      · exact absurd rfl (h1 b r)
theorem colS_some {S : St} {c : ColS} {r : List Nat} (hS : S.ok) (h : colS S = (c, some r)) : S = some (colB c ++ r) := by
  rw [colS_def] at h
  rcases lenS_cases 100 S hS with h0 | ⟨N, r1, h0, hN, _, h1⟩
  · rw [h0] at h
    simp [takeS_none, byteS_none, colOf] at h
  · rw [h1] at h
    simp only at h
    rcases takeS_cases (N : Int) (some r1) with h2 | ⟨l, hl, _, h3, h2⟩
    · rw [h2] at h
      simp [byteS_none, colOf] at h
    · rw [h2] at h
      injection hl with hl
      subst hl
      simp only [Int.toNat_natCast] at h
      generalize hb1 : byteS (some (r1.drop N)) = B1 at *
      obtain ⟨t, S3⟩ := B1
      simp only at h
      generalize hb2 : byteS S3 = B2 at *
      obtain ⟨u, S4⟩ := B2
      unfold colOf at h
      simp only [Prod.mk.injEq] at h
      obtain ⟨hc, hr⟩ := h
      split at hr
      · cases hr
      · rename_i hu
        subst hr
        have e2 := byteS_some hb2
        subst e2
        have e1 := byteS_some hb1
        injection e1 with e1
        rw [h0]
        subst hc
        have hlen : (r1.take N).length = N := by rw [List.length_take]; omega
        have hbu : boolN (decide (u = 1)) = u := by
          have : u = 0 ∨ u = 1 := by omega
          rcases this with rfl | rfl <;> rfl
        unfold colB
        simp only [hlen, Int.toNat_natCast, hbu]
        rw [List.append_assoc, List.append_assoc]
        congr 2
        rw [show [t, u] ++ r = r1.drop N by rw [e1]; rfl, List.take_append_drop]
theorem colsS_some : ∀ (n : Nat) {S : St} {l : List ColS} {r : List Nat}, S.ok → colsS n S = (l, some r) → S = some (catC l ++ r)
  | 0, S, l, r, _, h => by
    simp only [colsS, Prod.mk.injEq] at h
    obtain ⟨rfl, rfl⟩ := h
    rfl
  | n + 1, S, l, r, hS, h => by
    rw [colsS] at h
    have hok := colS_ok hS
    generalize hc : colS S = R at *
    obtain ⟨c, S1⟩ := R
    simp only at h hok
    generalize hd : colsS n S1 = R2 at *
    obtain ⟨l2, S2⟩ := R2
    simp only [Prod.mk.injEq] at h
    obtain ⟨rfl, rfl⟩ := h
    have e := colsS_some n hok hd
    subst e
    rw [colS_some hS hc]
    simp [catC]
theorem getC_some {S : St} {l : List ColS} {r : List Nat} (hS : S.ok) (h : getC S = (l, some r)) : colsCk l = 0 ∧ S = some (vp l.length ++ catC l ++ r) := by
  unfold getC at h
  rcases lenS_cases 64 S hS with h0 | ⟨N, r1, h0, hN, _, h1⟩
  · rw [h0] at h
    simp [colsS] at h
  · rw [h1] at h
    simp only at h
    split at h
    · simp at h
    · rename_i hn
      have hok : St.ok (some r1) := St.ok_some fun x hx => hS _ h0 x (by simp [hx])
      have e := colsS_some N hok h
      injection e with e
      have hl : l.length = N := by rw [← colsS_len N (some r1), h]
      rw [h] at hn
      refine ⟨?_, ?_⟩
      · by_cases hk : colsCk l = 0
        · exact hk
        · exact absurd (.inr hk) hn
      · rw [h0, hl, e, List.append_assoc]
theorem getC_none {S : St} {l : List ColS} (h : getC S = (l, none)) : l = [] := by
  unfold getC at h
  split at h
  · simp at h; exact h
  · rename_i hn
    rw [h] at hn
    simp at hn
theorem vp_byte (n : Nat) : ∀ x ∈ vp n, x < 256 := by
  induction n using Nat.strongRecOn with
  | _ n ih =>
    intro x hx
    by_cases hn : n < 128
    · rw [vp_lt hn] at hx
      simp at hx
      omega
    · rw [vp_ge hn, List.mem_cons] at hx
      rcases hx with rfl | hx
      · omega
      · exact ih (n / 128) (by omega) x hx
theorem putC_byte (l : List ColS) (h : ∀ x ∈ l, (∀ z ∈ x.1, z < 256) ∧ 0 ≤ x.2.1 ∧ x.2.1 ≤ 3) : ∀ x ∈ vp l.length ++ catC l, x < 256 := by
  intro x hx
  rcases List.mem_append.1 hx with hx | hx
  · exact vp_byte _ x hx
  · unfold catC at hx
    obtain ⟨y, hy, hx⟩ := List.mem_flatMap.1 hx
    obtain ⟨h1, h2, h3⟩ := h y hy
    unfold colB at hx
    simp only [List.mem_append, List.mem_cons, List.not_mem_nil, or_false] at hx
    rcases hx with (hx | hx) | hx | hx
    · exact vp_byte _ x hx
    · exact h1 x hx
    · omega
    · subst hx; cases y.2.2 <;> decide

end Go.Hm
