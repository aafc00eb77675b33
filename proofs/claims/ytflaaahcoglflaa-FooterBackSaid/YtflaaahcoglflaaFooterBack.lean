/- FooterBack returns true whatever comes in, and leaves all that was there as it was. -/
import Derived.Test.YtflaaahcoglflaaBun9
import Derived.Test.YtflaaahcoglflaaBun8
import Derived.Test.YtflaaahcoglflaaBun10

namespace Go.Proofs.Ytflaaahcoglflaa
open Go.RowKit Go.Hm
set_option maxHeartbeats 4000000 in
set_option maxRecDepth 100000 in
theorem footerBack_walk {w : World} {Ac : Option Addr} {cc : Nat} {L : List ColS} {r : Int} {Ag : Option Addr} {cg : Nat} {G : List GrD} {A : Option Addr} {c : Nat} {b : List Nat} (h : FootIn w Ac cc L Ag G) (hp : ∀ g ∈ G, ∀ x ∈ g.2.2.2, ∀ p ∈ x.2.2, PageFine p) (hr : Reads w w.heap.size 1 A b.length (nums .u8 b)) (h8 : ∀ x ∈ b, x < 256) :
    Calls Try.prog 5 #[footA Ac cc L r Ag cg G, .slice A b.length c] w (SmallPost w) := by
  have hs : ∀ g ∈ G, ∀ x ∈ g.2.2.2, ∀ p ∈ x.2.2, statFine p.2.2 := fun g hg x hx p hq => (hp g hg x hx p hq).stat
  have hd : FootData (footP L r G) := fine_data h hp
  have B0 := Blk.new w 25 #[.slice Ac L.length cc, .int .i64 r, .slice Ag G.length cg]
  have b0 : New w (w.alloc (.cells #[.slice Ac L.length cc, .int .i64 r, .slice Ag G.length cg] 25)) := (Below.refl _ _).alloc (Nat.le_refl _) _
  have FW := Lib.hid (fun (W : World) (hW : New w W) => show Calls Try.prog 8 #[.agg #[.slice Ac L.length cc, .int .i64 r, .slice Ag G.length cg]] W (BoolNew W) from few19_any (r := r) (cc := cc) (cg := cg) (h.later hW) hp)
  have E1 := Lib.hid (fun (W : World) (hW : New w W) => show Calls Try.prog 9 #[.agg #[.slice Ac L.length cc, .int .i64 r, .slice Ag G.length cg]] W (OptB (encF (footP L r G)) W) from fencode_any (r := r) (cc := cc) (cg := cg) (h.later hW) hp)
  have R1 := Lib.hid (fun (W : World) (hW : New w W) => show Calls Try.prog 11 #[.agg #[.slice Ac L.length cc, .int .i64 r, .slice Ag G.length cg]] W (NewPost (.bool (rightF (footP L r G))) W) from fright_any (r := r) (cc := cc) (cg := cg) (h.later hW) hs)
  have FI := Lib.hid (fun (W : World) (hW : New w W) => h.later hW)
  have HR := Lib.hid (fun (W : World) (hW : New w W) => Reads.later hr hW)
  have H8 := Lib.hid h8
  clear h hp hs hr h8
  show Calls Try.prog 5 #[.agg #[.slice Ac L.length cc, .int .i64 r, .slice Ag G.length cg], .slice A b.length c] w (SmallPost w)
  have tail : ∀ (W : World), New w W → b.length ≤ 1200 → Hid (Calls Try.prog 18 #[.slice A b.length c] W (OptF (footO (fun r => r) b) W)) := fun W hW hb => Lib.hid (fdecode_any (HR.out W hW) H8.out (by omega))
  have HT := Lib.hid tail
  clear tail
  have HD := Lib.hid hd
  clear hd
  go_enter Try.func5, Try.ntmps5
  go_wp2_with fail
  refine (small19_any _).mono ?_
  rintro e w1 ⟨rfl, b1⟩
  have B1 := B0.below b1 B0.lt
  have b01 := New.trans b0 b1
  clear B0 b0 b1
  obtain ⟨x0, x1, x2⟩ := ccells B1
  go_wp2_with fail
  refine (FW.out _ b01).mono ?_
  rintro e w2 ⟨bb, rfl, b2⟩
  have B2 := B1.below b2 B1.lt
  have b02 := New.trans b01 b2
  clear x0 x1 x2 FW B1 b01 b2
  cases bb with
  | false =>
    go_wp2
    go_ret
    exact ⟨rfl, b02⟩
  | true =>
    by_cases hb : 1200 < b.length
    · have hbi : (1200 : Int) < (b.length : Int) := by omega
      go_wp2
      go_ret
      exact ⟨rfl, b02⟩
    have hbi : ¬ (1200 : Int) < (b.length : Int) := by omega
    have HTT := Lib.hid (fun (W : World) (hW : New w W) => (HT.out W hW (by omega)).out)
    clear HT
    have BLEN := Lib.hid hb
    clear hb
    obtain ⟨x0, x1, x2⟩ := ccells B2
    go_wp2_with fail
    refine (E1.out _ b02).mono ?_
    rintro e w3 h3
    obtain ⟨A3, n3, c3, rfl, o3, b3⟩ := h3.u
    have B3 := B2.below b3 B2.lt
    have b03 := New.trans b02 b3
    clear h3 x0 x1 x2 B2 b02 b3 E1 hbi
    obtain ⟨x0, x1, x2⟩ := ccells B3
    go_wp2_with fail
    refine (R1.out _ b03).mono ?_
    rintro e w4 ⟨rfl, b4⟩
    have o3 := o3.later b4
    have B4 := B3.below b4 B3.lt
    have b04 := New.trans b03 b4
    clear x0 x1 x2 B3 b03 b4 R1
    by_cases hok : FootOk (footP L r G)
    · have e1 : encF (footP L r G) = some (footL (footP L r G)) := by unfold encF; rw [if_pos hok]
      have e2 := rightF_yes hok
      rw [e1] at o3
      rw [e1, e2]
      simp only [Option.isSome_some, Option.getD_some] at o3 ⊢
      have hL := footL_len hok
      have hn3 : n3 ≤ 700000000000 := by have := o3.len; rw [nums_length] at this; omega
      have DD := fdecode_any (c := c3) o3.reads (footL_byte hok HD.out) (by omega)
      rw [foot_back hok HD.out (by omega)] at DD
      have DD := Lib.hid DD
      clear hL e1 e2 o3 hok
      go_wp2_with fail
      refine DD.out.mono ?_
      rintro e w5 ⟨Ac2, cc2, L2, r2, Ag2, cg2, G2, rfl, hP2, ⟨FI2, hcg2⟩, b5⟩
      unfold footA
      have B5 := B4.below b5 B4.lt
      have b05 := New.trans b04 b5
      have hPG : G2.map grP = G.map grP := congrArg FootS.groups hP2
      obtain rfl : L2 = L := congrArg FootS.cols hP2
      obtain rfl : r2 = r := congrArg FootS.rows hP2
      have ba : New w5 (w5.alloc (.cells #[.slice Ac2 L2.length cc2, .int .i64 r2, .slice Ag2 G2.length cg2] 25)) := (Below.refl _ _).alloc (Nat.le_refl _) _
      have BX := Blk.new w5 25 #[.slice Ac2 L2.length cc2, .int .i64 r2, .slice Ag2 G2.length cg2]
      have Ba := B5.below ba B5.lt
      have b0a := New.trans b05 ba
      have SM := Lib.hid (show Calls Try.prog 19 #[.agg #[.slice Ac L2.length cc, .int .i64 r2, .slice Ag G.length cg], .agg #[.slice Ac2 L2.length cc2, .int .i64 r2, .slice Ag2 G2.length cg2]] (w5.alloc (.cells #[.slice Ac2 L2.length cc2, .int .i64 r2, .slice Ag2 G2.length cg2] 25)) (NewPost (.bool true) _) from fsame_any (r := r2) (c1 := cc) (k1 := cg) (c2 := cc2) (k2 := cg2) (FI.out _ b0a) (FI2.later ba) hPG.symm)
      clear DD B4 b04 b5 hP2 FI2 hcg2 hPG B5 b05 ba
      obtain ⟨x0, x1, x2⟩ := ccells Ba
      obtain ⟨y0, y1, y2⟩ := ccells BX
      go_wp2_with fail
      refine SM.out.mono ?_
      rintro e w6 ⟨rfl, b6⟩
      have b06 := New.trans b0a b6
      clear SM x0 x1 x2 y0 y1 y2 Ba BX b0a b6
      generalize w5.heap.size = g5 at *
      go_wp2_with fail
      refine (HTT.out _ b06).mono ?_
      rintro e w7 h7
      have is := footO_is id_ok H8.out (b := b) (by have := BLEN.out; omega)
      cases ho : footO (fun r => r) b with
      | none =>
        rw [ho] at h7
        obtain ⟨rfl, b7⟩ := h7
        have b07 := New.trans b06 b7
        have ba : New w7 (w7.alloc (.cells #[.slice none 0 0, .int .i64 0, .slice none 0 0] 25)) := (Below.refl _ _).alloc (Nat.le_refl _) _
        have BX := Blk.new w7 25 #[.slice none 0 0, .int .i64 0, .slice none 0 0]
        obtain ⟨y0, y1, y2⟩ := ccells BX
        clear ho is HTT
        go_wp2_with fail
        go_ret
        exact ⟨rfl, New.trans b07 ba⟩
      | some F2 =>
        rw [ho] at h7 is
        obtain ⟨Ac3, cc3, L3, r3, Ag3, cg3, G3, rfl, hP3, ⟨FI3, hcg3⟩, b7⟩ := h7
        unfold footA
        subst hP3
        obtain ⟨hok, hdt, hbt⟩ := is.sound _ rfl
        have b07 := New.trans b06 b7
        have ba : New w7 (w7.alloc (.cells #[.slice Ac3 L3.length cc3, .int .i64 r3, .slice Ag3 G3.length cg3] 25)) := (Below.refl _ _).alloc (Nat.le_refl _) _
        have BX := Blk.new w7 25 #[.slice Ac3 L3.length cc3, .int .i64 r3, .slice Ag3 G3.length cg3]
        have b0a := New.trans b07 ba
        have hpf := foot_fine hok hdt
        have EN := fencode_any (r := r3) (cc := cc3) (cg := cg3) (FI3.later ba) hpf
        have e1 : encF (footP L3 r3 G3) = some b := by unfold encF; rw [if_pos hok, hbt]
        rw [e1] at EN
        have EN : Hid (Calls Try.prog 9 #[.agg #[.slice Ac3 L3.length cc3, .int .i64 r3, .slice Ag3 G3.length cg3]] _ (OptB (some b) _)) := Lib.hid EN
        have RR := Lib.hid (fun (W : World) (hW : New w7 W) => show Calls Try.prog 11 #[.agg #[.slice Ac3 L3.length cc3, .int .i64 r3, .slice Ag3 G3.length cg3]] W (NewPost (.bool true) W) from by
          have := fright_any (r := r3) (cc := cc3) (cg := cg3) (FI3.later hW) (fun g hg x hx p hq => (hpf g hg x hx p hq).stat)
          rw [rightF_yes hok] at this
          exact this)
        clear ho is HTT hbt hdt hcg3 e1 hok b7 hpf FI3
        obtain ⟨y0, y1, y2⟩ := ccells BX
        go_wp2_with fail
        refine EN.out.mono ?_
        rintro e w8 ⟨A8, n8, c8, rfl, o8, b8⟩
        have B8 := BX.below b8 BX.lt
        have b78 := New.trans ba b8
        have b08 := New.trans b0a b8
        clear EN BX y0 y1 y2 b0a ba b8
        obtain ⟨y0, y1, y2⟩ := ccells B8
        go_wp2_with fail
        refine (RR.out _ b78).mono ?_
        rintro e w9 ⟨rfl, b9⟩
        have b09 := New.trans b08 b9
        have X1 := run_strB (c := c8) (o8.later b9).reads
        have X2 := run_strB (c := c) (HR.out _ b09)
        generalize bstr b = s at *
        clear RR B8 y0 y1 y2 o8 b08 b9
        go_wp2_with fail
        go_ret
        exact ⟨rfl, b09⟩
    · have e1 : encF (footP L r G) = none := by unfold encF; rw [if_neg hok]
      have e2 := rightF_no hok
      rw [e1, e2]
      simp only [Option.isSome_none]
      have b06 := b04
      clear e1 e2 o3 hok B4 b04
      generalize w4 = w6 at *
      go_wp2_with fail
      refine (HTT.out _ b06).mono ?_
      rintro e w7 h7
      have is := footO_is id_ok H8.out (b := b) (by have := BLEN.out; omega)
      cases ho : footO (fun r => r) b with
      | none =>
        rw [ho] at h7
        obtain ⟨rfl, b7⟩ := h7
        have b07 := New.trans b06 b7
        have ba : New w7 (w7.alloc (.cells #[.slice none 0 0, .int .i64 0, .slice none 0 0] 25)) := (Below.refl _ _).alloc (Nat.le_refl _) _
        have BX := Blk.new w7 25 #[.slice none 0 0, .int .i64 0, .slice none 0 0]
        obtain ⟨y0, y1, y2⟩ := ccells BX
        clear ho is HTT
        go_wp2_with fail
        go_ret
        exact ⟨rfl, New.trans b07 ba⟩
      | some F2 =>
        rw [ho] at h7 is
        obtain ⟨Ac3, cc3, L3, r3, Ag3, cg3, G3, rfl, hP3, ⟨FI3, hcg3⟩, b7⟩ := h7
        unfold footA
        subst hP3
        obtain ⟨hok, hdt, hbt⟩ := is.sound _ rfl
        have b07 := New.trans b06 b7
        have ba : New w7 (w7.alloc (.cells #[.slice Ac3 L3.length cc3, .int .i64 r3, .slice Ag3 G3.length cg3] 25)) := (Below.refl _ _).alloc (Nat.le_refl _) _
        have BX := Blk.new w7 25 #[.slice Ac3 L3.length cc3, .int .i64 r3, .slice Ag3 G3.length cg3]
        have b0a := New.trans b07 ba
        have hpf := foot_fine hok hdt
        have EN := fencode_any (r := r3) (cc := cc3) (cg := cg3) (FI3.later ba) hpf
        have e1 : encF (footP L3 r3 G3) = some b := by unfold encF; rw [if_pos hok, hbt]
        rw [e1] at EN
        have EN : Hid (Calls Try.prog 9 #[.agg #[.slice Ac3 L3.length cc3, .int .i64 r3, .slice Ag3 G3.length cg3]] _ (OptB (some b) _)) := Lib.hid EN
        have RR := Lib.hid (fun (W : World) (hW : New w7 W) => show Calls Try.prog 11 #[.agg #[.slice Ac3 L3.length cc3, .int .i64 r3, .slice Ag3 G3.length cg3]] W (NewPost (.bool true) W) from by
          have := fright_any (r := r3) (cc := cc3) (cg := cg3) (FI3.later hW) (fun g hg x hx p hq => (hpf g hg x hx p hq).stat)
          rw [rightF_yes hok] at this
          exact this)
        clear ho is HTT hbt hdt hcg3 e1 hok b7 hpf FI3
        obtain ⟨y0, y1, y2⟩ := ccells BX
        go_wp2_with fail
        refine EN.out.mono ?_
        rintro e w8 ⟨A8, n8, c8, rfl, o8, b8⟩
        have B8 := BX.below b8 BX.lt
        have b78 := New.trans ba b8
        have b08 := New.trans b0a b8
        clear EN BX y0 y1 y2 b0a ba b8
        obtain ⟨y0, y1, y2⟩ := ccells B8
        go_wp2_with fail
        refine (RR.out _ b78).mono ?_
        rintro e w9 ⟨rfl, b9⟩
        have b09 := New.trans b08 b9
        have X1 := run_strB (c := c8) (o8.later b9).reads
        have X2 := run_strB (c := c) (HR.out _ b09)
        generalize bstr b = s at *
        clear RR B8 y0 y1 y2 o8 b08 b9
        go_wp2_with fail
        go_ret
        exact ⟨rfl, b09⟩

set_option maxRecDepth 100000 in
open Go.WideShapes Go.ChangeShapes in
theorem footerBack_contract {H : Type} {enc : TypeId × Value → H} (W : World) (base : Nat) (args : Array Value) (ds : List (DataW H)) (ps : List MemPlace)
    (hval : ∀ (j : Nat) t v, Try.f5.params[j]? = some t → args[j]? = some v → Value.okWide Try.prog W .any base t v)
    (hA : DataW.TrodAll enc Try.prog W 0 (fun _ => true) true Try.f5.params.toList args.toList ds ps) (hlt : ∀ p ∈ ps, p.block < W.heap.size)
    (hsz : (DataW.weightsEach Try.prog Try.f5.params.toList ds).all (· ≤ reachBytes) = true) :
    Calls Try.prog 5 args W fun e W' => e = .returned (.bool true) ∧ Below W.heap.size W W' := by
  rw [Try.params5] at hA hval hsz
  obtain ⟨v0, v1, d0, d1, p0, p1, rfl, rfl, rfl, h0, h1⟩ := trodAll_two hA
  -- t: v0 d0 p0 h0, hval 0
  obtain ⟨A_b, c_b, b, rfl, hc_b, hm_b, hr_b, hl_b⟩ := open_B (hval 1 _ _ rfl rfl) h1 (fun p hp => hlt p (by simp [hp])) (sized_at hsz (j := 1) rfl rfl)
  obtain ⟨Ac, cc, L, r, Ag, cg, G, rfl, hF, _, _, _, hG⟩ := open_Fo (hval 0 _ _ rfl rfl) h0 (fun p hp => hlt p (by simp [hp])) (sized_at hsz (j := 0) rfl rfl)
  exact footerBack_walk hF (fun g hg => (hG g hg).2) hr_b hl_b

end Go.Proofs.Ytflaaahcoglflaa
