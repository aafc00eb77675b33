/- Texts merged, for a claim has at most 60 files: PrfQ, PrfD, Ord21, Small21, PrfW, PrfV, Ord22, Plan. -/
import Derived.Lib.SmallJoins
import Derived.Test.YtgfemjpeegbhhaaDoorBun1
import Derived.Test.YtgfemjpeegbhhaaDoorBun6
import Derived.Test.YtgfemjpeegbhhaaDoorBun7
import Derived.Test.YtgfemjpeegbhhaaDoorProg
/- The contract of proof.Join. -/

namespace Go.Proofs.YtgfemjpeegbhhaaDoor
open Go.RowKit Go.Hm
def joinT (f : Int) (P : List (List Nat)) : Int := IntKind.i64.wrap (f + (P.length : Nat))
/-- May some leaves be joined with so many digests? -/
def joinOk (n f : Int) (P R : List (List Nat)) : Bool := decide (needI n f (joinT f P) = (R.length : Nat))
def joinS (n f : Int) (P R : List (List Nat)) : JS := jrun P f.toNat ⟨[], R, []⟩ (evs f.toNat (f.toNat + P.length) 0 n.toNat)
def joinD (n f : Int) (P R : List (List Nat)) : List Nat := if joinOk n f P R then (joinS n f P R).made.getD 0 [] else List.replicate 32 0
def joinF (n f : Int) (P R : List (List Nat)) : List (List Nat) := if joinOk n f P R then (joinS n f P R).frames else []
/-- What joining keeps between two tellings. -/
def JnR (w : World) (B base g : Nat) (V : Value) (bo bl bf bp bq br : Nat) (F P R : List (List Nat)) (A : Option Addr) (c f : Nat) (es : List Ev) (W : World) : Prop :=
  DrSt w B base g V bo (F ++ (jrun P f ⟨[], R, []⟩ es).frames) (jrun P f ⟨[], R, []⟩ es).made W ∧ RestIn w g V bq (jrun P f ⟨[], R, []⟩ es).rest W ∧
    Blk W bl 25 #[.pointer (some ⟨g, 0, none⟩)] ∧ Blk W bp tS #[.slice A P.length c] ∧ Blk W bf 3 #[.int .i64 (f : Int)] ∧ Blk W br tD #[.int .u8 0, .int .u8 0, .int .u8 0, .int .u8 0, .int .u8 0, .int .u8 0, .int .u8 0, .int .u8 0, .int .u8 0, .int .u8 0, .int .u8 0, .int .u8 0, .int .u8 0, .int .u8 0, .int .u8 0, .int .u8 0, .int .u8 0, .int .u8 0, .int .u8 0, .int .u8 0, .int .u8 0, .int .u8 0, .int .u8 0, .int .u8 0, .int .u8 0, .int .u8 0, .int .u8 0, .int .u8 0, .int .u8 0, .int .u8 0, .int .u8 0, .int .u8 0]
theorem RestIn.keep {w W W' : World} {g bq : Nat} {V : Value} {R : List (List Nat)} (h : RestIn w g V bq R W) (k : ∀ cs, Blk W bq tS cs → Blk W' bq tS cs) : RestIn w g V bq R W' := by
  obtain ⟨A, c, b, r⟩ := h
  exact ⟨A, c, k _ b, r⟩
theorem jrun_snoc (P : List (List Nat)) (f : Nat) (s : JS) (es : List Ev) (e : Ev) : jrun P f s (es ++ [e]) = jstep P f (jrun P f s es) e := by rw [jrun_app, jrun_one]
set_option maxHeartbeats 4000000 in
theorem jover_any {w : World} {B base g bo bl bf bp bq br f n : Nat} {V : Value} {F P R : List (List Nat)} {A : Option Addr} {c : Nat} (hB : w.heap.size ≤ B ∧ B ≤ bo) (h1 : w.heap.size ≤ bq) (hl : bl < B ∧ bf < B ∧ bp < B ∧ bq < B ∧ br < B) (hne : bl ≠ bq ∧ bp ≠ bq ∧ bf ≠ bq ∧ br ≠ bq)
    (hbs : base ≤ w.heap.size) (hF : F.length + P.length ≤ 700000) (hn : n ≤ 65536) (hft : f + P.length ≤ n) (hcnt : cnt (evs f (f + P.length) 0 n) = R.length) (hlv : LeafIn w A P (g :: rowT V)) (hc : P.length ≤ c) (hcm : c ≤ 9223372036854775807) (hlr : Digs R) (hC : ∀ w', Turns (g :: rowT V) w w' → ConstIn w')
    (W : World) (hr : JnR w B base g V bo bl bf bp bq br F P R A c f [] W) :
    Calls Tryd.prog 50 #[.agg #[.int .i64 (f : Int), .int .i64 ((f + P.length : Nat) : Int), .func (.func 54) #[] #[.pointer (some ⟨bo, 0, none⟩), .pointer (some ⟨bl, 0, none⟩), .pointer (some ⟨bp, 0, none⟩), .pointer (some ⟨bf, 0, none⟩)], .func (.func 55) #[] #[.pointer (some ⟨bo, 0, none⟩), .pointer (some ⟨bq, 0, none⟩)], .func (.func 56) #[] #[.pointer (some ⟨bo, 0, none⟩), .pointer (some ⟨bl, 0, none⟩)]], .int .i64 ((0 : Nat) : Int), .int .i64 (n : Int)] W
      (OvPost (JnR w B base g V bo bl bf bp bq br F P R A c f) ([] ++ evs f (f + P.length) 0 n) W) := by
  have key : ∀ es e, es ++ [e] <+: evs f (f + P.length) 0 n → (jrun P f ⟨[], R, []⟩ es).frames.length ≤ 2 * n + 1 ∧ (jrun P f ⟨[], R, []⟩ es).made.length ≤ 200000 ∧ Digs (jrun P f ⟨[], R, []⟩ es).made ∧ (jrun P f ⟨[], R, []⟩ es).rest = R.drop (cnt es) ∧ cnt es + cnt [e] ≤ R.length := fun es e hp => by
    have hp' : es <+: evs f (f + P.length) 0 n := (List.prefix_append _ _).trans hp
    have q1 := jrun_few (P := P) (f := f) (t := f + P.length) hlv.digs ⟨[], R, []⟩ hp'
    have q2 := jrun_made P f es ⟨[], R, []⟩
    have q3 := hp'.length_le
    have q4 := evs_len (f := f) (t := f + P.length) 0 n (Nat.zero_le n)
    have q5 := cnt_pre hp
    rw [cnt_app, hcnt] at q5
    have q6 := jrun_digs (P := P) (f := f) hlv.digs es ⟨[], R, []⟩ (fun _ h => nomatch h) hlr (by show cnt es ≤ R.length; omega)
    refine ⟨by simpa using q1, ?_, q6.1, q6.2, q5⟩
    have q2 : (jrun P f ⟨[], R, []⟩ es).made.length ≤ 0 + es.length := q2
    split at q4 <;> omega
  refine over_any (total := evs f (f + P.length) 0 n) (R := JnR w B base g V bo bl bf bp bq br F P R A c f)
    (by rintro k (rfl | rfl | rfl) args w <;> go_simp)
    (fun es w1 w2 h k => ⟨h.1.new k, h.2.1.keep (fun cs b => b.below k b.lt), h.2.2.1.below k h.2.2.1.lt, h.2.2.2.1.below k h.2.2.2.1.lt, h.2.2.2.2.1.below k h.2.2.2.2.1.lt, h.2.2.2.2.2.below k h.2.2.2.2.2.lt⟩)
    (fun es lo hi w1 hp h => ?_) (fun es lo hi w1 hp h => ?_) (fun es w1 hp h => ?_) (n + 1) 0 n [] W (by omega) (by omega) (by omega) (List.prefix_refl _) hr
  · obtain ⟨d, r, x1, x2, x3, x4⟩ := h
    obtain ⟨q1, q2, q3, q4, q5⟩ := key es _ hp
    obtain ⟨i1, i2, i3, i4, i5⟩ := evs_last hp
    obtain ⟨v, Bb, _⟩ := d.box
    refine (join1_any d x1 x2 x3 hbs (by rw [List.length_append]; omega) (by omega) hlv hc hcm (by omega) i2 (by omega) (by omega) hC).mono ?_
    rintro e w' ⟨rfl, d', k⟩
    refine ⟨rfl, ?_, k.t Bb⟩
    unfold JnR
    rw [jrun_snoc]
    refine ⟨by simpa [jstep] using d', r.keep (fun cs b => k.2 _ _ _ (by decide) (by decide) (.inl (by decide)) (by omega) b), k.2 _ _ _ (by decide) (by decide) (.inl (by decide)) (by omega) x1, k.2 _ _ _ (by decide) (by decide) (.inl (by decide)) (by omega) x2, k.2 _ _ _ (by decide) (by decide) (.inl (by decide)) (by omega) x3, k.2 _ _ _ (by decide) (by decide) (.inr hl.2.2.2.2) (by omega) x4⟩
  · obtain ⟨d, r, x1, x2, x3, x4⟩ := h
    obtain ⟨q1, q2, q3, q4, q5⟩ := key es _ hp
    obtain ⟨v, Bb, _⟩ := d.box
    obtain ⟨A', c', Bq, rr⟩ := r
    have hr1 : 1 ≤ (jrun P f ⟨[], R, []⟩ es).rest.length := by
      rw [q4, List.length_drop]
      have : cnt [Ev.beside lo hi] = 1 := rfl
      omega
    refine (join2_any (lo : Int) (hi : Int) d ⟨A', c', Bq, rr⟩ (by omega) hr1 h1 (by omega)).mono ?_
    rintro e w' ⟨rfl, d', r', z, k⟩
    refine ⟨rfl, ?_, z, fun b cs hb => k _ _ _ (by decide) (by decide) (.inl (by decide)) (Blk.ne_ hb Bb (by decide)) (Blk.ne_ hb Bq (by decide)) hb⟩
    unfold JnR
    rw [jrun_snoc]
    exact ⟨d', r', k _ _ _ (by decide) (by decide) (.inl (by decide)) (by omega) hne.1 x1, k _ _ _ (by decide) (by decide) (.inl (by decide)) (by omega) hne.2.1 x2, k _ _ _ (by decide) (by decide) (.inl (by decide)) (by omega) hne.2.2.1 x3, k _ _ _ (by decide) (by decide) (.inr hl.2.2.2.2) (by omega) hne.2.2.2 x4⟩
  · obtain ⟨d, r, x1, x2, x3, x4⟩ := h
    obtain ⟨q1, q2, q3, q4, q5⟩ := key es _ hp
    obtain ⟨v, Bb, _⟩ := d.box
    have m2 := made_two (P := P) (f := f) (t := f + P.length) 0 n (Nat.zero_le n) ⟨[], R, []⟩ es hp
    have m2 : 0 + 2 ≤ (jrun P f ⟨[], R, []⟩ es).made.length := m2
    refine (join3_any (k := (jrun P f ⟨[], R, []⟩ es).made.length - 2) d x1 hbs (by rw [List.length_append]; omega) q3 (by omega) (by omega) hC).mono ?_
    rintro e w' ⟨rfl, d', k⟩
    refine ⟨rfl, ?_, k.t Bb⟩
    unfold JnR
    rw [jrun_snoc]
    refine ⟨by simpa [jstep] using d', r.keep (fun cs b => k.2 _ _ _ (by decide) (by decide) (.inl (by decide)) (by omega) b), k.2 _ _ _ (by decide) (by decide) (.inl (by decide)) (by omega) x1, k.2 _ _ _ (by decide) (by decide) (.inl (by decide)) (by omega) x2, k.2 _ _ _ (by decide) (by decide) (.inl (by decide)) (by omega) x3, k.2 _ _ _ (by decide) (by decide) (.inr hl.2.2.2.2) (by omega) x4⟩
theorem results_cell_tmp {P : Program} {fn : Func} {p q : Tmp} {ty : TypeId} (h : fn.results = #[.cell p ty, .tmp q]) (tmps : Array Value) (w : World) (g : Nat) (t : TypeId) (cs : Array Value) (fr : Nat × Nat) (d : TypeDesc)
    (hp : tmps.getD p undef = .pointer (some ⟨g, 0, none⟩)) (hg : w.heap[g]? = some (.cells cs t fr))
    (hu : P.underlying ty = some d) (hd : (match d with | .struct _ | .array _ _ => true | _ => false) = true) (hi : (P.info? ty).map (·.size) = some cs.size) :
    (results fn tmps).run P w = .ok (.tuple #[.agg cs, tmps.getD q undef]) w := by
  have hp' : tmps[p]?.getD undef = .pointer (some ⟨g, 0, none⟩) := by simpa using hp
  simp [results, h, hp', asAddr, run_loadVar_row w g t ty cs fr d hg hu hd hi]
/-- A log, when a digest's block of one's own was written. -/
theorem log_set {w W : World} {base g b : Nat} {V V' : Value} {F : List (List Nat)} (l : LogOf tL W base g V' F) (a : V'.ownBlock = V.ownBlock ∨ ∃ h, V'.ownBlock = some h ∧ w.heap.size ≤ h) (t : Turns (g :: rowT V) w W) {old : Array Value} (G : Blk W b tD old) (hb : w.heap.size ≤ b) (cs : Array Value) :
    ∃ V', LogOf tL (W.setRow b cs) base g V' F ∧ (V'.ownBlock = V.ownBlock ∨ ∃ h, V'.ownBlock = some h ∧ w.heap.size ≤ h) ∧ Turns (g :: rowT V) w (W.setRow b cs) := by
  have T2 : Turns [b] W (W.setRow b cs) := Turns.of_far (far_setRow (g := b) W cs) (by simp)
  obtain ⟨A, n, c, D, rfl, hg, ho, hp, hD⟩ := l
  have l : LogOf tL W base g (.slice A n c) F := ⟨A, n, c, D, rfl, hg, ho, hp, hD⟩
  exact ⟨_, l.turn T2 (by simp; exact Blk.ne_ hg G (by decide)) (by simp; exact row_blk_ne ho G (by decide)) (fun x hx _ cs hB => by simp at hx; subst hx; exact Blk.ne_ G hB (by decide) rfl), a, turns_far t T2 (by simpa using hb)⟩
theorem zero_dig : DigN (List.replicate 32 0) := ⟨rfl, by intro x hx; have := (List.mem_replicate.1 hx).2; omega⟩
set_option maxHeartbeats 4000000 in
set_option maxRecDepth 100000 in
theorem join_any {w : World} {base g : Nat} {V : Value} {F P R : List (List Nat)} {A A2 : Option Addr} {c c2 : Nat} (n f : Int) (hL : LogOf tL w base g V F) (hbs : base ≤ w.heap.size) (hF : F.length + P.length ≤ 700000) (hlv : LeafIn w A P (g :: rowT V)) (hc : P.length ≤ c) (hcm : c ≤ 9223372036854775807) (hlr : LeafIn w A2 R (g :: rowT V)) (hc2 : R.length ≤ c2) (hcm2 : c2 ≤ 9223372036854775807) (hn0 : -9223372036854775808 ≤ n) (hn1 : n ≤ 9223372036854775807) (hf1 : f ≤ 9223372036854775807) (hC : ∀ w', Turns (g :: rowT V) w w' → ConstIn w') :
    Calls Tryd.prog 34 #[.pointer (some ⟨g, 0, none⟩), .int .i64 n, .int .i64 f, .slice A P.length c, .slice A2 R.length c2] w (PostOf tL (.tuple #[dV (joinD n f P R), .bool (joinOk n f P R)]) base g V (F ++ joinF n f P R) w) := by
  obtain ⟨W1, hW1⟩ : ∃ W, W = ((((w.alloc (.cells #[.pointer (some ⟨g, 0, none⟩)] 25)).alloc (.cells #[.int .i64 f] 3)).alloc (.cells #[.slice A P.length c] tS)).alloc (.cells #[.slice A2 R.length c2] tS)).alloc (.cells #[.int .u8 0, .int .u8 0, .int .u8 0, .int .u8 0, .int .u8 0, .int .u8 0, .int .u8 0, .int .u8 0, .int .u8 0, .int .u8 0, .int .u8 0, .int .u8 0, .int .u8 0, .int .u8 0, .int .u8 0, .int .u8 0, .int .u8 0, .int .u8 0, .int .u8 0, .int .u8 0, .int .u8 0, .int .u8 0, .int .u8 0, .int .u8 0, .int .u8 0, .int .u8 0, .int .u8 0, .int .u8 0, .int .u8 0, .int .u8 0, .int .u8 0, .int .u8 0] tD) := ⟨_, rfl⟩
  have n1 : New w W1 := by rw [hW1]; exact New.trans (New.trans (New.trans (New.trans (new_alloc2 _ _) (new_alloc2 _ _)) (new_alloc2 _ _)) (new_alloc2 _ _)) (new_alloc2 _ _)
  have z1 : W1.heap.size = w.heap.size + 5 := by rw [hW1]; simp
  have bl : Blk W1 w.heap.size 25 #[.pointer (some ⟨g, 0, none⟩)] := by rw [hW1]; exact ((((Blk.new w _ _).alloc _).alloc _).alloc _).alloc _
  have bf : Blk W1 (w.heap.size + 1) 3 #[.int .i64 f] := by
    rw [hW1]
    have := Blk.new (w.alloc (.cells #[.pointer (some ⟨g, 0, none⟩)] 25)) 3 #[.int .i64 f]
    rw [World.size_alloc] at this
    exact ((this.alloc _).alloc _).alloc _
  have bp : Blk W1 (w.heap.size + 1 + 1) tS #[.slice A P.length c] := by
    rw [hW1]
    have := Blk.new ((w.alloc (.cells #[.pointer (some ⟨g, 0, none⟩)] 25)).alloc (.cells #[.int .i64 f] 3)) tS #[.slice A P.length c]
    rw [World.size_alloc, World.size_alloc] at this
    exact (this.alloc _).alloc _
  have bq : Blk W1 (w.heap.size + 1 + 1 + 1) tS #[.slice A2 R.length c2] := by
    rw [hW1]
    have := Blk.new (((w.alloc (.cells #[.pointer (some ⟨g, 0, none⟩)] 25)).alloc (.cells #[.int .i64 f] 3)).alloc (.cells #[.slice A P.length c] tS)) tS #[.slice A2 R.length c2]
    rw [World.size_alloc, World.size_alloc, World.size_alloc] at this
    exact this.alloc _
  have br : Blk W1 (w.heap.size + 1 + 1 + 1 + 1) tD #[.int .u8 0, .int .u8 0, .int .u8 0, .int .u8 0, .int .u8 0, .int .u8 0, .int .u8 0, .int .u8 0, .int .u8 0, .int .u8 0, .int .u8 0, .int .u8 0, .int .u8 0, .int .u8 0, .int .u8 0, .int .u8 0, .int .u8 0, .int .u8 0, .int .u8 0, .int .u8 0, .int .u8 0, .int .u8 0, .int .u8 0, .int .u8 0, .int .u8 0, .int .u8 0, .int .u8 0, .int .u8 0, .int .u8 0, .int .u8 0, .int .u8 0, .int .u8 0] := by
    rw [hW1]
    have := Blk.new ((((w.alloc (.cells #[.pointer (some ⟨g, 0, none⟩)] 25)).alloc (.cells #[.int .i64 f] 3)).alloc (.cells #[.slice A P.length c] tS)).alloc (.cells #[.slice A2 R.length c2] tS)) tD #[.int .u8 0, .int .u8 0, .int .u8 0, .int .u8 0, .int .u8 0, .int .u8 0, .int .u8 0, .int .u8 0, .int .u8 0, .int .u8 0, .int .u8 0, .int .u8 0, .int .u8 0, .int .u8 0, .int .u8 0, .int .u8 0, .int .u8 0, .int .u8 0, .int .u8 0, .int .u8 0, .int .u8 0, .int .u8 0, .int .u8 0, .int .u8 0, .int .u8 0, .int .u8 0, .int .u8 0, .int .u8 0, .int .u8 0, .int .u8 0, .int .u8 0, .int .u8 0]
    rwa [World.size_alloc, World.size_alloc, World.size_alloc, World.size_alloc] at this
  have BL := Lib.hid bl
  have BF := Lib.hid bf
  have BP := Lib.hid bp
  have BQ := Lib.hid bq
  have BR := Lib.hid br
  have N1 := Lib.hid n1
  have HW1 := Lib.hid hW1
  have HL := Lib.hid hL
  have ND := Lib.hid (fun W => need_any n f (joinT f P) W hn0 hn1)
  have hT : wrap64 (f + (P.length : Int)) = joinT f P := by unfold joinT; rw [IntKind.wrap_i64]; unfold wrap64; rfl
  have T0 : ∀ W', New W1.drew W' → Hid (W'.cell? ⟨w.heap.size + 1, 0, none⟩ = some (.int .i64 f) ∧ W'.cell? ⟨w.heap.size + 1 + 1 + 1, 0, none⟩ = some (.slice A2 R.length c2)) := fun W' k => by
    have k' := New.trans (New.drew W1) k
    exact Lib.hid ⟨(bf.below k' bf.lt).cell 0, (bq.below k' bq.lt).cell 0⟩
  have OKh : ∀ b, joinOk n f P R = b → Hid (joinOk n f P R = b) := fun _ h => Lib.hid h
  have hneg : needI n f (joinT f P) = (R.length : Nat) → 0 ≤ n ∧ n ≤ 65536 ∧ 0 ≤ f ∧ joinT f P = f + (P.length : Nat) ∧ f + (P.length : Nat) ≤ n ∧ cnt (evs f.toNat (f.toNat + P.length) 0 n.toNat) = R.length := fun h => by
    unfold needI at h
    split at h
    · omega
    · rename_i hh
      have e : joinT f P = f + (P.length : Nat) := by
        unfold joinT at hh ⊢
        rw [IntKind.wrap_i64] at hh ⊢
        omega
      rw [e] at h hh
      rw [show (f + (P.length : Nat)).toNat = f.toNat + P.length by omega] at h
      exact ⟨by omega, by omega, by omega, e, by omega, by exact_mod_cast h⟩
  obtain ⟨y, hy⟩ : ∃ y, y = needI n f (joinT f P) := ⟨_, rfl⟩
  obtain ⟨tt, htt⟩ : ∃ t, t = joinT f P := ⟨_, rfl⟩
  rw [← hy] at ND hneg
  have HY := Lib.hid hy
  rw [← htt] at ND hneg hT
  clear hy htt
  clear n1 hW1 hL bl bf bp bq br
  go_enter Tryd.func34, Tryd.ntmps34
  go_wp2_with fail
  rw [← HW1.out, hT]
  by_cases hyr : y = (R.length : Nat)
  · subst hyr
    have OK := OKh true (by unfold joinOk; rw [← HY.out]; exact decide_eq_true rfl)
    obtain ⟨c1, c2', c3, c4, c5, c6⟩ := hneg rfl
    rw [c4] at ND ⊢
    clear OKh hneg c4 hT HY
    obtain ⟨n, rfl⟩ : ∃ m : Nat, n = (m : Int) := ⟨n.toNat, by omega⟩
    obtain ⟨f, rfl⟩ : ∃ m : Nat, f = (m : Int) := ⟨f.toNat, by omega⟩
    rw [Int.toNat_natCast, Int.toNat_natCast] at c6
    refine wp_region_up New [(true, 0), (true, 1), (true, 2), (true, 4), (true, 5), (false, 3), (true, 6)]
      New.refl New.trans (by kernel_rfl) (by kernel_rfl) (by kernel_rfl) (by kernel_rfl) ?_
    iterate 5 (
      refine up_quiet rfl rfl (v := ?_) (fun W' hW => ?_) ?_
      rotate_left
      · obtain ⟨u1, u2⟩ := (T0 W' hW).out
        go_simp <;> with_reducible rfl
      simp only [Act.put, List.setIfInBounds_toArray, List.set_cons_zero, List.set_cons_succ])
    refine up_call rfl rfl (fun K hK => ?_)
    go_simp
    (with_reducible refine (ND.out W1.drew).mono ?_)
    rintro e w2 ⟨rfl, b2⟩
    refine hK _ _ b2 ?_
    clear hK ND T0
    iterate 1 (
      refine up_quiet rfl rfl (v := ?_) (fun W' hW => ?_) ?_
      rotate_left
      · go_simp <;> with_reducible rfl
      simp only [Act.put, List.setIfInBounds_toArray, List.set_cons_zero, List.set_cons_succ])
    refine up_nil ?_
    have b12 := New.trans (New.drew W1) b2
    have B12 := Lib.hid b12
    have z2 : w.heap.size + 5 ≤ w2.heap.size := by have := b12.size; omega
    have hmf : ∀ (fn : Fn) (first cap : Array Value) (w : World), (Instr.makeFunc fn first cap).run Tryd.prog w = .ok (.func fn first cap) w := fun _ _ _ _ => rfl
    have kf : (w2.alloc (.cells #[.slice none 0 0] tS)).cell? ⟨w.heap.size + 1, 0, none⟩ = some (.int .i64 (f : Int)) := by
      rw [World.cell?_alloc_lt _ _ _ (by show w.heap.size + 1 < w2.heap.size; omega)]
      exact (BF.out.below b12 BF.out.lt).cell 0
    have n3 : ∀ o1 o2, New w2 ((w2.alloc o1).alloc o2) := fun _ _ => New.trans (new_alloc2 _ _) (new_alloc2 _ _)
    have R3 : JnR w (w.heap.size + 5) base g V w2.heap.size w.heap.size (w.heap.size + 1) (w.heap.size + 1 + 1) (w.heap.size + 1 + 1 + 1) (w.heap.size + 1 + 1 + 1 + 1) F P R A c f [] ((w2.alloc (.cells #[.slice none 0 0] tS)).alloc (.cells #[.int .i64 (f : Int), .int .i64 ((f : Int) + (P.length : Int)), .func (.func 54) #[] #[.pointer (some ⟨w2.heap.size, 0, none⟩), .pointer (some ⟨w.heap.size, 0, none⟩), .pointer (some ⟨w.heap.size + 1 + 1, 0, none⟩), .pointer (some ⟨w.heap.size + 1, 0, none⟩)], .func (.func 55) #[] #[.pointer (some ⟨w2.heap.size, 0, none⟩), .pointer (some ⟨w.heap.size + 1 + 1 + 1, 0, none⟩)], .func (.func 56) #[] #[.pointer (some ⟨w2.heap.size, 0, none⟩), .pointer (some ⟨w.heap.size, 0, none⟩)]] tW)) := by
      have n13 := New.trans b12 (n3 (.cells #[.slice none 0 0] tS) (.cells #[.int .i64 (f : Int), .int .i64 ((f : Int) + (P.length : Int)), .func (.func 54) #[] #[.pointer (some ⟨w2.heap.size, 0, none⟩), .pointer (some ⟨w.heap.size, 0, none⟩), .pointer (some ⟨w.heap.size + 1 + 1, 0, none⟩), .pointer (some ⟨w.heap.size + 1, 0, none⟩)], .func (.func 55) #[] #[.pointer (some ⟨w2.heap.size, 0, none⟩), .pointer (some ⟨w.heap.size + 1 + 1 + 1, 0, none⟩)], .func (.func 56) #[] #[.pointer (some ⟨w2.heap.size, 0, none⟩), .pointer (some ⟨w.heap.size, 0, none⟩)]] tW))
      refine ⟨⟨V, .slice none 0 0, ?_, .inl rfl, Turns.of_new (New.trans N1.out n13), ⟨by omega, z2⟩, (Blk.new w2 _ _).alloc _, row_nil⟩, ⟨A2, c2, BQ.out.below n13 BQ.out.lt, hc2, hcm2, hlr⟩, BL.out.below n13 BL.out.lt, BP.out.below n13 BP.out.lt, BF.out.below n13 BF.out.lt, BR.out.below n13 BR.out.lt⟩
      rw [show (jrun P f ⟨[], R, []⟩ []).frames = [] from rfl, List.append_nil]
      exact HL.out.new (New.trans N1.out n13)
    have OV := jover_any (w := w) (B := w.heap.size + 5) (base := base) (g := g) (bo := w2.heap.size) (bl := w.heap.size) (bf := w.heap.size + 1) (bp := w.heap.size + 1 + 1) (bq := w.heap.size + 1 + 1 + 1) (br := w.heap.size + 1 + 1 + 1 + 1) (f := f) (n := n) (V := V) (F := F) (P := P) (R := R) (A := A) (c := c) ⟨by omega, z2⟩ (by omega) ⟨by omega, by omega, by omega, by omega, by omega⟩ ⟨by omega, by omega, by omega, by omega⟩ hbs hF (by omega) (by omega) c6 hlv hc hcm hlr.digs hC _ R3
    rw [Int.natCast_add, Int.natCast_zero, List.nil_append] at OV
    have OV := Lib.hid OV
    obtain ⟨d, Fr, ej, -⟩ := jrun_evs (P := P) (f := f) (t := f + P.length) (X := fun _ _ _ _ _ => True) (fun _ _ _ _ _ => trivial) (fun _ _ _ _ _ _ => trivial) (fun _ _ _ _ _ _ _ _ _ _ _ _ _ _ _ _ => trivial) 0 n (Nat.zero_le n) ⟨[], R, []⟩
    have hjs : joinS (n : Int) (f : Int) P R = ⟨[d], R.drop (cnt (evs f (f + P.length) 0 n)), Fr⟩ := by
      unfold joinS
      rw [Int.toNat_natCast, Int.toNat_natCast, ej]
      rfl
    have hdd : DigN d := by
      have := (jrun_digs (P := P) (f := f) hlv.digs (evs f (f + P.length) 0 n) ⟨[], R, []⟩ (fun _ h => nomatch h) hlr.digs (by rw [c6]; exact Nat.le_refl _)).1
      rw [ej] at this
      exact this d (by simp)
    have JD := Lib.hid (show joinD (n : Int) (f : Int) P R = d by unfold joinD; rw [OK.out, if_pos rfl, hjs]; rfl)
    have JF := Lib.hid (show joinF (n : Int) (f : Int) P R = Fr by unfold joinF; rw [OK.out, if_pos rfl, hjs])
    have EJ := Lib.hid ej
    have HD := Lib.hid hdd
    clear R3 n3 b2 b12 hjs ej hdd BL BF BP BQ BR HL N1 hlv hlr
    go_wp2_with fail
    refine OV.out.mono ?_
    rintro e w4 ⟨rfl, r, -⟩
    obtain ⟨d4, -, -, -, -, G4⟩ := r
    rw [EJ.out] at d4
    obtain ⟨V', v, l, a, t, hb, Bb, o⟩ := d4
    obtain ⟨Ad, cd, rfl, -, -⟩ := row_slice o
    obtain ⟨ad, rfl, hcell⟩ := row_at (i := 0) o (fun x hx => by obtain rfl := List.mem_singleton.1 hx; exact HD.out) (by simp)
    have hcell := hcell w4 (KeepC.refl _)
    rw [Nat.zero_mul, add_zero'] at hcell
    obtain ⟨cs, hcs⟩ : ∃ cs, cs = (nums .u8 d).toArray := ⟨_, rfl⟩
    have I32 : Hid ((Tryd.prog.info? 32).map (·.size) = some cs.size) := Lib.hid (by rw [hcs]; exact i32n HD.out.1)
    have I32L : Hid ((Tryd.prog.info? 32).map (·.size) = some cs.toList.length) := Lib.hid (by rw [hcs]; simpa using i32n HD.out.1)
    have ONE : Hid (cs.all (·.oneCell') = true) := Lib.hid (by rw [hcs]; exact one_n d)
    have SZ : Hid ((#[.int .u8 0, .int .u8 0, .int .u8 0, .int .u8 0, .int .u8 0, .int .u8 0, .int .u8 0, .int .u8 0, .int .u8 0, .int .u8 0, .int .u8 0, .int .u8 0, .int .u8 0, .int .u8 0, .int .u8 0, .int .u8 0, .int .u8 0, .int .u8 0, .int .u8 0, .int .u8 0, .int .u8 0, .int .u8 0, .int .u8 0, .int .u8 0, .int .u8 0, .int .u8 0, .int .u8 0, .int .u8 0, .int .u8 0, .int .u8 0, .int .u8 0, .int .u8 0] : Array Value).size = cs.size) := Lib.hid (by rw [hcs]; simp [nums, HD.out.1])
    have HC : Hid (∀ j u, cs.toList[j]? = some u → w4.cell? (ad.add j) = some u) := Lib.hid (by rw [hcs]; simpa using hcell)
    have DV := Lib.hid (show dV d = .agg cs by rw [hcs]; rfl)
    have LS := Lib.hid (log_set (w := w) (V := V) (base := base) l a t G4 (by omega) cs)
    have H := Lib.hid (And.intro (row_of_blk G4) (blk_setRow G4 cs))
    have k4 : w4.cell? ⟨w2.heap.size, 0, none⟩ = some (.slice (some ad) 1 cd) := Bb.cell 0
    clear hcell hcs G4 Bb o l a t OV EJ
    go_wp2_with (first
      | (refine wpList_load_at rfl 32 (.tmp 40) rfl (ad := ad) (cs := cs.toList) rfl HC.out digarr rfl I32L.out ?_)
      | (refine wpList_store_row rfl 32 (.tmp 10) (.tmp 41) rfl (w.heap.size + 1 + 1 + 1 + 1) cs rfl rfl _ _ H.out.1 I32.out SZ.out ONE.out ?_))
    refine bodyPost_ret (results_cell_tmp rfl _ _ (w.heap.size + 1 + 1 + 1 + 1) _ cs (0, 0) _ rfl H.out.2 digarr rfl I32.out) rfl ⟨?_, ?_⟩
    · rw [OK.out, JD.out, DV.out]
      rfl
    · rw [JF.out]
      exact LS.out
  · have q1 : (y == (R.length : Int)) = false := beq_eq_false_iff_ne.2 hyr
    have OK := OKh false (by unfold joinOk; rw [← HY.out]; exact decide_eq_false hyr)
    clear OKh hneg
    refine wp_region_up New [(true, 0), (true, 1), (true, 2), (true, 4), (true, 5), (false, 3), (true, 6)]
      New.refl New.trans (by kernel_rfl) (by kernel_rfl) (by kernel_rfl) (by kernel_rfl) ?_
    iterate 5 (
      refine up_quiet rfl rfl (v := ?_) (fun W' hW => ?_) ?_
      rotate_left
      · obtain ⟨u1, u2⟩ := (T0 W' hW).out
        go_simp <;> with_reducible rfl
      simp only [Act.put, List.setIfInBounds_toArray, List.set_cons_zero, List.set_cons_succ])
    refine up_call rfl rfl (fun K hK => ?_)
    go_simp
    (with_reducible refine (ND.out W1.drew).mono ?_)
    rintro e w2 ⟨rfl, b2⟩
    refine hK _ _ b2 ?_
    clear hK ND T0
    iterate 1 (
      refine up_quiet rfl rfl (v := ?_) (fun W' hW => ?_) ?_
      rotate_left
      · go_simp <;> with_reducible rfl
      simp only [Act.put, List.setIfInBounds_toArray, List.set_cons_zero, List.set_cons_succ])
    refine up_nil ?_
    have b12 := New.trans (New.drew W1) b2
    have B12 := Lib.hid b12
    have z2 : w.heap.size + 5 ≤ w2.heap.size := by have := b12.size; omega
    have G2 := BR.out.below b12 BR.out.lt
    have LS := Lib.hid (log_set (w := w) (V := V) (base := base) (HL.out.new (New.trans N1.out b12)) (.inl rfl) (Turns.of_new (New.trans N1.out b12)) G2 (by omega) #[.int .u8 0, .int .u8 0, .int .u8 0, .int .u8 0, .int .u8 0, .int .u8 0, .int .u8 0, .int .u8 0, .int .u8 0, .int .u8 0, .int .u8 0, .int .u8 0, .int .u8 0, .int .u8 0, .int .u8 0, .int .u8 0, .int .u8 0, .int .u8 0, .int .u8 0, .int .u8 0, .int .u8 0, .int .u8 0, .int .u8 0, .int .u8 0, .int .u8 0, .int .u8 0, .int .u8 0, .int .u8 0, .int .u8 0, .int .u8 0, .int .u8 0, .int .u8 0])
    have H := Lib.hid (And.intro (row_of_blk G2) (blk_setRow G2 #[.int .u8 0, .int .u8 0, .int .u8 0, .int .u8 0, .int .u8 0, .int .u8 0, .int .u8 0, .int .u8 0, .int .u8 0, .int .u8 0, .int .u8 0, .int .u8 0, .int .u8 0, .int .u8 0, .int .u8 0, .int .u8 0, .int .u8 0, .int .u8 0, .int .u8 0, .int .u8 0, .int .u8 0, .int .u8 0, .int .u8 0, .int .u8 0, .int .u8 0, .int .u8 0, .int .u8 0, .int .u8 0, .int .u8 0, .int .u8 0, .int .u8 0, .int .u8 0]))
    have I32 : Hid ((Tryd.prog.info? 32).map (·.size) = some ((#[.int .u8 0, .int .u8 0, .int .u8 0, .int .u8 0, .int .u8 0, .int .u8 0, .int .u8 0, .int .u8 0, .int .u8 0, .int .u8 0, .int .u8 0, .int .u8 0, .int .u8 0, .int .u8 0, .int .u8 0, .int .u8 0, .int .u8 0, .int .u8 0, .int .u8 0, .int .u8 0, .int .u8 0, .int .u8 0, .int .u8 0, .int .u8 0, .int .u8 0, .int .u8 0, .int .u8 0, .int .u8 0, .int .u8 0, .int .u8 0, .int .u8 0, .int .u8 0] : Array Value).size)) := Lib.hid (i32n zero_dig.1)
    have ONE : Hid ((#[.int .u8 0, .int .u8 0, .int .u8 0, .int .u8 0, .int .u8 0, .int .u8 0, .int .u8 0, .int .u8 0, .int .u8 0, .int .u8 0, .int .u8 0, .int .u8 0, .int .u8 0, .int .u8 0, .int .u8 0, .int .u8 0, .int .u8 0, .int .u8 0, .int .u8 0, .int .u8 0, .int .u8 0, .int .u8 0, .int .u8 0, .int .u8 0, .int .u8 0, .int .u8 0, .int .u8 0, .int .u8 0, .int .u8 0, .int .u8 0, .int .u8 0, .int .u8 0] : Array Value).all (·.oneCell') = true) := Lib.hid (one_n (List.replicate 32 0))
    have SZ : Hid ((#[.int .u8 0, .int .u8 0, .int .u8 0, .int .u8 0, .int .u8 0, .int .u8 0, .int .u8 0, .int .u8 0, .int .u8 0, .int .u8 0, .int .u8 0, .int .u8 0, .int .u8 0, .int .u8 0, .int .u8 0, .int .u8 0, .int .u8 0, .int .u8 0, .int .u8 0, .int .u8 0, .int .u8 0, .int .u8 0, .int .u8 0, .int .u8 0, .int .u8 0, .int .u8 0, .int .u8 0, .int .u8 0, .int .u8 0, .int .u8 0, .int .u8 0, .int .u8 0] : Array Value).size = (#[.int .u8 0, .int .u8 0, .int .u8 0, .int .u8 0, .int .u8 0, .int .u8 0, .int .u8 0, .int .u8 0, .int .u8 0, .int .u8 0, .int .u8 0, .int .u8 0, .int .u8 0, .int .u8 0, .int .u8 0, .int .u8 0, .int .u8 0, .int .u8 0, .int .u8 0, .int .u8 0, .int .u8 0, .int .u8 0, .int .u8 0, .int .u8 0, .int .u8 0, .int .u8 0, .int .u8 0, .int .u8 0, .int .u8 0, .int .u8 0, .int .u8 0, .int .u8 0] : Array Value).size) := Lib.hid rfl
    clear G2 b12 b2
    go_wp2_with (refine wpList_store_row rfl 32 (.tmp 10) (.tmp 26) rfl (w.heap.size + 1 + 1 + 1 + 1) #[.int .u8 0, .int .u8 0, .int .u8 0, .int .u8 0, .int .u8 0, .int .u8 0, .int .u8 0, .int .u8 0, .int .u8 0, .int .u8 0, .int .u8 0, .int .u8 0, .int .u8 0, .int .u8 0, .int .u8 0, .int .u8 0, .int .u8 0, .int .u8 0, .int .u8 0, .int .u8 0, .int .u8 0, .int .u8 0, .int .u8 0, .int .u8 0, .int .u8 0, .int .u8 0, .int .u8 0, .int .u8 0, .int .u8 0, .int .u8 0, .int .u8 0, .int .u8 0] rfl rfl _ _ H.out.1 I32.out SZ.out ONE.out ?_)
    refine bodyPost_ret (results_cell_tmp rfl _ _ (w.heap.size + 1 + 1 + 1 + 1) _ #[.int .u8 0, .int .u8 0, .int .u8 0, .int .u8 0, .int .u8 0, .int .u8 0, .int .u8 0, .int .u8 0, .int .u8 0, .int .u8 0, .int .u8 0, .int .u8 0, .int .u8 0, .int .u8 0, .int .u8 0, .int .u8 0, .int .u8 0, .int .u8 0, .int .u8 0, .int .u8 0, .int .u8 0, .int .u8 0, .int .u8 0, .int .u8 0, .int .u8 0, .int .u8 0, .int .u8 0, .int .u8 0, .int .u8 0, .int .u8 0, .int .u8 0, .int .u8 0] (0, 0) _ rfl H.out.2 digarr rfl I32.out) rfl ⟨?_, ?_⟩
    · rw [OK.out, show joinD n f P R = List.replicate 32 0 by unfold joinD; rw [OK.out]; rfl]
      rfl
    · rw [show joinF n f P R = [] by unfold joinF; rw [OK.out]; rfl, List.append_nil]
      exact LS.out

end Go.Proofs.YtgfemjpeegbhhaaDoor
/- The contract of the document's own Need. -/

namespace Go.Proofs.YtgfemjpeegbhhaaDoor
open Go.RowKit Go.Hm
theorem fits_any (n f t : Int) (w : World) : Calls Tryd.prog 51 #[.int .i64 n, .int .i64 f, .int .i64 t] w (ValPost (.bool (decide (¬ (65536 < n ∨ f < 0 ∨ t < f ∨ n < t)))) w) := by
  obtain ⟨b, hb⟩ : ∃ b, b = decide (¬ (65536 < n ∨ f < 0 ∨ t < f ∨ n < t)) := ⟨_, rfl⟩
  rw [← hb]
  have HB : ∀ x, decide (¬ (65536 < n ∨ f < 0 ∨ t < f ∨ n < t)) = x → Hid (b = x) := fun x h => Lib.hid (hb.trans h)
  clear hb
  by_cases a1 : 0 ≤ f
  · by_cases a2 : f ≤ t
    · by_cases a3 : t ≤ n
      · by_cases a4 : n ≤ 65536
        · have HB := HB true (decide_eq_true (by omega))
          go_enter Tryd.func51, Tryd.ntmps51
          go_wp2
          go_ret
          exact ⟨by rw [HB.out]; simp, rfl⟩
        · have HB := HB false (decide_eq_false (by omega))
          have q4 : decide (n ≤ 65536) = false := decide_eq_false a4
          go_enter Tryd.func51, Tryd.ntmps51
          go_wp2
          go_ret
          exact ⟨by rw [HB.out]; simp, rfl⟩
      · have HB := HB false (decide_eq_false (by omega))
        have q4 : decide (t ≤ n) = false := decide_eq_false a3
        go_enter Tryd.func51, Tryd.ntmps51
        go_wp2
        go_ret
        exact ⟨by rw [HB.out]; simp, rfl⟩
    · have HB := HB false (decide_eq_false (by omega))
      have q4 : decide (f ≤ t) = false := decide_eq_false a2
      go_enter Tryd.func51, Tryd.ntmps51
      go_wp2
      go_ret
      exact ⟨by rw [HB.out]; simp, rfl⟩
  · have HB := HB false (decide_eq_false (by omega))
    have q4 : decide (0 ≤ f) = false := decide_eq_false a1
    go_enter Tryd.func51, Tryd.ntmps51
    go_wp2
    go_ret
    exact ⟨by rw [HB.out]; simp, rfl⟩
set_option maxHeartbeats 4000000 in
set_option maxRecDepth 100000 in
theorem rneedA_any (f t : Nat) : ∀ (m at_ n : Nat) (w : World), n < m → at_ + n ≤ 1000000 → f ≤ 1000000 → t ≤ 1000000 → Calls Tryd.prog 52 #[.int .i64 (at_ : Int), .int .i64 (n : Int), .int .i64 (f : Int), .int .i64 (t : Int)] w (ValPost (.int .i64 (cnt (evs f t at_ (at_ + n)) : Nat)) w) := by
  intro m
  induction m with
  | zero => intro a n w h; omega
  | succ m ih =>
    intro a n w hm hn hf ht
    have V1 : (a = a + n ∨ (f ≤ a ∧ a + n ≤ t)) → Hid (cnt (evs f t a (a + n)) = 0) := fun h => Lib.hid (by rw [evs_among h]; rfl)
    have V2 : ¬ (a = a + n ∨ (f ≤ a ∧ a + n ≤ t)) → min (a + n) t ≤ max a f → Hid (cnt (evs f t a (a + n)) = 1) := fun h h2 => Lib.hid (by rw [evs_beside h h2]; rfl)
    by_cases a0 : n = 0
    · subst a0
      have HV := V1 (.inl rfl)
      clear V1 V2 ih
      go_enter Tryd.func52, Tryd.ntmps52
      go_wp2
      go_ret
      exact ⟨by rw [HV.out]; simp, rfl⟩
    have q0 : ((n : Int) == 0) = false := beq_eq_false_iff_ne.2 (by omega)
    by_cases aa : f ≤ a ∧ a + n ≤ t
    · have HV := V1 (.inr aa)
      have q1 : decide (f ≤ a) = true := decide_eq_true aa.1
      have q2 : decide ((a : Int) + (n : Int) ≤ (t : Int)) = true := decide_eq_true (by omega)
      have q3 : decide (f < t) = true := decide_eq_true (by omega)
      clear V1 V2 ih
      go_enter Tryd.func52, Tryd.ntmps52
      go_wp2
      go_ret
      exact ⟨by rw [HV.out]; simp, rfl⟩
    clear V1
    by_cases bb : min (a + n) t ≤ max a f
    · have HV := V2 (by omega) bb
      clear V2 ih
      go_enter Tryd.func52, Tryd.ntmps52
      by_cases a1 : f ≤ a <;> by_cases a2 : (a : Int) + (n : Int) ≤ (t : Int) <;> by_cases a3 : f < t <;> by_cases b1 : t ≤ f <;> by_cases b2 : t ≤ a <;> by_cases b3 : (a : Int) + (n : Int) ≤ (f : Int) <;> first | (exfalso; omega) | skip
      all_goals clear aa bb hm
      all_goals go_wp2
      all_goals (go_ret; exact ⟨by rw [HV.out]; simp, rfl⟩)
    clear V2
    obtain ⟨k, hk⟩ : ∃ k, k = splitN n := ⟨_, rfl⟩
    have hs := splitN_lt (n := n) (by omega)
    rw [← hk] at hs
    have SP := rsplit_any (n : Int) w (by omega) (by omega)
    rw [Int.toNat_natCast, ← hk] at SP
    have HC := cnt_node (f := f) (t := t) (lo := a) (hi := a + n) (by omega) (by omega) bb
    rw [show a + n - a = n by omega, ← hk] at HC
    have I1 := ih a k w (by omega) (by omega) hf ht
    have I2 := ih (a + k) (n - k) w (by omega) (by omega) hf ht
    rw [show a + k + (n - k) = a + n by omega] at I2
    have c1 := cnt_le a (a + k) (by omega) (f := f) (t := t)
    have c2 := cnt_le (a + k) (a + n) (by omega) (f := f) (t := t)
    rw [show ((a + k : Nat) : Int) = (a : Int) + (k : Int) by omega, show ((n - k : Nat) : Int) = (n : Int) - (k : Int) by omega] at I2
    generalize cnt (evs f t a (a + k)) = x at *
    generalize cnt (evs f t (a + k) (a + n)) = y at *
    generalize cnt (evs f t a (a + n)) = z at *
    have HC := Lib.hid HC
    have SP := Lib.hid SP
    have I1 := Lib.hid I1
    have I2 := Lib.hid I2
    clear ih hk
    go_enter Tryd.func52, Tryd.ntmps52
    by_cases a1 : f ≤ a <;> by_cases a2 : (a : Int) + (n : Int) ≤ (t : Int) <;> by_cases a3 : f < t <;> by_cases b1 : t ≤ f <;> by_cases b2 : t ≤ a <;> by_cases b3 : (a : Int) + (n : Int) ≤ (f : Int) <;> first | (exfalso; omega) | skip
    all_goals clear aa bb hm
    all_goals (
      go_wp2_with fail
      (with_reducible refine SP.out.mono ?_)
      rintro e w' ⟨rfl, rfl⟩
      go_wp2_with fail
      (with_reducible refine I1.out.mono ?_)
      rintro e w' ⟨rfl, rfl⟩
      go_wp2_with fail
      (with_reducible refine I2.out.mono ?_)
      rintro e w' ⟨rfl, rfl⟩
      go_wp2
      go_ret
      exact ⟨by rw [HC.out]; simp, rfl⟩)
theorem rneed_any (n f t : Int) (w : World) : Calls Tryd.prog 32 #[.int .i64 n, .int .i64 f, .int .i64 t] w (ValPost (.int .i64 (needI n f t)) w) := by
  have F := Lib.hid (fits_any n f t w)
  by_cases h : 65536 < n ∨ f < 0 ∨ t < f ∨ n < t
  · have HV := Lib.hid (show needI n f t = -1 from if_pos h)
    rw [decide_eq_false (fun hn => hn h)] at F
    clear h
    go_enter Tryd.func32, Tryd.ntmps32
    go_wp2_with fail
    (with_reducible refine F.out.mono ?_)
    rintro e w' ⟨rfl, rfl⟩
    go_wp2
    go_ret
    exact ⟨by rw [HV.out]; simp, rfl⟩
  · have HV := Lib.hid (show needI n f t = _ from if_neg h)
    rw [decide_eq_true h] at F
    obtain ⟨n, rfl⟩ : ∃ m : Nat, n = (m : Int) := ⟨n.toNat, by omega⟩
    obtain ⟨f, rfl⟩ : ∃ m : Nat, f = (m : Int) := ⟨f.toNat, by omega⟩
    obtain ⟨t, rfl⟩ : ∃ m : Nat, t = (m : Int) := ⟨t.toNat, by omega⟩
    rw [Int.toNat_natCast, Int.toNat_natCast, Int.toNat_natCast] at HV
    have N := rneedA_any f t (n + 1) 0 n w (by omega) (by omega) (by omega) (by omega)
    rw [Nat.zero_add, Int.natCast_zero] at N
    have N := Lib.hid N
    clear h
    generalize cnt (evs f t 0 n) = z at *
    go_enter Tryd.func32, Tryd.ntmps32
    go_wp2_with fail
    (with_reducible refine F.out.mono ?_)
    rintro e w' ⟨rfl, rfl⟩
    go_wp2_with fail
    (with_reducible refine N.out.mono ?_)
    rintro e w' ⟨rfl, rfl⟩
    go_wp2
    go_ret
    exact ⟨by rw [HV.out]; simp, rfl⟩

end Go.Proofs.YtgfemjpeegbhhaaDoor
/- The order of the last region of layer 21's small case. -/

namespace Go.Proofs.YtgfemjpeegbhhaaDoor
open Go.RowKit Go.Hm
def ord21 : List (Bool × Nat) := (true, 0) :: (true, 1) :: (true, 2) :: (true, 3) :: (true, 4) :: (true, 5) :: (true, 6) :: (true, 7) :: (true, 8) :: (true, 9) :: (true, 10) :: (true, 11) :: (false, 12) :: (false, 13) :: (true, 14) :: (true, 15) :: (true, 16) :: (true, 17) :: (false, 18) :: (true, 19) :: (true, 20) :: (true, 21) :: (true, 22) :: (true, 23) :: (true, 26) :: (false, 24) :: (false, 25) :: (true, 27) :: (true, 28) :: (true, 29) :: (false, 30) :: (true, 31) :: (true, 32) :: (true, 33) :: (false, 34) :: (true, 35) :: (true, 36) :: (true, 37) :: (false, 38) :: (true, 39) :: (true, 40) :: (true, 41) :: (false, 42) :: (true, 43) :: (true, 44) :: (true, 45) :: (false, 46) :: (true, 47) :: (true, 48) :: (true, 49) :: []
set_option maxRecDepth 100000 in
theorem ok21 : upOk (regOf Tryd.f13 9) (Array.replicate (regOf Tryd.f13 9).size false) ord21 = true := by kernel_rfl

end Go.Proofs.YtgfemjpeegbhhaaDoor
/- The small case of layer 21's statements. -/

namespace Go.Hm
open Go Go.RowKit
abbrev pageTag : List Nat := [112, 97, 103, 101]
def dA : List Nat := hashN pageTag (leafP 0 2 [120])
def dB : List Nat := hashN pageTag (leafP 1 2 [])
def fA : List Nat := frameL pageTag (leafP 0 2 [120])
def fB : List Nat := frameL pageTag (leafP 1 2 [])
def fN : List Nat := frameL nodeTag [dA, dB]
def fZ : List Nat := frameL noneTag []
theorem frame_A : frameO pageTag (leafP 0 2 [120]) = some fA := by unfold frameO; exact if_pos ⟨by decide, by decide, by decide⟩
theorem frame_B : frameO pageTag (leafP 1 2 []) = some fB := by unfold frameO; exact if_pos ⟨by decide, by decide, by decide⟩
theorem dig_A : DigN dA := hashN_dig _ _
theorem dig_B : DigN dB := hashN_dig _ _
theorem digs_AB : Digs [dA, dB] := by
  intro d hd
  simp only [List.mem_cons, List.not_mem_nil, or_false] at hd
  rcases hd with rfl | rfl
  · exact dig_A
  · exact dig_B
theorem split_two : splitN 2 = 1 := by decide
theorem root_two (x y : List Nat) : rootD [x, y] = (hashN nodeTag [x, y], [frameL nodeTag [x, y]]) := by
  have hs : splitN [x, y].length = 1 := split_two
  rw [rootD_many (L := [x, y]) (by simp), hs]
  show (hashN nodeTag [(rootD [x]).1, (rootD [y]).1], (rootD [x]).2 ++ (rootD [y]).2 ++ [frameL nodeTag [(rootD [x]).1, (rootD [y]).1]]) = _
  rw [rootD_one, rootD_one]
  rfl
theorem ConstIn.turn2 {W w w' : World} {T : List Nat} (hC : ConstIn W) (b : New W w) (k : Turns T w w') (hT : ∀ x ∈ T, W.heap.size ≤ x) : ConstIn w' := hC.new (Turns.below b k hT (Nat.le_refl _))
theorem run_idB2 {P : Program} (w : World) (t e : TypeId) (x : Int) (g : Nat) (hg : g = w.heap.size) (ht : P.underlying t = some (.slice e)) (he : P.underlying e = some (.int .u8)) :
    (convert t t (.slice (some ⟨g, 0, none⟩) 1 1)).run P (w.alloc (.cells #[.int .u8 x] e)) = .ok (.slice (some ⟨g, 0, none⟩) 1 1) (w.alloc (.cells #[.int .u8 x] e (1, 2))) := Joins.run_convert_bytes_const_at w t e _ 1 1 g hg ht he

end Go.Hm

namespace Go.Proofs.YtgfemjpeegbhhaaDoor
open Go.RowKit Go.Hm
theorem rows_pair {W : World} {a b : List Nat} (ha : DigN a) (hb : DigN b) {ga gb : Nat} {ca cb : Array Value} (h1 : Blk W ga 32 ca) (e1 : dV a = .agg ca) (h2 : Blk W gb 32 cb) (e2 : dV b = .agg cb) :
    RowsAt (W.alloc (.cells #[.slice (some ⟨ga, 0, none⟩) 32 32, .slice (some ⟨gb, 0, none⟩) 32 32] 22)) (some ⟨W.heap.size, 0, none⟩) 2 2 [(some ⟨ga, 0, none⟩, 32, a), (some ⟨gb, 0, none⟩, 32, b)] := by
  have e1 : ca = (nums .u8 a).toArray := by injection e1 with e1; exact e1.symm
  have e2 : cb = (nums .u8 b).toArray := by injection e2 with e2; exact e2.symm
  have n := new_alloc2 W (.cells #[.slice (some ⟨ga, 0, none⟩) 32 32, .slice (some ⟨gb, 0, none⟩) 32 32] 22)
  refine ⟨Reads.litM3 W _ (0, 0) _ 2 _ (by simp [recs, partV, ha.1, hb.1]) (by simp [recs, partV]), fun x hx => ?_, Nat.le_refl _⟩
  simp only [List.mem_cons, List.not_mem_nil, or_false] at hx
  rcases hx with rfl | rfl
  · exact ⟨by show Reads _ _ 1 _ a.length _; exact Reads.later (reads_blk h1 (by rw [e1])) n, by show a.length ≤ 32; rw [ha.1]; omega, by show (32 : Nat) ≤ _; omega⟩
  · exact ⟨by show Reads _ _ 1 _ b.length _; exact Reads.later (reads_blk h2 (by rw [e2])) n, by show b.length ≤ 32; rw [hb.1]; omega, by show (32 : Nat) ≤ _; omega⟩
theorem hashNode_any {W : World} {a b : List Nat} (ha : DigN a) (hb : DigN b) {ga gb : Nat} {ca cb : Array Value} (h1 : Blk W ga 32 ca) (e1 : dV a = .agg ca) (h2 : Blk W gb 32 cb) (e2 : dV b = .agg cb) (hC : ConstIn W) :
    Calls Tryd.prog 35 #[.string ⟨#[110, 111, 100, 101]⟩, .slice (some ⟨W.heap.size, 0, none⟩) 2 2] (W.alloc (.cells #[.slice (some ⟨ga, 0, none⟩) 32 32, .slice (some ⟨gb, 0, none⟩) 32 32] 22)) (NewPost (dV (hashN nodeTag [a, b])) (W.alloc (.cells #[.slice (some ⟨ga, 0, none⟩) 32 32, .slice (some ⟨gb, 0, none⟩) 32 32] 22))) := by
  have h := hash_any (s := nodeTag) (rows_pair ha hb h1 e1 h2 e2) (by omega) (by decide) (by decide) (by simp [bytesOf, tsum, ha.1, hb.1]) (by
    intro p hp
    simp only [bytesOf, List.map_cons, List.map_nil, List.mem_cons, List.not_mem_nil, or_false] at hp
    rcases hp with rfl | rfl
    · exact ha.2
    · exact hb.2) (hC.new (new_alloc2 _ _))
  rw [show bytesOf [((some ⟨ga, 0, none⟩ : Option Addr), 32, a), (some ⟨gb, 0, none⟩, 32, b)] = [a, b] from rfl, dV_hash] at h
  exact h
theorem hashNone_any (W : World) (hC : ConstIn W) : Calls Tryd.prog 35 #[.string ⟨#[110, 111, 110, 101]⟩, .slice none 0 0] W (NewPost (dV (hashN noneTag [])) W) := by
  have h := hash_any (s := noneTag) (rows_none W) (by omega) (by decide) (by decide) (by simp [bytesOf, tsum]) (by simp [bytesOf]) hC
  rw [show bytesOf [] = [] from rfl, dV_hash] at h
  exact h
theorem rootOne_any (w : World) (g base : Nat) (hbs : base ≤ w.heap.size) {V : Value} {F : List (List Nat)} (hF : F.length ≤ 1000) (hL : LogOf tL w base g V F) {a : List Nat} (ha : DigN a) (hC : ∀ w' w'', New w w' → Turns (g :: rowT V) w' w'' → ConstIn w'') :
    Calls Tryd.prog 19 #[.pointer (some ⟨g, 0, none⟩), .slice (some ⟨w.heap.size, 0, none⟩) 1 1] (w.alloc (.cells (recs digC [a]).toArray 32)) (PostOf tL (dV a) base g V F (w.alloc (.cells (recs digC [a]).toArray 32))) := by
  have c0 := new_alloc2 w (.cells (recs digC [a]).toArray 32)
  have hT : w.heap.size ∉ g :: rowT V := fun hx => by
    rcases List.mem_cons.1 hx with e | hx
    · have := hL.lt; omega
    · have := (hL.ge _ hx).2; omega
  have h := root_any 2 (L := [a]) (c := 1) (by simp) (hL.new c0) (Nat.le_trans hbs c0.size) (by simp; omega) (leafIn_new (fun d hd => by obtain rfl := List.mem_singleton.1 hd; exact ha) hT) (by simp) (by omega) (fun w' t => hC _ w' c0 t)
  rw [rootD_one, List.append_nil] at h
  exact h
theorem split_is (n : Int) (m : Nat) (w : World) (h0 : 0 ≤ n) (h : n ≤ 1000) (e : splitN n.toNat = m) : Calls Tryd.prog 23 #[.int .i64 n] w (ValPost (.int .i64 (m : Nat)) w) := by
  have := split_any n w (by omega) (by omega)
  rwa [e] at this
theorem depth_is (n : Int) (m : Nat) (w : World) (h0 : 0 ≤ n) (h : n ≤ 1000) (e : depthN n.toNat = m) : Calls Tryd.prog 25 #[.int .i64 n] w (ValPost (.int .i64 (m : Nat)) w) := by
  have := depth_any 1001 n w (by omega) (by omega) (by omega)
  rwa [e] at this
theorem LogOf.made (w : World) (base : Nat) : LogOf tL (w.alloc (.cells #[.slice none 0 0] 62)) base w.heap.size (.slice none 0 0) [] := ⟨none, 0, 0, [], rfl, Blk.new _ _ _, Own.nil_, (fun _ hd => nomatch hd), rfl⟩
theorem leafA_any (w : World) (g base : Nat) (hbs : base ≤ w.heap.size) (hL : LogOf tL w base g (.slice none 0 0) []) (hC : ∀ w' w'', New w w' → Turns [g] w' w'' → ConstIn w'') :
    Calls Tryd.prog 15 #[.pointer (some ⟨g, 0, none⟩), .string ⟨#[112, 97, 103, 101]⟩, .int .i64 0, .int .i64 2, .slice (some ⟨w.heap.size, 0, none⟩) 1 1] (w.alloc (.cells #[.int .u8 120] 5 (1, 2))) (PostOf tL (dV dA) base g (.slice none 0 0) [fA] (w.alloc (.cells #[.int .u8 120] 5 (1, 2)))) := by
  have c0 := new_alloc2 w (.cells #[.int .u8 120] 5 (1, 2))
  have h := leaf_any (s := pageTag) (d := [120]) (k := 0) (n := 2) (c := 1) (hL.new c0) (Nat.le_trans hbs c0.size) (by simp) (by decide) (by decide) (Reads.litM3 w 5 (1, 2) #[.int .u8 120] 1 (nums .u8 [120]) rfl rfl) (by decide) (by decide) (by decide) (by omega) (fun w' t => hC _ w' c0 t)
  rw [dV_hash, frame_A] at h
  exact h
theorem leafB_any (w : World) (g base : Nat) (hbs : base ≤ w.heap.size) {V : Value} (hL : LogOf tL w base g V [fA]) (hC : ∀ w', Turns (g :: rowT V) w w' → ConstIn w') :
    Calls Tryd.prog 15 #[.pointer (some ⟨g, 0, none⟩), .string ⟨#[112, 97, 103, 101]⟩, .int .i64 1, .int .i64 2, .slice none 0 0] w (PostOf tL (dV dB) base g V [fA, fB] w) := by
  have h := leaf_any (s := pageTag) (d := []) (k := 1) (n := 2) (c := 0) (A := none) hL hbs (by simp) (by decide) (by decide) Reads.none_ (by decide) (by decide) (by decide) (by omega) hC
  rw [dV_hash, frame_B] at h
  exact h
theorem rootAB_any (w : World) (g base : Nat) (hbs : base ≤ w.heap.size) {V : Value} (hL : LogOf tL w base g V [fA, fB]) (hC : ∀ w' w'', New w w' → Turns (g :: rowT V) w' w'' → ConstIn w'') :
    Calls Tryd.prog 19 #[.pointer (some ⟨g, 0, none⟩), .slice (some ⟨w.heap.size, 0, none⟩) 2 2] (w.alloc (.cells (recs digC [dA, dB]).toArray 32)) (PostOf tL (dV (hashN nodeTag [dA, dB])) base g V [fA, fB, fN] (w.alloc (.cells (recs digC [dA, dB]).toArray 32))) := by
  have c0 := new_alloc2 w (.cells (recs digC [dA, dB]).toArray 32)
  have hT : w.heap.size ∉ g :: rowT V := fun hx => by
    rcases List.mem_cons.1 hx with e | hx
    · have := hL.lt; omega
    · have := (hL.ge _ hx).2; omega
  have h := root_any 3 (L := [dA, dB]) (c := 2) (by simp) (hL.new c0) (Nat.le_trans hbs c0.size) (by simp) (leafIn_new digs_AB hT) (by simp) (by omega) (fun w' t => hC _ w' c0 t)
  rw [root_two] at h
  exact h
theorem rootZ_any (w : World) (g base : Nat) (hbs : base ≤ w.heap.size) {V : Value} (hL : LogOf tL w base g V [fA, fB, fN]) (hC : ∀ w', Turns (g :: rowT V) w w' → ConstIn w') :
    Calls Tryd.prog 19 #[.pointer (some ⟨g, 0, none⟩), .slice none 0 0] w (PostOf tL (dV (hashN noneTag [])) base g V [fA, fB, fN, fZ] w) := by
  have h := root_any 1 (L := []) (A := none) (c := 0) (by simp) hL hbs (by simp) ⟨Reads.none_, (fun _ hd => nomatch hd), fun h => absurd h (by simp)⟩ (by simp) (by omega) hC
  rw [rootD_nil] at h
  exact h
set_option maxRecDepth 100000 in
theorem dA_dB : dA ≠ dB := by decide +kernel
set_option maxRecDepth 100000 in
theorem fr_short : ∀ p ∈ [fA, fB, fN, fZ], p.length ≤ 140737488355328 := by decide +kernel
set_option maxHeartbeats 4000000 in
set_option maxRecDepth 100000 in
theorem small21_any (w : World) (hC : ConstIn w) : Calls Tryd.prog 13 #[] w (NewPost (.bool true) w) := by
  have HC := Lib.hid hC
  clear hC
  go_enter Tryd.func13, Tryd.ntmps13
  go_wp2_with fail
  refine new_any.mono ?_
  rintro e w1 ⟨rfl, rfl⟩
  have l1 := LogOf.made w w.heap.size
  obtain ⟨w1, hw1⟩ : ∃ W, W = w.alloc (.cells #[.slice none 0 0] 62) := ⟨_, rfl⟩
  have b1 : New w w1 := by rw [hw1]; exact new_alloc2 _ _
  rw [← hw1] at l1
  rw [← hw1]
  obtain ⟨g, hg⟩ : ∃ g, g = w.heap.size := ⟨_, rfl⟩
  rw [← hg] at l1 ⊢
  have HGW := Lib.hid (show w.heap.size ≤ g by omega)
  have k1 := run_idB2 (P := Tryd.prog) w1 22 5 120 w1.heap.size rfl elB.ht (by kernel_rfl)
  have LA := Lib.hid (leafA_any w1 g g (Nat.le_of_lt l1.lt) l1 (fun w' w'' hb ht => HC.out.turn2 (New.trans b1 hb) ht (by intro x hx; simp at hx; omega)))
  have B1 := Lib.hid b1
  have L1 := Lib.hid l1
  clear hw1 b1 l1 hg
  go_wp2_with fail
  (with_reducible refine LA.out.mono ?_)
  rintro e w2 ⟨rfl, V1, l2, _, t2⟩
  obtain ⟨ca, hca⟩ : ∃ cs, cs = (nums .u8 dA).toArray := ⟨_, rfl⟩
  have hva : dV dA = .agg ca := by rw [hca]; rfl
  have I32a := Lib.hid (show (Tryd.prog.info? 32).map (·.size) = some ca.size by rw [hca]; exact i32n dig_A.1)
  have ZSa := Lib.hid (show (ints .u8 zero32).toArray.size = ca.size by rw [hca]; simp [ints, nums, zero32, dig_A.1])
  have ONEa := Lib.hid (show ca.all (·.oneCell') = true by rw [hca]; exact one_n _)
  have HVA := Lib.hid hva
  have N2 := Lib.hid (t2.below (New.trans B1.out (new_alloc2 w1 (.cells #[.int .u8 120] 5 (1, 2)))) (L1.out.own HGW.out HGW.out) (Nat.le_refl _))
  have L2 := Lib.hid l2
  rw [hva]
  clear hca hva k1 LA l2 t2 L1
  go_wp2_with (refine wpList_store_row rfl 32 (.tmp 2) (.tmp 13) rfl w2.heap.size ca rfl rfl _ _ (heap_alloc_new _ _) I32a.out ZSa.out ONEa.out ?_; rw [alloc_setRow])
  obtain ⟨w3, hw3⟩ : ∃ W, W = w2.alloc (.cells ca 32) := ⟨_, rfl⟩
  have n23 : New w2 w3 := by rw [hw3]; exact new_alloc2 _ _
  have gA : Blk w3 w2.heap.size 32 ca := by rw [hw3]; exact Blk.new _ _ _
  rw [← hw3]
  generalize w2.heap.size = ba at *
  have N3 := Lib.hid (New.trans N2.out n23)
  have l3 := L2.out.new n23
  have LB := Lib.hid (leafB_any w3 g g (Nat.le_of_lt l3.lt) l3 (fun w' t => HC.out.turn2 N3.out t (l3.own HGW.out HGW.out)))
  have L3 := Lib.hid l3
  have GA := Lib.hid gA
  clear hw3 n23 gA l3 L2 N2
  (with_reducible refine LB.out.mono ?_)
  rintro e w4 ⟨rfl, V2, l4, _, t4⟩
  obtain ⟨cb, hcb⟩ : ∃ cs, cs = (nums .u8 dB).toArray := ⟨_, rfl⟩
  have hvb : dV dB = .agg cb := by rw [hcb]; rfl
  have I32b := Lib.hid (show (Tryd.prog.info? 32).map (·.size) = some cb.size by rw [hcb]; exact i32n dig_B.1)
  have ZSb := Lib.hid (show (ints .u8 zero32).toArray.size = cb.size by rw [hcb]; simp [ints, nums, zero32, dig_B.1])
  have ONEb := Lib.hid (show cb.all (·.oneCell') = true by rw [hcb]; exact one_n _)
  have HVB := Lib.hid hvb
  have n4 := t4.below N3.out (L3.out.own HGW.out HGW.out) (Nat.le_refl _)
  have ga4 := GA.out.touch t4 (L3.out.notT GA.out (by decide) (by decide))
  have n5 := New.trans n4 (new_alloc2 w4 (.cells cb 32))
  have l5 := l4.new (new_alloc2 w4 (.cells cb 32))
  have ga5 := ga4.alloc (.cells cb 32)
  have gb5 := Blk.new w4 32 cb
  have RB := Lib.hid (rootAB_any (w4.alloc (.cells cb 32)) g g (Nat.le_of_lt l5.lt) l5 (fun w' w'' hb ht => HC.out.turn2 (New.trans n5 hb) ht (l5.own HGW.out HGW.out)))
  have RB' := Lib.hid (show Calls Tryd.prog 19 #[.pointer (some ⟨g, 0, none⟩), .slice (some ⟨w4.heap.size + 1, 0, none⟩) 2 2] ((w4.alloc (.cells cb 32)).alloc (.cells (recs digC [dA, dB]).toArray 32)) _ from by have h := RB.out; rw [show (w4.alloc (.cells cb 32)).heap.size = w4.heap.size + 1 by simp] at h; exact h)
  have XA := Lib.hid (row_of_blk ga5)
  have XB := Lib.hid (row_of_blk gb5)
  have L5 := Lib.hid l5
  have GA5 := Lib.hid ga5
  have GB5 := Lib.hid gb5
  have N5 := Lib.hid n5
  rw [hvb]
  clear hcb hvb LB l4 t4 n4 ga4 n5 l5 ga5 gb5 L3 GA N3
  go_wp2_with (first
    | (refine wpList_store_row rfl 32 (.tmp 3) (.tmp 15) rfl w4.heap.size cb rfl rfl _ _ (heap_alloc_new _ _) I32b.out ZSb.out ONEb.out ?_; rw [alloc_setRow])
    | (refine wpList_load_row rfl 32 (.tmp 2) rfl ba rfl _ ca _ _ XA.out digarr rfl I32a.out ?_)
    | (refine wpList_load_row rfl 32 (.tmp 3) rfl w4.heap.size rfl _ cb _ _ XB.out digarr rfl I32b.out ?_)
    | go_loud (refine wpList_digs rfl 2 _ rfl [dA, dB] digs_AB rfl (by omega) (by omega) ?hp ?_; case hp => (rw [List.map_cons, List.map_cons, List.map_nil, HVA.out, HVB.out, Array.toList_map]; rfl))
    | fail)
  (with_reducible refine RB'.out.mono ?_)
  rintro e w6 ⟨rfl, V3, l6, _, t6⟩
  obtain ⟨cn, hcn⟩ : ∃ cs, cs = (nums .u8 (hashN nodeTag [dA, dB])).toArray := ⟨_, rfl⟩
  have hvn : dV (hashN nodeTag [dA, dB]) = .agg cn := by rw [hcn]; rfl
  have I32n := Lib.hid (show (Tryd.prog.info? 32).map (·.size) = some cn.size by rw [hcn]; exact i32n (hashN_dig _ _).1)
  have ZSn := Lib.hid (show (ints .u8 zero32).toArray.size = cn.size by rw [hcn]; simp [ints, nums, zero32, (hashN_dig nodeTag [dA, dB]).1])
  have ONEn := Lib.hid (show cn.all (·.oneCell') = true by rw [hcn]; exact one_n _)
  have HVN := Lib.hid hvn
  have n6 := t6.below (New.trans N5.out (new_alloc2 _ (.cells (recs digC [dA, dB]).toArray 32))) (L5.out.own HGW.out HGW.out) (Nat.le_refl _)
  have l5' := L5.out.new (new_alloc2 _ (.cells (recs digC [dA, dB]).toArray 32))
  have ga6 := (GA5.out.alloc (.cells (recs digC [dA, dB]).toArray 32))
  have gb6 := (GB5.out.alloc (.cells (recs digC [dA, dB]).toArray 32))
  rw [hvn]
  clear hcn hvn RB RB' XA XB
  go_wp2_with (first
    | (refine wpList_store_row rfl 32 (.tmp 4) (.tmp 20) rfl w6.heap.size cn rfl rfl _ _ (heap_alloc_new _ _) I32n.out ZSn.out ONEn.out ?_; rw [alloc_setRow])
    | fail)
  obtain ⟨w7, hw7⟩ : ∃ W, W = w6.alloc (.cells cn 32) := ⟨_, rfl⟩
  have n67 : New w6 w7 := by rw [hw7]; exact new_alloc2 _ _
  have gN7 : Blk w7 w6.heap.size 32 cn := by rw [hw7]; exact Blk.new _ _ _
  have gA7 : Blk w7 ba 32 ca := by rw [hw7]; exact (ga6.touch t6 (l5'.notT ga6 (by decide) (by decide))).alloc _
  have gB7 : Blk w7 w4.heap.size 32 cb := by rw [hw7]; exact (gb6.touch t6 (l5'.notT gb6 (by decide) (by decide))).alloc _
  rw [← hw7]
  generalize w6.heap.size = bn at *
  generalize w4.heap.size = bb at *
  have N7 := Lib.hid (New.trans n6 n67)
  have l7 := l6.new n67
  have RZ := Lib.hid (rootZ_any w7 g g (Nat.le_of_lt l7.lt) l7 (fun w' t => HC.out.turn2 N7.out t (l7.own HGW.out HGW.out)))
  have L7 := Lib.hid l7
  have GA7 := Lib.hid gA7
  have GB7 := Lib.hid gB7
  have GN7 := Lib.hid gN7
  clear hw7 n67 gN7 gA7 gB7 l7 l6 t6 n6 ga6 gb6 l5' GA5 GB5 L5 N5
  (with_reducible refine RZ.out.mono ?_)
  rintro e w8 ⟨rfl, V4, l8, _, t8⟩
  obtain ⟨cz, hcz⟩ : ∃ cs, cs = (nums .u8 (hashN noneTag [])).toArray := ⟨_, rfl⟩
  have hvz : dV (hashN noneTag []) = .agg cz := by rw [hcz]; rfl
  have I32z := Lib.hid (show (Tryd.prog.info? 32).map (·.size) = some cz.size by rw [hcz]; exact i32n (hashN_dig _ _).1)
  have ZSz := Lib.hid (show (ints .u8 zero32).toArray.size = cz.size by rw [hcz]; simp [ints, nums, zero32, (hashN_dig noneTag []).1])
  have ONEz := Lib.hid (show cz.all (·.oneCell') = true by rw [hcz]; exact one_n _)
  have HVZ := Lib.hid hvz
  have n8 := t8.below N7.out (L7.out.own HGW.out HGW.out) (Nat.le_refl _)
  have ga8 := GA7.out.touch t8 (L7.out.notT GA7.out (by decide) (by decide))
  have gb8 := GB7.out.touch t8 (L7.out.notT GB7.out (by decide) (by decide))
  have gn8 := GN7.out.touch t8 (L7.out.notT GN7.out (by decide) (by decide))
  rw [hvz]
  clear hcz hvz RZ
  go_wp2_with (first
    | (refine wpList_store_row rfl 32 (.tmp 5) (.tmp 22) rfl w8.heap.size cz rfl rfl _ _ (heap_alloc_new _ _) I32z.out ZSz.out ONEz.out ?_; rw [alloc_setRow])
    | fail)
  obtain ⟨w9, hw9⟩ : ∃ W, W = w8.alloc (.cells cz 32) := ⟨_, rfl⟩
  have n89 : New w8 w9 := by rw [hw9]; exact new_alloc2 _ _
  have gZ9 : Blk w9 w8.heap.size 32 cz := by rw [hw9]; exact Blk.new _ _ _
  have gA9 : Blk w9 ba 32 ca := by rw [hw9]; exact ga8.alloc _
  have gB9 : Blk w9 bb 32 cb := by rw [hw9]; exact gb8.alloc _
  have gN9 : Blk w9 bn 32 cn := by rw [hw9]; exact gn8.alloc _
  rw [← hw9]
  generalize w8.heap.size = bz at *
  have N9 := Lib.hid (New.trans n8 n89)
  have l9 := l8.new n89
  have L9 := Lib.hid l9
  have GA9 := Lib.hid gA9
  have GB9 := Lib.hid gB9
  have GN9 := Lib.hid gN9
  have GZ9 := Lib.hid gZ9
  clear hw9 n89 gN9 gA9 gB9 gZ9 l9 l8 t8 n8 ga8 gb8 gn8 GA7 GB7 GN7 L7 N7
  have LF := Lib.hid (lframes_any L9.out (by decide) fr_short)
  (with_reducible refine LF.out.mono ?_)
  rintro e w10 ⟨A, c, D, rfl, o, hD, hb, n10⟩
  have N10 := Lib.hid (New.trans N9.out n10)
  have L10 := Lib.hid (L9.out.new n10)
  have GA10 := Lib.hid (GA9.out.below n10 GA9.out.lt)
  have GB10 := Lib.hid (GB9.out.below n10 GB9.out.lt)
  have GN10 := Lib.hid (GN9.out.below n10 GN9.out.lt)
  have GZ10 := Lib.hid (GZ9.out.below n10 GZ9.out.lt)
  clear LF o hD hb n10 N9 L9 GA9 GB9 GN9 GZ9
  have NTA := L10.out.notT GA10.out (by decide) (by decide)
  have NTB := L10.out.notT GB10.out (by decide) (by decide)
  have NTN := L10.out.notT GN10.out (by decide) (by decide)
  have NTZ := L10.out.notT GZ10.out (by decide) (by decide)
  have OWN := L10.out.own HGW.out HGW.out
  have GAf := Lib.hid (fun (W : World) (hW : TurnsB w10.heap.size (g :: rowT V4) w10 W) => show W.heap[ba]? = some (.cells ca 32 (0, 0)) from GA10.out.touch hW.turns NTA)
  have GBf := Lib.hid (fun (W : World) (hW : TurnsB w10.heap.size (g :: rowT V4) w10 W) => show W.heap[bb]? = some (.cells cb 32 (0, 0)) from GB10.out.touch hW.turns NTB)
  have GNf := Lib.hid (fun (W : World) (hW : TurnsB w10.heap.size (g :: rowT V4) w10 W) => show W.heap[bn]? = some (.cells cn 32 (0, 0)) from GN10.out.touch hW.turns NTN)
  have GZf := Lib.hid (fun (W : World) (hW : TurnsB w10.heap.size (g :: rowT V4) w10 W) => show W.heap[bz]? = some (.cells cz 32 (0, 0)) from GZ10.out.touch hW.turns NTZ)
  have HCf : ∀ W : World, TurnsB w10.heap.size (g :: rowT V4) w10 W → ConstIn W := fun W hW => HC.out.turn2 N10.out hW.turns OWN
  have HN := Lib.hid (fun (W : World) (hW : TurnsB w10.heap.size (g :: rowT V4) w10 W) => show Calls Tryd.prog 35 #[.string ⟨#[110, 111, 100, 101]⟩, .slice (some ⟨W.heap.size, 0, none⟩) 2 2] (W.alloc (.cells #[.slice (some ⟨ba, 0, none⟩) 32 32, .slice (some ⟨bb, 0, none⟩) 32 32] 22)) (NewPost (.agg cn) (W.alloc (.cells #[.slice (some ⟨ba, 0, none⟩) 32 32, .slice (some ⟨bb, 0, none⟩) 32 32] 22))) from by
    rw [← HVN.out]
    exact hashNode_any dig_A dig_B (GA10.out.touch hW.turns NTA) HVA.out (GB10.out.touch hW.turns NTB) HVB.out (HCf W hW))
  have HZ := Lib.hid (fun (W : World) (hW : TurnsB w10.heap.size (g :: rowT V4) w10 W) => show Calls Tryd.prog 35 #[.string ⟨#[110, 111, 110, 101]⟩, .slice none 0 0] W (NewPost (.agg cz) W) from by
    rw [← HVZ.out]
    exact hashNone_any W (HCf W hW))
  have RT := Lib.hid (fun (W : World) (hW : New w10 W) => show Calls Tryd.prog 19 #[.pointer (some ⟨g, 0, none⟩), .slice (some ⟨W.heap.size, 0, none⟩) 1 1] (W.alloc (.cells (recs digC [dA]).toArray 32)) (PostOf tL (.agg ca) g g V4 [fA, fB, fN, fZ] (W.alloc (.cells (recs digC [dA]).toArray 32))) from by
    rw [← HVA.out]
    exact rootOne_any W g g (Nat.le_of_lt (L10.out.new hW).lt) (by simp) (L10.out.new hW) dig_A (fun w' w'' hb ht => HC.out.turn2 (New.trans N10.out (New.trans hW hb)) ht OWN))
  have EQA := Lib.hid (fun (W : World) => show (binOp .eql 32 (.agg ca) (.agg ca)).run Tryd.prog W = .ok (.bool true) W from by rw [← HVA.out]; have := eqDV dig_A dig_A W; rwa [decide_eq_true rfl] at this)
  have EQN := Lib.hid (fun (W : World) => show (binOp .eql 32 (.agg cn) (.agg cn)).run Tryd.prog W = .ok (.bool true) W from by rw [← HVN.out]; have := eqDV (hashN_dig nodeTag [dA, dB]) (hashN_dig nodeTag [dA, dB]) W; rwa [decide_eq_true rfl] at this)
  have EQZ := Lib.hid (fun (W : World) => show (binOp .eql 32 (.agg cz) (.agg cz)).run Tryd.prog W = .ok (.bool true) W from by rw [← HVZ.out]; have := eqDV (hashN_dig noneTag []) (hashN_dig noneTag []) W; rwa [decide_eq_true rfl] at this)
  have NEQ := Lib.hid (fun (W : World) => show (binOp .neq 32 (.agg ca) (.agg cb)).run Tryd.prog W = .ok (.bool true) W from by
    have := eqDV dig_A dig_B W
    rw [decide_eq_false dA_dB, HVA.out, HVB.out] at this
    exact run_neq_agg this)
  have OWN := Lib.hid OWN
  clear HCf NTA NTB NTN NTZ
  go_wp2
  refine wp_region_up (TurnsB w10.heap.size (g :: rowT V4)) ord21
    (TurnsB.refl _ _) TurnsB.trans (by kernel_rfl) (by kernel_rfl) (by kernel_rfl) ok21 ?_
  have hU : New w10 w10.drew := New.drew w10
  have hT : TurnsB w10.heap.size (g :: rowT V4) w10 w10.drew := TurnsB.of (Turns.of_new hU) (Nat.le_refl _)
  obtain ⟨u0, hu0⟩ : ∃ W, W = w10.drew := ⟨_, rfl⟩
  rw [← hu0] at hU hT ⊢
  clear hu0
  unfold ord21
  have DK : (Tryd.prog).eqGuardType (Tryd.prog).depth 32 = false := by kernel_rfl
  have DK := Lib.hid DK
  iterate 2 (
    refine up_quiet rfl rfl (v := ?_) (fun W hW => ?_) ?_
    rotate_left
    · go_simp <;> with_reducible rfl
    simp only [Act.put, List.setIfInBounds_toArray, List.set_cons_zero, List.set_cons_succ])
  refine up_quiet rfl rfl (v := .bool true) (fun W hW => by go_simp) ?_
  simp only [Act.put, List.setIfInBounds_toArray, List.set_cons_zero, List.set_cons_succ]
  iterate 1 (
    refine up_quiet rfl rfl (v := ?_) (fun W hW => ?_) ?_
    rotate_left
    · go_simp <;> with_reducible rfl
    simp only [Act.put, List.setIfInBounds_toArray, List.set_cons_zero, List.set_cons_succ])
  refine up_quiet rfl rfl (v := .agg ca) (fun W hW => exec_load_row rfl (GAf.out W (TurnsB.trans hT hW)) digarr rfl I32a.out) ?_
  simp only [Act.put, List.setIfInBounds_toArray, List.set_cons_zero, List.set_cons_succ]
  refine up_quiet rfl rfl (v := .agg cb) (fun W hW => exec_load_row rfl (GBf.out W (TurnsB.trans hT hW)) digarr rfl I32b.out) ?_
  simp only [Act.put, List.setIfInBounds_toArray, List.set_cons_zero, List.set_cons_succ]
  refine up_quiet rfl rfl (v := .bool true) (fun W hW => exec_aggN rfl rfl DK.out (NEQ.out W)) ?_
  simp only [Act.put, List.setIfInBounds_toArray, List.set_cons_zero, List.set_cons_succ]
  iterate 2 (
    refine up_quiet rfl rfl (v := ?_) (fun W hW => ?_) ?_
    rotate_left
    · go_simp <;> with_reducible rfl
    simp only [Act.put, List.setIfInBounds_toArray, List.set_cons_zero, List.set_cons_succ])
  refine up_quiet rfl rfl (v := .agg cn) (fun W hW => exec_load_row rfl (GNf.out W (TurnsB.trans hT hW)) digarr rfl I32n.out) ?_
  simp only [Act.put, List.setIfInBounds_toArray, List.set_cons_zero, List.set_cons_succ]
  iterate 2 (
    refine up_quiet rfl rfl (v := ?_) (fun W hW => ?_) ?_
    rotate_left
    · go_simp <;> with_reducible rfl
    simp only [Act.put, List.setIfInBounds_toArray, List.set_cons_zero, List.set_cons_succ])
  refine up_call rfl rfl (fun K hK => ?_)
  go_simp
  refine hK _ _ (.alloc _ hT.size) ?_
  clear hK
  refine up_call rfl rfl (fun K hK => ?_)
  go_simp
  (with_reducible refine (HN.out _ hT).mono ?_)
  rintro e11 u11 ⟨rfl, d11⟩
  refine hK _ _ (TurnsB.of (Turns.of_new d11) (by simp; have := hT.size; omega)) ?_
  clear hK
  have hT' := hT
  replace hT := TurnsB.trans (TurnsB.trans hT (.alloc _ hT.size)) (TurnsB.of (Turns.of_new d11) (by simp; have := hT.size; omega))
  replace hU := New.trans (New.trans hU (new_alloc2 _ _)) d11
  refine up_quiet rfl rfl (v := .bool true) (fun W hW => exec_agg rfl rfl DK.out (EQN.out W)) ?_
  simp only [Act.put, List.setIfInBounds_toArray, List.set_cons_zero, List.set_cons_succ]
  iterate 2 (
    refine up_quiet rfl rfl (v := ?_) (fun W hW => ?_) ?_
    rotate_left
    · go_simp <;> with_reducible rfl
    simp only [Act.put, List.setIfInBounds_toArray, List.set_cons_zero, List.set_cons_succ])
  refine up_quiet rfl rfl (v := .agg cz) (fun W hW => exec_load_row rfl (GZf.out W (TurnsB.trans hT hW)) digarr rfl I32z.out) ?_
  simp only [Act.put, List.setIfInBounds_toArray, List.set_cons_zero, List.set_cons_succ]
  refine up_call rfl rfl (fun K hK => ?_)
  go_simp
  (with_reducible refine (HZ.out _ hT).mono ?_)
  rintro e12 u12 ⟨rfl, d12⟩
  refine hK _ _ (TurnsB.of (Turns.of_new d12) hT.size) ?_
  clear hK
  replace hT := TurnsB.trans hT (TurnsB.of (Turns.of_new d12) hT.size)
  replace hU := New.trans hU d12
  refine up_quiet rfl rfl (v := .bool true) (fun W hW => exec_agg rfl rfl DK.out (EQZ.out W)) ?_
  simp only [Act.put, List.setIfInBounds_toArray, List.set_cons_zero, List.set_cons_succ]
  iterate 3 (
    refine up_quiet rfl rfl (v := ?_) (fun W hW => ?_) ?_
    rotate_left
    · go_simp <;> with_reducible rfl
    simp only [Act.put, List.setIfInBounds_toArray, List.set_cons_zero, List.set_cons_succ])
  refine up_quiet rfl rfl (v := .agg ca) (fun W hW => exec_load_row rfl (GAf.out W (TurnsB.trans hT hW)) digarr rfl I32a.out) ?_
  simp only [Act.put, List.setIfInBounds_toArray, List.set_cons_zero, List.set_cons_succ]
  refine up_quiet rfl rfl (v := .agg ca) (fun W hW => exec_load_row rfl (GAf.out W (TurnsB.trans hT hW)) digarr rfl I32a.out) ?_
  simp only [Act.put, List.setIfInBounds_toArray, List.set_cons_zero, List.set_cons_succ]
  refine up_call rfl rfl (fun K hK => ?_)
  refine wp_digs 1 _ rfl [dA] (fun d hd => by obtain rfl := List.mem_singleton.1 hd; exact dig_A) rfl (by omega) (by omega) (by rw [List.map_cons, List.map_nil, HVA.out, Array.toList_map]; rfl) ?_
  refine hK _ _ (.alloc _ hT.size) ?_
  clear hK
  refine up_call rfl rfl (fun K hK => ?_)
  go_simp
  (with_reducible refine (RT.out _ hU).mono ?_)
  rintro e13 u13 ⟨rfl, V5, _, _, t13⟩
  refine hK _ _ (TurnsB.of t13 (by simp; have := hT.size; omega)) ?_
  clear hK
  replace hT := TurnsB.trans (TurnsB.trans hT (.alloc _ hT.size)) (TurnsB.of t13 (by simp; have := hT.size; omega))
  refine up_quiet rfl rfl (v := .bool true) (fun W hW => exec_agg rfl rfl DK.out (EQA.out W)) ?_
  simp only [Act.put, List.setIfInBounds_toArray, List.set_cons_zero, List.set_cons_succ]
  iterate 2 (
    refine up_quiet rfl rfl (v := ?_) (fun W hW => ?_) ?_
    rotate_left
    · go_simp <;> with_reducible rfl
    simp only [Act.put, List.setIfInBounds_toArray, List.set_cons_zero, List.set_cons_succ])
  refine up_call rfl rfl (fun K hK => ?_)
  go_simp
  refine (split_is 5 4 _ (by omega) (by omega) (by decide)).mono ?_
  rintro e14 u14 ⟨rfl, rfl⟩
  refine hK _ _ (TurnsB.refl _ _ _) ?_
  clear hK
  refine up_quiet rfl rfl (v := .bool true) (fun W hW => by go_simp) ?_
  simp only [Act.put, List.setIfInBounds_toArray, List.set_cons_zero, List.set_cons_succ]
  iterate 2 (
    refine up_quiet rfl rfl (v := ?_) (fun W hW => ?_) ?_
    rotate_left
    · go_simp <;> with_reducible rfl
    simp only [Act.put, List.setIfInBounds_toArray, List.set_cons_zero, List.set_cons_succ])
  refine up_call rfl rfl (fun K hK => ?_)
  go_simp
  refine (split_is 4 2 _ (by omega) (by omega) (by decide)).mono ?_
  rintro e15 u15 ⟨rfl, rfl⟩
  refine hK _ _ (TurnsB.refl _ _ _) ?_
  clear hK
  refine up_quiet rfl rfl (v := .bool true) (fun W hW => by go_simp) ?_
  simp only [Act.put, List.setIfInBounds_toArray, List.set_cons_zero, List.set_cons_succ]
  iterate 2 (
    refine up_quiet rfl rfl (v := ?_) (fun W hW => ?_) ?_
    rotate_left
    · go_simp <;> with_reducible rfl
    simp only [Act.put, List.setIfInBounds_toArray, List.set_cons_zero, List.set_cons_succ])
  refine up_call rfl rfl (fun K hK => ?_)
  go_simp
  refine (split_is 1 0 _ (by omega) (by omega) (by decide)).mono ?_
  rintro e16 u16 ⟨rfl, rfl⟩
  refine hK _ _ (TurnsB.refl _ _ _) ?_
  clear hK
  refine up_quiet rfl rfl (v := .bool true) (fun W hW => by go_simp) ?_
  simp only [Act.put, List.setIfInBounds_toArray, List.set_cons_zero, List.set_cons_succ]
  iterate 2 (
    refine up_quiet rfl rfl (v := ?_) (fun W hW => ?_) ?_
    rotate_left
    · go_simp <;> with_reducible rfl
    simp only [Act.put, List.setIfInBounds_toArray, List.set_cons_zero, List.set_cons_succ])
  refine up_call rfl rfl (fun K hK => ?_)
  go_simp
  refine (depth_is 5 3 _ (by omega) (by omega) (by decide)).mono ?_
  rintro e17 u17 ⟨rfl, rfl⟩
  refine hK _ _ (TurnsB.refl _ _ _) ?_
  clear hK
  refine up_quiet rfl rfl (v := .bool true) (fun W hW => by go_simp) ?_
  simp only [Act.put, List.setIfInBounds_toArray, List.set_cons_zero, List.set_cons_succ]
  iterate 2 (
    refine up_quiet rfl rfl (v := ?_) (fun W hW => ?_) ?_
    rotate_left
    · go_simp <;> with_reducible rfl
    simp only [Act.put, List.setIfInBounds_toArray, List.set_cons_zero, List.set_cons_succ])
  refine up_call rfl rfl (fun K hK => ?_)
  go_simp
  refine (depth_is 1 0 _ (by omega) (by omega) (by decide)).mono ?_
  rintro e18 u18 ⟨rfl, rfl⟩
  refine hK _ _ (TurnsB.refl _ _ _) ?_
  clear hK
  refine up_quiet rfl rfl (v := .bool true) (fun W hW => by go_simp) ?_
  simp only [Act.put, List.setIfInBounds_toArray, List.set_cons_zero, List.set_cons_succ]
  iterate 2 (
    refine up_quiet rfl rfl (v := ?_) (fun W hW => ?_) ?_
    rotate_left
    · go_simp <;> with_reducible rfl
    simp only [Act.put, List.setIfInBounds_toArray, List.set_cons_zero, List.set_cons_succ])
  refine up_nil ?_
  have BE := Lib.hid (Turns.below N10.out hT.turns OWN.out (Nat.le_refl _))
  go_wp2
  go_ret
  exact ⟨rfl, BE.out⟩

end Go.Proofs.YtgfemjpeegbhhaaDoor
/- What the laws of layer 22 share: calls at a log of this call's own, and digests wherever they lie. -/

namespace Go.Proofs.YtgfemjpeegbhhaaDoor
open Go.RowKit Go.Hm
/-- A log of this call's own, made beyond w's memory. -/
def LogSk (w : World) (g : Nat) (W : World) (F : List (List Nat)) : Prop := ∃ V, LogOf tL W w.heap.size g V F ∧ New w W
def SkPost (v : Value) (w : World) (g : Nat) (F : List (List Nat)) (W : World) (e : Ending) (W' : World) : Prop := e = .returned v ∧ LogSk w g W' F ∧ KeepC W W'
theorem LogSk.new {w W W' : World} {g : Nat} {F : List (List Nat)} (h : LogSk w g W F) (n : New W W') : LogSk w g W' F := by
  obtain ⟨V, l, b⟩ := h
  exact ⟨V, l.new n, New.trans b n⟩
theorem LogSk.news {w W : World} {g : Nat} {F : List (List Nat)} (h : LogSk w g W F) : New w W := h.elim fun _ h => h.2
/-- Digests that came in, or lie in a block of their own. -/
def DigsIn (w W : World) (A : Option Addr) (L : List (List Nat)) : Prop :=
  Digs L ∧ (Reads w w.heap.size 32 A L.length (recs digC L) ∨ (Reads W W.heap.size 32 A L.length (recs digC L) ∧ (0 < L.length → ∀ ad, A = some ad → ∃ cs, Blk W ad.block tD cs)))
theorem DigsIn.keep {w W W' : World} {A : Option Addr} {L : List (List Nat)} (h : DigsIn w W A L) (k : KeepC W W') : DigsIn w W' A L := by
  refine ⟨h.1, h.2.imp id fun ⟨r, b⟩ => ⟨⟨r.1, fun hn => ?_⟩, fun hn ad ha => ?_⟩⟩
  · obtain ⟨ad, e, hb, hc⟩ := r.2 hn
    obtain ⟨cs, B⟩ := b hn ad e
    have B' := k.2 _ _ _ (by decide) (by decide) B
    refine ⟨ad, e, B'.lt, fun j u hu => ?_⟩
    have e2 : W'.heap[(ad.add j).block]? = W.heap[(ad.add j).block]? := by rw [block_of_add]; exact Eq.trans B' (Eq.symm B)
    rw [World.cell?_of_block e2]
    exact hc j u hu
  · obtain ⟨cs, B⟩ := b hn ad ha
    exact ⟨cs, k.2 _ _ _ (by decide) (by decide) B⟩
theorem DigsIn.arg {w W : World} {A : Option Addr} {L : List (List Nat)} (hd : Digs L) (h : Reads w w.heap.size 32 A L.length (recs digC L)) : DigsIn w W A L := ⟨hd, .inl h⟩
theorem DigsIn.nil (w W : World) : DigsIn w W none [] := ⟨(fun _ h => nomatch h), .inl Reads.none_⟩
theorem DigsIn.row {w W : World} {B n c : Nat} {A : Option Addr} {L : List (List Nat)} (hd : Digs L) (h : W.ownsRow B tD 32 (.slice A n c) n (recs digC L)) (hn : n = L.length) : DigsIn w W A L := by
  subst hn
  refine ⟨hd, .inr ⟨Reads.of_own h, fun h0 ad ha => ?_⟩⟩
  subst ha
  rcases h.2 with ⟨e, h2⟩ | ⟨g, cap, cur, hv, _, hg, _⟩
  · omega
  · injection hv with e1 e2 e3
    injection e1 with e1
    subst e1
    exact ⟨cur, hg⟩
theorem DigsIn.lit {w W : World} {b : Nat} {L : List (List Nat)} {cs : Array Value} (hd : Digs L) (h : Blk W b tD cs) (hc : cs = (recs digC L).toArray) : DigsIn w W (some ⟨b, 0, none⟩) L := by
  subst hc
  refine ⟨hd, .inr ⟨⟨recs_length (sz := 32) digC_len L, fun _ => ⟨_, rfl, h.lt, ?_⟩⟩, fun _ ad ha => ?_⟩⟩
  · have := World.news_of_block h
    simpa using this
  · injection ha with ha
    subst ha
    exact ⟨_, h⟩
theorem reads_sl {w : World} {B c lo hi : Nat} {A : Option Addr} {L : List (List Nat)} (h : Reads w B 32 A L.length (recs digC L)) (h1 : lo ≤ hi) (h2 : hi ≤ L.length) (hc : L.length ≤ c) : Reads w B 32 (if c = lo then A else A.map (·.add (lo * 32))) (sl L lo hi).length (recs digC (sl L lo hi)) := by
  have a := h.cut (k := lo) (cap := c) (by omega) hc
  rw [recs_drop (sz := 32) digC_len L lo (by omega)] at a
  have b := a.take (k := hi - lo) (by omega)
  rw [recs_take (sz := 32) digC_len _ _ (by rw [List.length_drop]; omega)] at b
  rw [sl_len h2]
  exact b
theorem DigsIn.sl {w W : World} {A : Option Addr} {L : List (List Nat)} (h : DigsIn w W A L) {lo hi c : Nat} (h1 : lo ≤ hi) (h2 : hi ≤ L.length) (hc : L.length ≤ c) : DigsIn w W (if c = lo then A else A.map (·.add (lo * 32))) (sl L lo hi) := by
  refine ⟨h.1.sl lo hi, h.2.imp (fun r => reads_sl r h1 h2 hc) fun ⟨r, b⟩ => ⟨reads_sl r h1 h2 hc, fun hn ad ha => ?_⟩⟩
  rw [sl_len h2] at hn
  split at ha
  · exact b (by omega) ad ha
  · cases A with
    | none => cases ha
    | some a =>
      simp only [Option.map_some, Option.some.injEq] at ha
      rw [← ha, block_of_add]
      exact b (by omega) a rfl
theorem DigsIn.take {w W : World} {A : Option Addr} {L : List (List Nat)} (h : DigsIn w W A L) {k : Nat} (hk : k ≤ L.length) : DigsIn w W A (L.take k) := by
  have hl : (L.take k).length = k := by rw [List.length_take]; omega
  have tk : ∀ {W : World} {B : Nat}, Reads W B 32 A L.length (recs digC L) → Reads W B 32 A (L.take k).length (recs digC (L.take k)) := fun r => by
    have := r.take hk
    rw [recs_take (sz := 32) digC_len L k hk] at this
    rwa [hl]
  exact ⟨h.1.take k, h.2.imp (fun r => tk r) fun ⟨r, b⟩ => ⟨tk r, fun hn => b (by omega)⟩⟩
theorem DigsIn.leaf {w W : World} {g : Nat} {V : Value} {F : List (List Nat)} {A : Option Addr} {L : List (List Nat)} (h : DigsIn w W A L) (hg : w.heap.size ≤ g) (l : LogOf tL W w.heap.size g V F) (n : New w W) : LeafIn W A L (g :: rowT V) := by
  rcases h.2 with r | ⟨r, b⟩
  · exact leafIn_of r h.1 n (l.own (Nat.le_refl _) hg)
  · exact ⟨r, h.1, fun hn ad ha => by obtain ⟨cs, B⟩ := b hn ad ha; exact l.notT B (by decide) (by decide)⟩

section
variable {w W : World} {g : Nat} {F : List (List Nat)}
theorem sk_of {V v : Value} {F' : List (List Nat)} (hg : w.heap.size ≤ g) (l : LogOf tL W w.heap.size g V F) (b : New w W) {e : Ending} {W' : World} (h : PostOf tL v w.heap.size g V F' W e W') : SkPost v w g F' W e W' := by
  obtain ⟨rfl, V', l', _, t⟩ := h
  exact ⟨rfl, ⟨V', l', Turns.below b t (l.own (Nat.le_refl _) hg) (Nat.le_refl _)⟩, KeepC.log l t⟩
theorem root_sk (hg : w.heap.size ≤ g) (hC : ConstIn w) (h : LogSk w g W F) {A : Option Addr} {c : Nat} {L : List (List Nat)} (hd : DigsIn w W A L) (hc : L.length ≤ c) (hcm : c ≤ 9223372036854775807) (hF : F.length + L.length ≤ 900000) :
    Calls Tryd.prog 19 #[.pointer (some ⟨g, 0, none⟩), .slice A L.length c] W (SkPost (dV (rootD L).1) w g (F ++ (rootD L).2) W) := by
  obtain ⟨V, l, b⟩ := h
  exact (root_any (L.length + 1) (by omega) l b.size hF (hd.leaf hg l b) hc hcm (fun w' t => hC.new (Turns.below b t (l.own (Nat.le_refl _) hg) (Nat.le_refl _)))).mono fun _ _ p => sk_of hg l b p
theorem join_sk (hg : w.heap.size ≤ g) (hC : ConstIn w) (h : LogSk w g W F) {A A2 : Option Addr} {c c2 : Nat} {P R : List (List Nat)} (n f : Int) (hd : DigsIn w W A P) (hc : P.length ≤ c) (hcm : c ≤ 9223372036854775807) (hr : DigsIn w W A2 R) (hc2 : R.length ≤ c2) (hcm2 : c2 ≤ 9223372036854775807) (hF : F.length + P.length ≤ 700000) (hn0 : -9223372036854775808 ≤ n) (hn1 : n ≤ 9223372036854775807) (hf1 : f ≤ 9223372036854775807) :
    Calls Tryd.prog 34 #[.pointer (some ⟨g, 0, none⟩), .int .i64 n, .int .i64 f, .slice A P.length c, .slice A2 R.length c2] W (SkPost (.tuple #[dV (joinD n f P R), .bool (joinOk n f P R)]) w g (F ++ joinF n f P R) W) := by
  obtain ⟨V, l, b⟩ := h
  exact (join_any n f l b.size hF (hd.leaf hg l b) hc hcm (hr.leaf hg l b) hc2 hcm2 hn0 hn1 hf1 (fun w' t => hC.new (Turns.below b t (l.own (Nat.le_refl _) hg) (Nat.le_refl _)))).mono fun _ _ p => sk_of hg l b p
def PrPost (w : World) (g : Nat) (F P : List (List Nat)) (W : World) (e : Ending) (W' : World) : Prop := ∃ A c, e = .returned (.slice A P.length c) ∧ P.length ≤ c ∧ c ≤ 9223372036854775807 ∧ DigsIn w W' A P ∧ LogSk w g W' F ∧ KeepC W W'
theorem prove_sk (hg : w.heap.size ≤ g) (hC : ConstIn w) (h : LogSk w g W F) {A : Option Addr} {c : Nat} {L : List (List Nat)} (f t : Int) (hd : DigsIn w W A L) (hc : L.length ≤ c) (hcm : c ≤ 9223372036854775807) (hF : F.length + 2 * L.length ≤ 900000) :
    Calls Tryd.prog 33 #[.pointer (some ⟨g, 0, none⟩), .slice A L.length c, .int .i64 f, .int .i64 t] W (PrPost w g (F ++ provF L f t) (provP L f t) W) := by
  obtain ⟨V, l, b⟩ := h
  refine (prove_any f t l b.size hF (hd.leaf hg l b) hc hcm (fun w' t => hC.new (Turns.below b t (l.own (Nat.le_refl _) hg) (Nat.le_refl _)))).mono ?_
  rintro e W' ⟨v, rfl, o, V', l', _, t⟩
  obtain ⟨A', c', rfl, h1, h2⟩ := row_slice o
  refine ⟨A', c', rfl, h1, by simp only [maxLen] at h2; omega, DigsIn.row ?_ o rfl, ⟨V', l', Turns.below b t (l.own (Nat.le_refl _) hg) (Nat.le_refl _)⟩, KeepC.log l t⟩
  unfold provP
  split
  · exact fun _ h => nomatch h
  · exact prD_digs hd.1 _
end
theorem PrPost.u {w : World} {g : Nat} {F P : List (List Nat)} {W : World} {e : Ending} {W' : World} (h : PrPost w g F P W e W') : ∃ A c, e = .returned (.slice A P.length c) ∧ P.length ≤ c ∧ c ≤ 9223372036854775807 ∧ DigsIn w W' A P ∧ LogSk w g W' F ∧ KeepC W W' := h
/-- What is proved is joined. -/
theorem needI_fit {n f t : Nat} (h1 : f ≤ t) (h2 : t ≤ n) (h3 : n ≤ 65536) : needI (n : Int) (f : Int) (t : Int) = (cnt (evs f t 0 n) : Nat) := by
  unfold needI
  rw [if_neg (by omega), Int.toNat_natCast, Int.toNat_natCast, Int.toNat_natCast]
theorem provP_fit {L : List (List Nat)} {f t : Nat} (h1 : f ≤ t) (h2 : t ≤ L.length) (h3 : L.length ≤ 65536) : provP L (f : Int) (t : Int) = prD L (evs f t 0 L.length) ∧ provF L (f : Int) (t : Int) = prF L (evs f t 0 L.length) := by
  unfold provP provF
  rw [needI_fit h1 h2 h3, if_neg (by omega), if_neg (by omega), Int.toNat_natCast, Int.toNat_natCast]
  exact ⟨rfl, rfl⟩
theorem joinT_fit {f : Nat} {P : List (List Nat)} (h : f + P.length ≤ 65536) : joinT (f : Int) P = ((f + P.length : Nat) : Int) := by
  unfold joinT
  rw [wrapI_is _ ⟨by omega, by omega⟩]
  omega
theorem joinOk_fit {n f : Nat} {P R : List (List Nat)} (h2 : f + P.length ≤ n) (h3 : n ≤ 65536) : joinOk (n : Int) (f : Int) P R = decide (cnt (evs f (f + P.length) 0 n) = R.length) := by
  unfold joinOk
  rw [joinT_fit (by omega), needI_fit (by omega) h2 h3]
  exact decide_eq_decide.2 (by omega)
theorem join_back {L : List (List Nat)} {f t : Nat} (h1 : f ≤ t) (h2 : t ≤ L.length) (h3 : L.length ≤ 65536) : joinOk (L.length : Nat) (f : Int) (sl L f t) (provP L (f : Int) (t : Int)) = true ∧ joinD (L.length : Nat) (f : Int) (sl L f t) (provP L (f : Int) (t : Int)) = (rootD L).1 := by
  have hl : f + (sl L f t).length = t := by rw [sl_len h2]; omega
  have ok : joinOk (L.length : Nat) (f : Int) (sl L f t) (provP L (f : Int) (t : Int)) = true := by
    rw [joinOk_fit (by omega) h3, hl, (provP_fit h1 h2 h3).1, prD_len]
    exact decide_eq_true rfl
  refine ⟨ok, ?_⟩
  unfold joinD
  rw [ok, if_pos rfl]
  unfold joinS
  rw [Int.toNat_natCast, Int.toNat_natCast, hl, (provP_fit h1 h2 h3).1]
  obtain ⟨F, e⟩ := join_proved (L := L) (f := f) (t := t) ⟨[], prD L (evs f t 0 L.length), []⟩ [] (by simp)
  rw [e]
  rfl
theorem provF_len {L : List (List Nat)} (f t : Int) (hD : Digs L) : (provF L f t).length ≤ L.length := by
  unfold provF
  split
  · simp
  · have := prF_len hD 0 L.length (Nat.zero_le _) (Nat.le_refl _) (f := f.toNat) (t := t.toNat)
    omega
theorem joinF_len {P : List (List Nat)} (n f : Int) (R : List (List Nat)) (hP : Digs P) (h : n ≤ 100000) : (joinF n f P R).length ≤ 200001 := by
  unfold joinF
  split
  · have := jrun_few (P := P) (f := f.toNat) (t := f.toNat + P.length) (n := n.toNat) hP ⟨[], R, []⟩ (List.prefix_refl _)
    unfold joinS
    have : (jrun P f.toNat ⟨[], R, []⟩ (evs f.toNat (f.toNat + P.length) 0 n.toNat)).frames.length ≤ 0 + 2 * n.toNat + 1 := this
    omega
  · simp

end Go.Proofs.YtgfemjpeegbhhaaDoor
/- What the small case of layer 22 and its laws need: calls at a log of which only the number of frames is told, and the plain facts of five leaves. -/

namespace Go.Hm
open Go Go.RowKit
def dgt (i : Nat) : List Nat := i :: List.replicate 31 0
def lv5 : List (List Nat) := [dgt 1, dgt 2, dgt 3, dgt 4, dgt 5]
theorem dgt_dig {i : Nat} (h : i < 256) : DigN (dgt i) := ⟨rfl, by
  intro x hx
  rcases List.mem_cons.1 hx with rfl | hx
  · exact h
  · have := (List.mem_replicate.1 hx).2
    omega⟩
theorem digs5 : Digs lv5 := by
  intro d hd
  simp only [lv5, List.mem_cons, List.not_mem_nil, or_false] at hd
  rcases hd with rfl | rfl | rfl | rfl | rfl <;> exact dgt_dig (by omega)
theorem split_5 : splitN 5 = 4 := by decide
theorem split_4 : splitN 4 = 2 := by decide
theorem split_2' : splitN 2 = 1 := by decide
theorem evs_1_2 : evs 1 2 0 5 = [.beside 0 1, .among 1 2, .node, .beside 2 4, .node, .beside 4 5, .node] := by
  rw [evs_node (by omega) (by omega) (by omega), show 0 + splitN (5 - 0) = 4 by rw [show 5 - 0 = 5 from rfl, split_5],
    evs_node (lo := 0) (hi := 4) (by omega) (by omega) (by omega), show 0 + splitN (4 - 0) = 2 by rw [show 4 - 0 = 4 from rfl, split_4],
    evs_node (lo := 0) (hi := 2) (by omega) (by omega) (by omega), show 0 + splitN (2 - 0) = 1 by rw [show 2 - 0 = 2 from rfl, split_2'],
    evs_beside (lo := 0) (hi := 1) (by omega) (by omega), evs_among (lo := 1) (hi := 2) (by omega), evs_beside (lo := 2) (hi := 4) (by omega) (by omega), evs_beside (lo := 4) (hi := 5) (by omega) (by omega)]
  rfl
theorem evs_2_2 : evs 2 2 0 5 = [.beside 0 5] := by rw [evs_beside (by omega) (by omega)]
theorem evs_0_5 : evs 0 5 0 5 = [.among 0 5] := by rw [evs_among (by omega)]
theorem evs_0_0 : evs 0 0 0 0 = [.among 0 0] := by rw [evs_among (by omega)]

end Go.Hm

namespace Go.Proofs.YtgfemjpeegbhhaaDoor
open Go.RowKit Go.Hm
theorem need_512 : needI 5 1 2 = 3 := by
  have := needI_fit (n := 5) (f := 1) (t := 2) (by omega) (by omega) (by omega)
  rw [evs_1_2] at this
  exact this
theorem need_522 : needI 5 2 2 = 1 := by
  have := needI_fit (n := 5) (f := 2) (t := 2) (by omega) (by omega) (by omega)
  rw [evs_2_2] at this
  exact this
theorem need_505 : needI 5 0 5 = 0 := by
  have := needI_fit (n := 5) (f := 0) (t := 5) (by omega) (by omega) (by omega)
  rw [evs_0_5] at this
  exact this
theorem need_532 : needI 5 3 2 = -1 := by decide
theorem prov_12 : ∃ x, provP lv5 1 2 = [dgt 1, x, dgt 5] := by
  have := (provP_fit (L := lv5) (f := 1) (t := 2) (by omega) (by decide) (by decide)).1
  rw [show lv5.length = 5 from rfl, evs_1_2] at this
  refine ⟨(rootD (sl lv5 2 4)).1, ?_⟩
  refine this.trans ?_
  simp only [prD, List.flatMap_cons, List.flatMap_nil, List.nil_append, List.append_nil, List.cons_append]
  rw [show sl lv5 0 1 = [dgt 1] from rfl, show sl lv5 4 5 = [dgt 5] from rfl, rootD_one, rootD_one]
theorem join_12 : joinOk 5 1 (sl lv5 1 2) (provP lv5 1 2) = true ∧ joinD 5 1 (sl lv5 1 2) (provP lv5 1 2) = (rootD lv5).1 := join_back (L := lv5) (f := 1) (t := 2) (by omega) (by decide) (by decide)
theorem join_22 : joinOk 5 2 [] (provP lv5 2 2) = true ∧ joinD 5 2 [] (provP lv5 2 2) = (rootD lv5).1 := by
  have := join_back (L := lv5) (f := 2) (t := 2) (by omega) (by decide) (by decide)
  rw [sl_none] at this
  exact this
theorem join_00 : joinOk 0 0 [] [] = true ∧ joinD 0 0 [] [] = (rootD []).1 := by
  have h := join_back (L := []) (f := 0) (t := 0) (by omega) (by decide) (by decide)
  have p := (provP_fit (L := []) (f := 0) (t := 0) (by omega) (by decide) (by decide)).1
  rw [show ([] : List (List Nat)).length = 0 from rfl, evs_0_0] at p
  rw [p, sl_none] at h
  exact h
theorem join_no {R : List (List Nat)} (h : R.length = 2) : joinOk 5 1 (sl lv5 1 2) R = false ∧ joinD 5 1 (sl lv5 1 2) R = List.replicate 32 0 := by
  have hl : (sl lv5 1 2).length = 1 := rfl
  have ok : joinOk 5 1 (sl lv5 1 2) R = false := by
    have := joinOk_fit (n := 5) (f := 1) (P := sl lv5 1 2) (R := R) (by rw [hl]; omega) (by omega)
    rw [hl, evs_1_2, h] at this
    exact this
  exact ⟨ok, by unfold joinD; rw [ok]; rfl⟩
theorem joinF_len2 {P : List (List Nat)} (n m : Nat) (f : Int) (R : List (List Nat)) (hP : Digs P) (h : n ≤ m) : (joinF (n : Int) f P R).length ≤ 2 * m + 1 := by
  unfold joinF
  split
  · have := jrun_few (P := P) (f := f.toNat) (t := f.toNat + P.length) (n := n) hP ⟨[], R, []⟩ (List.prefix_refl _)
    unfold joinS
    rw [Int.toNat_natCast]
    have : (jrun P f.toNat ⟨[], R, []⟩ (evs f.toNat (f.toNat + P.length) 0 n)).frames.length ≤ 0 + 2 * n + 1 := this
    omega
  · simp
/-- A log of this call's own, of at most k frames. -/
def LogN (w : World) (g k : Nat) (W : World) : Prop := ∃ F, LogSk w g W F ∧ F.length ≤ k
theorem LogN.new {w W W' : World} {g k : Nat} (h : LogN w g k W) (n : New W W') : LogN w g k W' := by
  obtain ⟨F, l, hk⟩ := h
  exact ⟨F, l.new n, hk⟩
theorem LogN.news {w W : World} {g k : Nat} (h : LogN w g k W) : New w W := by
  obtain ⟨F, l, hk⟩ := h
  exact l.news
def NPost (v : Value) (w : World) (g k : Nat) (W : World) (e : Ending) (W' : World) : Prop := e = .returned v ∧ LogN w g k W' ∧ KeepC W W'

section
variable {w W : World} {g k : Nat}
theorem root_n (hg : w.heap.size ≤ g) (hC : ConstIn w) (h : LogN w g k W) {A : Option Addr} {c : Nat} {L : List (List Nat)} (hd : DigsIn w W A L) (hc : L.length ≤ c) (hcm : c ≤ 9223372036854775807) (hF : k + L.length ≤ 900000) {v : Value} (hv : dV (rootD L).1 = v) :
    Calls Tryd.prog 19 #[.pointer (some ⟨g, 0, none⟩), .slice A L.length c] W (NPost v w g (k + L.length + 1) W) := by
  obtain ⟨F, l, hk⟩ := h
  refine (root_sk hg hC l hd hc hcm (by omega)).mono ?_
  rintro e W' ⟨rfl, l', kc⟩
  exact ⟨by rw [hv], ⟨_, l', by have := rootD_few hd.1; rw [List.length_append]; omega⟩, kc⟩
theorem join_n (hg : w.heap.size ≤ g) (hC : ConstIn w) (h : LogN w g k W) {A A2 : Option Addr} {c c2 : Nat} {P R : List (List Nat)} (n : Nat) (f : Int) (hd : DigsIn w W A P) (hc : P.length ≤ c) (hcm : c ≤ 9223372036854775807) (hr : DigsIn w W A2 R) (hc2 : R.length ≤ c2) (hcm2 : c2 ≤ 9223372036854775807) (hF : k + P.length ≤ 700000) (hn1 : n ≤ 100000) (hf1 : f ≤ 9223372036854775807) {v : Value} {b : Bool} (hv : dV (joinD (n : Int) f P R) = v) (hb : joinOk (n : Int) f P R = b) :
    Calls Tryd.prog 34 #[.pointer (some ⟨g, 0, none⟩), .int .i64 (n : Int), .int .i64 f, .slice A P.length c, .slice A2 R.length c2] W (NPost (.tuple #[v, .bool b]) w g (k + (2 * n + 1)) W) := by
  obtain ⟨F, l, hk⟩ := h
  refine (join_sk hg hC l (n : Int) f hd hc hcm hr hc2 hcm2 (by omega) (by omega) (by omega) hf1).mono ?_
  rintro e W' ⟨rfl, l', kc⟩
  exact ⟨by rw [hv, hb], ⟨_, l', by have := joinF_len2 n n f R hd.1 (Nat.le_refl _); rw [List.length_append]; omega⟩, kc⟩
def PrN (w : World) (g k : Nat) (P : List (List Nat)) (W : World) (e : Ending) (W' : World) : Prop := ∃ A c, e = .returned (.slice A P.length c) ∧ P.length ≤ c ∧ c ≤ 9223372036854775807 ∧ DigsIn w W' A P ∧ LogN w g k W' ∧ KeepC W W'
theorem prove_n (hg : w.heap.size ≤ g) (hC : ConstIn w) (h : LogN w g k W) {A : Option Addr} {c : Nat} {L : List (List Nat)} (f t : Int) (hd : DigsIn w W A L) (hc : L.length ≤ c) (hcm : c ≤ 9223372036854775807) (hF : k + 2 * L.length ≤ 900000) :
    Calls Tryd.prog 33 #[.pointer (some ⟨g, 0, none⟩), .slice A L.length c, .int .i64 f, .int .i64 t] W (PrN w g (k + L.length) (provP L f t) W) := by
  obtain ⟨F, l, hk⟩ := h
  refine (prove_sk hg hC l f t hd hc hcm (by omega)).mono ?_
  rintro e W' ⟨A, c, rfl, h1, h2, d, l', kc⟩
  exact ⟨A, c, rfl, h1, h2, d, ⟨_, l', by have := provF_len f t hd.1; rw [List.length_append]; omega⟩, kc⟩
end
/-- What a log's turns and new memory leave: all else, and all that lay below. -/
def KeepB (w a b : World) : Prop := KeepC a b ∧ Below w.heap.size a b
theorem KeepB.refl (w a : World) : KeepB w a a := ⟨KeepC.refl a, Below.refl _ _⟩
theorem KeepB.trans {w a b c : World} (h : KeepB w a b) (k : KeepB w b c) : KeepB w a c := ⟨h.1.trans k.1, h.2.trans k.2⟩
theorem KeepB.new {w a b : World} (h : New w a) (k : New a b) : KeepB w a b := ⟨KeepC.new k, k.mono h.size⟩
theorem KeepB.log {w a b : World} (h : New w a) (h2 : New w b) (k : KeepC a b) : KeepB w a b :=
  ⟨k, ⟨h2.os.trans h.os.symm, h2.tape.trans h.tape.symm, h2.output.trans h.output.symm, k.1, fun i hi => (h2.block i hi).trans (h.block i hi).symm⟩⟩
theorem DigsIn.at_ {w W : World} {A : Option Addr} {L : List (List Nat)} {i : Nat} (h : DigsIn w W A L) (n : New w W) (hi : i < L.length) :
    ∃ ad, A = some ad ∧ ∀ W', KeepB w W W' → ∀ j u, (nums .u8 (L.getD i []))[j]? = some u → W'.cell? ((ad.add (i * 32)).add j) = some u := by
  have hd : DigN (L.getD i []) := h.1 _ (mem_getD hi)
  have rd : ∀ W', New w W' → DigsIn w W' A L → ∃ ad, A = some ad ∧ ∀ j u, (nums .u8 (L.getD i []))[j]? = some u → W'.cell? ((ad.add (i * 32)).add j) = some u := fun W' n' h' => by
    have r : Reads W' W'.heap.size 32 A L.length (recs digC L) := by
      rcases h'.2 with r | ⟨r, _⟩
      · exact Reads.later r n'
      · exact r
    obtain ⟨ad, e, hb, hl, hc⟩ := Reads.rec_ (f := digC) (sz := 32) digC_len [] r hi (by omega)
    refine ⟨ad, e, fun j u hu => ?_⟩
    rw [add_of_add]
    rw [← digC_eq hd.1] at hu
    exact hc j u hu
  obtain ⟨ad, e, _⟩ := rd W n h
  refine ⟨ad, e, fun W' k j u hu => ?_⟩
  obtain ⟨ad', e', hc⟩ := rd W' (Below.trans n k.2) (h.keep k.1)
  rw [e] at e'
  injection e' with e'
  subst e'
  exact hc j u hu
theorem LogN.set_ {w W : World} {g k b : Nat} (h : LogN w g k W) {old : Array Value} (G : Blk W b tD old) (hb : w.heap.size ≤ b) (cs : Array Value) : LogN w g k (W.setRow b cs) := by
  obtain ⟨F, ⟨V, l, n⟩, hk⟩ := h
  have T2 : Turns [b] W (W.setRow b cs) := Turns.of_far (far_setRow (g := b) W cs) (by simp)
  obtain ⟨A, m, c, D, rfl, hg, ho, hp, hD⟩ := l
  have l : LogOf tL W w.heap.size g (.slice A m c) F := ⟨A, m, c, D, rfl, hg, ho, hp, hD⟩
  exact ⟨F, ⟨_, l.turn T2 (by simp; exact Blk.ne_ hg G (by decide)) (by simp; exact row_blk_ne ho G (by decide)) (fun x hx _ cs hB => by simp at hx; subst hx; exact Blk.ne_ G hB (by decide) rfl), Turns.below n T2 (by simpa using hb) (Nat.le_refl _)⟩, hk⟩
theorem KeepC.set_ {a W : World} {b : Nat} (k : KeepC a W) (hb : a.heap.size ≤ b) (cs : Array Value) : KeepC a (W.setRow b cs) := by
  have T2 : Turns [b] W (W.setRow b cs) := Turns.of_far (far_setRow (g := b) W cs) (by simp)
  exact ⟨Nat.le_trans k.1 T2.size, fun t x c h1 h2 hB => (k.2 t x c h1 h2 hB).touch T2 (by simp; rintro rfl; have := hB.lt; omega)⟩

end Go.Proofs.YtgfemjpeegbhhaaDoor
/- The order of the last region of layer 22's small case. -/

namespace Go.Proofs.YtgfemjpeegbhhaaDoor
open Go.RowKit Go.Hm
def ks22 : List Bool := true :: true :: true :: true :: true :: true :: true :: true :: true :: true :: true :: true :: true :: true :: true :: true :: true :: true :: true :: true :: true :: true :: true :: true :: true :: true :: true :: true :: false :: true :: true :: true :: true :: true :: true :: true :: true :: true :: true :: true :: true :: true :: true :: true :: true :: true :: true :: true :: true :: false :: true :: true :: true :: false :: true :: true :: true :: false :: true :: true :: true :: false :: true :: true :: true :: false :: true :: true :: true :: []
def ord22 : List (Bool × Nat) := (true, 0) :: (true, 1) :: (true, 2) :: (true, 3) :: (true, 4) :: (true, 5) :: (true, 6) :: (true, 7) :: (true, 8) :: (true, 9) :: (true, 10) :: (true, 11) :: (true, 12) :: (true, 13) :: (true, 14) :: (true, 15) :: (true, 16) :: (true, 17) :: (true, 18) :: (true, 19) :: (true, 20) :: (true, 21) :: (true, 22) :: (true, 23) :: (true, 24) :: (true, 25) :: (true, 26) :: (true, 27) :: (false, 28) :: (true, 29) :: (true, 30) :: (true, 31) :: (true, 32) :: (true, 33) :: (true, 34) :: (true, 35) :: (true, 36) :: (true, 37) :: (true, 38) :: (true, 39) :: (true, 40) :: (true, 41) :: (true, 42) :: (true, 43) :: (true, 44) :: (true, 45) :: (true, 46) :: (true, 47) :: (true, 48) :: (false, 49) :: (true, 50) :: (true, 51) :: (true, 52) :: (false, 53) :: (true, 54) :: (true, 55) :: (true, 56) :: (false, 57) :: (true, 58) :: (true, 59) :: (true, 60) :: (false, 61) :: (true, 62) :: (true, 63) :: (true, 64) :: (false, 65) :: (true, 66) :: (true, 67) :: (true, 68) :: []
theorem ok22 : upOk (regOf Tryd.f30 10) (Array.replicate (regOf Tryd.f30 10).size false) ord22 = true := by
  rw [show ord22 = natOrd 0 ks22 from rfl]
  exact nat_up (by kernel_rfl)

end Go.Proofs.YtgfemjpeegbhhaaDoor
/- A region that draws its order, where sometimes two operations are ready that make memory: a plan of all ways. No program is named here. -/

namespace Go.Hm
open Go Go.RowKit
/-- How a region is gone through: what only reads first; one alone; or either of two. -/
inductive Plan where
  | done
  | quiet (i : Nat) (p : Plan)
  | alone (i : Nat) (p : Plan)
  | two (i : Nat) (p : Plan) (j : Nat) (q : Plan)

section
variable {P : Program} {ops : Array Oper} {Q : Exit → Act → World → Prop}
def Plan.ok (ops : Array Oper) : Array Bool → Plan → Bool
  | listed, .done => (Region.ready .any ops listed).isEmpty
  | listed, .quiet i p => (Region.ready .any ops listed).contains i && (Region.free .any ops listed i && p.ok ops (listed.setIfInBounds i true))
  | listed, .alone i p => decide (Region.ready .any ops listed = [i]) && p.ok ops (listed.setIfInBounds i true)
  | listed, .two i p j q => decide (Region.ready .any ops listed = [i, j]) && (p.ok ops (listed.setIfInBounds i true) && q.ok ops (listed.setIfInBounds j true))
def Plan.size : Plan → Nat
  | .done => 0
  | .quiet _ p => p.size + 1
  | .alone _ p => p.size + 1
  | .two _ p _ q => Nat.max p.size q.size + 1
/-- An operation that may make or turn memory, and what comes behind it. -/
def planOp (P : Program) (ops : Array Oper) (R : World → World → Prop) (Q : Exit → Act → World → Prop) (i : Nat) (K : Act → World → Prop) (a : Act) (w : World) : Prop :=
  ∃ o, ops[i]? = some o ∧ if Region.wanted o (yielded ops a.tmps) then o.wp P a w (fun a' w' => R w w' ∧ K a' w') (NoPanic Q) else K (a.put o.dst undef) w
def wpPlan (P : Program) (ops : Array Oper) (R : World → World → Prop) (Q : Exit → Act → World → Prop) : Plan → Act → World → Prop
  | .done, a, w => Q .normal a w
  | .quiet i p, a, w => ∃ o v, ops[i]? = some o ∧ ((Region.wanted o (yielded ops a.tmps) = true ∧ ∀ w', R w w' → (execOp a.eval o).run P w' = .ok (.value v) w') ∨ (Region.wanted o (yielded ops a.tmps) = false ∧ v = undef)) ∧ wpPlan P ops R Q p (a.put o.dst v) w
  | .alone i p, a, w => planOp P ops R Q i (wpPlan P ops R Q p) a w
  | .two i p j q, a, w => planOp P ops R Q i (wpPlan P ops R Q p) a w ∧ planOp P ops R Q j (wpPlan P ops R Q q) a w
variable {R : World → World → Prop}
theorem wpAnyH_of_plan (hrefl : ∀ w, R w w) (htrans : ∀ {x y z}, R x y → R y z → R x z) (hs : Region.noSelect ops = true) :
    ∀ (p : Plan) (fuel : Nat) (listed : Array Bool) (a : Act) (w : World), p.size ≤ fuel → p.ok ops listed = true → wpPlan P ops R Q p a w → wpAnyH P .any ops (NoPanic Q) (R w) fuel listed a w := by
  have key : ∀ (p : Plan), (∀ (fuel : Nat) (listed : Array Bool) (a : Act) (w : World), p.size ≤ fuel → p.ok ops listed = true → wpPlan P ops R Q p a w → wpAnyH P .any ops (NoPanic Q) (R w) fuel listed a w) →
      ∀ (j : Nat) (fuel : Nat) (listed : Array Bool) (a : Act) (w : World), p.size ≤ fuel → p.ok ops (listed.setIfInBounds j true) = true → planOp P ops R Q j (wpPlan P ops R Q p) a w →
        wpOp P ops (NoPanic Q) j (fun a' w' => R w w' ∧ wpAnyH P .any ops (NoPanic Q) (R w) fuel (listed.setIfInBounds j true) a' w') a w := by
    intro p ih j fuel listed a w hl h3 hc
    obtain ⟨o, ho, hc⟩ := hc
    unfold wpOp
    simp only [ho]
    split
    · rename_i hw
      rw [if_pos hw] at hc
      exact .inl (Oper.wp_mono (fun a' w' hh => ⟨hh.1, wpAnyH_weaken (fun z hz => htrans hh.1 hz) fuel _ a' w' (ih fuel _ a' w' hl h3 hh.2)⟩) hc)
    · rename_i hw
      rw [if_neg hw] at hc
      exact ⟨hrefl w, ih fuel _ _ w hl h3 hc⟩
  intro p
  induction p with
  | done =>
    intro fuel listed a w _ hok h
    exact wpAnyH_done (by simpa [Plan.ok] using hok) (NoPanic.normal h) fuel
  | quiet i p ih =>
    intro fuel listed a w hl hok h
    obtain ⟨fuel, rfl⟩ : ∃ k, fuel = k + 1 := ⟨fuel - 1, by simp [Plan.size] at hl; omega⟩
    obtain ⟨o, v, ho, hv, hr⟩ := h
    simp only [Plan.ok, Bool.and_eq_true] at hok
    obtain ⟨h1, h2, h3⟩ := hok
    exact wpAnyH_take ho hs h2 h1 (fun _ _ _ hp => hp) hv (hrefl w) (ih fuel _ _ w (by simp [Plan.size] at hl; omega) h3 hr)
  | alone i p ih =>
    intro fuel listed a w hl hok h
    obtain ⟨fuel, rfl⟩ : ∃ k, fuel = k + 1 := ⟨fuel - 1, by simp [Plan.size] at hl; omega⟩
    simp only [Plan.ok, Bool.and_eq_true, decide_eq_true_eq] at hok
    obtain ⟨h1, h3⟩ := hok
    refine wpAnyH_all h1 (by simp) ?_
    intro j hj
    obtain rfl : j = i := by simpa using hj
    exact key p ih j fuel listed a w (by simp [Plan.size] at hl; omega) h3 h
  | two i p j q ihp ihq =>
    intro fuel listed a w hl hok h
    obtain ⟨fuel, rfl⟩ : ∃ k, fuel = k + 1 := ⟨fuel - 1, by simp [Plan.size] at hl; omega⟩
    simp only [Plan.ok, Bool.and_eq_true, decide_eq_true_eq] at hok
    obtain ⟨h1, h3, h4⟩ := hok
    have hl' : Nat.max p.size q.size ≤ fuel := by simp [Plan.size] at hl; exact hl
    refine wpAnyH_all h1 (by simp) ?_
    intro k hk
    have hk : k = i ∨ k = j := by simpa using hk
    rcases hk with rfl | rfl
    · exact key p ihp k fuel listed a w (Nat.le_trans (Nat.le_max_left _ _) hl') h3 h.1
    · exact key q ihq k fuel listed a w (Nat.le_trans (Nat.le_max_right _ _) hl') h4 h.2
theorem wp_region_plan {id : Nat} {a : Act} {w : World} (R : World → World → Prop) (p : Plan) (hrefl : ∀ w, R w w) (htrans : ∀ {x y z}, R x y → R y z → R x z) (hm : P.follows .mixedOrders = true)
    (hs : Region.noSelect ops = true) (hl : decide (p.size ≤ ops.size) = true) (hok : p.ok ops (Array.replicate ops.size false) = true) (h : wpPlan P ops R Q p a w.drew) : (Code.region id ops true).wp P Q a w :=
  wp_region_noPanic (wp_region_held hm (wpAnyH_of_plan hrefl htrans hs p ops.size _ a _ (by simpa using hl) hok h))
variable {i j : Nat} {p q : Plan} {a : Act} {w : World} {v : Value}
theorem plan_done (h : Q .normal a w) : wpPlan P ops R Q .done a w := h

section
variable {dst : Option Tmp} {op : Op} {ty : TypeId} {pos : String} {af : Array Edge} {gd : Option (Nat × Bool)}
theorem plan_quiet (ho : ops[i]? = some ⟨dst, op, ty, pos, af, gd⟩) (hw : Region.wanted ⟨dst, op, ty, pos, af, gd⟩ (yielded ops a.tmps) = true) (hv : ∀ w', R w w' → (execOp a.eval ⟨dst, op, ty, pos, af, gd⟩).run P w' = .ok (.value v) w') (h : wpPlan P ops R Q p (a.put dst v) w) : wpPlan P ops R Q (.quiet i p) a w :=
  ⟨_, v, ho, .inl ⟨hw, hv⟩, h⟩
theorem plan_op {K0 : Act → World → Prop} (ho : ops[i]? = some ⟨dst, op, ty, pos, af, gd⟩) (hw : Region.wanted ⟨dst, op, ty, pos, af, gd⟩ (yielded ops a.tmps) = true) (h : ∀ K : Act → World → Prop, (∀ a' w', R w w' → K0 a' w' → K a' w') → Oper.wp P ⟨dst, op, ty, pos, af, gd⟩ a w K (NoPanic Q)) : planOp P ops R Q i K0 a w :=
  ⟨_, ho, by rw [if_pos hw]; exact h _ fun _ _ h1 h2 => ⟨h1, h2⟩⟩
theorem plan_alone (h : planOp P ops R Q i (wpPlan P ops R Q p) a w) : wpPlan P ops R Q (.alone i p) a w := h
theorem plan_two (h : planOp P ops R Q i (wpPlan P ops R Q p) a w) (h2 : planOp P ops R Q j (wpPlan P ops R Q q) a w) : wpPlan P ops R Q (.two i p j q) a w := ⟨h, h2⟩
end
end

end Go.Hm
