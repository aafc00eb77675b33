/- Texts merged, for a claim has at most 60 files: FooP, Open, Rec, OpenCl, FooA, FooB, OpenSt, OpenCo, OpenFo, FooQ, FooC, LayM, Lay, FooJ. -/
import Derived.Test.YtflaaahcoglflaaBun1
import Derived.Test.YtflaaahcoglflaaBun2
import Derived.Test.YtflaaahcoglflaaBun3
import Derived.Test.YtflaaahcoglflaaBun4
import Derived.Test.YtflaaahcoglflaaBun5
/- What bytes are read as as a footer: plain lists. -/

namespace Go.Proofs.Ytflaaahcoglflaa
open Go.RowKit Go.Hm
theorem chunksR_app {m : Int} {rows : Int} (hrm : rows ≤ m) (hm : m ≤ 9223372036854775807) : ∀ (cs : List ColS) (ls : List (List PageS)) (r : List Nat), ls.length = cs.length →
    (∀ i, i < cs.length → ChunkOk (cs.getD i ([], 0, false)).2.1 (cs.getD i ([], 0, false)).2.2 (ls.getD i []) rows) → (∀ l ∈ ls, ∀ p ∈ l, statData p.2.2) → (chunksL cs ls).length + r.length ≤ 140737488351232 →
    chunksR m cs (some (chunksL cs ls ++ r)) = (ls, some r)
  | [], [], r, _, _, _, _ => rfl
  | [], l :: ls, _, h, _, _, _ => by simp at h
  | c :: cs, [], _, h, _, _, _ => by simp at h
  | c :: cs, l :: ls, r, hlen, hok, hd, hr => by
    simp only [chunksL, List.length_append] at hr
    have h0 := hok 0 (by simp)
    simp only [List.getD_cons_zero] at h0
    simp only [chunksL, List.append_assoc, chunksR]
    rw [chunkR_app h0 hrm hm (hd l (by simp)) (by rw [List.length_append]; omega)]
    dsimp only
    rw [chunksR_app hrm hm cs ls r (by simpa using hlen) (fun i hi => by
      have := hok (i + 1) (by simp; omega)
      simpa using this) (fun l' hl' => hd l' (by simp [hl'])) (by omega)]
/-- A group is read. -/
noncomputable def groupR (k : Int → Int) (cols : List ColS) (m : Int) (S : St) : GroupS × St :=
  ((((lenS m S).1 : Int), (chunksR (k ((lenS m S).1 : Int)) cols (lenS m S).2).1), (chunksR (k ((lenS m S).1 : Int)) cols (lenS m S).2).2)
noncomputable def groupsR (k : Int → Int) (cols : List ColS) (m : Int) : Nat → St → List GroupS × St
  | 0, S => ([], S)
  | _ + 1, none => ([], none)
  | n + 1, some l => ((groupR k cols m (some l)).1 :: (groupsR k cols m n (groupR k cols m (some l)).2).1, (groupsR k cols m n (groupR k cols m (some l)).2).2)
theorem groupR_ok {k : Int → Int} {cols : List ColS} {m : Int} {S : St} (h : S.ok) : (groupR k cols m S).2.ok := chunksR_ok _ (lenS_ok h)
theorem groupR_data {k : Int → Int} {cols : List ColS} {m : Int} {S : St} : ∀ l ∈ (groupR k cols m S).1.2, ∀ p ∈ l, statData p.2.2 := chunksR_data _ _
theorem groupsR_none (k : Int → Int) (cols : List ColS) (m : Int) (n : Nat) : groupsR k cols m n none = ([], none) := by cases n <;> rfl
theorem groupsR_ok {k : Int → Int} {cols : List ColS} {m : Int} : ∀ (n : Nat) {S : St}, S.ok → (groupsR k cols m n S).2.ok
  | 0, _, h => h
  | _ + 1, none, _ => St.ok_none
  | n + 1, some _, h => groupsR_ok n (groupR_ok h)
theorem groupsR_data {k : Int → Int} {cols : List ColS} {m : Int} : ∀ (n : Nat) (S : St), ∀ g ∈ (groupsR k cols m n S).1, ∀ l ∈ g.2, ∀ p ∈ l, statData p.2.2
  | 0, _, g, hg => by simp [groupsR] at hg
  | _ + 1, none, g, hg => by simp [groupsR] at hg
  | n + 1, some b, g, hg => by
    simp only [groupsR, List.mem_cons] at hg
    rcases hg with rfl | hg
    · exact groupR_data
    · exact groupsR_data n _ g hg
theorem groupR_some {k : Int → Int} {cols : List ColS} {m : Int} {S : St} {g : GroupS} {r : List Nat} (hS : S.ok) (h : groupR k cols m S = (g, some r)) : S = some (groupL cols g ++ r) := by
  unfold groupR at h
  obtain ⟨N, S1, e⟩ : ∃ N S1, lenS m S = (N, S1) := ⟨_, _, rfl⟩
  have hS1 : S1.ok := by have := lenS_ok (m := m) hS; rwa [e] at this
  rw [e] at h
  dsimp only at h
  simp only [Prod.mk.injEq] at h
  obtain ⟨rfl, h2⟩ := h
  have e1 := chunksR_some cols hS1 (show chunksR (k (N : Int)) cols S1 = ((chunksR (k (N : Int)) cols S1).1, some r) by rw [← h2])
  rw [(lenS_some hS (show lenS m S = (N, some _) by rw [e, ← e1])).1]
  simp [groupL]
theorem groupsR_some {k : Int → Int} {cols : List ColS} {m : Int} : ∀ (n : Nat) {S : St} {gs : List GroupS} {r : List Nat}, S.ok → groupsR k cols m n S = (gs, some r) → S = some (gs.flatMap (groupL cols) ++ r) ∧ gs.length = n
  | 0, S, gs, r, _, h => by
    simp only [groupsR, Prod.mk.injEq] at h
    obtain ⟨rfl, rfl⟩ := h
    exact ⟨rfl, rfl⟩
  | n + 1, none, gs, r, _, h => by
    simp only [groupsR, Prod.mk.injEq] at h
    cases h.2
  | n + 1, some b, gs, r, hS, h => by
    simp only [groupsR, Prod.mk.injEq] at h
    obtain ⟨rfl, h2⟩ := h
    obtain ⟨e1, e2⟩ := groupsR_some n (S := (groupR k cols m (some b)).2) (groupR_ok hS) (show groupsR k cols m n (groupR k cols m (some b)).2 = ((groupsR k cols m n (groupR k cols m (some b)).2).1, some r) by rw [← h2])
    have e3 := groupR_some hS (show groupR k cols m (some b) = ((groupR k cols m (some b)).1, some _) by rw [← e1])
    refine ⟨?_, by rw [List.length_cons, e2]⟩
    rw [List.flatMap_cons, List.append_assoc]
    exact e3
theorem groupR_app {k : Int → Int} (hk : ∀ r, 0 ≤ r → r ≤ 65536 → r ≤ k r ∧ k r ≤ 65536) {cols : List ColS} {m : Int} {g : GroupS} {r : List Nat} (h : GroupOk cols g) (hgm : g.1 ≤ m) (hm : m ≤ 65536) (hd : ∀ l ∈ g.2, ∀ p ∈ l, statData p.2.2)
    (hr : (groupL cols g).length + r.length ≤ 140737488351232) : groupR k cols m (some (groupL cols g ++ r)) = (g, some r) := by
  obtain ⟨h1, h2, h3⟩ := h
  obtain ⟨rows, ls⟩ := g
  dsimp only at h1 h2 h3 hgm hd
  obtain ⟨n, rfl⟩ := Int.eq_ofNat_of_zero_le (show 0 ≤ rows by omega)
  have hkn := hk (n : Int) (by omega) (by omega)
  unfold groupL at hr ⊢
  simp only [Int.toNat_natCast, List.length_append] at hr ⊢
  unfold groupR
  rw [List.append_assoc, lenS_app n _ hgm (by omega)]
  dsimp only
  rw [chunksR_app hkn.1 (by omega) cols ls r h2 h3 hd (by omega)]
theorem groupsR_app {k : Int → Int} (hk : ∀ r, 0 ≤ r → r ≤ 65536 → r ≤ k r ∧ k r ≤ 65536) {cols : List ColS} {m : Int} (hm : m ≤ 65536) : ∀ (gs : List GroupS) (r : List Nat), (∀ g ∈ gs, GroupOk cols g ∧ g.1 ≤ m ∧ ∀ l ∈ g.2, ∀ p ∈ l, statData p.2.2) →
    (gs.flatMap (groupL cols)).length + r.length ≤ 140737488351232 → groupsR k cols m gs.length (some (gs.flatMap (groupL cols) ++ r)) = (gs, some r)
  | [], r, _, _ => rfl
  | g :: gs, r, h, hr => by
    obtain ⟨a, b, c⟩ := h g (by simp)
    rw [List.flatMap_cons, List.length_append] at hr
    rw [List.flatMap_cons, List.append_assoc, List.length_cons]
    simp only [groupsR]
    rw [groupR_app hk a b hm c (by rw [List.length_append]; omega)]
    dsimp only
    rw [groupsR_app hk hm gs r (fun q hq => h q (by simp [hq])) (by omega)]
/-- Names of bytes, stats of data. -/
def FootData (F : FootS) : Prop := (∀ c ∈ F.cols, ∀ z ∈ c.1, z < 256) ∧ ∀ g ∈ F.groups, ∀ l ∈ g.2, ∀ p ∈ l, statData p.2.2
/-- What b is decoded to. -/
structure IsFoot (b : List Nat) (o : Option FootS) : Prop where
  sound : ∀ F, o = some F → FootOk F ∧ FootData F ∧ footL F = b
  compl : ∀ F, FootOk F → FootData F → footL F = b → o = some F
theorem IsFoot.uniq {b : List Nat} {o p : Option FootS} (h : IsFoot b o) (k : IsFoot b p) : o = p := by
  cases o with
  | some F => obtain ⟨a, b, c⟩ := h.sound F rfl; exact (k.compl F a b c).symm
  | none =>
    cases p with
    | none => rfl
    | some F => obtain ⟨a, b, c⟩ := k.sound F rfl; exact h.compl F a b c
noncomputable def footC (b : List Nat) : List ColS × St := getC (some b)
noncomputable def footN (b : List Nat) : Nat × St := lenS 65536 (footC b).2
noncomputable def footG (k : Int → Int) (b : List Nat) : List GroupS × St :=
  groupsR k (footC b).1 (k ((footN b).1 : Int)) (lenS (k ((footN b).1 : Int)) (footN b).2).1 (lenS (k ((footN b).1 : Int)) (footN b).2).2
open Classical in
/-- What is read. -/
noncomputable def footO (k : Int → Int) (b : List Nat) : Option FootS :=
  if (footG k b).2 = some [] ∧ FootOk ⟨(footC b).1, ((footN b).1 : Int), (footG k b).1⟩ then some ⟨(footC b).1, ((footN b).1 : Int), (footG k b).1⟩ else none
theorem rows_sum {cols : List ColS} : ∀ {gs : List GroupS}, (∀ g ∈ gs, GroupOk cols g) → (gs.length : Int) ≤ (gs.map (·.1)).sum ∧ ∀ g ∈ gs, g.1 ≤ (gs.map (·.1)).sum
  | [], _ => by simp
  | g :: gs, h => by
    have ih := rows_sum (gs := gs) fun q hq => h q (by simp [hq])
    have h1 := (h g (by simp)).1
    rw [List.map_cons, List.sum_cons, List.length_cons]
    refine ⟨by omega, fun q hq => ?_⟩
    rcases List.mem_cons.1 hq with rfl | hq
    · omega
    · have := ih.2 q hq
      omega
theorem footO_is {k : Int → Int} (hk : ∀ r, 0 ≤ r → r ≤ 65536 → r ≤ k r ∧ k r ≤ 65536) {b : List Nat} (h8 : ∀ x ∈ b, x < 256) (hb : b.length ≤ 140737488351232) : IsFoot b (footO k b) := by
  constructor
  · intro F hF
    unfold footO at hF
    split at hF
    · rename_i hc
      obtain ⟨hc1, hc2⟩ := hc
      injection hF with hF
      subst hF
      have hS0 : St.ok (some b) := St.ok_some h8
      refine ⟨hc2, ⟨?_, fun g hg => groupsR_data _ _ g hg⟩, ?_⟩
      · intro c hcc z hz
        have hC2 : ∃ r, (footC b).2 = some r := by
          cases h2 : (footC b).2 with
          | some r => exact ⟨r, rfl⟩
          | none =>
            exfalso
            unfold footG footN at hc1
            rw [h2, lenS_none] at hc1
            dsimp only at hc1
            rw [lenS_none] at hc1
            dsimp only at hc1
            rw [groupsR_none] at hc1
            cases hc1
        obtain ⟨r, hr⟩ := hC2
        obtain ⟨_, e⟩ := getC_some hS0 (show getC (some b) = ((footC b).1, some r) by rw [← hr]; rfl)
        injection e with e
        refine h8 z ?_
        rw [e, List.append_assoc]
        refine List.mem_append_right _ (List.mem_append_left _ ?_)
        refine List.mem_flatMap.2 ⟨c, hcc, ?_⟩
        simp only [colB, List.mem_append]
        exact .inl (.inr hz)
      · obtain ⟨C, SC, eC⟩ : ∃ C SC, footC b = (C, SC) := ⟨_, _, rfl⟩
        obtain ⟨N, SN, eN⟩ : ∃ N SN, footN b = (N, SN) := ⟨_, _, rfl⟩
        obtain ⟨n, Sn, en⟩ : ∃ n Sn, lenS (k (N : Int)) SN = (n, Sn) := ⟨_, _, rfl⟩
        obtain ⟨gs, SG, eG⟩ : ∃ gs SG, footG k b = (gs, SG) := ⟨_, _, rfl⟩
        rw [eG] at hc1
        dsimp only at hc1
        subst hc1
        rw [eC, eN, eG]
        unfold footG at eG
        rw [eC, eN] at eG
        dsimp only at eG
        rw [en] at eG
        dsimp only at eG
        unfold footN at eN
        rw [eC] at eN
        dsimp only at eN
        have ok1 : SC.ok := by
          cases SC with
          | none => exact St.ok_none
          | some r =>
            obtain ⟨_, e⟩ := getC_some hS0 (show getC (some b) = (C, some r) from eC)
            injection e with e
            exact St.ok_some fun x hx => h8 x (by rw [e]; simp [hx])
        have ok2 : SN.ok := by have := lenS_ok (m := 65536) ok1; rwa [eN] at this
        have ok3 : Sn.ok := by have := lenS_ok (m := k (N : Int)) ok2; rwa [en] at this
        obtain ⟨e3, hl⟩ := groupsR_some n ok3 eG
        subst e3
        have e4 := (lenS_some ok2 en).1
        subst e4
        have e5 := (lenS_some ok1 eN).1
        subst e5
        obtain ⟨hck, e⟩ := getC_some hS0 (show getC (some b) = (C, some _) from eC)
        injection e with e
        unfold footL putC
        dsimp only
        rw [if_pos hck, e, hl]
        simp
    · cases hF
  · intro F h1 h2 h3
    obtain ⟨cols, rows, gs⟩ := F
    obtain ⟨a1, a2, a3, a4, a5⟩ := h1
    obtain ⟨d1, d2⟩ := h2
    dsimp only at a1 a2 a3 a4 a5 d1 d2
    obtain ⟨r1, r2⟩ := rows_sum a2
    have hck := (colsCk_iff cols).2 a1
    obtain ⟨N, rfl⟩ := Int.eq_ofNat_of_zero_le (show 0 ≤ rows by omega)
    have hkN := hk (N : Int) (by omega) a4
    have hb2 : b = vp cols.length ++ catC cols ++ (vp N ++ (vp gs.length ++ (gs.flatMap (groupL cols) ++ []))) := by
      rw [← h3]
      unfold footL putC
      dsimp only
      rw [if_pos hck]
      simp
    have hbl := congrArg List.length hb2
    simp only [List.length_append] at hbl
    have eC : footC b = (cols, some (vp N ++ (vp gs.length ++ (gs.flatMap (groupL cols) ++ [])))) := by
      unfold footC
      rw [hb2]
      exact getC_app cols _ hck
    have eN : footN b = (N, some (vp gs.length ++ (gs.flatMap (groupL cols) ++ []))) := by
      unfold footN
      rw [eC]
      exact lenS_app N _ (by omega) (by omega)
    have en : lenS (k (N : Int)) (some (vp gs.length ++ (gs.flatMap (groupL cols) ++ []))) = (gs.length, some (gs.flatMap (groupL cols) ++ [])) := lenS_app _ _ (by omega) (by omega)
    have eG : footG k b = (gs, some []) := by
      unfold footG
      rw [eC, eN]
      dsimp only
      rw [en]
      dsimp only
      exact groupsR_app hk (by omega) gs [] (fun g hg => ⟨a2 g hg, by have := r2 g hg; omega, d2 g hg⟩) (by omega)
    unfold footO
    rw [eC, eN, eG]
    rw [if_pos ⟨rfl, a1, a2, a3, a4, a5⟩]

end Go.Proofs.Ytflaaahcoglflaa
/- Arguments opened, by the types of this program. -/
set_option maxRecDepth 100000

namespace Go.Proofs.Ytflaaahcoglflaa
open Go.RowKit Go.Hm Go.WideShapes Go.ChangeShapes
def SmallPost (w : World) (e : Ending) (w' : World) : Prop := e = .returned (.bool true) ∧ Below w.heap.size w w'

section
variable {H : Type} {enc : TypeId × Value → H} {W : World} {base : Nat} {v : Value} {d : DataW H} {ps : List MemPlace}
theorem open_B (hval : Value.okWide Try.prog W .any base 28 v) (h : DataW.Trod enc Try.prog W 0 (fun _ => true) true 28 v d ps) (hlt : ∀ p ∈ ps, p.block < W.heap.size) (hw : ∀ n ∈ d.weights Try.prog 28, n ≤ reachBytes) :
    ∃ A c, ∃ l : List Nat, v = .slice A l.length c ∧ l.length ≤ c ∧ c ≤ 140737488351232 ∧ Reads W W.heap.size 1 A l.length (nums .u8 l) ∧ ∀ x ∈ l, x < 256 := by
  obtain ⟨A, c, l, h1, h2, _, h4, h5, h6⟩ := open_nums (k := .u8) (sz := 1) elB.ht (by kernel_rfl) (by kernel_rfl) rfl (by kernel_rfl) hval h hlt hw
  exact ⟨A, c, l, h1, h2, by unfold reachBytes at h4; omega, h5, fun x hx => by have := h6 x hx; simp [IntKind.max, IntKind.signed, IntKind.bits] at this; omega⟩
theorem open_W (hval : Value.okWide Try.prog W .any base 93 v) (h : DataW.Trod enc Try.prog W 0 (fun _ => true) true 93 v d ps) (hlt : ∀ p ∈ ps, p.block < W.heap.size) (hw : ∀ n ∈ d.weights Try.prog 93, n ≤ reachBytes) :
    ∃ A c, ∃ l : List Nat, v = .slice A l.length c ∧ l.length ≤ c ∧ c * 8 ≤ 140737488351232 ∧ Reads W W.heap.size 1 A l.length (nums .u64 l) ∧ ∀ x ∈ l, x ≤ 18446744073709551615 := by
  obtain ⟨A, c, l, h1, h2, _, h4, h5, h6⟩ := open_nums (k := .u64) (sz := 8) elW.ht (by kernel_rfl) (by kernel_rfl) rfl (by kernel_rfl) hval h hlt hw
  exact ⟨A, c, l, h1, h2, by unfold reachBytes at h4; omega, h5, fun x hx => by have := h6 x hx; simp [IntKind.max, IntKind.signed, IntKind.bits] at this; omega⟩
theorem open_I (hval : Value.okWide Try.prog W .any base 122 v) (h : DataW.Trod enc Try.prog W 0 (fun _ => true) true 122 v d ps) (hlt : ∀ p ∈ ps, p.block < W.heap.size) (hw : ∀ n ∈ d.weights Try.prog 122, n ≤ reachBytes) :
    ∃ A c, ∃ l : List Int, v = .slice A l.length c ∧ l.length ≤ c ∧ c * 8 ≤ 140737488351232 ∧ Reads W W.heap.size 1 A l.length (ints .i64 l) ∧ ∀ x ∈ l, -9223372036854775808 ≤ x ∧ x ≤ 9223372036854775807 := by
  obtain ⟨A, c, l, h1, h2, _, h4, h5, h6⟩ := open_ints_ (k := .i64) (sz := 8) elI.ht (by kernel_rfl) (by kernel_rfl) (by kernel_rfl) hval h hlt hw
  exact ⟨A, c, l, h1, h2, by unfold reachBytes at h4; omega, h5, fun x hx => by have := h6 x hx; simp [IntKind.min, IntKind.max, IntKind.signed, IntKind.bits] at this; omega⟩
theorem open_u64 (hval : Value.okWide Try.prog W .any base 60 v) (h : DataW.Trod enc Try.prog W 0 (fun _ => true) true 60 v d ps) : ∃ x : Nat, v = .int .u64 (x : Int) ∧ x ≤ 18446744073709551615 := by
  obtain ⟨y, rfl, _, _, wy⟩ := open_int (k := .u64) (by kernel_rfl) hval h
  simp [Lit.wf, IntKind.min, IntKind.max, IntKind.signed, IntKind.bits] at wy
  obtain ⟨y, rfl⟩ := Int.eq_ofNat_of_zero_le wy.1
  exact ⟨y, rfl, by omega⟩
theorem open_u32 (hval : Value.okWide Try.prog W .any base 136 v) (h : DataW.Trod enc Try.prog W 0 (fun _ => true) true 136 v d ps) : ∃ x : Nat, v = .int .u32 (x : Int) ∧ x ≤ 4294967295 := by
  obtain ⟨y, rfl, _, _, wy⟩ := open_int (k := .u32) (by kernel_rfl) hval h
  simp [Lit.wf, IntKind.min, IntKind.max, IntKind.signed, IntKind.bits] at wy
  obtain ⟨y, rfl⟩ := Int.eq_ofNat_of_zero_le wy.1
  exact ⟨y, rfl, by omega⟩
theorem open_u8 (hval : Value.okWide Try.prog W .any base 5 v) (h : DataW.Trod enc Try.prog W 0 (fun _ => true) true 5 v d ps) : ∃ x : Nat, v = .int .u8 (x : Int) ∧ x ≤ 255 := by
  obtain ⟨y, rfl, _, _, wy⟩ := open_int (k := .u8) (by kernel_rfl) hval h
  simp [Lit.wf, IntKind.min, IntKind.max, IntKind.signed, IntKind.bits] at wy
  obtain ⟨y, rfl⟩ := Int.eq_ofNat_of_zero_le wy.1
  exact ⟨y, rfl, by omega⟩
theorem open_i64 (hval : Value.okWide Try.prog W .any base 3 v) (h : DataW.Trod enc Try.prog W 0 (fun _ => true) true 3 v d ps) : ∃ x : Int, v = .int .i64 x ∧ -9223372036854775808 ≤ x ∧ x ≤ 9223372036854775807 := by
  obtain ⟨y, rfl, _, _, wy⟩ := open_int (k := .i64) (by kernel_rfl) hval h
  simp [Lit.wf, IntKind.min, IntKind.max, IntKind.signed, IntKind.bits] at wy
  exact ⟨y, rfl, wy.1, by omega⟩
end

end Go.Proofs.Ytflaaahcoglflaa
/- Structs that came in, part by part. No program is named here. -/

namespace Go.Hm
open Go Go.RowKit Go.WideShapes Go.ChangeShapes Go.Deep

section
variable {H : Type} {enc : TypeId × Value → H} {P : Program} {W : World} {t e : TypeId} {cs : List Value} {n : Nat}
def fieldsOf (P : Program) (t : TypeId) : Array Field := match P.underlying t with | some (.struct fs) => fs | _ => #[]
theorem Held.part (h : Held enc P W t cs) (hs : P.underlying t = some (.struct (fieldsOf P t))) (i off n : Nat) {ft : TypeId} (hf : ((fieldsOf P t)[i]?.map fun f => (f.type, f.offset)) = some (ft, off)) (hn : P.cellsOf ft = n) : Held enc P W ft ((cs.drop off).take n) := by
  obtain ⟨_, hall⟩ := h.field hs
  cases hfi : (fieldsOf P t)[i]? with
  | none => rw [hfi] at hf; cases hf
  | some f =>
    rw [hfi] at hf
    simp only [Option.map_some, Option.some.injEq, Prod.mk.injEq] at hf
    obtain ⟨h1, h2⟩ := hf
    have := hall i f hfi
    rw [h1, h2, hn] at this
    exact this
theorem Held.partLen (h : Held enc P W t cs) (hs : P.underlying t = some (.struct (fieldsOf P t))) (hn : P.cellsOf t = n) : cs.length = n := (h.field hs).1.trans hn
theorem ints_recs (l : List Int) : recs (fun n : Int => [.int .i64 n]) l = ints .i64 l := by
  induction l with
  | nil => rfl
  | cons x l ih => rw [recs_cons, ih]; rfl
/-- A slice of numbers within what came in. -/
theorem Held.ints_ {te : TypeId} (ht : P.underlying t = some (.slice te)) (hC : P.cellsOf te = 1) (hby : P.bytesOf te = 8) (hi : P.underlying te = some (.int .i64)) (h : Held enc P W t cs) :
    ∃ A c, ∃ l : List Int, cs = [.slice A l.length c] ∧ l.length ≤ c ∧ c * 8 ≤ 140737488351232 ∧ Reads W W.heap.size 1 A l.length (ints .i64 l) ∧ ∀ x ∈ l, -9223372036854775808 ≤ x ∧ x ≤ 9223372036854775807 := by
  obtain ⟨A, c, l, h1, h2, _, h4, h5, h6⟩ := h.recs (f := fun n : Int => [.int .i64 n]) (sz := 1) (by_ := 8) (Q := fun x => -9223372036854775808 ≤ x ∧ x ≤ 9223372036854775807) 0 ht hC hby (fun _ => rfl) (by omega) (fun cs hh => by
    obtain ⟨n, e1, e2, e3⟩ := hh.i64 hi
    exact ⟨n, e1, e2, e3⟩)
  exact ⟨A, c, l, h1, h2, by unfold reachBytes at h4; omega, by rw [← ints_recs]; exact h5, h6⟩
/-- Only the header of a slice within what came in. -/
theorem Held.head {te : TypeId} (ht : P.underlying t = some (.slice te)) (h : Held enc P W t cs) : ∃ A n c, cs = [.slice A n c] ∧ n ≤ c ∧ c ≤ maxLen := by
  rcases h.slice ht with rfl | ⟨a, len, cap, rfl, hl, hm, _⟩
  · exact ⟨none, 0, 0, rfl, by omega, by simp [maxLen]⟩
  · exact ⟨some a, len, cap, rfl, hl, hm⟩
theorem list3 {α : Type} {l : List α} (h : l.length = 3) : ∃ a b c, l = [a, b, c] := by
  match l, h with
  | [a, b, c], _ => exact ⟨a, b, c, rfl⟩
end

end Go.Hm
/- Cells opened. -/
set_option maxRecDepth 100000

namespace Go.Hm
open Go Go.RowKit
/-- A column's cells as they lie: where, how many may, and what. -/
abbrev ColD := Option Addr × Nat × List CellS
def dataV (d : ColD) : List Value := [.slice d.1 d.2.2.length d.2.1]
theorem list5 {α : Type} {l : List α} (h : l.length = 5) : ∃ a b c d e, l = [a, b, c, d, e] := by
  match l, h with
  | [a, b, c, d, e], _ => exact ⟨a, b, c, d, e, rfl⟩
theorem list2 {α : Type} {l : List α} (h : l.length = 2) : ∃ a b, l = [a, b] := by
  match l, h with
  | [a, b], _ => exact ⟨a, b, rfl⟩
/-- A cell that may come in. -/
def CellFine (c : CellS) : Prop := (c.2.2.1.length ≤ 140737488351232 ∧ ∀ z ∈ c.2.2.1, z < 256) ∧ (-9223372036854775808 ≤ c.2.1 ∧ c.2.1 ≤ 9223372036854775807) ∧ (-9223372036854775808 ≤ c.2.2.2.1 ∧ c.2.2.2.1 ≤ 9223372036854775807) ∧ (-9223372036854775808 ≤ c.2.2.2.2 ∧ c.2.2.2.2 ≤ 9223372036854775807)

end Go.Hm

namespace Go.Proofs.Ytflaaahcoglflaa
open Go.RowKit Go.Hm Go.WideShapes Go.ChangeShapes

section
variable {H : Type} {enc : TypeId × Value → H} {W : World} {base : Nat} {v : Value} {d : DataW H} {ps : List MemPlace}
theorem held_cell {cs : List Value} (h : Held enc Try.prog W 49 cs) : ∃ c : CellS, cs = cellV c ∧ CellFine c := by
  have ht : Try.prog.underlying 49 = some (.struct (fieldsOf Try.prog 49)) := by kernel_rfl
  have ht2 : Try.prog.underlying 47 = some (.struct (fieldsOf Try.prog 47)) := by kernel_rfl
  obtain ⟨x0, x1, x2, x3, x4, rfl⟩ := list5 (h.partLen ht (n := 5) (by kernel_rfl))
  have p0 := h.part ht 0 0 1 (ft := 4) (by kernel_rfl) (by kernel_rfl)
  have p1 := h.part ht 1 1 1 (ft := 3) (by kernel_rfl) (by kernel_rfl)
  have p2 := h.part ht 2 2 1 (ft := 9) (by kernel_rfl) (by kernel_rfl)
  have p3 := h.part ht 3 3 2 (ft := 47) (by kernel_rfl) (by kernel_rfl)
  have q0 := p3.part ht2 0 0 1 (ft := 3) (by kernel_rfl) (by kernel_rfl)
  have q1 := p3.part ht2 1 1 1 (ft := 3) (by kernel_rfl) (by kernel_rfl)
  obtain ⟨b, e0⟩ := p0.bool (by kernel_rfl)
  obtain ⟨n, e1, n1, n2⟩ := p1.i64 (by kernel_rfl)
  obtain ⟨s, e2, s1, s2⟩ := p2.string (by kernel_rfl)
  obtain ⟨x, e3, g1, g2⟩ := q0.i64 (by kernel_rfl)
  obtain ⟨y, e4, g3, g4⟩ := q1.i64 (by kernel_rfl)
  simp only [List.drop_succ_cons, List.drop_zero, List.take_succ_cons, List.take_zero, List.cons.injEq, and_true] at e0 e1 e2 e3 e4
  subst e0 e1 e2 e3 e4
  exact ⟨(b, n, s, x, y), rfl, ⟨s2, s1⟩, ⟨n1, n2⟩, ⟨g1, g2⟩, g3, g4⟩
theorem open_C (hval : Value.okWide Try.prog W .any base 49 v) (h : DataW.Trod enc Try.prog W 0 (fun _ => true) true 49 v d ps) (hlt : ∀ p ∈ ps, p.block < W.heap.size) (hw : ∀ n ∈ d.weights Try.prog 49, n ≤ reachBytes) :
    ∃ c : CellS, v = .agg (cellV c).toArray ∧ CellFine c := by
  have ht : Try.prog.underlying 49 = some (.struct (fieldsOf Try.prog 49)) := by kernel_rfl
  obtain ⟨⟨cs⟩, rfl, hsz⟩ := okWide_struct ht hval
  have hh := Held.of h hlt hw
  simp only [Value.cells] at hh
  obtain ⟨c, rfl, hc⟩ := held_cell hh
  exact ⟨c, rfl, hc⟩
theorem held_cells {cs : List Value} (h : Held enc Try.prog W 79 cs) : ∃ x : ColD, cs = dataV x ∧ (Reads W W.heap.size 5 x.1 x.2.2.length (recs cellV x.2.2) ∧ (∀ y ∈ x.2.2, CellFine y) ∧ x.2.2.length ≤ x.2.1 ∧ x.2.1 ≤ 9223372036854775807 ∧ (x.1 = none → x.2.1 = 0)) := by
  have ht : Try.prog.underlying 79 = some (.slice 49) := by kernel_rfl
  obtain ⟨A, c, l, h1, h2, _, h4, h5, h6⟩ := h.recs (f := cellV) (sz := 5) (by_ := 48) (Q := CellFine) (false, 0, [], 0, 0) ht (by kernel_rfl) (by kernel_rfl) (fun _ => rfl) (by omega) (fun cs hh => held_cell hh)
  subst h1
  refine ⟨(A, c, l), rfl, h5, h6, h2, (show c ≤ 9223372036854775807 by unfold reachBytes at h4; omega), ?_⟩
  rcases h.slice ht with e | ⟨a, len, cap, e, _⟩
  · simp only [List.cons.injEq, Value.slice.injEq, and_true] at e
    exact fun _ => e.2.2
  · simp only [List.cons.injEq, Value.slice.injEq, and_true] at e
    intro hh
    rw [e.1] at hh
    cases hh
theorem open_Cells (hval : Value.okWide Try.prog W .any base 79 v) (h : DataW.Trod enc Try.prog W 0 (fun _ => true) true 79 v d ps) (hlt : ∀ p ∈ ps, p.block < W.heap.size) (hw : ∀ n ∈ d.weights Try.prog 79, n ≤ reachBytes) :
    ∃ (A : Option Addr) (c : Nat) (l : List CellS), v = .slice A l.length c ∧ Reads W W.heap.size 5 A l.length (recs cellV l) ∧ (∀ y ∈ l, CellFine y) ∧ l.length ≤ c ∧ l.length ≤ 2932031007317 := by
  have ht : Try.prog.underlying 79 = some (.slice 49) := by kernel_rfl
  obtain ⟨a0, len, cap, rfl⟩ := okWide_slice ht hval
  obtain ⟨A, c, l, h1, h2, _, h4, h5, h6⟩ := (Held.of h hlt hw).recs (f := cellV) (sz := 5) (by_ := 48) (Q := CellFine) (false, 0, [], 0, 0) ht (by kernel_rfl) (by kernel_rfl) (fun _ => rfl) (by omega) (fun cs hh => held_cell hh)
  simp only [Value.cells, List.cons.injEq, and_true] at h1
  rw [h1]
  exact ⟨A, c, l, rfl, h5, h6, h2, by unfold reachBytes at h4; omega⟩
end

end Go.Proofs.Ytflaaahcoglflaa
/- Footers as they lie in the world; the contract of footer.rightPage. -/

namespace Go.Hm
open Go Go.RowKit
/-- A chunk: where its pages lie, and what they are. -/
abbrev ChD := Option Addr × Nat × List PageS
def chV (x : ChD) : List Value := [.slice x.1 x.2.2.length x.2.1]
/-- A group: how many rows, where its chunks lie, and what they are. -/
abbrev GrD := Int × Option Addr × Nat × List ChD
def grV (g : GrD) : List Value := [.int .i64 g.1, .slice g.2.1 g.2.2.2.length g.2.2.1]
def grP (g : GrD) : GroupS := (g.1, g.2.2.2.map (·.2.2))
theorem cells14 {w : World} {g : Nat} {ty : TypeId} {a0 a1 a2 a3 a4 a5 a6 a7 a8 a9 a10 a11 a12 a13 : Value} (h : Blk w g ty #[a0, a1, a2, a3, a4, a5, a6, a7, a8, a9, a10, a11, a12, a13]) : w.cell? ⟨g, 0, none⟩ = some a0 ∧ w.cell? ⟨g, 1, none⟩ = some a1 ∧ w.cell? ⟨g, 2, none⟩ = some a2 ∧ w.cell? ⟨g, 3, none⟩ = some a3 ∧ w.cell? ⟨g, 4, none⟩ = some a4 ∧ w.cell? ⟨g, 5, none⟩ = some a5 ∧ w.cell? ⟨g, 6, none⟩ = some a6 ∧ w.cell? ⟨g, 7, none⟩ = some a7 ∧ w.cell? ⟨g, 8, none⟩ = some a8 ∧ w.cell? ⟨g, 9, none⟩ = some a9 ∧ w.cell? ⟨g, 10, none⟩ = some a10 ∧ w.cell? ⟨g, 11, none⟩ = some a11 ∧ w.cell? ⟨g, 12, none⟩ = some a12 ∧ w.cell? ⟨g, 13, none⟩ = some a13 := by
  have h0 := h.cell 0
  have h1 := h.cell 1
  have h2 := h.cell 2
  have h3 := h.cell 3
  have h4 := h.cell 4
  have h5 := h.cell 5
  have h6 := h.cell 6
  have h7 := h.cell 7
  have h8 := h.cell 8
  have h9 := h.cell 9
  have h10 := h.cell 10
  have h11 := h.cell 11
  have h12 := h.cell 12
  have h13 := h.cell 13
  simp at h0 h1 h2 h3 h4 h5 h6 h7 h8 h9 h10 h11 h12 h13
  exact ⟨h0, h1, h2, h3, h4, h5, h6, h7, h8, h9, h10, h11, h12, h13⟩
def pageA (p : PageS) : Value := .agg (pageV p).toArray
def colA (c : ColS) : Value := .agg (colV c).toArray

end Go.Hm

namespace Go.Proofs.Ytflaaahcoglflaa
open Go.RowKit Go.Hm
def PageFine (p : PageS) : Prop := ((CellFine p.2.2.2.2.1 ∧ CellFine p.2.2.2.2.2) ∧ -9223372036854775808 ≤ p.2.2.1 ∧ p.2.2.1 ≤ 9223372036854775807) ∧ (-9223372036854775808 ≤ p.1 ∧ p.1 ≤ 9223372036854775807) ∧ -9223372036854775808 ≤ p.2.1 ∧ p.2.1 ≤ 9223372036854775807
theorem PageFine.stat {p : PageS} (h : PageFine p) : statFine p.2.2 := ⟨h.1.1.1.1, h.1.1.2.1⟩
set_option maxHeartbeats 2000000 in
set_option maxRecDepth 100000 in
theorem rightPage_any {w : World} {c : ColS} {p : PageS} {most : Int} (hp : statFine p.2.2) :
    Calls Try.prog 45 #[colA c, pageA p, .int .i64 most] w (NewPost (.bool (pageB c.2.1 c.2.2 p most)) w) := by
  obtain ⟨nm, t, nu⟩ := c
  have SR := fun (W : World) => sright_any (w := W) (t := t) hp
  clear hp
  obtain ⟨M, hM⟩ : ∃ M, M = pageB t nu p most := ⟨_, rfl⟩
  dsimp only
  rw [← hM]
  unfold pageB at hM
  generalize rightS t p.2.2 = R at *
  obtain ⟨sz, rw, nn, bb, ⟨p1, p2, p3, p4, p5⟩, ⟨q1, q2, q3, q4, q5⟩⟩ := p
  dsimp only at hM SR
  have SR : Hid (∀ W, Calls Try.prog 52 #[.int .i64 t, .agg #[.int .i64 nn, .bool bb, .bool p1, .int .i64 p2, .string (bstr p3), .int .i64 p4, .int .i64 p5, .bool q1, .int .i64 q2, .string (bstr q3), .int .i64 q4, .int .i64 q5]] W (NewPost (.bool R) W)) := Lib.hid SR
  show Calls Try.prog 45 #[.agg #[.string (bstr nm), .int .i64 t, .bool nu], .agg #[.int .i64 sz, .int .i64 rw, .int .i64 nn, .bool bb, .bool p1, .int .i64 p2, .string (bstr p3), .int .i64 p4, .int .i64 p5, .bool q1, .int .i64 q2, .string (bstr q3), .int .i64 q4, .int .i64 q5], .int .i64 most] w (NewPost (.bool M) w)
  have B0 := (Blk.new w 55 #[.string (bstr nm), .int .i64 t, .bool nu]).alloc (.cells #[.int .i64 sz, .int .i64 rw, .int .i64 nn, .bool bb, .bool p1, .int .i64 p2, .string (bstr p3), .int .i64 p4, .int .i64 p5, .bool q1, .int .i64 q2, .string (bstr q3), .int .i64 q4, .int .i64 q5] 53)
  have B1 := Blk.new (w.alloc (.cells #[.string (bstr nm), .int .i64 t, .bool nu] 55)) 53 #[.int .i64 sz, .int .i64 rw, .int .i64 nn, .bool bb, .bool p1, .int .i64 p2, .string (bstr p3), .int .i64 p4, .int .i64 p5, .bool q1, .int .i64 q2, .string (bstr q3), .int .i64 q4, .int .i64 q5]
  have b0 := new2 w (.cells #[.string (bstr nm), .int .i64 t, .bool nu] 55) (.cells #[.int .i64 sz, .int .i64 rw, .int .i64 nn, .bool bb, .bool p1, .int .i64 p2, .string (bstr p3), .int .i64 p4, .int .i64 p5, .bool q1, .int .i64 q2, .string (bstr q3), .int .i64 q4, .int .i64 q5] 53)
  simp only [World.size_alloc] at B1
  obtain ⟨x0, x1, x2, x3, x4, x5, x6, x7, x8, x9, x10, x11, x12, x13⟩ := cells14 B1
  obtain ⟨y0, y1, y2⟩ := ccells B0
  by_cases hbad : rw < 1 ∨ most < rw ∨ sz < 1 ∨ 268435456 < sz
  · rw [if_pos hbad] at hM
    have HM := Lib.hid hM
    clear hM SR
    by_cases h1 : rw < 1
    all_goals try by_cases h2 : most < rw
    all_goals try by_cases h3 : sz < 1
    all_goals try (have h4 : 268435456 < sz := by omega)
    all_goals
      clear hbad
      go_enter Try.func45, Try.ntmps45
      go_wp2
      go_ret
      exact ⟨by rw [HM.out]; rfl, b0⟩
  · rw [if_neg hbad] at hM
    have h1 : ¬ rw < 1 := fun h => hbad (by omega)
    have h2 : ¬ most < rw := fun h => hbad (by omega)
    have h3 : ¬ sz < 1 := fun h => hbad (by omega)
    have h4 : ¬ 268435456 < sz := fun h => hbad (by omega)
    have HM := Lib.hid hM
    clear hM hbad
    have hs : New ((w.alloc (.cells #[.string (bstr nm), .int .i64 t, .bool nu] 55)).alloc (.cells #[.int .i64 sz, .int .i64 rw, .int .i64 nn, .bool bb, .bool p1, .int .i64 p2, .string (bstr p3), .int .i64 p4, .int .i64 p5, .bool q1, .int .i64 q2, .string (bstr q3), .int .i64 q4, .int .i64 q5] 53)) (((w.alloc (.cells #[.string (bstr nm), .int .i64 t, .bool nu] 55)).alloc (.cells #[.int .i64 sz, .int .i64 rw, .int .i64 nn, .bool bb, .bool p1, .int .i64 p2, .string (bstr p3), .int .i64 p4, .int .i64 p5, .bool q1, .int .i64 q2, .string (bstr q3), .int .i64 q4, .int .i64 q5] 53)).alloc (.cells #[.int .i64 nn, .bool bb, .bool p1, .int .i64 p2, .string (bstr p3), .int .i64 p4, .int .i64 p5, .bool q1, .int .i64 q2, .string (bstr q3), .int .i64 q4, .int .i64 q5] 51)) := (Below.refl _ _).alloc (Nat.le_refl _) _
    have B2 := Blk.new ((w.alloc (.cells #[.string (bstr nm), .int .i64 t, .bool nu] 55)).alloc (.cells #[.int .i64 sz, .int .i64 rw, .int .i64 nn, .bool bb, .bool p1, .int .i64 p2, .string (bstr p3), .int .i64 p4, .int .i64 p5, .bool q1, .int .i64 q2, .string (bstr q3), .int .i64 q4, .int .i64 q5] 53)) 51 #[.int .i64 nn, .bool bb, .bool p1, .int .i64 p2, .string (bstr p3), .int .i64 p4, .int .i64 p5, .bool q1, .int .i64 q2, .string (bstr q3), .int .i64 q4, .int .i64 q5]
    simp only [World.size_alloc] at B2
    obtain ⟨z0, z1, z2, z3, z4, z5, z6, z7, z8, z9, z10, z11⟩ := cells12 B2
    have B0 := B0.below hs B0.lt
    have B1 := B1.below hs B1.lt
    have b2 := New.trans b0 hs
    obtain ⟨v0, v1, v2⟩ := ccells B0
    have HB0 := Lib.hid B0
    have HB1 := Lib.hid B1
    have HB2 := Lib.hid B2
    have Hb2 := Lib.hid b2
    clear hs b0 B0 B1 B2 b2
    go_enter Try.func45, Try.ntmps45
    go_wp2_with fail
    refine (SR.out _).mono ?_
    rintro e w1 ⟨rfl, b1⟩
    have B0 := HB0.out.below b1 HB0.out.lt
    have B1 := HB1.out.below b1 HB1.out.lt
    have B2 := HB2.out.below b1 HB2.out.lt
    have b01 := New.trans Hb2.out b1
    clear x0 x1 x2 x3 x4 x5 x6 x7 x8 x9 x10 x11 x12 x13 y0 y1 y2 v0 v1 v2 z0 z1 z2 z3 z4 z5 z6 z7 z8 z9 z10 z11 HB0 HB1 HB2 Hb2 b1 SR
    obtain ⟨x0, x1, x2, x3, x4, x5, x6, x7, x8, x9, x10, x11, x12, x13⟩ := cells14 B1
    obtain ⟨z0, z1, z2, z3, z4, z5, z6, z7, z8, z9, z10, z11⟩ := cells12 B2
    obtain ⟨y0, y1, y2⟩ := ccells B0
    cases R with
    | false =>
      go_wp2
      go_ret
      exact ⟨by rw [HM.out]; rfl, b01⟩
    | true =>
      generalize k1 : decide (nn ≤ rw) = d1 at *
      generalize k2 : decide (nn < rw) = d2 at *
      generalize k3 : decide (nn = 0) = d3 at *
      have k4 : (nn == 0) = d3 := by rw [← k3]; rfl
      cases d1 <;> cases d2 <;> cases d3 <;> cases bb <;> cases nu
      all_goals
        go_wp2
        go_ret
        exact ⟨by rw [HM.out]; rfl, b01⟩

end Go.Proofs.Ytflaaahcoglflaa
/- Pages read out of a row; the contract of footer.chunkSize. -/

namespace Go.Hm
open Go Go.RowKit
abbrev pageZ : PageS := (0, 0, 0, false, (false, 0, [], 0, 0), (false, 0, [], 0, 0))
/-- A page of many, as the walk reads it. -/
theorem Reads.page14 {w : World} {B n i : Nat} {A : Option Addr} {l : List PageS} (h : Reads w B 14 A n (recs pageV l)) (hi : i < n) :
    ∃ ad, A = some ad ∧ ad.block < B ∧ w.cell? (ad.add (i * 14)) = some (.int .i64 (l.getD i pageZ).1) ∧ w.cell? ⟨(ad.add (i * 14)).block, (ad.add (i * 14)).off + 1, none⟩ = some (.int .i64 (l.getD i pageZ).2.1) ∧ w.cell? ⟨(ad.add (i * 14)).block, (ad.add (i * 14)).off + 2, none⟩ = some (.int .i64 (l.getD i pageZ).2.2.1) ∧ w.cell? ⟨(ad.add (i * 14)).block, (ad.add (i * 14)).off + 3, none⟩ = some (.bool (l.getD i pageZ).2.2.2.1) ∧ w.cell? ⟨(ad.add (i * 14)).block, (ad.add (i * 14)).off + 4, none⟩ = some (.bool (l.getD i pageZ).2.2.2.2.1.1) ∧ w.cell? ⟨(ad.add (i * 14)).block, (ad.add (i * 14)).off + 5, none⟩ = some (.int .i64 (l.getD i pageZ).2.2.2.2.1.2.1) ∧ w.cell? ⟨(ad.add (i * 14)).block, (ad.add (i * 14)).off + 6, none⟩ = some (.string (bstr (l.getD i pageZ).2.2.2.2.1.2.2.1)) ∧ w.cell? ⟨(ad.add (i * 14)).block, (ad.add (i * 14)).off + 7, none⟩ = some (.int .i64 (l.getD i pageZ).2.2.2.2.1.2.2.2.1) ∧ w.cell? ⟨(ad.add (i * 14)).block, (ad.add (i * 14)).off + 8, none⟩ = some (.int .i64 (l.getD i pageZ).2.2.2.2.1.2.2.2.2) ∧ w.cell? ⟨(ad.add (i * 14)).block, (ad.add (i * 14)).off + 9, none⟩ = some (.bool (l.getD i pageZ).2.2.2.2.2.1) ∧ w.cell? ⟨(ad.add (i * 14)).block, (ad.add (i * 14)).off + 10, none⟩ = some (.int .i64 (l.getD i pageZ).2.2.2.2.2.2.1) ∧ w.cell? ⟨(ad.add (i * 14)).block, (ad.add (i * 14)).off + 11, none⟩ = some (.string (bstr (l.getD i pageZ).2.2.2.2.2.2.2.1)) ∧ w.cell? ⟨(ad.add (i * 14)).block, (ad.add (i * 14)).off + 12, none⟩ = some (.int .i64 (l.getD i pageZ).2.2.2.2.2.2.2.2.1) ∧ w.cell? ⟨(ad.add (i * 14)).block, (ad.add (i * 14)).off + 13, none⟩ = some (.int .i64 (l.getD i pageZ).2.2.2.2.2.2.2.2.2) := by
  obtain ⟨ad, h1, h2, _, h3⟩ := h.rec_ (f := pageV) (sz := 14) (fun _ => rfl) pageZ hi (by omega)
  refine ⟨ad, h1, h2, h3 0 _ rfl, ?_, ?_, ?_, ?_, ?_, ?_, ?_, ?_, ?_, ?_, ?_, ?_, ?_⟩
  · have := h3 1 _ rfl
    rw [← add_of_add] at this
    exact this
  · have := h3 2 _ rfl
    rw [← add_of_add] at this
    exact this
  · have := h3 3 _ rfl
    rw [← add_of_add] at this
    exact this
  · have := h3 4 _ rfl
    rw [← add_of_add] at this
    exact this
  · have := h3 5 _ rfl
    rw [← add_of_add] at this
    exact this
  · have := h3 6 _ rfl
    rw [← add_of_add] at this
    exact this
  · have := h3 7 _ rfl
    rw [← add_of_add] at this
    exact this
  · have := h3 8 _ rfl
    rw [← add_of_add] at this
    exact this
  · have := h3 9 _ rfl
    rw [← add_of_add] at this
    exact this
  · have := h3 10 _ rfl
    rw [← add_of_add] at this
    exact this
  · have := h3 11 _ rfl
    rw [← add_of_add] at this
    exact this
  · have := h3 12 _ rfl
    rw [← add_of_add] at this
    exact this
  · have := h3 13 _ rfl
    rw [← add_of_add] at this
    exact this
theorem Reads.lenPage {w : World} {B n : Nat} {A : Option Addr} {l : List PageS} (h : Reads w B 14 A n (recs pageV l)) : n = l.length := h.lenR (f := pageV) (sz := 14) (fun _ => rfl) (by omega)
theorem drop_getD {α : Type} (l : List α) (k : Nat) (d : α) (h : k < l.length) : l.drop k = l.getD k d :: l.drop (k + 1) := by
  rw [List.drop_eq_getElem_cons h, List.getD_eq_getElem?_getD, List.getElem?_eq_getElem h]
  rfl
theorem mem_getDF {α : Type} {l : List α} {k : Nat} (d : α) (h : k < l.length) : l.getD k d ∈ l := by
  rw [List.getD_eq_getElem?_getD, List.getElem?_eq_getElem h]
  exact List.getElem_mem h

end Go.Hm

namespace Go.Proofs.Ytflaaahcoglflaa
open Go.RowKit Go.Hm
def SizePost (r : Int × Bool) (w : World) (e : Ending) (w' : World) : Prop := e = .returned (.tuple #[.int .i64 r.1, .bool r.2]) ∧ New w w'
set_option maxHeartbeats 2000000 in
set_option maxRecDepth 100000 in
theorem chunkSize_any {w : World} {c : ColS} {A : Option Addr} {n cap : Nat} {l : List PageS} {rows : Int} (h : Reads w w.heap.size 14 A n (recs pageV l)) (hl : ∀ p ∈ l, statFine p.2.2) (hn : n ≤ 4611686018427387903) (hr : 0 ≤ rows ∧ rows ≤ 65536) :
    Calls Try.prog 27 #[colA c, .slice A n cap, .int .i64 rows] w (SizePost (chunkS c.2.1 c.2.2 l rows 0) w) := by
  obtain rfl := h.lenPage
  obtain ⟨nm, t, nu⟩ := c
  have HR := Lib.hid h
  have HL := Lib.hid hl
  have HC := Lib.hid (show chunkS t nu l rows 0 = chunkS t nu (l.drop 0) rows 0 from rfl)
  clear h hl
  show Calls Try.prog 27 #[.agg #[.string (bstr nm), .int .i64 t, .bool nu], .slice A l.length cap, .int .i64 rows] w (SizePost (chunkS t nu l rows 0) w)
  generalize hX : chunkS t nu l rows 0 = X at *
  clear hX
  have B0 := Blk.new w 55 #[.string (bstr nm), .int .i64 t, .bool nu]
  have b0 : New w (w.alloc (.cells #[.string (bstr nm), .int .i64 t, .bool nu] 55)) := (Below.refl _ _).alloc (Nat.le_refl _) _
  go_enter Try.func27, Try.ntmps27
  go_wp2_with fail
  go_loopw [2, 8, 13] (fun r s i wr => ∃ (k : Nat) (rr ss : Int), k ≤ l.length ∧ i = .int .i64 (k : Int) ∧ r = .int .i64 rr ∧ s = .int .i64 ss ∧ Hid (X = chunkS t nu (l.drop k) rr ss) ∧ (0 ≤ rr ∧ rr + k ≤ rows) ∧ (0 ≤ ss ∧ ss ≤ k * 268435456)
    ∧ Blk wr w.heap.size 55 #[.string (bstr nm), .int .i64 t, .bool nu] ∧ New w wr) (fun _ _ i _ => l.length - (intOf i).toNat)
  case atStart => exact ⟨0, rows, 0, Nat.zero_le _, rfl, rfl, rfl, HC, by omega, by omega, B0, b0⟩
  case round =>
    obtain ⟨k, rr, ss, hk, rfl, rfl, rfl, H, hrr, hss, B, b⟩ := hrel
    clear HC B0 b0
    by_cases hlt : k < l.length
    · obtain ⟨ad, rfl, hb, d0, d1, d2, d3, d4, d5, d6, d7, d8, d9, d10, d11, d12, d13⟩ := (Reads.later HR.out b).page14 hlt
      have hd := drop_getD l k pageZ hlt
      have RP := fun (W : World) => rightPage_any (w := W) (c := (nm, t, nu)) (p := l.getD k pageZ) (most := rr) (HL.out _ (mem_getDF pageZ hlt))
      have hst : chunkS t nu (l.drop k) rr ss = if pageB t nu (l.getD k pageZ) rr then chunkS t nu (l.drop (k + 1)) (rr - (l.getD k pageZ).2.1) (ss + (l.getD k pageZ).1) else (0, false) := by rw [hd]; rfl
      rw [← H.out] at hst
      have hok := fun (e : pageB t nu (l.getD k pageZ) rr = true) => (pageB_most.1 e).1
      clear hd H hb
      dsimp only at RP
      generalize pageB t nu (l.getD k pageZ) rr = R at *
      generalize l.getD k pageZ = p at *
      obtain ⟨sz, rw, nn, bb, ⟨p1, p2, p3, p4, p5⟩, ⟨q1, q2, q3, q4, q5⟩⟩ := p
      dsimp only at hst hok d0 d1 d2 d3 d4 d5 d6 d7 d8 d9 d10 d11 d12 d13
      have RP : Hid (∀ W, Calls Try.prog 45 #[.agg #[.string (bstr nm), .int .i64 t, .bool nu], .agg #[.int .i64 sz, .int .i64 rw, .int .i64 nn, .bool bb, .bool p1, .int .i64 p2, .string (bstr p3), .int .i64 p4, .int .i64 p5, .bool q1, .int .i64 q2, .string (bstr q3), .int .i64 q4, .int .i64 q5], .int .i64 rr] W (NewPost (.bool R) W)) := Lib.hid RP
      have ha : New wr (wr.alloc (.cells #[.int .i64 sz, .int .i64 rw, .int .i64 nn, .bool bb, .bool p1, .int .i64 p2, .string (bstr p3), .int .i64 p4, .int .i64 p5, .bool q1, .int .i64 q2, .string (bstr q3), .int .i64 q4, .int .i64 q5] 53)) := (Below.refl _ _).alloc (Nat.le_refl _) _
      have BP := Blk.new wr 53 #[.int .i64 sz, .int .i64 rw, .int .i64 nn, .bool bb, .bool p1, .int .i64 p2, .string (bstr p3), .int .i64 p4, .int .i64 p5, .bool q1, .int .i64 q2, .string (bstr q3), .int .i64 q4, .int .i64 q5]
      have B1 := B.below ha B.lt
      have b1 := New.trans b ha
      obtain ⟨y0, y1, y2⟩ := ccells B1
      obtain ⟨e0, e1, e2, e3, e4, e5, e6, e7, e8, e9, e10, e11, e12, e13⟩ := cells14 BP
      have HST := Lib.hid hst
      clear hst B ha
      go_wp2_with fail
      refine (RP.out _).mono ?_
      rintro e w2 ⟨rfl, b2⟩
      have B2 := B1.below b2 B1.lt
      have BP2 := BP.below b2 BP.lt
      have b02 := New.trans b1 b2
      clear RP B1 BP b2 b1 y0 y1 y2 d0 d1 d2 d3 d4 d5 d6 d7 d8 d9 d10 d11 d12 d13 e0 e1 e2 e3 e4 e5 e6 e7 e8 e9 e10 e11 e12 e13
      obtain ⟨e0, e1, e2, e3, e4, e5, e6, e7, e8, e9, e10, e11, e12, e13⟩ := cells14 BP2
      cases R with
      | false =>
        go_wp2_with fail
        go_ret2
        have hX := HST.out
        rw [if_neg (by simp)] at hX
        rw [hX]
        exact ⟨rfl, b02⟩
      | true =>
        have hX := HST.out
        rw [if_pos rfl] at hX
        have HX := Lib.hid hX
        have hok := hok rfl
        clear hX HST
        go_wp2_with fail
        go_roundw
        case rel => exact ⟨k + 1, rr - rw, ss + sz, by omega, by go_num, rfl, rfl, HX, by omega, by omega, B2, b02⟩
        case measure => simp [intOf]; omega
    · obtain rfl : k = l.length := by omega
      have hX := H.out
      rw [List.drop_length] at hX
      have HX := Lib.hid hX
      clear hX H
      go_wp2_with fail
      go_ret2
      rw [HX.out]
      exact ⟨rfl, b⟩

end Go.Proofs.Ytflaaahcoglflaa
/- Opens a stat that came in. -/

namespace Go.Proofs.Ytflaaahcoglflaa
open Go.RowKit Go.Hm Go.WideShapes Go.ChangeShapes Go.Deep
theorem CellFine.data {c : CellS} (h : CellFine c) : cellData c := ⟨h.1, h.2.1⟩

section
variable {H : Type} {enc : TypeId × Value → H} {W : World} {base : Nat} {v : Value} {d : DataW H} {ps : List MemPlace}
set_option maxRecDepth 100000 in
theorem held_stat {cs : List Value} (h : Held enc Try.prog W 51 cs) : ∃ s : StatS, cs = statV s ∧ (CellFine s.2.2.1 ∧ CellFine s.2.2.2) ∧ -9223372036854775808 ≤ s.1 ∧ s.1 ≤ 9223372036854775807 := by
  have ht : Try.prog.underlying 51 = some (.struct (fieldsOf Try.prog 51)) := by kernel_rfl
  have hl := h.partLen ht (n := 12) (by kernel_rfl)
  have p0 := h.part ht 0 0 1 (ft := 3) (by kernel_rfl) (by kernel_rfl)
  have p1 := h.part ht 1 1 1 (ft := 4) (by kernel_rfl) (by kernel_rfl)
  have p2 := h.part ht 2 2 5 (ft := 49) (by kernel_rfl) (by kernel_rfl)
  have p3 := h.part ht 3 7 5 (ft := 49) (by kernel_rfl) (by kernel_rfl)
  obtain ⟨n, e0, n1, n2⟩ := p0.i64 (by kernel_rfl)
  obtain ⟨b, e1⟩ := p1.bool (by kernel_rfl)
  obtain ⟨p, e2, hp⟩ := held_cell p2
  obtain ⟨q, e3, hq⟩ := held_cell p3
  clear p0 p1 p2 p3 h
  match cs, hl with
  | [a0, a1, a2, a3, a4, a5, a6, a7, a8, a9, a10, a11], _ =>
    refine ⟨(n, b, p, q), ?_, ⟨hp, hq⟩, n1, n2⟩
    simp only [List.drop_succ_cons, List.drop_zero, List.take_succ_cons, List.take_zero, List.cons.injEq, and_true] at e0 e1 e2 e3
    show _ = [Value.int .i64 n, .bool b] ++ cellV p ++ cellV q
    rw [← e2, ← e3, e0, e1]
    rfl
set_option maxRecDepth 100000 in
theorem open_St (hval : Value.okWide Try.prog W .any base 51 v) (h : DataW.Trod enc Try.prog W 0 (fun _ => true) true 51 v d ps) (hlt : ∀ p ∈ ps, p.block < W.heap.size) (hw : ∀ n ∈ d.weights Try.prog 51, n ≤ reachBytes) :
    ∃ s : StatS, v = statA s ∧ (CellFine s.2.2.1 ∧ CellFine s.2.2.2) ∧ -9223372036854775808 ≤ s.1 ∧ s.1 ≤ 9223372036854775807 := by
  have ht : Try.prog.underlying 51 = some (.struct (fieldsOf Try.prog 51)) := by kernel_rfl
  obtain ⟨⟨cs⟩, rfl, hsz⟩ := okWide_struct ht hval
  have hh := Held.of h hlt hw
  simp only [Value.cells] at hh
  obtain ⟨s, rfl, hs⟩ := held_stat hh
  exact ⟨s, rfl, hs⟩
end

end Go.Proofs.Ytflaaahcoglflaa
/- Columns opened. -/
set_option maxRecDepth 100000

namespace Go.Proofs.Ytflaaahcoglflaa
open Go.RowKit Go.Hm Go.WideShapes Go.ChangeShapes

section
variable {H : Type} {enc : TypeId × Value → H} {W : World} {base : Nat} {v : Value} {d : DataW H} {ps : List MemPlace}
theorem open_Cols (hval : Value.okWide Try.prog W .any base 22 v) (h : DataW.Trod enc Try.prog W 0 (fun _ => true) true 22 v d ps) (hlt : ∀ p ∈ ps, p.block < W.heap.size) (hw : ∀ n ∈ d.weights Try.prog 22, n ≤ reachBytes) :
    ∃ A c, ∃ l : List ColS, v = .slice A l.length c ∧ l.length ≤ c ∧ c * 32 ≤ 140737488351232 ∧ Reads W W.heap.size 3 A l.length (recs colV l) ∧ ∀ x ∈ l, (∀ z ∈ x.1, z < 256) ∧ x.1.length ≤ 140737488351232 ∧ -9223372036854775808 ≤ x.2.1 ∧ x.2.1 ≤ 9223372036854775807 := by
  have ht : Try.prog.underlying 22 = some (.slice 55) := by kernel_rfl
  obtain ⟨a0, len, cap, rfl⟩ := okWide_slice ht hval
  have he : Try.prog.underlying 55 = some (.struct (fieldsOf Try.prog 55)) := by kernel_rfl
  obtain ⟨A, c, l, h1, h2, _, h4, h5, h6⟩ := (Held.of h hlt hw).recs (f := colV) (sz := 3) (by_ := 32) (Q := fun x => (∀ z ∈ x.1, z < 256) ∧ x.1.length ≤ 140737488351232 ∧ -9223372036854775808 ≤ x.2.1 ∧ x.2.1 ≤ 9223372036854775807) ([], 0, false) ht (by kernel_rfl) (by kernel_rfl) (fun _ => rfl) (by omega) (fun cs hh => by
    obtain ⟨x0, x1, x2, rfl⟩ := list3 (hh.partLen he (n := 3) (by kernel_rfl))
    have p0 := hh.part he 0 0 1 (ft := 9) (by kernel_rfl) (by kernel_rfl)
    have p1 := hh.part he 1 1 1 (ft := 3) (by kernel_rfl) (by kernel_rfl)
    have p2 := hh.part he 2 2 1 (ft := 4) (by kernel_rfl) (by kernel_rfl)
    obtain ⟨nm, e1, e2, e3⟩ := p0.string (by kernel_rfl)
    obtain ⟨ty, e4, e5, e6⟩ := p1.i64 (by kernel_rfl)
    obtain ⟨nu, e7⟩ := p2.bool (by kernel_rfl)
    simp only [List.drop_succ_cons, List.drop_zero, List.take_succ_cons, List.take_zero, List.cons.injEq, and_true] at e1 e4 e7
    subst e1 e4 e7
    exact ⟨(nm, ty, nu), rfl, e2, e3, e5, e6⟩)
  refine ⟨A, c, l, ?_, h2, by unfold reachBytes at h4; omega, h5, h6⟩
  simpa [Value.cells] using h1
end

end Go.Proofs.Ytflaaahcoglflaa
/- Footers opened. -/
set_option maxRecDepth 100000

namespace Go.Hm
open Go Go.RowKit
/-- A footer lies in the world. -/
structure FootIn (w : World) (Ac : Option Addr) (cc : Nat) (L : List ColS) (Ag : Option Addr) (G : List GrD) : Prop where
  cols : Reads w w.heap.size 3 Ac L.length (recs colV L)
  fine : ∀ x ∈ L, (∀ z ∈ x.1, z < 256) ∧ x.1.length ≤ 140737488351232
  cap : L.length ≤ cc
  few : L.length ≤ 4611686018427387903
  groups : Reads w w.heap.size 2 Ag G.length (recs grV G)
  few2 : G.length ≤ 4611686018427387903
  chunks : ∀ g ∈ G, Reads w w.heap.size 1 g.2.1 g.2.2.2.length (recs chV g.2.2.2) ∧ g.2.2.2.length ≤ 4611686018427387903
  pages : ∀ g ∈ G, ∀ x ∈ g.2.2.2, Reads w w.heap.size 14 x.1 x.2.2.length (recs pageV x.2.2) ∧ x.2.2.length ≤ 4611686018427387903
theorem FootIn.later {w w' : World} {Ac : Option Addr} {cc : Nat} {L : List ColS} {Ag : Option Addr} {G : List GrD} (h : FootIn w Ac cc L Ag G) (hb : New w w') : FootIn w' Ac cc L Ag G :=
  ⟨Reads.later h.cols hb, h.fine, h.cap, h.few, Reads.later h.groups hb, h.few2, fun g hg => ⟨Reads.later (h.chunks g hg).1 hb, (h.chunks g hg).2⟩, fun g hg x hx => ⟨Reads.later (h.pages g hg x hx).1 hb, (h.pages g hg x hx).2⟩⟩
/-- The footer's value. -/
def footA (Ac : Option Addr) (cc : Nat) (L : List ColS) (rows : Int) (Ag : Option Addr) (cg : Nat) (G : List GrD) : Value := .agg #[.slice Ac L.length cc, .int .i64 rows, .slice Ag G.length cg]
/-- The footer, plain. -/
def footP (L : List ColS) (rows : Int) (G : List GrD) : FootS := ⟨L, rows, G.map grP⟩

end Go.Hm

namespace Go.Proofs.Ytflaaahcoglflaa
open Go.RowKit Go.Hm Go.WideShapes Go.ChangeShapes

section
variable {H : Type} {enc : TypeId × Value → H} {W : World} {base : Nat} {v : Value} {d : DataW H} {ps : List MemPlace}
theorem held_page {cs : List Value} (h : Held enc Try.prog W 53 cs) : ∃ p : PageS, cs = pageV p ∧ PageFine p := by
  have ht : Try.prog.underlying 53 = some (.struct (fieldsOf Try.prog 53)) := by kernel_rfl
  have hl := h.partLen ht (n := 14) (by kernel_rfl)
  have p0 := h.part ht 0 0 1 (ft := 3) (by kernel_rfl) (by kernel_rfl)
  have p1 := h.part ht 1 1 1 (ft := 3) (by kernel_rfl) (by kernel_rfl)
  have p2 := h.part ht 2 2 12 (ft := 51) (by kernel_rfl) (by kernel_rfl)
  obtain ⟨n, e0, n1, n2⟩ := p0.i64 (by kernel_rfl)
  obtain ⟨m, e1, m1, m2⟩ := p1.i64 (by kernel_rfl)
  obtain ⟨s, e2, hs⟩ := held_stat p2
  clear p0 p1 p2 h
  match cs, hl with
  | [a0, a1, a2, a3, a4, a5, a6, a7, a8, a9, a10, a11, a12, a13], _ =>
    refine ⟨(n, m, s), ?_, hs, ⟨n1, n2⟩, m1, m2⟩
    simp only [List.drop_succ_cons, List.drop_zero, List.take_succ_cons, List.take_zero, List.cons.injEq, and_true] at e0 e1 e2
    show _ = Value.int .i64 n :: .int .i64 m :: statV s
    rw [← e2, e0, e1]
abbrev ChFine (W : World) (x : ChD) : Prop := (Reads W W.heap.size 14 x.1 x.2.2.length (recs pageV x.2.2) ∧ x.2.2.length ≤ 4611686018427387903) ∧ ∀ p ∈ x.2.2, PageFine p
theorem held_pages {cs : List Value} (h : Held enc Try.prog W 40 cs) : ∃ x : ChD, cs = chV x ∧ ChFine W x := by
  have ht : Try.prog.underlying 40 = some (.slice 53) := by kernel_rfl
  obtain ⟨A, c, l, h1, h2, _, h4, h5, h6⟩ := h.recs (f := pageV) (sz := 14) (by_ := 128) (Q := PageFine) (0, 0, 0, false, (false, 0, [], 0, 0), (false, 0, [], 0, 0)) ht (by kernel_rfl) (by kernel_rfl) (fun _ => rfl) (by omega) (fun cs hh => held_page hh)
  subst h1
  exact ⟨(A, c, l), rfl, ⟨h5, by unfold reachBytes at h4; dsimp only; omega⟩, h6⟩
abbrev GrFine (W : World) (g : GrD) : Prop := (Reads W W.heap.size 1 g.2.1 g.2.2.2.length (recs chV g.2.2.2) ∧ g.2.2.2.length ≤ 4611686018427387903) ∧ (∀ x ∈ g.2.2.2, ChFine W x) ∧ -9223372036854775808 ≤ g.1 ∧ g.1 ≤ 9223372036854775807
theorem held_group {cs : List Value} (h : Held enc Try.prog W 43 cs) : ∃ g : GrD, cs = grV g ∧ GrFine W g := by
  have ht : Try.prog.underlying 43 = some (.struct (fieldsOf Try.prog 43)) := by kernel_rfl
  have hl := h.partLen ht (n := 2) (by kernel_rfl)
  have p0 := h.part ht 0 0 1 (ft := 3) (by kernel_rfl) (by kernel_rfl)
  have p1 := h.part ht 1 1 1 (ft := 41) (by kernel_rfl) (by kernel_rfl)
  obtain ⟨n, e0, n1, n2⟩ := p0.i64 (by kernel_rfl)
  have hs : Try.prog.underlying 41 = some (.slice 40) := by kernel_rfl
  obtain ⟨A, c, l, h1, h2, _, h4, h5, h6⟩ := p1.recs (f := chV) (sz := 1) (by_ := 24) (Q := ChFine W) (none, 0, []) hs (by kernel_rfl) (by kernel_rfl) (fun _ => rfl) (by omega) (fun cs hh => held_pages hh)
  clear p0 p1 h
  match cs, hl with
  | [a0, a1], _ =>
    refine ⟨(n, A, c, l), ?_, ⟨h5, by unfold reachBytes at h4; dsimp only; omega⟩, h6, n1, n2⟩
    simp only [List.drop_succ_cons, List.drop_zero, List.take_succ_cons, List.take_zero, List.cons.injEq, and_true] at e0 h1
    rw [e0, h1]
    rfl
theorem open_Fo (hval : Value.okWide Try.prog W .any base 25 v) (h : DataW.Trod enc Try.prog W 0 (fun _ => true) true 25 v d ps) (hlt : ∀ p ∈ ps, p.block < W.heap.size) (hw : ∀ n ∈ d.weights Try.prog 25, n ≤ reachBytes) :
    ∃ (Ac : Option Addr) (cc : Nat) (L : List ColS) (r : Int) (Ag : Option Addr) (cg : Nat) (G : List GrD), v = footA Ac cc L r Ag cg G ∧ FootIn W Ac cc L Ag G ∧ G.length ≤ cg ∧ (-9223372036854775808 ≤ r ∧ r ≤ 9223372036854775807) ∧ (∀ x ∈ L, -9223372036854775808 ≤ x.2.1 ∧ x.2.1 ≤ 9223372036854775807)
      ∧ ∀ g ∈ G, (-9223372036854775808 ≤ g.1 ∧ g.1 ≤ 9223372036854775807) ∧ ∀ x ∈ g.2.2.2, ∀ p ∈ x.2.2, PageFine p := by
  have ht : Try.prog.underlying 25 = some (.struct (fieldsOf Try.prog 25)) := by kernel_rfl
  have he : Try.prog.underlying 55 = some (.struct (fieldsOf Try.prog 55)) := by kernel_rfl
  have hc : Try.prog.underlying 22 = some (.slice 55) := by kernel_rfl
  have hg : Try.prog.underlying 23 = some (.slice 43) := by kernel_rfl
  obtain ⟨⟨cs⟩, rfl, hsz⟩ := okWide_struct ht hval
  have hh := Held.of h hlt hw
  simp only [Value.cells] at hh
  obtain ⟨x0, x1, x2, rfl⟩ := list3 (hh.partLen ht (n := 3) (by kernel_rfl))
  have p0 := hh.part ht 0 0 1 (ft := 22) (by kernel_rfl) (by kernel_rfl)
  have p1 := hh.part ht 1 1 1 (ft := 3) (by kernel_rfl) (by kernel_rfl)
  have p2 := hh.part ht 2 2 1 (ft := 23) (by kernel_rfl) (by kernel_rfl)
  obtain ⟨Ac, cc, L, h1, h2, _, h4, h5, h6⟩ := p0.recs (f := colV) (sz := 3) (by_ := 32) (Q := fun x => ((∀ z ∈ x.1, z < 256) ∧ x.1.length ≤ 140737488351232) ∧ -9223372036854775808 ≤ x.2.1 ∧ x.2.1 ≤ 9223372036854775807) ([], 0, false) hc (by kernel_rfl) (by kernel_rfl) (fun _ => rfl) (by omega) (fun cs hh => by
    obtain ⟨x0, x1, x2, rfl⟩ := list3 (hh.partLen he (n := 3) (by kernel_rfl))
    have p0 := hh.part he 0 0 1 (ft := 9) (by kernel_rfl) (by kernel_rfl)
    have p1 := hh.part he 1 1 1 (ft := 3) (by kernel_rfl) (by kernel_rfl)
    have p2 := hh.part he 2 2 1 (ft := 4) (by kernel_rfl) (by kernel_rfl)
    obtain ⟨nm, e1, e2, e3⟩ := p0.string (by kernel_rfl)
    obtain ⟨ty, e4, e5, e6⟩ := p1.i64 (by kernel_rfl)
    obtain ⟨nu, e7⟩ := p2.bool (by kernel_rfl)
    simp only [List.drop_succ_cons, List.drop_zero, List.take_succ_cons, List.take_zero, List.cons.injEq, and_true] at e1 e4 e7
    subst e1 e4 e7
    exact ⟨(nm, ty, nu), rfl, ⟨e2, e3⟩, e5, e6⟩)
  obtain ⟨r, h7, h8, h9⟩ := p1.i64 (by kernel_rfl)
  obtain ⟨Ag, cg, G, g1, g2, _, g4, g5, g6⟩ := p2.recs (f := grV) (sz := 2) (by_ := 32) (Q := GrFine W) (0, none, 0, []) hg (by kernel_rfl) (by kernel_rfl) (fun _ => rfl) (by omega) (fun cs hh => held_group hh)
  simp only [List.drop_succ_cons, List.drop_zero, List.take_succ_cons, List.take_zero, List.cons.injEq, and_true] at h1 h7 g1
  subst h1 h7 g1
  refine ⟨Ac, cc, L, r, Ag, cg, G, rfl, ⟨h5, fun x hx => (h6 x hx).1, h2, by unfold reachBytes at h4; omega, g5, by unfold reachBytes at g4; omega, fun g hg => (g6 g hg).1, fun g hg x hx => ((g6 g hg).2.1 x hx).1⟩, g2, ⟨h8, h9⟩, fun x hx => (h6 x hx).2, fun g hg => ⟨(g6 g hg).2.2, fun x hx => ((g6 g hg).2.1 x hx).2⟩⟩
end

end Go.Proofs.Ytflaaahcoglflaa
/- Footers: what their groups have, one by one; plain lists. -/

namespace Go.Hm
open Go Go.RowKit
theorem sum_take_succ {α : Type} (f : α → Int) (l : List α) (k : Nat) (d : α) (h : k < l.length) : ((l.take (k + 1)).map f).sum = ((l.take k).map f).sum + f (l.getD k d) := by
  rw [take_snoc l k d h, List.map_append, List.sum_append]
  simp
theorem sum_take_le {α : Type} (f : α → Int) : ∀ (l : List α) (k : Nat), (∀ x ∈ l, 0 ≤ f x) → ((l.take k).map f).sum ≤ (l.map f).sum
  | [], _, _ => by simp
  | x :: l, 0, h => by
    have h1 := h x (by simp)
    have := sum_take_le f l 0 fun y hy => h y (by simp [hy])
    simp at this ⊢
    omega
  | x :: l, k + 1, h => by
    have := sum_take_le f l k fun y hy => h y (by simp [hy])
    simp only [List.take_succ_cons, List.map_cons, List.sum_cons]
    omega
theorem sum_nonneg {α : Type} (f : α → Int) : ∀ (l : List α), (∀ x ∈ l, 0 ≤ f x) → 0 ≤ (l.map f).sum
  | [], _ => by simp
  | x :: l, h => by
    have h1 := h x (by simp)
    have := sum_nonneg f l fun y hy => h y (by simp [hy])
    simp only [List.map_cons, List.sum_cons]
    omega
abbrev groupZ : GroupS := (0, [])
abbrev colZ : ColS := ([], 0, false)
theorem chunk_nonneg {t : Int} {nu : Bool} {l : List PageS} {r : Int} (h : ChunkOk t nu l r) : 0 ≤ sizesL l ∧ 0 ≤ r := by
  have := rowsL_pos h.1
  have := h.2
  omega
theorem GroupOk.sizes {cols : List ColS} {g : GroupS} (h : GroupOk cols g) : ∀ l ∈ g.2, 0 ≤ sizesL l := fun l hl => by
  obtain ⟨i, hi, rfl⟩ := List.getElem_of_mem hl
  have := h.2.2 i (by rw [← h.2.1]; exact hi)
  rw [List.getD_eq_getElem?_getD (l := g.2), List.getElem?_eq_getElem hi] at this
  exact (chunk_nonneg this).1
theorem GroupOk.nonneg {cols : List ColS} {g : GroupS} (h : GroupOk cols g) : 0 ≤ groupSize g := sum_nonneg _ _ h.sizes
/-- What stands ahead of a group and in it is no more than may be. -/
theorem foot_rows {F : FootS} (h : FootOk F) {k : Nat} (hk : k < F.groups.length) : ((F.groups.take k).map (·.1)).sum + (F.groups.getD k groupZ).1 ≤ 65536 := by
  have h1 := sum_take_succ (fun g : GroupS => g.1) F.groups k groupZ hk
  have h2 := sum_take_le (fun g : GroupS => g.1) F.groups (k + 1) (fun g hg => by have := (h.2.1 g hg).1; omega)
  have := h.2.2.1
  have := h.2.2.2.1
  omega
theorem foot_size {F : FootS} (h : FootOk F) {k c : Nat} (hk : k < F.groups.length) : ((F.groups.take k).map groupSize).sum + (((F.groups.getD k groupZ).2.take c).map sizesL).sum ≤ 1073741824 := by
  have hg : F.groups.getD k groupZ ∈ F.groups := mem_getDF groupZ hk
  have h1 := sum_take_succ groupSize F.groups k groupZ hk
  have h2 := sum_take_le groupSize F.groups (k + 1) (fun g hg => (h.2.1 g hg).nonneg)
  have h3 := sum_take_le sizesL (F.groups.getD k groupZ).2 c (h.2.1 _ hg).sizes
  have h4 := h.2.2.2.2
  have h5 : groupSize (F.groups.getD k groupZ) = ((F.groups.getD k groupZ).2.map sizesL).sum := rfl
  omega
theorem chunkS_bound {t : Int} {nu : Bool} : ∀ (l : List PageS) (rows size : Int), 0 ≤ rows → 0 ≤ size → 0 ≤ (chunkS t nu l rows size).1 ∧ (chunkS t nu l rows size).1 ≤ size + rows * 268435456
  | [], rows, size, h1, h2 => by simp only [chunkS]; omega
  | p :: l, rows, size, h1, h2 => by
    unfold chunkS
    split
    · rename_i hp
      have h3 := (pageB_most.1 hp).1
      have := chunkS_bound (t := t) (nu := nu) l (rows - p.2.1) (size + p.1) (by omega) (by omega)
      omega
    · dsimp only; omega
/-- The state ahead of a chunk of a group, if all ahead is right. -/
structure FootTo (L : List ColS) (G : List GroupS) (k : Nat) (rows size : Int) : Prop where
  ok : ∀ g ∈ G.take k, GroupOk L g
  rows_ : rows = ((G.take k).map (·.1)).sum
  size_ : size = ((G.take k).map groupSize).sum
  most : 0 ≤ rows ∧ rows ≤ 65536
  few : 0 ≤ size ∧ size ≤ 1073741824
theorem FootTo.zero (L : List ColS) (G : List GroupS) : FootTo L G 0 0 0 := ⟨by simp, by simp, by simp, by omega, by omega⟩
/-- .. and of a chunk within. -/
structure ChunkTo (L : List ColS) (G : List GroupS) (k c : Nat) (rows size : Int) : Prop where
  ok : ∀ g ∈ G.take k, GroupOk L g
  rows_ : rows = ((G.take k).map (·.1)).sum + (G.getD k groupZ).1
  size_ : size = ((G.take k).map groupSize).sum + (((G.getD k groupZ).2.take c).map sizesL).sum
  here : 1 ≤ (G.getD k groupZ).1 ∧ (G.getD k groupZ).2.length = L.length ∧ ∀ i, i < c → ChunkOk (L.getD i colZ).2.1 (L.getD i colZ).2.2 ((G.getD k groupZ).2.getD i []) (G.getD k groupZ).1
  most : (G.getD k groupZ).1 ≤ rows ∧ rows ≤ 65536
  few : 0 ≤ size ∧ size ≤ 1073741824
theorem FootTo.enter {L : List ColS} {G : List GroupS} {k : Nat} {rows size : Int} (h : FootTo L G k rows size) (h1 : 1 ≤ (G.getD k groupZ).1) (h2 : (G.getD k groupZ).1 ≤ 65536 - rows) (h3 : (G.getD k groupZ).2.length = L.length) :
    ChunkTo L G k 0 (rows + (G.getD k groupZ).1) size := by
  have := h.most
  exact ⟨h.ok, by rw [h.rows_], by rw [h.size_]; simp, ⟨h1, h3, fun i hi => by omega⟩, by omega, h.few⟩
theorem ChunkTo.next {L : List ColS} {G : List GroupS} {k c : Nat} {rows size : Int} (h : ChunkTo L G k c rows size) (hc : c < (G.getD k groupZ).2.length) (h1 : ChunkOk (L.getD c colZ).2.1 (L.getD c colZ).2.2 ((G.getD k groupZ).2.getD c []) (G.getD k groupZ).1)
    (h2 : size + sizesL ((G.getD k groupZ).2.getD c []) ≤ 1073741824) : ChunkTo L G k (c + 1) rows (size + sizesL ((G.getD k groupZ).2.getD c [])) := by
  have h3 := (chunk_nonneg h1).1
  have h4 := h.few
  refine ⟨h.ok, h.rows_, ?_, ⟨h.here.1, h.here.2.1, fun i hi => ?_⟩, h.most, by omega⟩
  · rw [sum_take_succ sizesL _ c [] hc, h.size_]; omega
  · by_cases e : i = c
    · subst e; exact h1
    · exact h.here.2.2 i (by omega)
theorem ChunkTo.leave {L : List ColS} {G : List GroupS} {k c : Nat} {rows size : Int} (h : ChunkTo L G k c rows size) (hc : c = (G.getD k groupZ).2.length) (hk : k < G.length) : FootTo L G (k + 1) rows size := by
  subst hc
  have hm := h.most
  have h1 := h.here.1
  refine ⟨fun g hg => ?_, by rw [h.rows_, sum_take_succ (fun g : GroupS => g.1) G k groupZ hk], ?_, by omega, h.few⟩
  · rw [take_snoc G k groupZ hk] at hg
    rcases List.mem_append.1 hg with hg | hg
    · exact h.ok g hg
    · rw [List.mem_singleton.1 hg]
      exact ⟨h.here.1, h.here.2.1, fun i hi => h.here.2.2 i (by rw [h.here.2.1]; exact hi)⟩
  · rw [sum_take_succ groupSize G k groupZ hk, h.size_, List.take_length]
    rfl
theorem FootTo.no_rows {L : List ColS} {G : List GroupS} {k : Nat} {rows size r : Int} (h : FootTo L G k rows size) (hk : k < G.length) (hb : (G.getD k groupZ).1 < 1 ∨ 65536 - rows < (G.getD k groupZ).1 ∨ (G.getD k groupZ).2.length ≠ L.length) : ¬ FootOk ⟨L, r, G⟩ := fun hF => by
  have hg := hF.2.1 (G.getD k groupZ) (mem_getDF groupZ hk)
  have h1 := foot_rows hF hk
  have h2 := h.rows_
  dsimp only at h1
  rcases hb with hb | hb | hb
  · have := hg.1; omega
  · omega
  · exact hb hg.2.1
theorem ChunkTo.no_chunk {L : List ColS} {G : List GroupS} {k c : Nat} {rows size r : Int} (h : ChunkTo L G k c rows size) (hk : k < G.length) (hc : c < (G.getD k groupZ).2.length)
    (hb : ¬ ChunkOk (L.getD c colZ).2.1 (L.getD c colZ).2.2 ((G.getD k groupZ).2.getD c []) (G.getD k groupZ).1 ∨ 1073741824 < size + sizesL ((G.getD k groupZ).2.getD c [])) : ¬ FootOk ⟨L, r, G⟩ := fun hF => by
  have hg := hF.2.1 (G.getD k groupZ) (mem_getDF groupZ hk)
  rcases hb with hb | hb
  · exact hb (hg.2.2 c (by dsimp only; rw [← h.here.2.1]; exact hc))
  · have h1 := foot_size hF (k := k) (c := c + 1) hk
    dsimp only at h1
    rw [sum_take_succ sizesL _ c [] hc] at h1
    have := h.size_
    omega
theorem FootTo.yes {L : List ColS} {G : List GroupS} {rows size r : Int} (h : FootTo L G G.length rows size) (hc : ColsOk L) : FootOk ⟨L, r, G⟩ ↔ rows = r := by
  have h1 := h.rows_
  have h2 := h.size_
  rw [List.take_length] at h1 h2
  have h3 := h.most
  have h4 := h.few
  have hok := h.ok
  rw [List.take_length] at hok
  constructor
  · intro hF
    have := hF.2.2.1
    dsimp only at this
    omega
  · intro e
    exact ⟨hc, hok, by dsimp only; omega, by dsimp only; omega, by dsimp only; omega⟩
/-- A group of a row, as the walk reads it. -/
theorem Reads.gr2 {w : World} {B n i : Nat} {A : Option Addr} {l : List GrD} (h : Reads w B 2 A n (recs grV l)) (hi : i < n) :
    ∃ ad, A = some ad ∧ ad.block < B ∧ w.cell? (ad.add (i * 2)) = some (.int .i64 (l.getD i (0, none, 0, [])).1) ∧ w.cell? ⟨(ad.add (i * 2)).block, (ad.add (i * 2)).off + 1, none⟩ = some (.slice (l.getD i (0, none, 0, [])).2.1 (l.getD i (0, none, 0, [])).2.2.2.length (l.getD i (0, none, 0, [])).2.2.1) := by
  obtain ⟨ad, h1, h2, _, h3⟩ := h.rec_ (f := grV) (sz := 2) (fun _ => rfl) (0, none, 0, []) hi (by omega)
  refine ⟨ad, h1, h2, h3 0 _ rfl, ?_⟩
  have := h3 1 _ rfl
  rw [← add_of_add] at this
  exact this
theorem Reads.ch1 {w : World} {B n i : Nat} {A : Option Addr} {l : List ChD} (h : Reads w B 1 A n (recs chV l)) (hi : i < n) :
    ∃ ad, A = some ad ∧ ad.block < B ∧ w.cell? (ad.add i) = some (.slice (l.getD i (none, 0, [])).1 (l.getD i (none, 0, [])).2.2.length (l.getD i (none, 0, [])).2.1) := by
  obtain ⟨ad, h1, h2, _, h3⟩ := h.rec_ (f := chV) (sz := 1) (fun _ => rfl) (none, 0, []) hi (by omega)
  refine ⟨ad, h1, h2, ?_⟩
  have := h3 0 _ rfl
  rw [Nat.mul_one] at this
  exact this

end Go.Hm
/- The contract of footer.Right. -/

namespace Go.Hm
open Go Go.RowKit
abbrev grZ : GrD := (0, none, 0, [])
abbrev chZ : ChD := (none, 0, [])
open Classical in
noncomputable def rightF (F : FootS) : Bool := decide (FootOk F)
theorem rightF_yes {F : FootS} (h : FootOk F) : rightF F = true := by unfold rightF; simp [h]
theorem rightF_no {F : FootS} (h : ¬ FootOk F) : rightF F = false := by unfold rightF; simp [h]
theorem getD_mapX {α β : Type} (f : α → β) (l : List α) {k : Nat} (d : α) (e : β) (hk : k < l.length) : (l.map f).getD k e = f (l.getD k d) := by
  rw [List.getD_eq_getElem?_getD, List.getElem?_map, List.getElem?_eq_getElem hk, List.getD_eq_getElem?_getD, List.getElem?_eq_getElem hk]
  rfl

end Go.Hm

namespace Go.Proofs.Ytflaaahcoglflaa
open Go.RowKit Go.Hm
set_option maxHeartbeats 4000000 in
set_option maxRecDepth 100000 in
theorem fright_any {w : World} {Ac : Option Addr} {cc : Nat} {L : List ColS} {r : Int} {Ag : Option Addr} {cg : Nat} {G : List GrD} (h : FootIn w Ac cc L Ag G) (hp : ∀ g ∈ G, ∀ x ∈ g.2.2.2, ∀ p ∈ x.2.2, statFine p.2.2) :
    Calls Try.prog 11 #[footA Ac cc L r Ag cg G] w (NewPost (.bool (rightF (footP L r G))) w) := by
  have CK := Lib.hid (fun (W : World) (hW : New w W) => cols_any (c := cc) (Reads.later h.cols hW) h.fine h.cap h.few)
  have HG := Lib.hid h.groups
  have HL := Lib.hid h.cols
  have hfew := h.few
  have hfew2 := h.few2
  have HCH := Lib.hid h.chunks
  have HPG := Lib.hid h.pages
  have HP := Lib.hid hp
  have HY := Lib.hid (fun e : FootOk (footP L r G) => rightF_yes e)
  have HN := Lib.hid (fun e : ¬ FootOk (footP L r G) => rightF_no e)
  have hz : FootTo L (G.map grP) 0 0 0 := FootTo.zero _ _
  have HZ := Lib.hid hz
  clear h hp hz
  generalize rightF (footP L r G) = M at *
  unfold footP at HY HN
  have HMap := Lib.hid (fun (k : Nat) (hk : k < G.length) => getD_mapX grP G (k := k) grZ groupZ hk)
  have HLen := Lib.hid (show (G.map grP).length = G.length from List.length_map ..)
  generalize hGP : G.map grP = GP at *
  have hck := colsCk_iff L
  clear hGP
  show Calls Try.prog 11 #[.agg #[.slice Ac L.length cc, .int .i64 r, .slice Ag G.length cg]] w (NewPost (.bool M) w)
  have B0 := Blk.new w 25 #[.slice Ac L.length cc, .int .i64 r, .slice Ag G.length cg]
  have b0 : New w (w.alloc (.cells #[.slice Ac L.length cc, .int .i64 r, .slice Ag G.length cg] 25)) := (Below.refl _ _).alloc (Nat.le_refl _) _
  obtain ⟨x0, x1, x2⟩ := ccells B0
  go_enter Try.func11, Try.ntmps11
  go_wp2_with fail
  refine (CK.out _ b0).mono ?_
  rintro e w1 ⟨rfl, b1⟩
  have B1 := B0.below b1 B0.lt
  have b01 := New.trans b0 b1
  clear CK B0 b0 b1 x0 x1 x2
  obtain ⟨x0, x1, x2⟩ := ccells B1
  by_cases hk0 : colsCk L = 0
  · have hcok := hck.1 hk0
    have HCO := Lib.hid hcok
    rw [hk0]
    clear hck hk0 hcok
    go_wp2_with fail
    clear x0 x1 x2
    go_loopw [3, 4, 18] (fun a s i wr => ∃ (k : Nat) (rows size : Int), k ≤ G.length ∧ i = .int .i64 (k : Int) ∧ a = .int .i64 rows ∧ s = .int .i64 size ∧ Hid (FootTo L GP k rows size) ∧ (0 ≤ rows ∧ rows ≤ 65536) ∧ (0 ≤ size ∧ size ≤ 1073741824)
      ∧ Blk wr w.heap.size 25 #[.slice Ac L.length cc, .int .i64 r, .slice Ag G.length cg] ∧ New w wr) (fun _ _ i _ => G.length - (intOf i).toNat)
    case atStart => exact ⟨0, 0, 0, Nat.zero_le _, rfl, rfl, rfl, HZ, by omega, by omega, B1, b01⟩
    case round =>
      obtain ⟨k, rows, size, hk, rfl, rfl, rfl, H, hrw, hsz, B, b⟩ := hrel
      clear HZ B1 b01
      by_cases hlt : k < G.length
      · obtain ⟨ad, rfl, hb, d0, d1⟩ := (Reads.later HG.out b).gr2 hlt
        have hgm := mem_getDF grZ hlt
        have hch := HCH.out _ hgm
        have hpg := HPG.out _ hgm
        have hpp := HP.out _ hgm
        have hmap := HMap.out k hlt
        have hltP : k < GP.length := by rw [HLen.out]; exact hlt
        generalize G.getD k grZ = g at *
        obtain ⟨gr, Ach, cch, D⟩ := g
        dsimp only at d0 d1 hch hpg hpp
        unfold grP at hmap
        dsimp only at hmap
        have hl2 : (GP.getD k groupZ).2.length = D.length := by rw [hmap]; exact List.length_map ..
        have hg1 : (GP.getD k groupZ).1 = gr := by rw [hmap]
        have HM2 := Lib.hid (fun (c : Nat) (hc : c < D.length) => show (GP.getD k groupZ).2.getD c [] = (D.getD c chZ).2.2 by rw [hmap]; exact getD_mapX (fun x : ChD => x.2.2) D chZ [] hc)
        have NR := Lib.hid (fun hb => HN.out (H.out.no_rows (r := r) hltP hb))
        have EN := Lib.hid (fun h1 h2 h3 => H.out.enter h1 h2 h3)
        rw [hl2, hg1] at NR EN
        have HL2 := Lib.hid hl2
        have HG1 := Lib.hid hg1
        have HCHk := Lib.hid hch.1
        have hchl := hch.2
        have HPGk := Lib.hid hpg
        have HPPk := Lib.hid hpp
        have HLTP := Lib.hid hltP
        clear hmap hl2 hg1 hch hpg hpp hgm hb H hltP
        have ha : New wr (wr.alloc (.cells #[.int .i64 gr, .slice Ach D.length cch] 43)) := (Below.refl _ _).alloc (Nat.le_refl _) _
        have BG := Blk.new wr 43 #[.int .i64 gr, .slice Ach D.length cch]
        have B2 := B.below ha B.lt
        have b2 := New.trans b ha
        obtain ⟨y0, y1, y2⟩ := ccells B2
        obtain ⟨z0, z1⟩ := cells2 BG
        clear B b ha
        by_cases h1 : gr < 1
        · have hM := Lib.hid (NR.out (.inl h1))
          clear NR EN
          go_wp2
          go_ret
          exact ⟨by rw [hM.out]; rfl, b2⟩
        by_cases h2 : 65536 - rows < gr
        · have hM := Lib.hid (NR.out (.inr (.inl h2)))
          clear NR EN
          go_wp2
          go_ret
          exact ⟨by rw [hM.out]; rfl, b2⟩
        by_cases h3 : D.length = L.length
        · have t3 : ((D.length : Int) != (L.length : Int)) = false := by simp; omega
          have hE := EN.out (by omega) (by omega) h3
          have HE := Lib.hid hE
          have hDL : D.length ≤ L.length := by omega
          have H3 := Lib.hid h3
          clear NR EN hE h3
          go_wp2_with fail
          clear y0 y1 y2 z0 z1 d0 d1 t3
          generalize wr.heap.size = gB at *
          go_loopw [4, 48] (fun s i wr => ∃ (c : Nat) (sz : Int), c ≤ D.length ∧ i = .int .i64 (c : Int) ∧ s = .int .i64 sz ∧ Hid (ChunkTo L GP k c (rows + gr) sz) ∧ (0 ≤ sz ∧ sz ≤ 1073741824)
            ∧ Blk wr w.heap.size 25 #[.slice Ac L.length cc, .int .i64 r, .slice (some ad) G.length cg] ∧ Blk wr gB 43 #[.int .i64 gr, .slice Ach D.length cch] ∧ New w wr) (fun _ i _ => D.length - (intOf i).toNat)
          case atStart => exact ⟨0, size, Nat.zero_le _, rfl, rfl, HE, hsz, B2, BG, b2⟩
          case round =>
            obtain ⟨c, sz, hc, rfl, rfl, H, hsz2, B, BGq, bq⟩ := hrel
            clear HE B2 BG b2
            by_cases hlc : c < D.length
            · have hcL : c < L.length := by omega
              obtain ⟨ac, rfl, hbc, e0⟩ := (Reads.later HCHk.out bq).ch1 hlc
              obtain ⟨al, rfl, hbl, -⟩ := (Reads.later HL.out bq).colT hcL
              have hxm := mem_getDF chZ hlc
              have hpx := HPGk.out _ hxm
              have hsx := HPPk.out _ hxm
              have hm2 := HM2.out c hlc
              have NC := Lib.hid (fun hb => HN.out (H.out.no_chunk (r := r) HLTP.out (by rw [HL2.out]; exact hlc) hb))
              have NX := Lib.hid (fun h1 h2 => H.out.next (by rw [HL2.out]; exact hlc) h1 h2)
              rw [hm2, HG1.out] at NC NX
              have FC := Lib.hid (fun (W : World) (hW : New w W) => show (W.cell? (al.add (c * 3)) = some (.string (bstr (L.getD c colZ).1)) ∧ W.cell? ⟨(al.add (c * 3)).block, (al.add (c * 3)).off + 1, none⟩ = some (.int .i64 (L.getD c colZ).2.1) ∧ W.cell? ⟨(al.add (c * 3)).block, (al.add (c * 3)).off + 2, none⟩ = some (.bool (L.getD c colZ).2.2)) from by
                obtain ⟨al', e, _, f⟩ := (Reads.later HL.out hW).colT hcL
                injection e with e
                subst e
                exact f)
              generalize D.getD c chZ = x at *
              obtain ⟨Ax, cx, pl⟩ := x
              dsimp only at e0 hpx hsx NC NX
              have CSZ := fun (W : World) (hW : New w W) => chunkSize_any (c := L.getD c colZ) (cap := cx) (rows := gr) (Reads.later hpx.1 hW) hsx hpx.2 (by omega)
              have hiff := chunkS_iff (t := (L.getD c colZ).2.1) (nu := (L.getD c colZ).2.2) pl gr 0 (by omega)
              have hbd := chunkS_bound (t := (L.getD c colZ).2.1) (nu := (L.getD c colZ).2.2) pl gr 0 (by omega) (by omega)
              generalize L.getD c colZ = col at *
              obtain ⟨nm, t, nu⟩ := col
              dsimp only at hiff hbd NC NX CSZ
              unfold SizePost at CSZ
              generalize chunkS t nu pl gr 0 = S at *
              obtain ⟨sn, so⟩ := S
              dsimp only at hiff hbd CSZ
              have CSZ : Hid (∀ W, New w W → Calls Try.prog 27 #[.agg #[.string (bstr nm), .int .i64 t, .bool nu], .slice Ax pl.length cx, .int .i64 gr] W (fun e w' => e = .returned (.tuple #[.int .i64 sn, .bool so]) ∧ New W w')) := Lib.hid CSZ
              have HIF := Lib.hid hiff
              clear hiff hpx hsx hm2 hxm hbc hbl H
              obtain ⟨y0, y1, y2⟩ := ccells B
              obtain ⟨z0, z1⟩ := cells2 BGq
              dsimp only at FC
              go_wp2_with fail
              refine wp_region_up New [(true, 0), (true, 1), (true, 2), (true, 3), (true, 4), (true, 5), (true, 6), (true, 7), (false, 8), (true, 9), (true, 10), (true, 11), (true, 12), (true, 13)]
                New.refl New.trans (by kernel_rfl) (by kernel_rfl) (by kernel_rfl) (by kernel_rfl) ?_
              have F := Lib.hid (fun (W : World) (hW : New wr W) => And.intro (B.below hW B.lt) (BGq.below hW BGq.lt))
              have hU := New.drew wr
              clear y0 y1 y2 z0 z1 e0
              repeat (first
                | (refine up_quiet rfl rfl (v := ?_) (fun W hQ => ?_) ?_; rotate_left; (obtain ⟨f0, f1, f2⟩ := FC.out W (New.trans bq (New.trans hU hQ)); obtain ⟨F1, F2⟩ := F.out W (New.trans hU hQ); obtain ⟨y0, y1, y2⟩ := ccells F1; obtain ⟨z0, z1⟩ := cells2 F2; clear F1 F2; go_simp <;> with_reducible rfl); simp only [Act.put, List.setIfInBounds_toArray, List.set_cons_zero, List.set_cons_succ]))
              refine up_call rfl rfl (fun K0 hK0 => ?_)
              go_simp
              (with_reducible refine (CSZ.out _ (New.trans bq hU)).mono ?_)
              rintro e u ⟨rfl, bu⟩
              refine hK0 _ _ bu ?_
              replace hU := New.trans hU bu
              clear hK0 bu
              repeat (first
                | (refine up_quiet rfl rfl (v := ?_) (fun W hQ => ?_) ?_; rotate_left; (go_simp <;> with_reducible rfl); simp only [Act.put, List.setIfInBounds_toArray, List.set_cons_zero, List.set_cons_succ]))
              refine up_nil ?_
              obtain ⟨B3, BG3⟩ := F.out _ hU
              have b3 := New.trans bq hU
              clear F FC CSZ hU B BGq bq
              cases so with
              | false =>
                have hM := Lib.hid (NC.out (.inl (fun hh => by have := HIF.out.1.2 hh; simp at this)))
                clear NC NX HIF
                go_wp2
                go_ret
                exact ⟨by rw [hM.out]; rfl, b3⟩
              | true =>
                have hco := HIF.out.1.1 (by trivial)
                have hsn := HIF.out.2 hco
                rw [Int.zero_add] at hsn
                by_cases hbig : 1073741824 < sz + sn
                · have hM := Lib.hid (NC.out (.inr (by rw [← hsn]; exact hbig)))
                  clear NC NX HIF hco hsn
                  go_wp2
                  go_ret
                  exact ⟨by rw [hM.out]; rfl, b3⟩
                · have hN := Lib.hid (NX.out hco (by rw [← hsn]; omega))
                  rw [← hsn] at hN
                  clear NC NX HIF hco hsn
                  go_wp2
                  go_roundw
                  case rel => exact ⟨c + 1, sz + sn, by omega, by go_num, rfl, hN, by omega, B3, BG3, b3⟩
                  case measure => simp [intOf]; omega
            · obtain rfl : c = D.length := by omega
              have hLv := Lib.hid (H.out.leave (by rw [HL2.out]) HLTP.out)
              have hrr := H.out.most
              rw [HG1.out] at hrr
              clear H
              go_wp2
              go_roundw
              case rel => exact ⟨k + 1, rows + gr, sz, by omega, by go_num, rfl, rfl, hLv, by omega, hsz2, B, bq⟩
              case measure => simp [intOf]; omega
        · have t3 : ((D.length : Int) != (L.length : Int)) = true := by simp; omega
          have hM := Lib.hid (NR.out (.inr (.inr h3)))
          clear NR EN h3
          go_wp2
          go_ret
          exact ⟨by rw [hM.out]; rfl, b2⟩
      · obtain rfl : k = G.length := by omega
        have hY := H.out
        rw [← HLen.out] at hY
        have hY := hY.yes (r := r) HCO.out
        obtain ⟨x0, x1, x2⟩ := ccells B
        by_cases he : rows = r
        · have hM := Lib.hid (HY.out (hY.2 he))
          have t1 : (rows == r) = true := by simpa using he
          clear hY HY HN H he
          go_wp2
          go_ret
          exact ⟨by rw [hM.out]; rfl, b⟩
        · have hM := Lib.hid (HN.out (fun hF => he (hY.1 hF)))
          have t1 : (rows == r) = false := by simpa using he
          clear hY HY HN H he
          go_wp2
          go_ret
          exact ⟨by rw [hM.out]; rfl, b⟩
  · have hM := Lib.hid (HN.out (fun hF => hk0 (hck.2 hF.1)))
    have t1 : (colsCk L != 0) = true := by simpa using hk0
    clear HY HN hck hk0
    generalize colsCk L = ck at *
    go_wp2
    go_ret
    exact ⟨by rw [hM.out]; rfl, b01⟩

end Go.Proofs.Ytflaaahcoglflaa
/- Spans of rows, as plain lists, and what is over rows. No program is named here. -/

namespace Go.Hm

def spanN (f t s : Nat) : Nat := (t - f + s - 1) / s
def spanAt (f t s i : Nat) : Int × Int := (((f + i * s : Nat) : Int), ((min (f + (i + 1) * s) t : Nat) : Int))
def spansN (f t s : Nat) : List (Int × Int) := (List.range (spanN f t s)).map (spanAt f t s)
theorem spanN_lt {f t s : Nat} (hs : 0 < s) (k : Nat) : k < spanN f t s ↔ f + k * s < t := by
  unfold spanN
  rw [← Nat.succ_le_iff, Nat.le_div_iff_mul_le hs, Nat.succ_mul]
  omega
theorem spanN_le {f t s : Nat} (hs : 0 < s) : spanN f t s ≤ t - f := by
  rcases Nat.eq_zero_or_pos (spanN f t s) with h | h
  · omega
  · have := (spanN_lt (f := f) (t := t) hs (spanN f t s - 1)).1 (by omega)
    have : spanN f t s - 1 ≤ (spanN f t s - 1) * s := Nat.le_mul_of_pos_right _ hs
    omega
theorem spansN_len (f t s : Nat) : (spansN f t s).length = spanN f t s := by simp [spansN]
theorem spansN_at {f t s i : Nat} (hi : i < spanN f t s) : (spansN f t s).getD i (0, 0) = spanAt f t s i := by
  simp [spansN, List.getD_eq_getElem?_getD, List.getElem?_map, List.getElem?_range hi]
theorem spansN_take {f t s k : Nat} (hk : k < spanN f t s) : (spansN f t s).take (k + 1) = (spansN f t s).take k ++ [spanAt f t s k] := by
  rw [take_snoc _ k (0, 0) (by rw [spansN_len]; exact hk), spansN_at hk]
/-- How many rows are behind k spans. -/
def atN (f t s k : Nat) : Nat := min (f + k * s) t
theorem atN_next {f t s k : Nat} (hk : f + k * s < t) : atN f t s k = f + k * s ∧ atN f t s (k + 1) = atN f t s k + min s (t - atN f t s k) ∧ spanAt f t s k = ((atN f t s k : Int), (atN f t s (k + 1) : Int)) := by
  have h1 : atN f t s k = f + k * s := by unfold atN; omega
  refine ⟨h1, ?_, ?_⟩
  · rw [h1]; unfold atN; rw [Nat.succ_mul]; omega
  · rw [h1]; rfl

def cutS (f t s : Int) : List (Int × Int) := if f < 0 ∨ t ≤ f ∨ 65536 < t ∨ s < 1 then [] else spansN f.toNat t.toNat s.toNat
theorem cutS_none {f t s : Int} (h : f < 0 ∨ t ≤ f ∨ 65536 < t ∨ s < 1) : cutS f t s = [] := by rw [cutS, if_pos h]
theorem cutS_nat {f t s : Nat} (h1 : f < t) (h2 : t ≤ 65536) (h3 : 0 < s) : cutS f t s = spansN f t s := by
  rw [cutS, if_neg (by omega)]; simp
theorem cutS_len (f t s : Int) : (cutS f t s).length ≤ 65536 := by
  unfold cutS
  split
  · simp
  · rw [spansN_len]
    have := spanN_le (f := f.toNat) (t := t.toNat) (s := s.toNat) (by omega)
    omega

/-- A span has rows from f on, ahead of t. -/
def hasS (x : Int × Int) (f t : Int) : Prop := x.1 < t ∧ f < x.2 ∧ f < t
instance (x : Int × Int) (f t : Int) : Decidable (hasS x f t) := by unfold hasS; exact inferInstance
/-- Just the spans from a on, ahead of b, have rows of these. -/
def IsOver (l : List (Int × Int)) (f t : Int) (a b : Nat) : Prop := a ≤ b ∧ b ≤ l.length ∧ (a < b ∨ a = 0 ∧ b = 0) ∧ ∀ i, i < l.length → ((a ≤ i ∧ i < b) ↔ hasS (l.getD i (0, 0)) f t)
theorem IsOver.one {l : List (Int × Int)} {f t : Int} {a b c d : Nat} (h : IsOver l f t a b) (k : IsOver l f t c d) : a = c ∧ b = d := by
  obtain ⟨h1, h2, h3, h4⟩ := h
  obtain ⟨k1, k2, k3, k4⟩ := k
  have key : ∀ i, i < l.length → ((a ≤ i ∧ i < b) ↔ (c ≤ i ∧ i < d)) := fun i hi => (h4 i hi).trans (k4 i hi).symm
  rcases h3 with h3 | ⟨rfl, rfl⟩
  · have := (key a (by omega)).1 ⟨Nat.le_refl _, h3⟩
    have := (key (b - 1) (by omega)).1 (by omega)
    have := (key c (by omega)).2 (by omega)
    have := (key (d - 1) (by omega)).2 (by omega)
    omega
  · rcases k3 with k3 | ⟨rfl, rfl⟩
    · have := (key c (by omega)).2 (by omega)
      omega
    · exact ⟨rfl, rfl⟩
/-- Both ends of the spans go up, and no span is empty. -/
def UpS (l : List (Int × Int)) : Prop := (∀ i j, i ≤ j → j < l.length → (l.getD i (0, 0)).1 ≤ (l.getD j (0, 0)).1 ∧ (l.getD i (0, 0)).2 ≤ (l.getD j (0, 0)).2) ∧ ∀ i, i < l.length → (l.getD i (0, 0)).1 < (l.getD i (0, 0)).2
theorem spansN_up {f t s : Nat} (hs : 0 < s) : UpS (spansN f t s) := by
  refine ⟨fun i j hij hj => ?_, fun i hi => ?_⟩
  · rw [spansN_len] at hj
    rw [spansN_at hj, spansN_at (by omega)]
    have h1 : i * s ≤ j * s := Nat.mul_le_mul_right _ hij
    have h2 : (i + 1) * s ≤ (j + 1) * s := Nat.mul_le_mul_right _ (by omega)
    unfold spanAt
    simp only
    omega
  · rw [spansN_len] at hi
    rw [spansN_at hi]
    have := (spanN_lt hs i).1 hi
    unfold spanAt
    simp only
    rw [Nat.succ_mul]
    omega
theorem cutS_up (f t s : Int) : UpS (cutS f t s) := by
  unfold cutS
  split
  · exact ⟨fun i j _ h => by simp at h, fun i h => by simp at h⟩
  · exact spansN_up (by omega)
theorem over_of {l : List (Int × Int)} {f t : Int} {x y : Nat} (hft : f < t) (hy : y ≤ l.length) (hxy : x < y)
    (h1 : ∀ i, i < x → (l.getD i (0, 0)).2 ≤ f) (h2 : ∀ i, x ≤ i → i < l.length → f < (l.getD i (0, 0)).2) (h3 : ∀ i, i < y → (l.getD i (0, 0)).1 < t) (h4 : ∀ i, y ≤ i → i < l.length → t ≤ (l.getD i (0, 0)).1) : IsOver l f t x y := by
  refine ⟨by omega, hy, .inl hxy, fun i hi => ?_⟩
  unfold hasS
  have a1 := h1 i
  have a2 := h2 i
  have a3 := h3 i
  have a4 := h4 i
  constructor
  · rintro ⟨b1, b2⟩
    exact ⟨a3 b2, a2 b1 hi, hft⟩
  · rintro ⟨b1, b2, _⟩
    refine ⟨?_, ?_⟩
    · rcases Nat.lt_or_ge i x with h | h
      · have := a1 h; omega
      · exact h
    · rcases Nat.lt_or_ge i y with h | h
      · exact h
      · have := a4 h hi; omega
theorem over_none {l : List (Int × Int)} {f t : Int} (h : ∀ i, i < l.length → ¬ hasS (l.getD i (0, 0)) f t) : IsOver l f t 0 0 :=
  ⟨Nat.le_refl _, by omega, .inr ⟨rfl, rfl⟩, fun i hi => ⟨fun h' => by omega, fun h' => absurd h' (h i hi)⟩⟩
theorem over_far {l : List (Int × Int)} {f t : Int} {x y : Nat} (hxy : y ≤ x) (h1 : ∀ i, i < x → (l.getD i (0, 0)).2 ≤ f) (h4 : ∀ i, y ≤ i → i < l.length → t ≤ (l.getD i (0, 0)).1) : IsOver l f t 0 0 := by
  refine over_none fun i hi hh => ?_
  obtain ⟨b1, b2, _⟩ := hh
  rcases Nat.lt_or_ge i x with h | h
  · have := h1 i h; omega
  · have := h4 i (by omega) hi; omega
/-- What has rows lies side by side. -/
theorem has_between {l : List (Int × Int)} (hu : UpS l) {f t : Int} {i j k : Nat} (hij : i ≤ j) (hjk : j ≤ k) (hk : k < l.length) (hi : hasS (l.getD i (0, 0)) f t) (h : hasS (l.getD k (0, 0)) f t) : hasS (l.getD j (0, 0)) f t := by
  have h1 := hu.1 j k hjk hk
  have h2 := hu.1 i j hij (by omega)
  unfold hasS at *
  omega

end Go.Hm
/- Contracts of package layout's Cut, and of its answer. -/

namespace Go.Proofs.Ytflaaahcoglflaa
open Go.RowKit Go.Hm
theorem elP : ElT Try.prog 32 45 (.agg #[.int .i64 0, .int .i64 0]) 2 16 := ⟨by kernel_rfl, by kernel_rfl, rfl, by omega⟩
/-- Spans, a row of the call's own. -/
def SpansPost (l : List (Int × Int)) (w : World) (e : Ending) (w' : World) : Prop := ∃ A n c, e = .returned (.slice A n c) ∧ w'.ownsRow w.heap.size 45 2 (.slice A n c) n (pairs l) ∧ New w w'
theorem pairs_snoc (l : List (Int × Int)) (p : Int × Int) : pairs (l ++ [p]) = pairs l ++ [.int .i64 p.1, .int .i64 p.2] := by simp [pairs]



end Go.Proofs.Ytflaaahcoglflaa
/- footer.hasChunk and footer.Spans: contracts. -/

namespace Go.Hm
open Go Go.RowKit
/-- Whether a footer of so many columns and groups has chunk c of group g. -/
def inB (nl ng : Nat) (g c : Int) : Bool := decide (0 ≤ g ∧ g < (ng : Int) ∧ 0 ≤ c ∧ c < (nl : Int))
/-- The spans of a chunk's pages, from a row on. -/
def spansL (a : Int) : List PageS → List (Int × Int)
  | [] => []
  | p :: l => (a, a + p.2.1) :: spansL (a + p.2.1) l
theorem spansL_snoc (a : Int) : ∀ (l : List PageS) (p : PageS), spansL a (l ++ [p]) = spansL a l ++ [(a + rowsL l, a + rowsL l + p.2.1)]
  | [], p => by simp [spansL, rowsL]
  | q :: l, p => by
    have e : a + q.2.1 + rowsL l = a + rowsL (q :: l) := by rw [rowsL_cons]; omega
    simp only [List.cons_append, spansL, spansL_snoc (a + q.2.1) l p, e]
theorem spansL_len (a : Int) : ∀ l : List PageS, (spansL a l).length = l.length
  | [] => rfl
  | p :: l => by simp [spansL, spansL_len _ l]
theorem rowsL_snoc (l : List PageS) (p : PageS) : rowsL (l ++ [p]) = rowsL l + p.2.1 := by simp [rowsL]
/-- Rows of the groups ahead of group k. -/
def aheadR (G : List GroupS) (k : Nat) : Int := ((G.take k).map (·.1)).sum
/-- The pages of chunk c of group g. -/
def pagesAt (G : List GroupS) (g c : Nat) : List PageS := (G.getD g groupZ).2.getD c []
noncomputable def spansF (F : FootS) (g c : Int) : List (Int × Int) :=
  if rightF F && inB F.cols.length F.groups.length g c then spansL (aheadR F.groups g.toNat) (pagesAt F.groups g.toNat c.toNat) else []
theorem foot_group {F : FootS} (h : FootOk F) {k : Nat} (hk : k < F.groups.length) : GroupOk F.cols (F.groups.getD k groupZ) := h.2.1 _ (mem_getDF groupZ hk)

end Go.Hm

namespace Go.Proofs.Ytflaaahcoglflaa
open Go.RowKit Go.Hm
set_option maxHeartbeats 2000000 in
set_option maxRecDepth 100000 in
theorem hasChunk_any {w : World} {Ac Ag : Option Addr} {nl cc ng cg : Nat} {r g c : Int} :
    Calls Try.prog 30 #[.agg #[.slice Ac nl cc, .int .i64 r, .slice Ag ng cg], .int .i64 g, .int .i64 c] w (NewPost (.bool (inB nl ng g c)) w) := by
  have B0 := Blk.new w 25 #[.slice Ac nl cc, .int .i64 r, .slice Ag ng cg]
  have b0 : New w (w.alloc (.cells #[.slice Ac nl cc, .int .i64 r, .slice Ag ng cg] 25)) := (Below.refl _ _).alloc (Nat.le_refl _) _
  obtain ⟨x0, x1, x2⟩ := ccells B0
  obtain ⟨R, hR⟩ : ∃ R, R = inB nl ng g c := ⟨_, rfl⟩
  rw [← hR]
  unfold inB at hR
  by_cases h1 : 0 ≤ g <;> by_cases h2 : g < (ng : Int) <;> by_cases h3 : 0 ≤ c <;> by_cases h4 : c < (nl : Int)
  all_goals
    first
      | (have e : R = true := by rw [hR]; simp; omega)
      | (have e : R = false := by rw [hR]; simp; omega)
    subst e
    clear hR
    go_enter Try.func30, Try.ntmps30
    go_wp2
    all_goals
      first
        | (exfalso; omega)
        | (go_ret; exact ⟨rfl, b0⟩)
theorem inB_yes {nl ng : Nat} {g c : Int} (h : inB nl ng g c = true) : ∃ gk ck : Nat, g = (gk : Int) ∧ c = (ck : Int) ∧ gk < ng ∧ ck < nl := by
  unfold inB at h
  simp only [decide_eq_true_eq] at h
  exact ⟨g.toNat, c.toNat, by omega, by omega, by omega, by omega⟩
/-- What a right footer's rows are. -/
theorem foot_ahead {F : FootS} (h : FootOk F) {k : Nat} (hk : k < F.groups.length) : 0 ≤ aheadR F.groups k ∧ aheadR F.groups (k + 1) = aheadR F.groups k + (F.groups.getD k groupZ).1 ∧ aheadR F.groups (k + 1) ≤ 65536 ∧ 1 ≤ (F.groups.getD k groupZ).1 := by
  have h1 := sum_take_succ (fun g : GroupS => g.1) F.groups k groupZ hk
  have h2 := foot_rows h hk
  have h3 := sum_nonneg (fun g : GroupS => g.1) (F.groups.take k) (fun g hg => by have := (h.2.1 g (List.mem_of_mem_take hg)).1; omega)
  unfold aheadR
  exact ⟨h3, h1, by omega, (foot_group h hk).1⟩
theorem foot_chunk {F : FootS} (h : FootOk F) {k c : Nat} (hk : k < F.groups.length) (hc : c < F.cols.length) : ChunkOk (F.cols.getD c colZ).2.1 (F.cols.getD c colZ).2.2 (pagesAt F.groups k c) (F.groups.getD k groupZ).1 ∧ (F.groups.getD k groupZ).2.length = F.cols.length := by
  have := foot_group h hk
  exact ⟨this.2.2 c hc, this.2.1⟩
theorem rowsL_take {t : Int} {nu : Bool} {l : List PageS} {r : Int} (h : ChunkOk t nu l r) {k : Nat} (hk : k < l.length) :
    0 ≤ rowsL (l.take k) ∧ rowsL (l.take (k + 1)) = rowsL (l.take k) + (l.getD k pageZ).2.1 ∧ rowsL (l.take (k + 1)) ≤ r := by
  have h1 := sum_take_succ (fun p : PageS => p.2.1) l k pageZ hk
  have h2 := sum_take_le (fun p : PageS => p.2.1) l (k + 1) (fun p hp => by have := (pageB_most.1 (h.1 p hp)).1; omega)
  have h3 := sum_nonneg (fun p : PageS => p.2.1) (l.take k) (fun p hp => by have := (pageB_most.1 (h.1 p (List.mem_of_mem_take hp))).1; omega)
  have h4 := h.2
  unfold rowsL at *
  exact ⟨h3, h1, by omega⟩
set_option maxHeartbeats 4000000 in
set_option maxRecDepth 100000 in
theorem fspans_any {w : World} {Ac : Option Addr} {cc : Nat} {L : List ColS} {r : Int} {Ag : Option Addr} {cg : Nat} {G : List GrD} (h : FootIn w Ac cc L Ag G) (hp : ∀ g ∈ G, ∀ x ∈ g.2.2.2, ∀ p ∈ x.2.2, statFine p.2.2) (hcg : G.length ≤ cg) {g c : Int} :
    Calls Try.prog 14 #[footA Ac cc L r Ag cg G, .int .i64 g, .int .i64 c] w (SpansPost (spansF (footP L r G) g c) w) := by
  have HR := fun (W : World) (hW : New w W) => fright_any (r := r) (cc := cc) (cg := cg) (h.later hW) hp
  have HH := Lib.hid (fun (W : World) => hasChunk_any (w := W) (Ac := Ac) (Ag := Ag) (nl := L.length) (cc := cc) (ng := G.length) (cg := cg) (r := r) (g := g) (c := c))
  have hX : spansF (footP L r G) g c = if rightF (footP L r G) && inB L.length G.length g c then spansL (aheadR (G.map grP) g.toNat) (pagesAt (G.map grP) g.toNat c.toNat) else [] := by
    unfold spansF footP
    simp only [List.length_map]
  have hF : rightF (footP L r G) = true → FootOk (footP L r G) := fun e => by unfold rightF at e; simpa using e
  have B0 := Blk.new w 25 #[.slice Ac L.length cc, .int .i64 r, .slice Ag G.length cg]
  have b0 : New w (w.alloc (.cells #[.slice Ac L.length cc, .int .i64 r, .slice Ag G.length cg] 25)) := (Below.refl _ _).alloc (Nat.le_refl _) _
  obtain ⟨x0, x1, x2⟩ := ccells B0
  have HG := Lib.hid h.groups
  have HCH := Lib.hid h.chunks
  have HPG := Lib.hid h.pages
  have hfew2 := h.few2
  have hB := @inB_yes L.length G.length g c
  clear h hp
  generalize inB L.length G.length g c = I at *
  show Calls Try.prog 14 #[.agg #[.slice Ac L.length cc, .int .i64 r, .slice Ag G.length cg], .int .i64 g, .int .i64 c] w (SpansPost (spansF (footP L r G) g c) w)
  generalize spansF (footP L r G) g c = X at *
  generalize rightF (footP L r G) = M at *
  have HR : Hid (∀ W, New w W → Calls Try.prog 11 #[.agg #[.slice Ac L.length cc, .int .i64 r, .slice Ag G.length cg]] W (NewPost (.bool M) W)) := Lib.hid HR
  cases M with
  | false =>
    obtain rfl : X = [] := by rw [hX]; rfl
    clear hX hF hB
    go_enter Try.func14, Try.ntmps14
    go_wp2_with fail
    refine (HR.out _ b0).mono ?_
    rintro e w1 ⟨rfl, b1⟩
    have b01 := New.trans b0 b1
    clear b0 b1
    go_wp2
    go_ret
    exact ⟨none, 0, 0, rfl, row_nil, b01⟩
  | true =>
    have hok := hF rfl
    clear hF
    cases I with
    | false =>
      obtain rfl : X = [] := by rw [hX]; rfl
      clear hX hB
      go_enter Try.func14, Try.ntmps14
      go_wp2_with fail
      refine (HR.out _ b0).mono ?_
      rintro e w1 ⟨rfl, b1⟩
      have B1 := B0.below b1 B0.lt
      have b01 := New.trans b0 b1
      clear b0 b1 B0 x0 x1 x2
      obtain ⟨x0, x1, x2⟩ := ccells B1
      go_wp2_with fail
      refine (HH.out _).mono ?_
      rintro e w2 ⟨rfl, b2⟩
      have b02 := New.trans b01 b2
      clear b01 b2
      go_wp2
      go_ret
      exact ⟨none, 0, 0, rfl, row_nil, b02⟩
    | true =>
      obtain ⟨gk, ck, rfl, rfl, hgk, hck⟩ := hB rfl
      clear hB
      replace hX : X = spansL (aheadR (G.map grP) gk) (pagesAt (G.map grP) gk ck) := hX
      have hAH := fun (k : Nat) (hk : k < G.length) => foot_ahead hok (k := k) (by unfold footP; simpa using hk)
      have hCK := foot_chunk hok (k := gk) (c := ck) (by unfold footP; simpa using hgk) hck
      unfold footP at hAH hCK
      dsimp only at hAH hCK
      have hMap := fun (k : Nat) (hk : k < G.length) => getD_mapX grP G (k := k) grZ groupZ hk
      have HAH := Lib.hid (fun (k : Nat) (hk : k < G.length) => show 0 ≤ aheadR (G.map grP) k ∧ aheadR (G.map grP) (k + 1) = aheadR (G.map grP) k + (G.getD k grZ).1 ∧ aheadR (G.map grP) (k + 1) ≤ 65536 ∧ 1 ≤ (G.getD k grZ).1 by
        have := hAH k hk
        rw [hMap k hk] at this
        exact this)
      have h65 := hAH gk hgk
      rw [hMap gk hgk] at h65
      have hMG := hMap gk hgk
      unfold pagesAt at hX hCK
      rw [hMG] at hX hCK
      have ha0 : aheadR (G.map grP) 0 = 0 := rfl
      have HA0 := Lib.hid ha0
      generalize hAR : aheadR (G.map grP) = AR at *
      clear hAR hAH hMap hMG ha0
      go_enter Try.func14, Try.ntmps14
      go_wp2_with fail
      refine (HR.out _ b0).mono ?_
      rintro e w1 ⟨rfl, b1⟩
      have B1 := B0.below b1 B0.lt
      have b01 := New.trans b0 b1
      clear b0 b1 B0 x0 x1 x2
      obtain ⟨x0, x1, x2⟩ := ccells B1
      go_wp2_with fail
      refine (HH.out _).mono ?_
      rintro e w2 ⟨rfl, b2⟩
      have B2 := B1.below b2 B1.lt
      have b02 := New.trans b01 b2
      clear b01 b2 B1 x0 x1 x2 HR HH
      obtain ⟨x0, x1, x2⟩ := ccells B2
      have hcg2 : (gk : Int) ≤ (cg : Int) := by omega
      go_wp2_with fail
      clear x0 x1 x2
      go_loopw [7, 28] (fun a i wr => ∃ k : Nat, k ≤ gk ∧ i = .int .i64 (k : Int) ∧ a = .int .i64 (AR k) ∧ Blk wr w.heap.size 25 #[.slice Ac L.length cc, .int .i64 r, .slice Ag G.length cg] ∧ New w wr) (fun _ i _ => gk - (intOf i).toNat)
      case atStart => exact ⟨0, Nat.zero_le _, rfl, by rw [HA0.out], B2, b02⟩
      case round =>
        obtain ⟨k, hk, rfl, rfl, B, b⟩ := hrel
        clear B2 b02
        by_cases hlt : k < gk
        · obtain ⟨ad, rfl, hb, d0, d1⟩ := (Reads.later HG.out b).gr2 (i := k) (by omega)
          obtain ⟨a1, a2, a3, a4⟩ := HAH.out k (by omega)
          have HA2 := Lib.hid a2
          have hq : AR k + (G.getD k grZ).1 ≤ 65536 := by omega
          have hq0 : 0 ≤ AR k + (G.getD k grZ).1 := by omega
          clear a2 a3 a4 hX h65 hCK
          generalize AR k = ak at *
          generalize G.getD k grZ = gg at *
          obtain ⟨gr, Ach, cch, D⟩ := gg
          dsimp only at d0 d1 HA2 hq hq0
          have ha : New wr (wr.alloc (.cells #[.int .i64 gr, .slice Ach D.length cch] 43)) := (Below.refl _ _).alloc (Nat.le_refl _) _
          have BG := Blk.new wr 43 #[.int .i64 gr, .slice Ach D.length cch]
          have B3 := B.below ha B.lt
          have b3 := New.trans b ha
          obtain ⟨z0, z1⟩ := cells2 BG
          clear B b ha BG
          go_wp2_with fail
          go_roundw
          case rel => exact ⟨k + 1, by omega, by go_num, by rw [HA2.out], B3, b3⟩
          case measure => simp [intOf]; omega
        · obtain rfl : k = gk := by omega
          obtain ⟨x0, x1, x2⟩ := ccells B
          obtain ⟨ad, rfl, hb, d0, d1⟩ := (Reads.later HG.out b).gr2 hgk
          have hgm := mem_getDF grZ hgk
          have hch := HCH.out _ hgm
          have hpg := HPG.out _ hgm
          clear hlt HAH hk hb hgm
          generalize G.getD k grZ = gg at *
          obtain ⟨gr, Ach, cch, D⟩ := gg
          unfold grP at hCK hX h65
          dsimp only at d0 d1 hCK hX h65 hch hpg
          have hD : D.length = L.length := by have := hCK.2; simpa using this
          have hckD : ck < D.length := by omega
          rw [getD_mapX (fun x : ChD => x.2.2) D chZ [] hckD] at hCK hX
          obtain ⟨ac, rfl, hbc, e0⟩ := (Reads.later hch.1 b).ch1 hckD
          have hxm := mem_getDF chZ hckD
          have hpx := hpg _ hxm
          clear hpg hch hxm hbc
          have hCK := hCK.1
          generalize D.getD ck chZ = x at *
          obtain ⟨Ax, cx, pl⟩ := x
          dsimp only at e0 hpx hCK hX
          have HPL := Lib.hid hpx.1
          have hpn := hpx.2
          have RT := Lib.hid (fun (q : Nat) (hq : q < pl.length) => rowsL_take hCK hq)
          have h65a : 0 ≤ AR k := h65.1
          have h65b : AR k + gr ≤ 65536 := by omega
          have hplr := (rowsL_pos hCK.1).2
          have hgr := hCK.2
          have HX := Lib.hid hX
          generalize AR k = a0 at *
          have HCK := Lib.hid hCK
          clear hpx h65 hok hCK hX
          have hDi : (ck : Int) < (D.length : Int) := by omega
          go_wp2_with fail
          clear x0 x1 x2 d0 d1 e0
          go_loopw [10, 7, 47] (fun v a i wr => ∃ (q : Nat) (A : Option Addr) (d : Nat), q ≤ pl.length ∧ i = .int .i64 (q : Int) ∧ v = .slice A q d ∧ a = .int .i64 (a0 + rowsL (pl.take q)) ∧ wr.ownsRow w.heap.size 45 2 (.slice A q d) q (pairs (spansL a0 (pl.take q))) ∧ New w wr) (fun _ _ i _ => pl.length - (intOf i).toNat)
          case atStart => exact ⟨0, none, 0, Nat.zero_le _, rfl, rfl, by simp [rowsL], row_nil, b⟩
          case round =>
            obtain ⟨q, A, d, hq, rfl, rfl, rfl, o, b⟩ := hrel
            by_cases hlq : q < pl.length
            · obtain ⟨ap, rfl, hbp, d0, d1, d2, d3, d4, d5, d6, d7, d8, d9, d10, d11, d12, d13⟩ := (Reads.later HPL.out b).page14 hlq
              obtain ⟨r1, r2, r3⟩ := RT.out q hlq
              have htk := take_snoc pl q pageZ hlq
              have hsn := spansL_snoc a0 (pl.take q) (pl.getD q pageZ)
              rw [← htk] at hsn
              have HS := Lib.hid hsn
              have H2 := Lib.hid r2
              have b65 : a0 + (rowsL (pl.take q) + (pl.getD q pageZ).2.1) ≤ 65536 := by omega
              have b0 : 0 ≤ a0 + (rowsL (pl.take q) + (pl.getD q pageZ).2.1) := by have := ((pageB_most.1 (HCK.out.1 _ (mem_getDF pageZ hlq))).1); omega
              clear r2 r3 htk hsn hbp
              generalize rowsL (pl.take q) = rq at *
              generalize pl.getD q pageZ = p at *
              obtain ⟨sz, rw, nn, bb, ⟨p1, p2, p3, p4, p5⟩, ⟨q1, q2, q3, q4, q5⟩⟩ := p
              dsimp only at d0 d1 d2 d3 d4 d5 d6 d7 d8 d9 d10 d11 d12 d13 HS H2 b65 b0
              have ha : New wr (wr.alloc (.cells #[.int .i64 sz, .int .i64 rw, .int .i64 nn, .bool bb, .bool p1, .int .i64 p2, .string (bstr p3), .int .i64 p4, .int .i64 p5, .bool q1, .int .i64 q2, .string (bstr q3), .int .i64 q4, .int .i64 q5] 53)) := (Below.refl _ _).alloc (Nat.le_refl _) _
              have BP := Blk.new wr 53 #[.int .i64 sz, .int .i64 rw, .int .i64 nn, .bool bb, .bool p1, .int .i64 p2, .string (bstr p3), .int .i64 p4, .int .i64 p5, .bool q1, .int .i64 q2, .string (bstr q3), .int .i64 q4, .int .i64 q5]
              have o2 := row_later o ha
              have b2 := New.trans b ha
              have z0 := b2.size
              obtain ⟨e0, e1, e2, e3, e4, e5, e6, e7, e8, e9, e10, e11, e12, e13⟩ := cells14 BP
              have hq6 : q ≤ 65536 := by omega
              clear o b ha
              go_wp2_with (refine wpList_pushR elP rfl (.tmp 51) (.tmp 58) rfl (W := w) (B := w.heap.size) (base := w.heap.size) (n := q) o2 rfl (by simp only [World.size_alloc]; rfl) b2 (Nat.le_refl _) z0 rfl (by simp [Value.oneCell']) (by omega) (by simp only [maxLen]; omega) ?_
                           intro A' c' w' _ _ o' g' b' _ _
                           have BP2 := BP.grown g' (fun e => row_blk_ne o2 BP (by decide) e.symm)
                           obtain ⟨f0, f1, f2, f3, f4, f5, f6, f7, f8, f9, f10, f11, f12, f13⟩ := cells14 BP2)
              go_roundw
              case rel => exact ⟨q + 1, A', c', by omega, by go_num, rfl, by rw [H2.out]; congr 1; omega, by rw [HS.out, pairs_snoc]; exact o', b'⟩
              case measure => simp [intOf]; omega
            · obtain rfl : q = pl.length := by omega
              rw [List.take_length] at o
              have O := Lib.hid o
              clear o
              go_wp2
              go_ret
              exact ⟨A, pl.length, d, rfl, by rw [HX.out]; exact O.out, b⟩

end Go.Proofs.Ytflaaahcoglflaa
