/- What runs.layRest lays; regions that draw their order, in a round of a loop over a function. -/
import Derived.OrdersIn
import Derived.RangeFuncCalls
import Derived.OwnWalkIn
import Derived.Laws.OwnMore
import Derived.Test.YtlelepopdjoedaaUpT
import Derived.Test.YtlelepopdjoedaaVarG
import Derived.Test.YtlelepopdjoedaaPackB
import Derived.Test.YtlelepopdjoedaaRunE

namespace Go.Hm
open Go.RowKit

section
variable {P : Program} {ops : Array Oper} {Q : Exit → Act → World → Prop} {l n : Nat}
theorem upon_in {o : Oper} {a : Act} {K : Act → World → Prop} : ∀ {r : Result Next}, o.upon P a K Q r → o.uponIn (Fence.wide.inRound l) n P a K Q r
  | .ok (.value _) _, h => h
  | .ok .skip _, h => h
  | .ok (.defer _) _, h => h
  | .ok (.enter _ _) _, h => ⟨fun e => (by cases e), CallsIn.inRound l (callsIn_wide.2 h)⟩
  | .ok (.row _ _) _, h => ⟨fun e => (by cases e), fun c cs _ => (match h c cs with | ⟨v, w', r, s⟩ => ⟨v, w', r, stepsIn_wide.2 s⟩)⟩
  | .ok (.round _ _ _ _ _) _, h => h.elim
  | .halt (.panic _) _, h => h
  | .halt (.unsupported _) _, h => h.elim
  | .halt .blocked _, h => h.elim
  | .halt .waiting _, h => h.elim
  | .halt _ _, h => by
    revert h
    rename_i x w
    cases x <;> intro h <;> first | exact h | exact h.elim
def noDef (ops : Array Oper) : Bool := ops.all fun o => match o.op with
  | .defer _ => false
  | _ => true
theorem noDef_spec (h : noDef ops = true) {i : Nat} {o : Oper} (hi : ops[i]? = some o) : ∀ c, o.op ≠ .defer c := by
  intro c hc
  unfold noDef at h
  rw [Array.all_eq_true] at h
  obtain ⟨hlt, rfl⟩ := Array.getElem?_eq_some_iff.1 hi
  have := h i hlt
  rw [hc] at this
  cases this
theorem op_in {o : Oper} {a : Act} {w : World} {K : Act → World → Prop} (hd : ∀ c, o.op ≠ .defer c) (h : o.wp P a w K Q) : o.wpIn (Fence.wide.inRound l) n P a w K Q :=
  ⟨fun _ _ => trivial, by rw [Oper.semAt_plain _ _ _ hd]; exact upon_in h⟩
theorem any_in {md : Region.Mode} (hno : ¬ LetsOut Q) (hd : noDef ops = true) : ∀ (fuel : Nat) (listed : Array Bool) (a : Act) (w : World), wpAny P md ops Q fuel listed a w → wpAnyIn (Fence.wide.inRound l) n P md ops Q fuel listed a w
  | 0, _, _, _, h => h
  | fuel + 1, listed, a, w, h => ⟨h.1, fun i hi => by
    have h1 := h.2 i hi
    unfold wpOp at h1
    unfold wpOpIn
    cases ho : ops[i]? with
    | none =>
      rw [ho] at h1
      exact any_in hno hd fuel _ _ _ h1
    | some o =>
      rw [ho] at h1
      dsimp only at h1 ⊢
      split
      · rename_i hw
        rw [if_pos hw] at h1
        rcases h1 with h1 | h1
        · exact Oper.wpIn_mono (fun a w h => any_in hno hd fuel _ a w h) (op_in (noDef_spec hd ho) h1)
        · exact absurd h1.2 hno
      · rename_i hw
        rw [if_neg hw] at h1
        exact ⟨fun _ _ => trivial, any_in hno hd fuel _ _ _ h1⟩⟩
theorem wpIn_region_upT {id : Nat} {a : Act} {w : World} (R : World → World → Prop) (t0 : Nat) (ord : List (Nat × Nat)) (hrefl : ∀ w, R w w) (htrans : ∀ {x y z}, R x y → R y z → R x z) (hm : P.follows .mixedOrders = true)
    (hno : ∀ a w, ¬ Q .outgrown a w) (hd : noDef ops = true) (hs : Region.noSelect ops = true) (hl : (decide (ord.length ≤ ops.size) && ord.all fun x => decide (x.2 < ops.size)) = true) (hok : upOkT ops t0 (Array.replicate ops.size false) ord = true) (h : wpUpT P ops R Q t0 ord false a w.drew) : (Code.region id ops true).wpIn (Fence.wide.inRound l) n P Q a w := by
  simp only [Bool.and_eq_true, decide_eq_true_eq, List.all_eq_true] at hl
  refine wpIn_mono (wpIn_region_any (Q := NoPanic Q) hm (any_in ?_ hd _ _ _ _ (wpAny_of_T _ _ _ _ (wpAnyT_of_up hrefl htrans hs ord ops.size _ false a _ (by simp) ?_ hl.1 hok h)))) NoPanic.imp
  · rintro ⟨a, w, h⟩
    exact hno a w h
  · intro i hi
    simp only [List.mem_map] at hi
    obtain ⟨x, hx, rfl⟩ := hi
    rw [Array.size_replicate]
    exact hl.2 x hx
end

end Go.Hm

namespace Go.Proofs.Ytlelepopdjoedaa
open Go.RowKit Go.Hm
/-- A rest's bytes behind the number of its length. -/
def restB (L : List Nat) : List Nat := wid L :: low (pk (wid L) L) ((wid L * L.length + 7) / 8)
set_option maxRecDepth 100000 in
theorem layRest_any {w : World} {A : Option Addr} {c : Nat} {L : List Nat} (h : Reads w w.heap.size 1 A L.length (nums .u64 L)) (hL : ∀ x ∈ L, x ≤ 18446744073709551615) (hl : L.length ≤ 65536) :
    Calls Try.prog 21 #[.slice A L.length c] w (OptB (some (restB L)) w) := by
  have W := Lib.hid (width_any (c := c) h hL (by omega))
  have hw := wid_le L hL
  have PO := packO_some L (wid L) hw hl (Nat.le_refl _)
  have hn : (wid L * L.length + 7) / 8 ≤ 524288 := by
    have := Nat.mul_le_mul hw hl
    omega
  have K := Lib.hid (pack_any (c := c) (wid L : Int) h hL (by omega) (by omega) (by omega))
  rw [PO] at K
  have hlen : (low (pk (wid L) L) ((wid L * L.length + 7) / 8)).length = (wid L * L.length + 7) / 8 := low_len _ _
  have HP : Hid (restB L = [wid L] ++ low (pk (wid L) L) ((wid L * L.length + 7) / 8)) := Lib.hid rfl
  clear PO hL
  generalize restB L = RB at *
  generalize low (pk (wid L) L) ((wid L * L.length + 7) / 8) = B at *
  generalize (wid L * L.length + 7) / 8 = m at *
  generalize wid L = q at *
  subst hlen
  go_enter Try.func21, Try.ntmps21
  go_wp2_with fail
  refine W.out.mono ?_
  rintro e w1 ⟨rfl, rfl⟩
  go_wp2_with fail
  refine K.out.mono ?_
  rintro e w2 ⟨A2, n2, c2, rfl, o2, b2⟩
  obtain rfl : n2 = B.length := by have := o2.len; rwa [nums_length] at this
  clear W K
  have hwq : IntKind.u8.wrap (q : Int) = (q : Int) := by rw [IntKind.wrap_u8]; omega
  go_wp2_with (first
    | (refine wpList_pushesN elB rfl (.tmp 17) (.tmp 18) rfl (W := w) (B := w.heap.size) (k := .u8) (l := [q]) (l2 := B) (c2 := c2) (World.ownsRow_lit (e := 5) (size := 1) (base := w.heap.size) w2 #[.int .u8 (q : Int)] 1 b2.size (by decide) rfl) ((o2.reads.alloc (Nat.le_refl _) _).more (by simp)) rfl rfl (b2.alloc b2.size _) (Nat.le_refl _) (by have := b2.size; simp; omega) (by omega) (by simp only [maxLen]; omega) ?_
       intro A3 c3 w3 _ _ o3 _ b3 _))
  go_ret2
  refine ⟨A3, _, c3, rfl, ?_, b3⟩
  rw [HP.out]
  exact o3

end Go.Proofs.Ytlelepopdjoedaa
