/- Appends that come up in a drawn region; the reference's ReadNum; six numbers in an array. -/
import Derived.Test.YtpnlfljndkfplaaNQp
import Derived.Test.YtpnlfljndkfplaaNRd
import Derived.OrdersHeld
import Derived.Maps.AppendAt
import Derived.Laws.AppendOwnNone
namespace Go.Proofs.Ytpnlfljndkfplaa
open Go.RowKit
variable {w w' w2 : World} {g : Nat}

theorem BR.runs {ao so : Option Addr} {n cap m c : Nat} {Z Y : List Int} (h : BR w ao n cap Z) (S : BS w so m c Y) (hb : n + m ≤ 140737488355328) (ty : TypeId) :
    ∃ bo cap2 w2, (Builtin.append_ #[26, 26] ty #[.slice ao n cap, .slice so m c]).run Try.prog w = .ok (.slice bo (n + m) cap2) w2 ∧ BR w2 bo (n + m) cap2 (Z ++ Y) ∧ Ap w w2 ao bo := by
  obtain ⟨i0, hi, hz0, hz1, hz2⟩ := info_parts infoB
  cases so with
  | none =>
    obtain ⟨rfl, rfl⟩ := S.nil rfl
    have e := List.eq_nil_of_length_eq_zero S.len
    subst e
    have hrun := run_append_owned_none (P := Try.prog) (w := w) 0 26 ty 5 i0 1 Try.underlying26 hi _ n (bcs Z) h
    exact ⟨ao, cap, w, hrun, by rw [List.append_nil]; exact h, Ap.refl _ _⟩
  | some ad =>
    obtain ⟨v', w2, hrun, hown, hgrow, hnil, hat⟩ := run_append_own_at (P := Try.prog) w 0 26 ty 5 i0 (.int .u8 0) 1 1 Try.underlying26 hi hz0 hz1 hz2 rfl (by decide) (.slice ao n cap) n (bcs Z) h ad m c (bcs Y) (by rw [bcs_length, S.len, Nat.mul_one]) (fun j u hj => by
      have hl : j < Y.length := by rw [← bcs_length]; exact (List.getElem?_eq_some_iff.1 hj).1
      rw [bcs_at Y j hl] at hj
      rw [S.cell ad rfl j (by rw [← S.len]; exact hl)]
      exact hj) (bcs_one Y) (by unfold maxLen; omega) (by omega) (Nat.zero_le _)
    rw [← bcs_append] at hown
    obtain ⟨bo, c2, rfl, hB⟩ := BR.out hown
    rw [ownBlock_blk] at hgrow
    rw [ownBlock_blk, ownBlock_blk] at hat
    refine ⟨bo, c2, w2, hrun, hB, ⟨hgrow, ?_⟩⟩
    rcases hat with e | e
    · exact Or.inl e
    · exact Or.inr ⟨_, e, Nat.le_refl _⟩
/-- append as an operation that comes up -/
theorem step_app {W : World} {ops : Array Oper} {o : Oper} {a : Act} {K : Act → World → Prop} {Q : Exit → Act → World → Prop} {E : Prop} {v1 v2 v' : Value} {w2 : World} (hgd : o.guard = none) (s x : Operand) (ho : o.op = .call { callee := .builtin .append, args := #[s, x], argTypes := #[26, 26] })
    (hs : a.eval s = v1) (hx : a.eval x = v2) (hrun : (Builtin.append_ #[26, 26] o.type #[v1, v2]).run Try.prog W = .ok v' w2) (hK : K (a.put o.dst v') w2) :
    if Region.wanted o (yielded ops a.tmps) = true then Oper.wp Try.prog o a W K Q else E := by
  have hw : Region.wanted o (yielded ops a.tmps) = true := by simp [Region.wanted, hgd]
  rw [if_pos hw]
  unfold Oper.wp
  simp [execOp, ho, resolve, invoke, builtin, hs, hx, hrun, Result.andThen]
  exact hK
theorem step_appP {W : World} {ops : Array Oper} {o : Oper} {a : Act} {K : Act → World → Prop} {Q : Exit → Act → World → Prop} {E : Prop} {v1 v2 v' : Value} {w2 : World} (hgd : o.guard = none) (s x : Operand) (ho : o.op = .call { callee := .builtin .append, args := #[s, x], argTypes := #[22, 22] })
    (hs : a.eval s = v1) (hx : a.eval x = v2) (hrun : (Builtin.append_ #[22, 22] o.type #[v1, v2]).run Try.prog W = .ok v' w2) (hK : K (a.put o.dst v') w2) :
    if Region.wanted o (yielded ops a.tmps) = true then Oper.wp Try.prog o a W K Q else E := by
  have hw : Region.wanted o (yielded ops a.tmps) = true := by simp [Region.wanted, hgd]
  rw [if_pos hw]
  unfold Oper.wp
  simp [execOp, ho, resolve, invoke, builtin, hs, hx, hrun, Result.andThen]
  exact hK
theorem Ap.newA {o : Obj} {ao bo : Option Addr} (h : Ap (w.alloc o) w2 ao bo) : Ap w w2 ao bo := (Ap.new w o ao).trans h
theorem PR.out {v : Value} {n : Nat} {Q : List Pt} (h : w.ownsRow 0 46 2 v n (pcs Q)) : ∃ ao c, v = .slice ao n c ∧ PR w ao n c Q := by
  rcases h.2 with ⟨h0, h00⟩ | ⟨q, cap2, cur, hv, r⟩
  · subst h0 h00
    exact ⟨none, 0, rfl, h⟩
  · subst hv
    exact ⟨_, _, rfl, h⟩
theorem PR.nil (w : World) : PR w none 0 0 [] := World.ownsRow_nil _ _ _ _
theorem PR.runs {ao : Option Addr} {n c : Nat} {Q : List Pt} {p : Pt} (h : PR w ao n c Q) (hb : n + 1 ≤ 4000000000000) (ty : TypeId) :
    ∃ bo c2 w2, (Builtin.append_ #[22, 22] ty #[.slice ao n c, .slice (some ⟨w.heap.size, 0, none⟩) 1 1]).run Try.prog (w.alloc (.cells #[.int .i64 p.cart, .slice p.vo p.vn p.vc] 46)) = .ok (.slice bo (n + 1) c2) w2 ∧ PR w2 bo (n + 1) c2 (Q ++ [p]) ∧ Ap w w2 ao bo := by
  obtain ⟨i0, hi, hz0, hz1, hz2⟩ := info_parts infoP
  have e : (Value.agg #[.int .i64 0, .slice none 0 0]).cells.size = 2 := by simp [Value.cells]
  have hk : PR (w.alloc (.cells #[.int .i64 p.cart, .slice p.vo p.vn p.vc] 46)) ao n c Q := h.keep fun k e => Below.heap_alloc w _ k (h.lt k e)
  obtain ⟨v', w2, hrun, hown, hgrow, hnil, hat⟩ := run_append_own_at (P := Try.prog) (w.alloc (.cells #[.int .i64 p.cart, .slice p.vo p.vn p.vc] 46)) 0 22 ty 46 i0 (.agg #[.int .i64 0, .slice none 0 0]) 2 32 Try.underlying22 hi hz0 hz1 hz2 e (by decide) (.slice ao n c) n (pcs Q) hk ⟨w.heap.size, 0, none⟩ 1 1 (pcs [p]) (by rw [pcs_length]; rfl) (fun j u hj => by
    rw [Addr.add_lit, Nat.zero_add, World.cell?_alloc_new]
    simpa [pcs, PC] using hj) (pcs_one [p]) (by unfold maxLen; omega) (by omega) (Nat.zero_le _)
  rw [← pcs_append] at hown
  obtain ⟨bo, c2, rfl, hP⟩ := PR.out hown
  rw [ownBlock_blk] at hgrow
  rw [ownBlock_blk, ownBlock_blk] at hat
  refine ⟨bo, c2, w2, hrun, hP, Ap.newA ⟨hgrow, ?_⟩⟩
  rcases hat with e | e
  · exact Or.inl e
  · exact Or.inr ⟨_, e, Nat.le_refl _⟩
/-! ### ReadNum -/
theorem nmE_mx (Z : List Int) (h : (rdN Z 0).2.2 = 0) : nmE Z 9223372036854775807 = 0 := by
  unfold nmE
  rw [if_neg (by simpa using h), if_neg]
  have := scan_lt Z 0 9 0 (by omega)
  unfold rdN
  omega
theorem rn_ok (ao : Option Addr) (n cap : Nat) (Z : List Int) (a : Nat) (w : World) (hS : Src w ao n cap Z) (ha : a ≤ n) (hn : n ≤ 140737488355328) (h : nmE (Z.drop a) 9223372036854775807 = 0) :
    Calls Try.prog 29 #[.slice ao n cap, .int .i64 a] w fun e w' => e = .returned (.tuple #[.int .i64 (nmV (Z.drop a) : Int), .int .i64 ((a + nmK (Z.drop a) : Nat) : Int), .int .i64 0]) ∧ w' = w := by
  have hr := refRead_any ao n cap Z a w hS ha (by omega)
  have hk := (nm_ok h).1
  rw [rdN_drop] at hk
  unfold rdA p3 at hr
  rw [hk] at hr
  simpa using hr
theorem rn_bad (ao : Option Addr) (n cap : Nat) (Z : List Int) (a : Nat) (w : World) (hS : Src w ao n cap Z) (ha : a ≤ n) (hn : n ≤ 140737488355328) (h : nmE (Z.drop a) 9223372036854775807 ≠ 0) :
    Calls Try.prog 29 #[.slice ao n cap, .int .i64 a] w fun e w' => ∃ x y z, z ≠ 0 ∧ e = .returned (.tuple #[.int .i64 x, .int .i64 y, .int .i64 z]) ∧ w' = w := by
  have hr := refRead_any ao n cap Z a w hS ha (by omega)
  have hz : (rdN Z a).2.2 ≠ 0 := fun e => h (nmE_mx _ (by rw [rdN_drop]; exact e))
  refine hr.mono ?_
  rintro e w' ⟨rfl, rfl⟩
  unfold rdA p3
  rw [if_neg hz]
  exact ⟨_, _, _, hz, rfl, rfl⟩
/-! ### six numbers -/
def up6 (f : Nat → Nat) (k v : Nat) : Nat → Nat := fun j => if j = k then v else f j
def HC (f : Nat → Nat) : Array Value := #[.int .i64 (f 0 : Int), .int .i64 (f 1 : Int), .int .i64 (f 2 : Int), .int .i64 (f 3 : Int), .int .i64 (f 4 : Int), .int .i64 (f 5 : Int)]
def HBx (w : World) (g : Nat) (f : Nat → Nat) : Prop := w.heap[g]? = some (.cells (HC f) 51 (0, 0))
theorem HBx.lt {f : Nat → Nat} (h : HBx w g f) : g < w.heap.size := (Array.getElem?_eq_some_iff.1 h).1
theorem HBx.c {f : Nat → Nat} (h : HBx w g f) (k : Nat) (hk : k < 6) : w.cell? ⟨g, k, none⟩ = some (.int .i64 (f k : Int)) := by
  unfold HBx at h
  match k, hk with
  | 0, _ => simp [World.cell?, h, HC]
  | 1, _ => simp [World.cell?, h, HC]
  | 2, _ => simp [World.cell?, h, HC]
  | 3, _ => simp [World.cell?, h, HC]
  | 4, _ => simp [World.cell?, h, HC]
  | 5, _ => simp [World.cell?, h, HC]
theorem HBx.z {f : Nat → Nat} (h : HBx w g f) (j : Nat) : w.frozen? ⟨g, j, none⟩ = false := by unfold HBx at h; simp [World.frozen?, h]
theorem HBx.set {f : Nat → Nat} (h : HBx w g f) (k v : Nat) (hk : k < 6) : HBx (w.setCell ⟨g, k, none⟩ (.int .i64 (v : Int))) g (up6 f k v) := by
  have := set_heap w g _ _ _ k (.int .i64 (v : Int)) h
  unfold HBx
  rw [this]
  match k, hk with
  | 0, _ => rfl
  | 1, _ => rfl
  | 2, _ => rfl
  | 3, _ => rfl
  | 4, _ => rfl
  | 5, _ => rfl
/-- what is still to be read, so many numbers of the six and the parts -/
def qT : Nat → (Nat → Nat) → List Int → Option (Pm × List Int)
  | 0, f, Z =>
    match qParts (f 5) Z with
    | none => none
    | some (P, R) => some (⟨f 0, f 1, f 2, f 3, f 4, P⟩, R)
  | j + 1, f, Z =>
    match pNum 9223372036854775807 Z with
    | none => none
    | some (v, Z1) => qT j (up6 f (5 - j) v) Z1
theorem qMail_T (Z : List Int) : qMail Z = qT 6 (fun _ => 0) Z := by
  unfold qMail
  simp only [qT]
  cases pNum 9223372036854775807 Z with
  | none => rfl
  | some x1 =>
    simp only
    cases pNum 9223372036854775807 x1.2 with
    | none => rfl
    | some x2 =>
      simp only
      cases pNum 9223372036854775807 x2.2 with
      | none => rfl
      | some x3 =>
        simp only
        cases pNum 9223372036854775807 x3.2 with
        | none => rfl
        | some x4 =>
          simp only
          cases pNum 9223372036854775807 x4.2 with
          | none => rfl
          | some x5 =>
            simp only
            cases pNum 9223372036854775807 x5.2 with
            | none => rfl
            | some x6 => rfl
theorem qT_bad {j : Nat} {f : Nat → Nat} {Z : List Int} (h : nmE Z 9223372036854775807 ≠ 0) : qT (j + 1) f Z = none := by unfold qT pNum; rw [if_neg h]
theorem qT_ok {j : Nat} {f : Nat → Nat} {Z : List Int} (h : nmE Z 9223372036854775807 = 0) : qT (j + 1) f Z = qT j (up6 f (5 - j) (nmV Z)) (Z.drop (nmK Z)) := by rw [qT]; unfold pNum; rw [if_pos h]
theorem qParts_bad1 {i : Nat} {Z : List Int} (h : nmE Z 9223372036854775807 ≠ 0) : qParts (i + 1) Z = none := by rw [qParts]; unfold pNum; rw [if_neg h]
theorem qParts_bad2 {i : Nat} {Z : List Int} (h : nmE Z 9223372036854775807 = 0) (h2 : pcE (Z.drop (nmK Z)) (Z.drop (nmK Z)).length ≠ 0) : qParts (i + 1) Z = none := by
  rw [qParts]
  unfold pNum
  rw [if_pos h]
  simp only [pFrm]
  rw [if_neg h2]
theorem qParts_ok {i : Nat} {Z Z1 : List Int} (h : nmE Z 9223372036854775807 = 0) (hz : Z.drop (nmK Z) = Z1) (h2 : pcE Z1 Z1.length = 0) : qParts (i + 1) Z = ahead [(nmV Z, (Z1.drop (nmK Z1)).take (nmV Z1))] (qParts i (Z1.drop (nmK Z1 + nmV Z1))) := by
  rw [qParts]
  unfold pNum
  rw [if_pos h, hz]
  simp only [pFrm]
  rw [if_pos h2]
  simp only
  cases qParts i (Z1.drop (nmK Z1 + nmV Z1)) <;> rfl
/-- a frame's error, by the reference's look -/
theorem pcE_zero (Z : List Int) : pcE Z Z.length = 0 ↔ nmE Z 9223372036854775807 = 0 ∧ nmK Z + nmV Z ≤ Z.length := by
  constructor
  · intro h
    obtain ⟨h1, h2⟩ := pcE_ok h
    exact ⟨nmE_mx Z (by rw [(nm_ok h1).1]), h2⟩
  · rintro ⟨h1, h2⟩
    have hk := (nm_ok h1).1
    have h3 : nmE Z Z.length = 0 := by
      unfold nmE
      rw [hk]
      simp only
      rw [if_neg (by simp), if_neg (by omega)]
    unfold pcE
    rw [h3, if_neg (by simp), if_neg (by omega)]
end Go.Proofs.Ytpnlfljndkfplaa
