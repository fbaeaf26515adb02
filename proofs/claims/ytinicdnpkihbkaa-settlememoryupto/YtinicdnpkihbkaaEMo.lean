/- The law's markOps. -/
import Derived.Test.YtinicdnpkihbkaaEOf
import Derived.Test.YtinicdnpkihbkaaERs
namespace Go.Proofs.Ytinicdnpkihbkaa
open Go.RowKit
variable {w w1 w2 w3 wr : World} {ao bo a2 : Option Addr} {n c m d n2 c2 : Nat} {A B A2 : List Opp}

def setR (xs : List Value) : Nat → List Value → List Value
  | _, [] => xs
  | o, v :: r => setR (xs.set o v) (o + 1) r
theorem setR_append (a xs : List Value) : ∀ (vs : List Value) (o : Nat), setR (a ++ xs) (a.length + o) vs = a ++ setR xs o vs := by
  intro vs
  induction vs generalizing xs with
  | nil => intro o; rfl
  | cons v r ih =>
    intro o
    show setR ((a ++ xs).set (a.length + o) v) (a.length + o + 1) r = a ++ setR (xs.set o v) (o + 1) r
    rw [List.set_append_right _ _ (by omega), show a.length + o - a.length = o by omega, Nat.add_assoc, ih]
theorem ocs_set : ∀ (L : List Opp) (k : Nat) (x : Opp), k < L.length → setR (ocs L) (k * 7) (OC x).toList = ocs (L.set k x)
  | [], k, x, h => absurd h (Nat.not_lt_zero k)
  | e :: L, 0, x, _ => rfl
  | e :: L, k + 1, x, h => by
    have ih := ocs_set L k x (by simpa using h)
    show setR ((OC e).toList ++ ocs L) ((k + 1) * 7) (OC x).toList = (OC e).toList ++ ocs (L.set k x)
    have e7 : (OC e).toList.length = 7 := rfl
    rw [show (k + 1) * 7 = (OC e).toList.length + k * 7 by rw [e7]; omega, setR_append, ih]
theorem owns_setCells {base : Nat} {e : TypeId} {size g n cap : Nat} : ∀ (vs : List Value) (w : World) (xs : List Value) (o : Nat), w.ownsRow base e size (.slice (some ⟨g, 0, none⟩) n cap) n xs → (w.setCells g o vs).ownsRow base e size (.slice (some ⟨g, 0, none⟩) n cap) n (setR xs o vs) ∧ Ap w (w.setCells g o vs) (some ⟨g, 0, none⟩) (some ⟨g, 0, none⟩)
  | [], w, xs, o, h => ⟨h, Ap.refl _ _⟩
  | v :: r, w, xs, o, h => by
    obtain ⟨h1, g1⟩ := h.stored o v
    obtain ⟨h2, a2⟩ := owns_setCells r (w.setCell ⟨g, o, none⟩ v) (xs.set o v) (o + 1) h1
    exact ⟨h2, Ap.trans ⟨g1, Or.inl rfl⟩ a2⟩
theorem OR.put (h : OR wr ao n c A) (k : Nat) (hk : k < n) (x : Opp) : ∃ b w2, ao = some ⟨b, 0, none⟩ ∧ (stO (.pointer (some ⟨b, k * 7, none⟩)) (.agg (OC x))).run Try.prog wr = .ok () w2 ∧ OR w2 ao n c (A.set k x) ∧ Ap wr w2 ao ao := by
  have hl := h.len
  obtain ⟨b, rfl, -⟩ := h.at k hk
  have ht : wr.there b (k * 7) (OC x).size := fun j hj => by
    refine ⟨?_, h.frozenAt _⟩
    have hj7 : j < 7 := hj
    rw [h.cellAt (k * 7 + j) (by omega), ocs_at A k j (by omega) hj7]
    rcases (show j = 0 ∨ j = 1 ∨ j = 2 ∨ j = 3 ∨ j = 4 ∨ j = 5 ∨ j = 6 by omega) with rfl | rfl | rfl | rfl | rfl | rfl | rfl <;> rfl
  have hs := run_storeAt_mid (P := Try.prog) wr b (k * 7) 43 (OC x) ht sizeO (by simp [OC, Value.oneCell'])
  obtain ⟨h2, g2⟩ := owns_setCells (OC x).toList wr (ocs A) (k * 7) h
  rw [ocs_set A k x (by omega)] at h2
  exact ⟨b, _, rfl, hs, h2, g2⟩
/-- two rows of ops, apart -/
structure O2 (w wr : World) (ao : Option Addr) (n c : Nat) (A : List Opp) (bo : Option Addr) (m d : Nat) (B : List Opp) : Prop where
  ra : OR wr ao n c A
  na : NewB w wr ao
  rb : OR wr bo m d B
  nb : NewB w wr bo
  ne : ∀ k, blk ao = some k → blk bo ≠ some k
theorem O2.swap (h : O2 w wr ao n c A bo m d B) : O2 w wr bo m d B ao n c A := ⟨h.rb, h.nb, h.ra, h.na, fun k h1 h2 => h.ne k h2 h1⟩
theorem O2.ap (h : O2 w wr ao n c A bo m d B) (r : OR w3 a2 n2 c2 A2) (a : Ap wr w3 ao a2) : O2 w w3 a2 n2 c2 A2 bo m d B := by
  refine ⟨r, h.na.ap a, h.rb.keep fun k hk => a.grown.block k (h.rb.lt k hk) (fun e => h.ne k e.symm hk), ⟨(h.na.ap a).1, h.nb.2⟩, fun k hk e => ?_⟩
  rcases a.lies with e2 | ⟨j, e2, hj⟩
  · exact h.ne k (by rw [← e2]; exact hk) e
  · rw [e2] at hk
    have := Option.some.inj hk
    have := h.rb.lt k e
    omega
def opk (kd nm : Int) : Opp := ⟨kd, 0, 0, 0, ⟨#[]⟩, 0, nm⟩
theorem opk_lit (kd nm : Int) : (#[.int .i64 kd, .int .i64 0, .int .i64 0, .int .i64 0, .string ⟨#[]⟩, .int .i64 0, .int .i64 nm] : Array Value).toList = ocs [opk kd nm] := rfl
structure K1 (L : List Opp) (n i : Nat) (f : Nat → Int) : Prop where
  len : L.length = n
  row : ∀ j, j < i → L.getD j o0 = opk (f j) 0
theorem K1.next {f : Nat → Int} {i : Nat} (h : K1 A n i f) (hi : i < n) : K1 (A.set i (opk (f i) 0)) n (i + 1) f :=
  ⟨by rw [List.length_set]; exact h.len, fun j hj => by
    rw [getD_set _ _ _ _ _ (by rw [h.len]; exact hi)]
    by_cases e : j = i
    · rw [if_pos e, e]
    · rw [if_neg e]; exact h.row j (by omega)⟩
structure K2 (L : List Opp) (n i : Nat) (f : Nat → Int) (kd : Int) : Prop where
  len : L.length = n + i
  row : ∀ j, j < n → L.getD j o0 = opk (f j) 0
  end' : 0 < i → L.getD n o0 = opk kd 0
theorem K1.k2 {f : Nat → Int} {kd : Int} (h : K1 A n n f) : K2 A n 0 f kd := ⟨h.len, h.row, fun h => by omega⟩
theorem K2.next {f : Nat → Int} {kd : Int} {i : Nat} (h : K2 A n i f kd) (nm : Int) (hnm : i = 0 → nm = 0) : K2 (A ++ [opk kd nm]) n (i + 1) f kd :=
  ⟨by rw [List.length_append, h.len]; rfl, fun j hj => by rw [getD_snoc_lt _ _ _ _ (by rw [h.len]; omega)]; exact h.row j hj, fun _ => by
    by_cases e : i = 0
    · rw [getD_snoc_eq _ _ _ _ (by rw [h.len]; omega), hnm e]
    · rw [getD_snoc_lt _ _ _ _ (by rw [h.len]; omega)]
      exact h.end' (by omega)⟩
theorem run_eqOk (x : Opp) (w : World) : (binOp .eql 43 (.agg (OC x)) (.agg (OC x))).run Try.prog w = .ok (.bool true) w := by
  have h := run_neO x w
  rw [run_neq_struct] at h
  rw [run_eql_struct]
  cases hq : (Op.equalIn 10000 43 (.agg (OC x)) (.agg (OC x))).run Try.prog w with
  | ok b w' =>
    rw [hq] at h
    cases b <;> simp_all [Result.andThen]
  | _ => rw [hq] at h; simp [Result.andThen] at h
theorem run_egOk (x : Opp) (o p : Operand) (w : World) : (eqGuard .eql 43 o p (.agg (OC x)) (.agg (OC x))).run Try.prog w = .ok () w := run_eqGuard_agg w .eql 43 o p _ _ (by kernel_rfl)
end Go.Proofs.Ytinicdnpkihbkaa
