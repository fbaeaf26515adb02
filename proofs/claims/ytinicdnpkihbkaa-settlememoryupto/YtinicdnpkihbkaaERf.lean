/- The reference's Reach. -/
import Derived.Test.YtinicdnpkihbkaaERe
namespace Go.Proofs.Ytinicdnpkihbkaa
open Go.RowKit
variable {w w' w2 w0 wr : World} {g gb n : Nat} {F : Nat → Sl} {X Y : Nat → List Int} {K J : Nat → Nat → Bool} {f : Nat → Bool}

def bset (f : Nat → Bool) (k : Nat) : Nat → Bool := fun r => if r = k then true else f r
theorem bA_set (f : Nat → Bool) (k : Nat) (_ : k < 16) : (bA f).setIfInBounds k (.bool true) = bA (bset f k) := by
  apply Array.ext
  · simp [bA]
  · intro i h1 h2
    simp [bA] at h2
    by_cases h : k = i
    · subst h
      simp [bA, bset]
    · have : ¬ i = k := fun e => h e.symm
      simp [bA, bset, h, this]
def BBx (w : World) (g : Nat) (f : Nat → Bool) : Prop := w.heap[g]? = some (.cells (bA f) 53 (0, 0))
theorem BBx.lt (h : BBx w g f) : g < w.heap.size := (Array.getElem?_eq_some_iff.1 h).1
theorem BBx.cell (h : BBx w g f) (k : Nat) (hk : k < 16) : w.cell? ⟨g, k, none⟩ = some (.bool (f k)) := by unfold BBx at h; simp [World.cell?, h, bA_at f k hk]
theorem BBx.frozen (h : BBx w g f) (t : Nat) : w.frozen? ⟨g, t, none⟩ = false := by unfold BBx at h; simp [World.frozen?, h]
theorem BBx.set (h : BBx w g f) (k : Nat) (hk : k < 16) : BBx (w.setCell ⟨g, k, none⟩ (.bool true)) g (bset f k) := by
  unfold BBx at h ⊢
  simp [World.setCell, h, Array.getElem?_modify, ← bA_set f k hk]
theorem BBx_new (w : World) (f : Nat → Bool) : BBx (w.alloc (.cells (bA f) 53)) w.heap.size f := by unfold BBx; rw [heap_alloc_new]
theorem BBx.congr {h : Nat → Bool} (b : BBx w g f) (e : ∀ k, k < 16 → f k = h k) : BBx w g h := by unfold BBx at b ⊢; rw [← bA_congr e]; exact b
/-- the lists, and one origin's truths beside them -/
structure R3 (w0 wr : World) (g n : Nat) (F : Nat → Sl) (X : Nat → List Int) (gb : Nat) (f : Nat → Bool) : Prop where
  m : Mat w0 wr g n F X
  b : BBx wr gb f
  ne : ∀ i, i < n → blk (F i).a ≠ some gb
  gn : gb ≠ g
  gl : w0.heap.size ≤ gb
theorem R3.begin (h : Mat w0 wr g n F X) (f : Nat → Bool) : R3 w0 (wr.alloc (.cells (bA f) 53)) g n F X wr.heap.size f :=
  ⟨h.below (below_new _ _), BBx_new wr f, fun i hi e => by have := (h.row i hi).lt _ e; omega, by have := h.lt; omega, h.bel.size⟩
theorem R3.below (h : R3 w0 wr g n F X gb f) (hb : Below wr.heap.size wr w2) : R3 w0 w2 g n F X gb f := ⟨h.m.below hb, (hb.block gb h.b.lt).trans h.b, h.ne, h.gn, h.gl⟩
theorem R3.fr {h2 : Nat → Bool} (h : R3 w0 wr g n F X gb f) (hf : Fr wr w2 gb) (b : BBx w2 gb h2) : R3 w0 w2 g n F X gb h2 := by
  refine ⟨⟨?_, fun i hi => (h.m.row i hi).keep fun k hk => hf.block k ((h.m.row i hi).lt k hk) (fun e => ?_), h.m.ne, h.m.dis, h.m.gb, h.m.bel.trans ⟨hf.os, hf.tape, hf.output, hf.size, fun i hi => hf.block i (Nat.lt_of_lt_of_le hi h.m.bel.size) (fun e => ?_)⟩⟩, b, h.ne, h.gn, h.gl⟩
  · obtain ⟨cs, h1, h2⟩ := h.m.box
    exact ⟨cs, (hf.block g h.m.lt (fun e => h.gn (Option.some.inj e).symm)).trans h1, h2⟩
  · exact h.ne i hi (by rw [hk, e])
  · have := Option.some.inj e
    have := h.gl
    omega
theorem R3.cg (h : R3 w0 wr g n F X gb f) (e : ∀ i, i < n → X i = Y i) : R3 w0 wr g n F Y gb f := ⟨h.m.congr e, h.b, h.ne, h.gn, h.gl⟩
theorem R3.bset (h : R3 w0 wr g n F X gb f) (k : Nat) (hk : k < 16) : R3 w0 (wr.setCell ⟨gb, k, none⟩ (.bool true)) g n F X gb (bset f k) := h.fr (Fr.setCell _ _ _ _) (h.b.set k hk)
theorem R3.grow {bo : Option Addr} {m c2 : Nat} {l : List Int} (h : R3 w0 wr g n F X gb f) (i : Nat) (hi : i < n) (r : IR w2 bo m c2 l) (a : Ap wr w2 (F i).a bo) : R3 w0 (w2.setCell ⟨g, i, none⟩ (.slice bo m c2)) g n (Fup F i ⟨bo, m, c2⟩) (Xup X i l) gb f := by
  refine ⟨h.m.grow i hi r a, ?_, fun j hj e => ?_, h.gn, h.gl⟩
  · refine (heap_setCell_other w2 ⟨g, i, none⟩ gb _ h.gn).trans ((a.grown.block gb h.b.lt (fun e => h.ne i hi e.symm)).trans h.b)
  · unfold Fup at e
    by_cases x : j = i
    · rw [if_pos x] at e
      rcases a.lies with e2 | ⟨j2, e2, hj2⟩
      · exact h.ne i hi (by rw [← e2]; exact e)
      · have e' : blk bo = some gb := e
        rw [e2] at e'
        have := Option.some.inj e'
        have := h.b.lt
        omega
    · rw [if_neg x] at e
      exact h.ne j hj e
theorem col_step {k : Nat} (K : Nat → Nat → Bool) (o a b r : Nat) (ho : o < 16) (_ : k = k) : (if K a o = true then bset (fun r => K r o) b r else K r o) = kup K b (K a) 16 r o := by
  unfold bset kup
  by_cases h : r = b
  · subst h
    have e : (r = r ∧ o < 16) := ⟨rfl, ho⟩
    cases h2 : K a o
    · simp [ho]
    · simp [ho]
  · have e : ¬ (r = b ∧ o < 16) := fun e => h e.1
    rw [if_neg e, if_neg h]
    split <;> rfl
theorem lit_set (o : Nat) (ho : o < 16) : (([.bool false, .bool false, .bool false, .bool false, .bool false, .bool false, .bool false, .bool false, .bool false, .bool false, .bool false, .bool false, .bool false, .bool false, .bool false, .bool false] : List Value).set o (.bool true)).toArray = bA (bset (fun _ => false) o) := by
  rw [← bA_set _ o ho, ← List.setIfInBounds_toArray]
  rfl
/-- of those below j one origin more than of the others -/
def rcr (K : Nat → Nat → Bool) (o j : Nat) : Nat → List Int := fun i => if i < j then rl (K i) (o + 1) else rl (K i) o
theorem rcr_up (K : Nat → Nat → Bool) (o j i : Nat) (h : K j o = true) : Xup (rcr K o j) j (rcr K o j j ++ [(o : Int)]) i = rcr K o (j + 1) i := by
  unfold Xup rcr
  by_cases h2 : i = j
  · subst h2
    rw [if_pos rfl, if_neg (by omega), if_pos (by omega), rl, if_pos h]
  · rw [if_neg h2]
    by_cases h1 : i < j
    · rw [if_pos h1, if_pos (by omega)]
    · rw [if_neg h1, if_neg (by omega)]
theorem rcr_same (K : Nat → Nat → Bool) (o j i : Nat) (h : K j o = false) : rcr K o j i = rcr K o (j + 1) i := by
  unfold rcr
  by_cases h2 : i = j
  · subst h2
    rw [if_neg (by omega), if_pos (by omega), rl, if_neg (by rw [h]; simp)]
  · by_cases h1 : i < j
    · rw [if_pos h1, if_pos (by omega)]
    · rw [if_neg h1, if_neg (by omega)]
theorem rcr_len (K : Nat → Nat → Bool) (o j i : Nat) : (rcr K o j i).length ≤ o + 1 := by
  unfold rcr
  split
  · exact rl_len _ _
  · exact Nat.le_trans (rl_len _ _) (by omega)
attribute [local go_sem ↓] ldQ_eq stQ_eq
set_option maxRecDepth 100000 in
theorem refReach_any (r : Int) (ao : Option Addr) (m c : Nat) (L : List Pr) (w : World) (S : QSrc w ao m c (L.map toQ)) (hm : m ≤ 140737488355328) : Calls Try.prog 13 #[.int .i64 r, .slice ao m c] w fun e w' => RcA w w' (clN r) L e := by
  have HC := hide (reps_any r)
  have hn := (clN_le r).2
  obtain ⟨n, hnn⟩ : ∃ n, clN r = n := ⟨_, rfl⟩
  rw [hnn] at HC hn ⊢
  clear hnn
  have HL : Hid (L.length = m) := by have := S.len; rw [List.length_map] at this; exact this
  have HS := hide S
  have HE : Hid (∀ (w' : World) (e : Ending) (g : Nat) (F : Nat → Sl), e = .returned (.slice (some ⟨g, 0, none⟩) n n) → Mat w w' g n F (fun i => rl (knw n L i) n) → RcA w w' n L e) := fun w' e g F h1 h2 => ⟨g, F, h1, h2⟩
  clear S
  obtain ⟨w3, hmk, hmt⟩ := mat_make n hn w
  have HM3 := hide hmt
  obtain ⟨g, hg⟩ : ∃ g, w.heap.size = g := ⟨_, rfl⟩
  rw [hg] at hmk HM3
  clear hmt
  go_enter Try.func13, Try.ntmps13
  go_wp2_with (go_at_call 21; refine (HC.out _).mono ?_; rintro e w2 ⟨rfl, rfl⟩)
  clear hmk hg
  go_loopw [7] (fun i wr => ∃ (o : Nat) (F : Nat → Sl), o ≤ n ∧ i = .int .i64 o ∧ Hid (Mat w wr g n F (fun i => rl (knw n L i) o))) (fun i _ => n - (intOf i).toNat)
  case atStart => exact ⟨0, _, Nat.zero_le _, rfl, HM3⟩
  case round =>
    clear HM3
    obtain ⟨o, F, ho, rfl, HM⟩ := hrel
    by_cases hlt : o < n
    · have ho' : (o : Int) < 16 := by omega
      have HR1 := hide (R3.begin HM.out (bset (fun _ => false) o))
      have HR2 : Hid (R3 w (wr.alloc (.cells (([.bool false, .bool false, .bool false, .bool false, .bool false, .bool false, .bool false, .bool false, .bool false, .bool false, .bool false, .bool false, .bool false, .bool false, .bool false, .bool false] : List Value).set o (.bool true)).toArray 53)) g n F (fun i => rl (knw n L i) o) wr.heap.size (fun r => knw n (L.take 0) r o)) := by
        have e := lit_set o (by omega)
        show R3 _ _ _ _ _ _ _ _
        rw [e]
        exact HR1.out.fr (Fr.refl _ _) (HR1.out.b.congr fun k hk => by
          show bset (fun _ => false) o k = k0 n k o
          unfold bset k0
          by_cases e : k = o
          · rw [if_pos e]; simp [e]; exact hlt
          · rw [if_neg e]; simp [e])
      have HR0 := hide (R3.begin HM.out (fun _ => false))
      have hc0 := HR0.out.b.cell o (by omega)
      have hf0 := HR0.out.b.frozen o
      have eA : (bA fun _ => false) = #[.bool false, .bool false, .bool false, .bool false, .bool false, .bool false, .bool false, .bool false, .bool false, .bool false, .bool false, .bool false, .bool false, .bool false, .bool false, .bool false] := rfl
      rw [eA] at hc0 hf0
      clear eA HR0
      obtain ⟨gb, hgb⟩ : ∃ gb, wr.heap.size = gb := ⟨_, rfl⟩
      rw [hgb] at HR2 hc0 hf0
      clear HR1 HM
      go_wp2_with fail
      clear hgb hc0 hf0
      go_loopw [25] (fun i wr => ∃ j : Nat, j ≤ m ∧ i = .int .i64 j ∧ Hid (R3 w wr g n F (fun i => rl (knw n L i) o) gb (fun r => knw n (L.take j) r o))) (fun i _ => m - (intOf i).toNat)
      case atStart => exact ⟨0, Nat.zero_le _, rfl, HR2⟩
      case round =>
        clear HR2
        obtain ⟨j, hj, rfl, HR⟩ := hrel
        by_cases hl2 : j < m
        · obtain ⟨ad, rfl, x⟩ := (HS.out.below HR.out.m.bel).at j hl2
          have hjL : j < L.length := by have := HL.out; omega
          have HT := hide (knw_next n L j hjL)
          have e1 : (L.map toQ).getD j q0 = toQ (L.getD j p0) := by simp [List.getD, hjL]
          rw [e1] at x
          obtain ⟨q, hq⟩ : ∃ q, L.getD j p0 = q := ⟨_, rfl⟩
          rw [hq] at x HT
          obtain ⟨f, t⟩ := q
          have x0 : (ldQ (.pointer (some (ad.add (j * 2))))).run Try.prog wr = .ok (.agg #[.int .i64 f, .int .i64 t]) wr := run_laQ x
          obtain ⟨w4, hst, hbx, hbl, -⟩ := madeQ wr ⟨f, t⟩ wr.heap.size rfl
          have hst' : (stQ (.pointer (some ⟨wr.heap.size, 0, none⟩)) (.agg #[.int .i64 f, .int .i64 t])).run Try.prog (wr.alloc (.cells #[.int .i64 0, .int .i64 0] 50)) = .ok () w4 := hst
          have hld : (ldQ (.pointer (some ⟨wr.heap.size, 0, none⟩))).run Try.prog w4 = .ok (.agg #[.int .i64 f, .int .i64 t]) w4 := run_ldQ hbx
          have HX := hide hbx
          have HR4 := hide (HR.out.below hbl)
          clear hst hbx hbl HR hq x e1
          by_cases hgd : goodB n f t = true
          · have HGo : Hid (∀ w, Calls Try.prog 22 #[.int .i64 n, .agg #[.int .i64 f, .int .i64 t]] w fun e w' => e = .returned (.bool true) ∧ Below w.heap.size w w') := fun w => by have := good_any n f t w; rw [hgd] at this; exact this
            obtain ⟨a, b, rfl, rfl, ha, hb, hab⟩ := good_nat hgd hn
            have ha' : (a : Int) < 16 := by omega
            have hb' : (b : Int) < 16 := by omega
            have HT2 : Hid (knw n (L.take (j + 1)) = kup (knw n (L.take j)) b (knw n (L.take j) a) 16) := by show _ = _; rw [HT.out, kstep, if_pos hgd]; rfl
            obtain ⟨M, hM⟩ : ∃ M, knw n (L.take j) = M := ⟨_, rfl⟩
            rw [hM] at HT2 HR4
            have HCo : Hid (∀ r, (if M a o = true then bset (fun r => M r o) b r else M r o) = kup M b (M a) 16 r o) := fun r => col_step (k := 0) M o a b r (by omega) rfl
            clear HT hgd hM
            obtain ⟨gp, hgp⟩ : ∃ gp, wr.heap.size = gp := ⟨_, rfl⟩
            rw [hgp] at HX hld hst'
            cases hx : M a o
            · have HR5 : Hid (∀ w5, Below w4.heap.size w4 w5 → R3 w w5 g n F (fun i => rl (knw n L i) o) gb (fun r => knw n (L.take (j + 1)) r o) ∧ w5.cell? ⟨gb, a, none⟩ = some (.bool false) ∧ QBox w5 gp ⟨(a : Int), (b : Int)⟩) := fun w5 b5 => by
                have h5 := HR4.out.below b5
                have c5 := h5.b.cell a (by omega)
                rw [hx] at c5
                refine ⟨h5.fr (Fr.refl _ _) (h5.b.congr fun k hk => ?_), c5, HX.out.below b5⟩
                rw [HT2.out, ← HCo.out k, if_neg (by rw [hx]; simp)]
              clear HR4 HCo hx HT2 HX
              go_wp2_with (go_at_call 22; refine (HGo.out _).mono ?_; rintro e w5 ⟨rfl, b5⟩; obtain ⟨h5, c5, hq5⟩ := HR5.out w5 b5; have d0 := hq5.c0; have HR6 := hide h5; simp only at d0; clear b5 HR5 h5 hq5)
              go_roundw
              case rel => exact ⟨j + 1, by omega, by go_num, HR6⟩
              case measure => simp [intOf]; omega
            · have HR5 : Hid (∀ w5, Below w4.heap.size w4 w5 → R3 w (w5.setCell ⟨gb, b, none⟩ (.bool true)) g n F (fun i => rl (knw n L i) o) gb (fun r => knw n (L.take (j + 1)) r o) ∧ w5.cell? ⟨gb, a, none⟩ = some (.bool true) ∧ QBox w5 gp ⟨(a : Int), (b : Int)⟩ ∧ w5.cell? ⟨gb, b, none⟩ = some (.bool (M b o)) ∧ w5.frozen? ⟨gb, b, none⟩ = false) := fun w5 b5 => by
                have h5 := HR4.out.below b5
                have c5 := h5.b.cell a (by omega)
                rw [hx] at c5
                have h6 := h5.bset b (by omega)
                refine ⟨h6.fr (Fr.refl _ _) (h6.b.congr fun k hk => ?_), c5, HX.out.below b5, h5.b.cell b (by omega), h5.b.frozen b⟩
                rw [HT2.out, ← HCo.out k, if_pos hx]
              clear HR4 HCo hx HT2 HX
              go_wp2_with (go_at_call 22; refine (HGo.out _).mono ?_; rintro e w5 ⟨rfl, b5⟩; obtain ⟨h5, c5, hq5, c6, f6⟩ := HR5.out w5 b5; have d0 := hq5.c0; have d1 := hq5.c1; have HR6 := hide h5; simp only at d0 d1; clear b5 HR5 h5 hq5)
              go_roundw
              case rel => exact ⟨j + 1, by omega, by go_num, HR6⟩
              case measure => simp [intOf]; omega
          · have HGo : Hid (∀ w, Calls Try.prog 22 #[.int .i64 n, .agg #[.int .i64 f, .int .i64 t]] w fun e w' => e = .returned (.bool false) ∧ Below w.heap.size w w') := fun w => by have := good_any n f t w; rw [Bool.not_eq_true _ |>.mp hgd] at this; exact this
            have HT2 : Hid (knw n (L.take (j + 1)) = knw n (L.take j)) := by show _ = _; rw [HT.out, kstep, if_neg hgd]
            clear HT hgd
            go_wp2_with (go_at_call 22; refine (HGo.out _).mono ?_; rintro e w5 ⟨rfl, b5⟩; have HR5 := hide (HR4.out.below b5); clear b5 HR4)
            go_roundw
            case rel => exact ⟨j + 1, by omega, by go_num, by show R3 _ _ _ _ _ _ _ _; rw [HT2.out]; exact HR5.out⟩
            case measure => simp [intOf]; omega
        · obtain rfl : j = m := by omega
          have HE1 : Hid (L.take j = L) := List.take_of_length_le (by have := HL.out; omega)
          rw [HE1.out] at HR
          clear HE1
          obtain ⟨K, hK⟩ : ∃ K, knw n L = K := ⟨_, rfl⟩
          rw [hK] at HR
          go_wp2_with fail
          go_loopw [11] (fun i wr => ∃ (p : Nat) (F : Nat → Sl), p ≤ n ∧ i = .int .i64 p ∧ Hid (R3 w wr g n F (rcr K o p) gb (fun r => K r o))) (fun i _ => n - (intOf i).toNat)
          case atStart => exact ⟨0, F, Nat.zero_le _, rfl, HR.out.cg fun i hi => by unfold rcr; rw [if_neg (by omega)]⟩
          case round =>
            clear HR
            obtain ⟨p, F, hp, rfl, HR⟩ := hrel
            by_cases hl3 : p < n
            · have hp' : (p : Int) < 16 := by omega
              have c0 := HR.out.b.cell p (by omega)
              cases hx : K p o
              · rw [hx] at c0
                have HR2 := hide (HR.out.cg (fun i _ => rcr_same K o p i hx))
                clear hx HR
                go_wp2_with fail
                go_roundw
                case rel => exact ⟨p + 1, F, by omega, by go_num, HR2⟩
                case measure => simp [intOf]; omega
              · rw [hx] at c0
                have HX : Hid (∀ i, Xup (rcr K o p) p (rcr K o p p ++ [(o : Int)]) i = rcr K o (p + 1) i) := fun i => rcr_up K o p i hx
                have cF := HR.out.m.cell p hl3
                have HRo := hide (HR.out.m.row p hl3)
                have HN : Hid ((F p).n + 1 ≤ 17592186044316) := by
                  show _ ≤ _
                  have h1 := HRo.out.len
                  have h2 := rcr_len K o p p
                  omega
                obtain ⟨s, hs⟩ : ∃ s, F p = s := ⟨_, rfl⟩
                obtain ⟨fa, fn, fc⟩ := s
                have HA : Hid (∀ (w3 : World) (bo : Option Addr), Ap wr w3 fa bo → w3.cell? ⟨g, p, none⟩ = some (.slice fa fn fc) ∧ w3.frozen? ⟨g, p, none⟩ = false) := fun w3 bo a => by have := HR.out.m.after p hl3 (bo := bo) (w2 := w3) (by rw [hs]; exact a); rw [hs] at this; exact this
                have HG : Hid (∀ (w3 : World) (bo : Option Addr) (c2 : Nat), IR w3 bo (fn + 1) c2 (rcr K o p p ++ [(o : Int)]) → Ap wr w3 fa bo → R3 w (w3.setCell ⟨g, p, none⟩ (.slice bo (fn + 1) c2)) g n (Fup F p ⟨bo, fn + 1, c2⟩) (rcr K o (p + 1)) gb (fun r => K r o)) := fun w3 bo c2 r a => (HR.out.grow p hl3 r (by rw [hs]; exact a)).cg fun i _ => HX.out i
                rw [hs] at cF HRo HN
                simp only at cF HRo HN
                clear hs hx HR HX
                go_wp2_with (at_builtin; refine HRo.out.app1 (o : Int) HN.out rfl (.tmp 55) (.tmp 57) rfl rfl rfl ?_; intro b4 c4 w4 R4 A4; obtain ⟨d0, d1⟩ := HA.out w4 b4 A4; have HR4 := hide (HG.out w4 b4 c4 R4 A4); clear R4 A4)
                go_roundw
                case rel => exact ⟨p + 1, _, by omega, by go_num, HR4⟩
                case measure => simp [intOf]; omega
            · obtain rfl : p = n := by omega
              go_wp2_with fail
              go_roundw
              case rel => exact ⟨o + 1, F, by omega, by go_num, by show Mat _ _ _ _ _ _; rw [hK]; exact HR.out.m.congr fun i hi => by unfold rcr; rw [if_pos hi]⟩
              case measure => simp [intOf]; omega
    · obtain rfl : o = n := by omega
      go_wp2_with fail
      go_ret
      exact HE.out _ _ _ _ rfl HM.out
end Go.Proofs.Ytinicdnpkihbkaa
