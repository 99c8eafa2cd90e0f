/- LexWhole answers true: the walk. -/
import Derived.Test.YtfeokaloedfejaaLexL
import Derived.Test.YtfeokaloedfejaaLexH
namespace Go.Proofs.Ytfeokaloedfejaa
open Go.RowKit Go.Lib
set_option maxRecDepth 100000

theorem seg_two (s : ByteArray) {j f : Nat} (h : j + 1 < f) (hf : f ≤ s.size) : Lx.seg s.data.toList j f = s[j] :: s[j + 1] :: Lx.seg s.data.toList (j + 2) f := by
  unfold Lx.seg
  rw [drop_at s j (by omega), drop_at s (j + 1) (by omega)]
  have e : f - j = (f - (j + 2)) + 1 + 1 := by omega
  rw [e, List.take_succ_cons, List.take_succ_cons]
theorem seg_one (s : ByteArray) {j f : Nat} (h : j + 1 = f) (hf : f ≤ s.size) : Lx.seg s.data.toList j f = [s[j]] := by
  unfold Lx.seg
  rw [drop_at s j (by omega)]
  have e : f - j = 0 + 1 := by omega
  rw [e, List.take_succ_cons, List.take_zero]
theorem gap_open {s : ByteArray} {d j f : Nat} (h : j + 1 < f) (hf : f ≤ s.size) (h1 : s[j].toNat = 40) (h2 : s[j + 1].toNat = 42) (hg : Lx.gapB d (Lx.seg s.data.toList j f) = true) : Lx.gapB (d + 1) (Lx.seg s.data.toList (j + 2) f) = true := by
  rw [seg_two s h hf, Lx.gapB, if_pos ⟨h1, h2⟩] at hg
  exact hg
theorem gap_close {s : ByteArray} {d j f : Nat} (h : j + 1 < f) (hf : f ≤ s.size) (hd : 0 < d) (h1 : s[j].toNat = 42) (h2 : s[j + 1].toNat = 41) (hg : Lx.gapB d (Lx.seg s.data.toList j f) = true) : Lx.gapB (d - 1) (Lx.seg s.data.toList (j + 2) f) = true := by
  rw [seg_two s h hf, Lx.gapB, if_neg (fun x => absurd x.1 (by omega)), if_pos ⟨hd, h1, h2⟩] at hg
  exact hg
theorem gap_on {s : ByteArray} {d j f : Nat} (h : j < f) (hf : f ≤ s.size) (n1 : ∀ h : j + 1 < f, ¬ (s[j].toNat = 40 ∧ s[j + 1].toNat = 42)) (n2 : ∀ h : j + 1 < f, 0 < d → ¬ (s[j].toNat = 42 ∧ s[j + 1].toNat = 41)) (hg : Lx.gapB d (Lx.seg s.data.toList j f) = true) :
    (d = 0 → Lx.isWhite s[j] = true) ∧ Lx.gapB d (Lx.seg s.data.toList (j + 1) f) = true := by
  rcases Nat.lt_or_ge (j + 1) f with h1 | h1
  · have e : Lx.seg s.data.toList (j + 1) f = s[j + 1] :: Lx.seg s.data.toList (j + 2) f := by
      unfold Lx.seg
      rw [drop_at s (j + 1) (by omega)]
      have e : f - (j + 1) = (f - (j + 2)) + 1 := by omega
      rw [e, List.take_succ_cons]
    rw [seg_two s h1 hf, Lx.gapB, if_neg (n1 h1), if_neg (fun x => n2 h1 x.1 x.2)] at hg
    rw [e]
    split at hg
    · simp at hg
    · rename_i h3
      refine ⟨fun hd => ?_, hg⟩
      cases hw : Lx.isWhite s[j]
      · exact absurd ⟨hd, hw⟩ h3
      · rfl
  · have h2 : j + 1 = f := by omega
    rw [seg_one s h2 hf] at hg
    simp only [Lx.gapB, Bool.and_eq_true, decide_eq_true_eq] at hg
    refine ⟨fun _ => hg.2, ?_⟩
    have e : Lx.seg s.data.toList (j + 1) f = [] := by
      unfold Lx.seg
      have e : f - (j + 1) = 0 := by omega
      rw [e, List.take_zero]
    rw [e, hg.1]; rfl
theorem gap_no {s : ByteArray} {d j f : Nat} (h : j < f) (hf : f ≤ s.size) (n1 : ∀ h : j + 1 < f, ¬ (s[j].toNat = 40 ∧ s[j + 1].toNat = 42)) (n2 : ∀ h : j + 1 < f, 0 < d → ¬ (s[j].toNat = 42 ∧ s[j + 1].toNat = 41)) (hg : Lx.gapB d (Lx.seg s.data.toList j f) = true)
    (hd : d = 0) (w1 : ¬ s[j].toNat = 32) (w2 : ¬ s[j].toNat = 9) (w3 : ¬ s[j].toNat = 10) (w4 : ¬ s[j].toNat = 13) : False := by
  have := (gap_on h hf n1 n2 hg).1 hd
  simp only [Lx.isWhite, decide_eq_true_eq] at this
  omega
theorem gap_done {s : ByteArray} {d f : Nat} (hg : Lx.gapB d (Lx.seg s.data.toList f f) = true) : d = 0 := by
  rw [Lx.seg_self] at hg
  simpa [Lx.gapB] using hg

set_option maxHeartbeats 2000000 in
theorem lexWhole_walk (a0 : ByteArray) (w : World) (w0 : a0.size ≤ maxLen) : Calls Try.prog 5 #[.string a0] w (TruePost w) := by
  unfold maxLen at w0
  by_cases hsz : a0.size ≤ 20000
  · obtain ⟨ts, hts⟩ : ∃ ts, ts = Lx.lexF a0.data.toList := ⟨_, rfl⟩
    have hch := Lx.lex_chain a0.data.toList
    rw [← hts] at hch
    go_enter Try.func5, Try.ntmps5
    go_wp2_with fail
    refine (alive_any _).mono ?_
    rintro e w1 ⟨rfl, hb1⟩
    go_wp2_with fail
    refine (lex_any _ (by omega) _).mono ?_
    rintro e w2 ⟨v, rfl, hown, hb2⟩
    rw [← hts] at hown
    have hrd := Rd.of_own hown
    have hB : Below w.heap.size w w2 := hb1.trans (hb2.mono hb1.size)
    clear hown hb1 hb2
    obtain ⟨hl, A, c, rfl, hc, hr⟩ := hrd
    obtain ⟨n, hn⟩ : ∃ n, n = ts.length := ⟨_, rfl⟩
    rw [← hn] at hr hc hl ⊢
    have hnl : n ≤ a0.size := by have := Lx.chain_len _ _ _ (Nat.zero_le _) hch; rw [← sz] at this; omega
    have HN := Lib.hid hn
    have HC := Lib.hid hch
    have HR := Lib.hid hr
    have HB := Lib.hid hB
    clear hn hch hr hts hl hB
    go_wp2_with fail
    go_loop [4, 5] (fun u v => ∃ E i : Nat, i ≤ n + 1 ∧ v = .int .i64 i ∧ u = .int .i64 E ∧ E ≤ a0.size ∧ (i ≤ n → Lx.Chain a0.data.toList E (ts.drop i))) (fun _ v => n + 2 - (intOf v).toNat)
    case atStart => exact ⟨0, 0, by omega, rfl, rfl, by omega, fun _ => HC.out⟩
    case round =>
      obtain ⟨E, i, hi, rfl, rfl, hE, hch⟩ := hrel
      have HE := Lib.hid hch
      clear hch
      by_cases hlt : i < n
      · obtain ⟨g, o, rfl, hg, hr⟩ := HR.out (by omega)
        obtain ⟨t, ht, c0, c1, c2⟩ := rd_tok hr HN.out hlt
        have hc := HE.out (by omega)
        rw [Lx.drop_some ht] at hc
        obtain ⟨q1, q2, q3, q4, q5⟩ := hc
        rw [← sz] at q3
        have H4 := Lib.hid q4
        have H5 := Lib.hid q5
        clear ht q4 q5 hr
        go_wp2_with fail
        go_loop [7, 8] (fun u v => ∃ d j : Nat, E ≤ j ∧ j ≤ t.a ∧ v = .int .i64 j ∧ u = .int .i64 d ∧ d ≤ j ∧ Lx.gapB d (Lx.seg a0.data.toList j t.a) = true) (fun _ v => t.a - (intOf v).toNat)
        case atStart => exact ⟨0, E, by omega, by omega, rfl, rfl, by omega, H4.out⟩
        case round =>
          obtain ⟨d, j, hEj, hjF, rfl, rfl, hdj, hg⟩ := hrel
          have HG := Lib.hid hg
          clear hg
          by_cases hlt2 : j < t.a
          · go_wp2
            all_goals go_light
            all_goals try simp only [beq_iff_eq, beq_eq_false_iff_ne, ne_eq, bne_iff_ne, bne_eq_false_iff_eq] at *
            all_goals first
              | (refine ⟨⟨d + 1, j + 2, ?_, ?_, ?_, ?_, ?_, gap_open ?_ ?_ ?_ ?_ HG.out⟩, ?_⟩ <;> first | omega | go_num | (simp [intOf]; omega))
              | (refine ⟨⟨d - 1, j + 2, ?_, ?_, ?_, ?_, ?_, gap_close ?_ ?_ ?_ ?_ ?_ HG.out⟩, ?_⟩ <;> first | omega | (rw [Int.ofNat_sub ?_]; rfl; omega) | go_num | (simp [intOf]; omega))
              | (refine ⟨⟨d, j + 1, ?_, ?_, ?_, ?_, ?_, (gap_on ?_ ?_ ?_ ?_ HG.out).2⟩, ?_⟩ <;> first | omega | go_num | (simp [intOf]; omega) | (rintro _ ⟨_, _⟩; omega) | (rintro _ _ ⟨_, _⟩; omega))
              | (exfalso; refine gap_no (s := a0) (d := d) (j := j) (f := t.a) ?_ ?_ ?_ ?_ HG.out ?_ ?_ ?_ ?_ ?_ <;> first | omega | (rintro _ ⟨_, _⟩; omega) | (rintro _ _ ⟨_, _⟩; omega))
          · have hjf : j = t.a := by omega
            subst hjf
            have hd0 := gap_done HG.out
            subst hd0
            go_wp2
            go_round
            case rel => exact ⟨t.b, i + 1, by omega, by go_num, rfl, by omega, fun _ => H5.out⟩
            case measure => simp [intOf]; omega
      · by_cases hie : i = n
        · subst hie
          have hc := HE.out (Nat.le_refl _)
          rw [List.drop_of_length_le (by rw [← HN.out]; exact Nat.le_refl _)] at hc
          have H4 := Lib.hid (show Lx.gapB 0 (Lx.seg a0.data.toList E a0.size) = true from hc)
          clear hc
          go_wp2_with fail
          go_loop [7, 8] (fun u v => ∃ d j : Nat, E ≤ j ∧ j ≤ a0.size ∧ v = .int .i64 j ∧ u = .int .i64 d ∧ d ≤ j ∧ Lx.gapB d (Lx.seg a0.data.toList j a0.size) = true) (fun _ v => a0.size - (intOf v).toNat)
          case atStart => exact ⟨0, E, by omega, by omega, rfl, rfl, by omega, H4.out⟩
          case round =>
            obtain ⟨d, j, hEj, hjF, rfl, rfl, hdj, hg⟩ := hrel
            have HG := Lib.hid hg
            clear hg
            by_cases hlt2 : j < a0.size
            · go_wp2
              all_goals go_light
              all_goals try simp only [beq_iff_eq, beq_eq_false_iff_ne, ne_eq, bne_iff_ne, bne_eq_false_iff_eq] at *
              all_goals first
                | (refine ⟨⟨d + 1, j + 2, ?_, ?_, ?_, ?_, ?_, gap_open ?_ ?_ ?_ ?_ HG.out⟩, ?_⟩ <;> first | omega | go_num | (simp [intOf]; omega))
                | (refine ⟨⟨d - 1, j + 2, ?_, ?_, ?_, ?_, ?_, gap_close ?_ ?_ ?_ ?_ ?_ HG.out⟩, ?_⟩ <;> first | omega | (rw [Int.ofNat_sub ?_]; rfl; omega) | go_num | (simp [intOf]; omega))
                | (refine ⟨⟨d, j + 1, ?_, ?_, ?_, ?_, ?_, (gap_on ?_ ?_ ?_ ?_ HG.out).2⟩, ?_⟩ <;> first | omega | go_num | (simp [intOf]; omega) | (rintro _ ⟨_, _⟩; omega) | (rintro _ _ ⟨_, _⟩; omega))
                | (exfalso; refine gap_no (s := a0) (d := d) (j := j) (f := a0.size) ?_ ?_ ?_ ?_ HG.out ?_ ?_ ?_ ?_ ?_ <;> first | omega | (rintro _ ⟨_, _⟩; omega) | (rintro _ _ ⟨_, _⟩; omega))
            · have hjf : j = a0.size := by omega
              subst hjf
              have hd0 := gap_done HG.out
              subst hd0
              go_wp2
              go_round
              case rel => exact ⟨E, i + 1, by omega, by go_num, rfl, by omega, fun h => absurd h (by omega)⟩
              case measure => simp [intOf]
        · have hie2 : i = n + 1 := by omega
          clear hie hlt
          go_wp2
          go_ret
          exact ⟨rfl, HB.out⟩
  · go_enter Try.func5, Try.ntmps5
    go_wp2_with fail
    refine (alive_any _).mono ?_
    rintro e w1 ⟨rfl, hb1⟩
    go_wp2
    go_ret
    exact ⟨rfl, hb1⟩
end Go.Proofs.Ytfeokaloedfejaa
