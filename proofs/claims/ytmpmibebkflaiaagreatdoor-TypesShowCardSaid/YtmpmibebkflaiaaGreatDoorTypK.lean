/- The contracts of types' fits and Instance. The contract of types' fits, whole. The contract of types' Instance. -/
import Derived.Test.YtmpmibebkflaiaaGreatDoorTypX
import Derived.Test.YtmpmibebkflaiaaGreatDoorTypT
namespace Go.Proofs.YtmpmibebkflaiaaGreatDoor
open Go.RowKit Go.Lib Tp Go.Maps
set_option maxRecDepth 100000
set_option linter.unusedVariables false
set_option linter.unusedSectionVars false

def fEnt (q : Int × Ty × Value) : Lit × Value := (.int .i64 q.1, tv q.2.1 q.2.2)
/-- the map in block mb holds what variables were found to be. -/
def FoundM (W : World) (mb : Nat) (f : List (Int × Ty)) : Prop :=
  ∃ qs : List (Int × Ty × Value), qs.map (fun q => (q.1, q.2.1)) = f ∧ MapV Tryz.prog 3 W mb (qs.map fEnt) ∧ ∀ q ∈ qs, IsA W (Off (fun g => g = mb) W) q.2.1.args q.2.2
theorem fEnt_look (qs : List (Int × Ty × Value)) (n : Int) : lookL (qs.map fEnt) (.int .i64 n) = (qs.find? (fun q => q.1 == n)).map (fun q => tv q.2.1 q.2.2) := by
  unfold lookL
  rw [List.find?_map]
  have : ((fun p : Lit × Value => p.1.sameKey (.int .i64 n)) ∘ fEnt) = fun q => q.1 == n := by
    funext q
    show decide (IntKind.i64 = IntKind.i64 ∧ q.1 = n) = (q.1 == n)
    by_cases h : q.1 = n <;> simp [h]
  rw [this, Option.map_map]
  rfl
theorem fEnt_look2 (qs : List (Int × Ty × Value)) (n : Int) : Tp.look (qs.map (fun q => (q.1, q.2.1))) n = (qs.find? (fun q => q.1 == n)).map (fun q => q.2.1) := by
  unfold Tp.look
  rw [List.find?_map, Option.map_map]
  rfl
theorem FoundM.yes {W : World} {mb : Nat} {f : List (Int × Ty)} (h : FoundM W mb f) {n : Int} {x : Ty} (hx : Tp.look f n = some x) : ∃ (qs : List (Int × Ty × Value)) (s : Value), MapV Tryz.prog 3 W mb (qs.map fEnt) ∧ lookL (qs.map fEnt) (.int .i64 n) = some (tv x s) ∧ IsA W (Off (fun g => g = mb) W) x.args s := by
  obtain ⟨qs, rfl, hm, hq⟩ := h
  rw [fEnt_look2, Option.map_eq_some_iff] at hx
  obtain ⟨q, hf, rfl⟩ := hx
  exact ⟨qs, q.2.2, hm, by rw [fEnt_look, hf]; rfl, hq q (List.mem_of_find?_eq_some hf)⟩
theorem FoundM.no {W : World} {mb : Nat} {f : List (Int × Ty)} (h : FoundM W mb f) {n : Int} (hx : Tp.look f n = none) : ∃ qs : List (Int × Ty × Value), qs.map (fun q => (q.1, q.2.1)) = f ∧ MapV Tryz.prog 3 W mb (qs.map fEnt) ∧ (∀ q ∈ qs, IsA W (Off (fun g => g = mb) W) q.2.1.args q.2.2) ∧ lookL (qs.map fEnt) (.int .i64 n) = none := by
  obtain ⟨qs, rfl, hm, hq⟩ := h
  refine ⟨qs, rfl, hm, hq, ?_⟩
  rw [fEnt_look2, Option.map_eq_none_iff] at hx
  rw [fEnt_look, hx]
  rfl
theorem FoundM.keep {W w' : World} {mb : Nat} {f : List (Int × Ty)} (h : FoundM W mb f) (hb : Below W.heap.size W w') : FoundM w' mb f := by
  obtain ⟨qs, h1, hm, hq⟩ := h
  refine ⟨qs, h1, hm.below hb hm.lt, fun q hq' => ?_⟩
  exact ((hq q hq').same fun g hg => hb.block g hg.2).weak fun g hg => ⟨hg.1, Nat.lt_of_lt_of_le hg.2 hb.size⟩
theorem FoundM.lt {W : World} {mb : Nat} {f : List (Int × Ty)} (h : FoundM W mb f) : mb < W.heap.size := by
  obtain ⟨qs, -, hm, -⟩ := h
  exact hm.lt
theorem zeroTy (w : World) : (zeroValue 24).run Tryz.prog w = .ok (.agg #[.int .i64 0, .int .i64 0, .string ⟨#[]⟩, .slice none 0 0]) w := by kernel_rfl
theorem IsA.offB {W w' : World} {mb : Nat} {ls : List Ty} {v : Value} (h : IsA W (Off (fun g => g = mb) W) ls v) (hb : Below W.heap.size W w') : IsA w' (Off (fun g => g = mb) w') ls v :=
  (h.same fun g hg => hb.block g hg.2).weak fun g hg => ⟨hg.1, Nat.lt_of_lt_of_le hg.2 hb.size⟩
def FitsPost (W : World) (mb : Nat) (f : List (Int × Ty)) (g t : Ty) (e : Ending) (w' : World) : Prop :=
  e = .returned (.bool (fits f g t).1) ∧ RowKit.Hid (FoundM w' mb (fits f g t).2) ∧ W.grownBy w' (some mb)
def FitsSpec (mb n : Nat) : Prop := ∀ (g t : Ty) (s1 s2 : Value) (f : List (Int × Ty)) (W : World), g.wt ≤ n → fit g → (∀ x ∈ f, fit x.2) → fit t → numsOk g → f.length + g.wt ≤ 1000000 → IsA W (Off (fun g => g = mb) W) g.args s1 → IsA W (Off (fun g => g = mb) W) t.args s2 → FoundM W mb f →
    Calls Tryz.prog 29 #[tv g s1, tv t s2, .map (some mb)] W (FitsPost W mb f g t)
set_option maxHeartbeats 2000000 in
theorem fits_var (mb : Nat) (g t : Ty) (s1 s2 : Value) (f : List (Int × Ty)) (W : World) (hk : g.kind = 1) (hfx : ∀ x ∈ f, fit x.2) (hft : fit t) (hnum : (Lit.int .i64 g.num).wf = true) (hfl : f.length ≤ 1000000) (hA1 : IsA W (Off (fun g => g = mb) W) g.args s1) (hA2 : IsA W (Off (fun g => g = mb) W) t.args s2) (hF : FoundM W mb f) :
    Calls Tryz.prog 29 #[tv g s1, tv t s2, .map (some mb)] W (FitsPost W mb f g t) := by
  obtain ⟨A1, c1, rfl, hc1⟩ := hA1.form
  obtain ⟨A2, c2, rfl, hc2⟩ := hA2.form
  obtain ⟨M, hMe, hbx, hby, hMs, hMb⟩ := two_boxes W g t (.slice A1 g.args.length c1) (.slice A2 t.args.length c2) 24
  have hmb := hF.lt
  have hFE := fits_eq f g t
  rw [if_pos hk] at hFE
  have hF1 := hF.keep hMb
  have hg1 : W.grownBy M (some mb) := ⟨hMb.os, hMb.tape, hMb.output, hMb.size, fun k hk _ => hMb.block k hk⟩
  have HG1 := Lib.hid hg1
  cases hl : Tp.look f g.num with
  | none =>
    rw [hl] at hFE
    have HFE := Lib.hid hFE
    obtain ⟨qs, hqf, hm, hq, hlk⟩ := hF1.no hl
    have hrun := hm.no keyInt Tryz.underlying56 (zeroTy M) (keyOfInt hnum) hlk
    have hal : ∀ o, M.grownBy (M.alloc o) none := fun o => World.grownBy_alloc M o none
    have hqs : qs.length = f.length := by rw [← hqf, List.length_map]
    have hup := fun o => (hm.kept (hal o) (by simp)).put keyInt Tryz.underlying56 (by rw [List.length_map]; unfold maxLen; omega) (keyOfInt hnum) trivial hlk (tv t (.slice A2 t.args.length c2))
    obtain ⟨w', hupd, hmv, hg⟩ := hup (.cells #[.int .i64 0, .int .i64 0, .string ⟨#[]⟩, .slice none 0 0] 24)
    have HPOST := Lib.hid (show FoundM w' mb (f ++ [(g.num, t)]) ∧ W.grownBy w' (some mb) by
      have hgw : M.grownBy w' (some mb) := ((hal _).but _).trans hg
      refine ⟨⟨qs ++ [(g.num, t, .slice A2 t.args.length c2)], by rw [List.map_append, hqf]; rfl, by rw [List.map_append]; exact hmv, fun q hq' => ?_⟩, hg1.trans hgw⟩
      rcases List.mem_append.1 hq' with h | h
      · exact (hq q h).grown hgw
      · rw [List.mem_singleton] at h
        subst h
        exact ((hA2.offB hMb).grown hgw))
    have HME := Lib.hid hMe
    unfold tv at hupd
    rw [hMe] at hrun hupd
    clear hm hq hlk hF hF1 hFE hl hal hup hA1 hA2 hfx hft hmv hg hg1 hbx hby hMb hMe
    obtain ⟨k, m, z, ls⟩ := g
    simp only [Ty.kind, Ty.num, Ty.name, Ty.args] at *
    simp only [tv, Ty.kind, Ty.num, Ty.name]
    subst hk
    go_enter Tryz.func29, Tryz.ntmps29
    go_wp2_with fail
    go_ret
    exact ⟨by rw [HFE.out]; rfl, by rw [HFE.out]; exact HPOST.out.1, HPOST.out.2⟩
  | some x =>
    rw [hl] at hFE
    have HFE := Lib.hid hFE
    obtain ⟨qs, s, hm, hlk, hax⟩ := hF1.yes hl
    obtain ⟨Ax, cx, rfl, hcx⟩ := hax.form
    have hrun := hm.yes keyInt Tryz.underlying56 (zeroTy M) (keyOfInt hnum) hlk
    have hal : Below M.heap.size M (M.alloc (.cells #[.int .i64 x.kind, .int .i64 x.num, .string x.name, .slice Ax x.args.length cx] 24)) := (Below.refl _ _).alloc (Nat.le_refl _) _
    have hxf : fit x := by
      have : ∃ p ∈ f, p.2 = x := by
        unfold Tp.look at hl
        rw [Option.map_eq_some_iff] at hl
        obtain ⟨p, hp, rfl⟩ := hl
        exact ⟨p, List.mem_of_find?_eq_some hp, rfl⟩
      obtain ⟨p, hp, rfl⟩ := this
      exact hfx p hp
    have hold : ∀ {ls : List Ty} {v : Value} {w : World}, IsA w (Off (fun g => g = mb) w) ls v → IsA w (Old w) ls v := fun h => h.weak fun g hg => hg.2
    have HS := Lib.hid (same_any x.wt x t (.slice Ax x.args.length cx) (.slice A2 t.args.length c2) _ (Nat.le_refl _) hxf (hold (hax.offB hal)) (hold ((hA2.offB hMb).offB hal)))
    have HPOST := Lib.hid (fun w' (hw : Below (M.alloc (.cells #[.int .i64 x.kind, .int .i64 x.num, .string x.name, .slice Ax x.args.length cx] 24)).heap.size (M.alloc (.cells #[.int .i64 x.kind, .int .i64 x.num, .string x.name, .slice Ax x.args.length cx] 24)) w') => (show FoundM w' mb f ∧ W.grownBy w' (some mb) from
      have h1 : Below M.heap.size M w' := hal.trans (hw.mono (by simp))
      ⟨hF1.keep h1, hg1.trans ⟨h1.os, h1.tape, h1.output, h1.size, fun k hk _ => h1.block k hk⟩⟩))
    have HME := Lib.hid hMe
    unfold tv at HS hrun
    rw [hMe] at hrun HS HPOST
    clear hm hlk hF hF1 hFE hl hal hA1 hA2 hfx hft hg1 hbx hby hMb hMe hax hxf
    obtain ⟨k, m, z, ls⟩ := g
    simp only [Ty.kind, Ty.num, Ty.name, Ty.args] at *
    simp only [tv, Ty.kind, Ty.num, Ty.name]
    subst hk
    go_enter Tryz.func29, Tryz.ntmps29
    go_wp2_with (go_at_call 45; with_reducible (refine HS.out.mono ?_); rintro e w1 ⟨rfl, hb1⟩; have HB1 := Lib.hid (HPOST.out _ hb1); clear hb1)
    go_ret
    exact ⟨by rw [HFE.out]; rfl, by rw [HFE.out]; exact HB1.out.1, HB1.out.2⟩
end Go.Proofs.YtmpmibebkflaiaaGreatDoor
namespace Go.Proofs.YtmpmibebkflaiaaGreatDoor
open Go.RowKit Go.Lib Tp Go.Maps
set_option maxRecDepth 100000
set_option linter.unusedVariables false
set_option linter.unusedSectionVars false

theorem fitss_cons (f : List (Int × Ty)) (a b : Ty) (ls ms : List Ty) : fitss f (a :: ls) (b :: ms) = if (fits f a b).1 then fitss (fits f a b).2 ls ms else (false, (fits f a b).2) := by rw [fitss]
theorem fitss_nil (f : List (Int × Ty)) (ms : List Ty) : fitss f [] ms = (true, f) := by rw [fitss]
theorem fits_len (g : Ty) : ∀ t f, (fits f g t).2.length ≤ f.length + g.wt := by
  refine Ty.ind (P := fun g => ∀ t f, (fits f g t).2.length ≤ f.length + g.wt) (fun g ih => ?_) g
  intro t f
  rw [fits_eq]
  have hw := Ty.wt_eq g
  split
  · split
    · simp; omega
    · show f.length ≤ _; omega
  · split
    · have key : ∀ ls : List Ty, (∀ x ∈ ls, ∀ t f, (fits f x t).2.length ≤ f.length + x.wt) → ∀ ms f, (fitss f ls ms).2.length ≤ f.length + Ty.wts ls := by
        intro ls
        induction ls with
        | nil => intro _ ms f; rw [fitss_nil, Ty.wts]; exact Nat.le_refl _
        | cons a ls ih2 =>
          intro h ms f
          cases ms with
          | nil => rw [fitss, Ty.wts]; show f.length ≤ _; omega
          | cons b ms =>
            rw [fitss_cons, Ty.wts]
            have h1 := h a (by simp) b f
            split
            · have := ih2 (fun x hx => h x (by simp [hx])) ms (fits f a b).2
              omega
            · show (fits f a b).2.length ≤ _; omega
      have := key _ ih t.args f
      omega
    · show f.length ≤ _; omega
theorem fits_fit (g : Ty) : ∀ t f, fit t → (∀ x ∈ f, fit x.2) → ∀ x ∈ (fits f g t).2, fit x.2 := by
  refine Ty.ind (P := fun g => ∀ t f, fit t → (∀ x ∈ f, fit x.2) → ∀ x ∈ (fits f g t).2, fit x.2) (fun g ih => ?_) g
  intro t f ht hf
  rw [fits_eq]
  split
  · split
    · intro x hx
      rcases List.mem_append.1 hx with h | h
      · exact hf x h
      · rw [List.mem_singleton] at h
        subst h
        exact ht
    · exact hf
  · split
    · have key : ∀ ls : List Ty, (∀ x ∈ ls, ∀ t f, fit t → (∀ x ∈ f, fit x.2) → ∀ y ∈ (fits f x t).2, fit y.2) → ∀ ms f, (∀ x ∈ ms, fit x) → (∀ x ∈ f, fit x.2) → ∀ y ∈ (fitss f ls ms).2, fit y.2 := by
        intro ls
        induction ls with
        | nil => intro _ ms f _ hf; rw [fitss_nil]; exact hf
        | cons a ls ih2 =>
          intro h ms f hms hf
          cases ms with
          | nil => rw [fitss]; exact hf
          | cons b ms =>
            rw [fitss_cons]
            have h1 := h a (by simp) b f (hms b (by simp)) hf
            split
            · exact ih2 (fun x hx => h x (by simp [hx])) ms _ (fun x hx => hms x (by simp [hx])) h1
            · exact h1
      exact key _ ih t.args f (fun x hx => ht.arg hx) hf
    · exact hf
set_option maxHeartbeats 4000000 in
theorem fits_any (mb n : Nat) : FitsSpec mb n := by
  induction n with
  | zero => intro g t s1 s2 f W hn; have := Ty.wt_eq g; omega
  | succ n ih =>
    intro g t s1 s2 f W hn hfg hfx hft hnum hfl hA1 hA2 hF
    by_cases hk : g.kind = 1
    · exact fits_var mb g t s1 s2 f W hk hfx hft (hnum g (parts_self g)) (by omega) hA1 hA2 hF
    obtain ⟨A1, c1, rfl, hc1⟩ := hA1.form
    obtain ⟨A2, c2, rfl, hc2⟩ := hA2.form
    obtain ⟨M, hMe, hbx, hby, hMs, hMb⟩ := two_boxes W g t (.slice A1 g.args.length c1) (.slice A2 t.args.length c2) 24
    have hmb := hF.lt
    have HFno := Lib.hid (fun h : ¬ (g.kind = t.kind ∧ g.name = t.name ∧ g.args.length = t.args.length) => show fits f g t = (false, f) by rw [fits_eq, if_neg hk, if_neg h])
    have HFyes := Lib.hid (fun h : g.kind = t.kind ∧ g.name = t.name ∧ g.args.length = t.args.length => show fits f g t = fitss f g.args t.args by rw [fits_eq, if_neg hk, if_pos h])
    have hF1 := hF.keep hMb
    have hg1 : W.grownBy M (some mb) := ⟨hMb.os, hMb.tape, hMb.output, hMb.size, fun k hk _ => hMb.block k hk⟩
    have HG1 := Lib.hid hg1
    have HF1 := Lib.hid hF1
    have HA1 := Lib.hid hA1
    have HA2 := Lib.hid hA2
    have HBX := Lib.hid hbx
    have HBY := Lib.hid hby
    have HMs := Lib.hid hMs
    have HME := Lib.hid hMe
    have HFG := Lib.hid hfg
    have HFX := Lib.hid hfx
    have HFT := Lib.hid hft
    have HU := Lib.hid hnum
    have HN := Lib.hid hn
    have HI := Lib.hid ih
    have HFL := Lib.hid hfl
    have hsz := hfg.self.2
    clear hA1 hA2 hbx hby hMs hMe hfg hfx hft hnum hn ih hfl hF hF1 hg1 hMb
    obtain ⟨k, m, z, as1⟩ := g
    obtain ⟨k', m', z', as2⟩ := t
    simp only [Ty.kind, Ty.num, Ty.name, Ty.args] at *
    simp only [tv, Ty.kind, Ty.num, Ty.name]
    have hkb : (k == 1) = false := by simpa using hk
    clear hk
    by_cases hkk : k = k'
    case neg =>
      have HFE := Lib.hid (HFno.out (fun h => hkk h.1))
      go_enter Tryz.func29, Tryz.ntmps29
      go_wp2_with fail
      go_ret
      exact ⟨by rw [HFE.out]; rfl, by rw [HFE.out]; exact HME.out ▸ HF1.out, HME.out ▸ HG1.out⟩
    subst hkk
    by_cases hz : z = z'
    case neg =>
      have HFE := Lib.hid (HFno.out (fun h => hz h.2.1))
      have hzb : (z.toList == z'.toList) = false := by rw [name_eq]; simp [hz]
      clear hz
      go_enter Tryz.func29, Tryz.ntmps29
      go_wp2_with fail
      go_ret
      exact ⟨by rw [HFE.out]; rfl, by rw [HFE.out]; exact HME.out ▸ HF1.out, HME.out ▸ HG1.out⟩
    subst hz
    by_cases hl : as1.length = as2.length
    case neg =>
      have HFE := Lib.hid (HFno.out (fun h => hl h.2.2))
      have hlb : ((as1.length : Int) != (as2.length : Int)) = true := by simp; omega
      clear hl
      go_enter Tryz.func29, Tryz.ntmps29
      go_wp2_with fail
      go_ret
      exact ⟨by rw [HFE.out]; rfl, by rw [HFE.out]; exact HME.out ▸ HF1.out, HME.out ▸ HG1.out⟩
    have HFE := Lib.hid (HFyes.out ⟨rfl, rfl, hl⟩)
    obtain ⟨L, hL⟩ : ∃ L, L = as1.length := ⟨_, rfl⟩
    rw [← hl] at HBY HA2 HME hc2 ⊢
    rw [← hL] at HBX HBY HA1 HA2 HME hc1 hc2 hsz ⊢
    have HL := Lib.hid hL
    have HLL := Lib.hid hl
    clear hL hl HFno HFyes
    go_enter Tryz.func29, Tryz.ntmps29
    go_wp2_with fail
    rw [← HME.out]
    go_loopw [54] (fun i wr => ∃ (j : Nat) (f' : List (Int × Ty)), j ≤ L ∧ i = .int .i64 j ∧ RowKit.Hid (fitss f' (as1.drop j) (as2.drop j) = fitss f as1 as2) ∧ RowKit.Hid (FoundM wr mb f') ∧ RowKit.Hid (BelowX (W.heap.size + 2) mb M wr) ∧ RowKit.Hid ((∀ x ∈ f', fit x.2) ∧ f'.length + Ty.wts (as1.drop j) ≤ 1000000)) (fun i _ => L - (RowKit.intOf i).toNat)
    case atStart => exact ⟨0, f, by omega, rfl, rfl, HF1.out, BelowX.refl _ _ _, HFX.out, by have := HFL.out; have := Ty.wt_eq (.mk k m z as1); show f.length + Ty.wts as1 ≤ _; simp only [Ty.args] at this; omega⟩
    case round =>
      obtain ⟨j, f', hj, rfl, HS, HFM, HG, HQ⟩ := hrel
      have hsz2 := HG.out.2.2.2.1
      have hwl : W.heap.size + 2 ≤ wr.heap.size := by have := HMs.out; omega
      have hbx2 : ∀ B t s, B < W.heap.size + 2 → B ≠ mb → BoxT t s B M → BoxT t s B wr := fun B t s h1 h2 h => by
        have hc : ∀ j, wr.cell? ⟨B, j, none⟩ = M.cell? ⟨B, j, none⟩ := fun j => World.cell?_of_block (w := M) (HG.out.2.2.2.2 B h1 h2)
        exact ⟨by rw [hc]; exact h.1, by rw [hc]; exact h.2.1, by rw [hc]; exact h.2.2.1, by rw [hc]; exact h.2.2.2⟩
      obtain ⟨a0, a1, a2, a3⟩ := hbx2 _ _ _ (by omega) (by omega) HBX.out
      obtain ⟨b0, b1, b2, b3⟩ := hbx2 _ _ _ (by omega) (by omega) HBY.out
      have HGW := Lib.hid (((BelowX.of_grown HG1.out (Nat.le_refl _)).trans (HG.out.mono (by omega))).grown)
      clear hbx2
      by_cases hlt : j < L
      · have hAr1 := HA1.out.grown HGW.out
        have hAr2 := HA2.out.grown HGW.out
        obtain ⟨A', c', e, -, hr1⟩ := hAr1.open
        simp only [Value.slice.injEq] at e
        obtain ⟨rfl, -, rfl⟩ := e
        obtain ⟨A', c', e, -, hr2⟩ := hAr2.open
        simp only [Value.slice.injEq] at e
        obtain ⟨rfl, -, rfl⟩ := e
        obtain ⟨g1, o1, rfl, hg1, hr1⟩ := hr1 (by have := HL.out; omega)
        obtain ⟨g2, o2, rfl, hg2, hr2⟩ := hr2 (by have := HL.out; have := HLL.out; omega)
        obtain ⟨x, hx⟩ : ∃ x, as1[j]? = some x := ⟨_, List.getElem?_eq_getElem (by have := HL.out; omega)⟩
        obtain ⟨y, hy⟩ : ∃ y, as2[j]? = some y := ⟨_, List.getElem?_eq_getElem (by have := HL.out; have := HLL.out; omega)⟩
        have hxm := List.mem_of_getElem? hx
        have hym := List.mem_of_getElem? hy
        obtain ⟨sx, c0, c1, c2, c3, hax⟩ := hr1 j x hx
        obtain ⟨sy, d0, d1, d2, d3, hay⟩ := hr2 j y hy
        obtain ⟨Ax, cx, rfl, hcx⟩ := hax.form
        obtain ⟨Ay, cy, rfl, hcy⟩ := hay.form
        have hg1' : g1 < wr.heap.size := hg1.2
        have hg2' : g2 < wr.heap.size := hg2.2
        have hwx : Ty.wts (as1.drop j) = x.wt + Ty.wts (as1.drop (j + 1)) := by rw [drop_cons hx, Ty.wts]
        have HC := Lib.hid (fun W' (hW : Below wr.heap.size wr W') => HI.out x y (.slice Ax x.args.length cx) (.slice Ay y.args.length cy) f' W' (by have := Ty.wt_lt (t := .mk k m z as1) hxm; have := HN.out; omega) (HFG.out.arg (t := .mk k m z as1) hxm) HQ.out.1 (HFT.out.arg (t := .mk k m' z as2) hym) (HU.out.arg (t := .mk k m z as1) hxm) (by have := HQ.out.2; omega) (hax.offB hW) (hay.offB hW) (HFM.out.keep hW))
        have HS2 := Lib.hid (show (if (fits f' x y).1 then fitss (fits f' x y).2 (as1.drop (j + 1)) (as2.drop (j + 1)) else (false, (fits f' x y).2)) = fitss f as1 as2 by
          rw [← HS.out, drop_cons hx, drop_cons hy, fitss_cons])
        have HQ2 := Lib.hid (show (∀ q ∈ (fits f' x y).2, fit q.2) ∧ (fits f' x y).2.length + Ty.wts (as1.drop (j + 1)) ≤ 1000000 from
          ⟨fits_fit x y f' (HFT.out.arg (t := .mk k m' z as2) hym) HQ.out.1, by have := fits_len x y f'; have := HQ.out.2; omega⟩)
        unfold FitsPost tv at HC
        obtain ⟨p, hp⟩ : ∃ p, p = fits f' x y := ⟨_, rfl⟩
        rw [← hp] at HC HS2 HQ2
        obtain ⟨b, f''⟩ := p
        simp only at HC HS2 HQ2
        clear hp hx hy hxm hym hax hay hr1 hr2 hAr1 hAr2 hg1 hg2 hwx
        have HX1 := Lib.hid (fun o => ((Below.refl wr.heap.size wr).alloc (Nat.le_refl _) o).drew)
        go_wp2_with fail
        have hw1 : W.heap.size + 1 < wr.heap.size := by omega
        have hw0 : W.heap.size < wr.heap.size := by omega
        go_region_with (go_at_call 29; with_reducible (refine (HC.out _ (HX1.out _)).mono ?_); rintro e w1 ⟨rfl, hfm, hgr⟩)
        all_goals
          have HFM1 := Lib.hid hfm.out
          have HGR := Lib.hid (HG.out.trans (((BelowX.of_below (mb := mb) (HX1.out _)).trans (BelowX.of_grown hgr (HX1.out _).size)).mono hwl))
          have HGR2 := Lib.hid (HGW.out.trans ((((BelowX.of_below (mb := mb) (HX1.out _)).trans (BelowX.of_grown hgr (HX1.out _).size)).grown)))
          clear hfm hgr
          cases b
          · go_wp2_with fail
            go_ret
            have e2 := HS2.out
            rw [if_neg (by simp)] at e2
            exact ⟨by rw [HFE.out, ← e2]; rfl, by rw [HFE.out, ← e2]; exact HFM1.out, HGR2.out⟩
          · go_wp2_with fail
            go_roundw
            case rel => exact ⟨j + 1, f'', by omega, by go_num, (by have e2 := HS2.out; rw [if_pos rfl] at e2; exact e2), HFM1.out, HGR.out, HQ2.out⟩
            case measure => simp [RowKit.intOf]; omega
      · go_wp2_with fail
        go_ret
        have e2 := HS.out
        rw [List.drop_eq_nil_of_le (by have := HL.out; omega), fitss_nil] at e2
        exact ⟨by rw [HFE.out, ← e2]; rfl, by rw [HFE.out, ← e2]; exact HFM.out, HGW.out⟩
end Go.Proofs.YtmpmibebkflaiaaGreatDoor
namespace Go.Proofs.YtmpmibebkflaiaaGreatDoor
open Go.RowKit Go.Lib Tp Go.Maps
set_option maxRecDepth 100000
set_option linter.unusedVariables false
set_option linter.unusedSectionVars false

theorem FoundM.made (w : World) : FoundM (w.alloc (.map #[] 0)) w.heap.size [] := ⟨[], rfl, MapV.made w _ _, by simp⟩
set_option maxHeartbeats 2000000 in
theorem instance_any (g t : Ty) (s1 s2 : Value) (w : World) (hfg : fit g) (hft : fit t) (hnum : numsOk g) (hA1 : IsA w (Old w) g.args s1) (hA2 : IsA w (Old w) t.args s2) :
    Calls Tryz.prog 15 #[tv g s1, tv t s2] w fun e w' => e = .returned (.bool (instF nameB g t)) ∧ Below w.heap.size w w' := by
  obtain ⟨A1, c1, rfl, hc1⟩ := hA1.form
  obtain ⟨A2, c2, rfl, hc2⟩ := hA2.form
  obtain ⟨M, hMe, hbx, hby, hMs, hMb⟩ := two_boxes w g t (.slice A1 g.args.length c1) (.slice A2 t.args.length c2) 24
  have HR1 := Lib.hid (fun W (hW : W = M) => show Calls Tryz.prog 9 #[.agg #[.int .i64 g.kind, .int .i64 g.num, .string g.name, .slice A1 g.args.length c1]] W fun e w' => e = .returned (.bool (rightF nameB g)) ∧ Below M.heap.size M w' from by
    rw [hW]
    exact right_any g _ M hfg (hA1.after hMb))
  have HR2 := Lib.hid (fun W (hW : Below M.heap.size M W) => show Calls Tryz.prog 9 #[.agg #[.int .i64 t.kind, .int .i64 t.num, .string t.name, .slice A2 t.args.length c2]] W fun e w' => e = .returned (.bool (rightF nameB t)) ∧ Below W.heap.size W w' from
    right_any t _ W hft (hA2.after (hMb.trans (hW.mono hMb.size))))
  have HF := Lib.hid (fun W (hW : Below M.heap.size M W) (hw : g.wt ≤ 300) => show Calls Tryz.prog 29 #[.agg #[.int .i64 g.kind, .int .i64 g.num, .string g.name, .slice A1 g.args.length c1], .agg #[.int .i64 t.kind, .int .i64 t.num, .string t.name, .slice A2 t.args.length c2], .map (some W.heap.size)] (W.alloc (.map #[] 0)) fun e w' => e = .returned (.bool (fits [] g t).1) ∧ Below W.heap.size W w' from
    have hal := (Below.refl W.heap.size W).alloc (Nat.le_refl _) (.map #[] 0)
    have hm := (FoundM.made W)
    have hwW := hMb.trans (hW.mono hMb.size)
    have hoff : ∀ {ls : List Ty} {v : Value}, IsA w (Old w) ls v → IsA (W.alloc (.map #[] 0)) (Off (fun g => g = W.heap.size) (W.alloc (.map #[] 0))) ls v := fun h => by
      have h2 := (h.after hwW)
      exact (h2.same fun g hg => hal.block g hg).weak fun g hg => ⟨fun e => by unfold Old at hg; omega, by unfold Old at hg; have := hal.size; omega⟩
    (fits_any W.heap.size g.wt g t _ _ [] _ (Nat.le_refl _) hfg (by simp) hft hnum (by simp; omega) (hoff hA1) (hoff hA2) hm).mono fun e w' h => ⟨h.1, hal.trans ⟨h.2.2.os, h.2.2.tape, h.2.2.output, h.2.2.size, fun k hk => h.2.2.block k (by simp; omega) (fun e => by simp only [Option.some.injEq] at e; omega)⟩⟩)
  have HX := Lib.hid hbx
  have HY := Lib.hid hby
  have HMs := Lib.hid hMs
  have HMb := Lib.hid hMb
  have HME := Lib.hid hMe
  have hmm := @run_makeMap Tryz.prog
  unfold tv
  clear hA1 hA2 hbx hby hMs hMb hMe hfg hft hnum
  cases hr1 : rightF nameB g
  · rw [hr1] at HR1
    have HE := Lib.hid (show instF nameB g t = false by unfold instF; rw [hr1]; rfl)
    clear hr1
    go_enter Tryz.func15, Tryz.ntmps15
    go_wp2_with (go_at_call 9; with_reducible (refine (HR1.out _ HME.out.symm).mono ?_); rintro e w1 ⟨rfl, hb1⟩; have HB1 := Lib.hid hb1; clear hb1)
    go_ret
    rw [HE.out]
    exact ⟨rfl, HMb.out.trans (HB1.out.mono HMb.out.size)⟩
  · rw [hr1] at HR1
    have HWT := Lib.hid (right_ok hr1).2
    have HE0 := Lib.hid (show instF nameB g t = (rightF nameB t && (fits [] g t).1) by unfold instF; rw [hr1]; simp)
    clear hr1
    go_enter Tryz.func15, Tryz.ntmps15
    go_wp2_with fail
    refine (HR1.out _ HME.out.symm).mono ?_
    rintro e w1 ⟨rfl, hb1⟩
    obtain ⟨x0, x1, x2, x3⟩ := HX.out.keep hb1 (by have := HMs.out; omega)
    obtain ⟨y0, y1, y2, y3⟩ := HY.out.keep hb1 (by have := HMs.out; omega)
    have hs1 := hb1.size
    have HB1 := Lib.hid hb1
    have HY1 := Lib.hid (HY.out.keep hb1 (by have := HMs.out; omega))
    have HX1 := Lib.hid (HX.out.keep hb1 (by have := HMs.out; omega))
    clear hb1
    cases hr2 : rightF nameB t
    · have HR2 := Lib.hid (HR2.out w1 HB1.out)
      rw [hr2] at HR2
      have HE := Lib.hid (show instF nameB g t = false by rw [HE0.out, hr2]; rfl)
      clear hr2
      go_wp2_with (go_at_call 9; with_reducible (refine HR2.out.mono ?_); rintro e w2 ⟨rfl, hb2⟩; have HB2 := Lib.hid hb2; clear hb2)
      go_ret
      rw [HE.out]
      exact ⟨rfl, HMb.out.trans ((HB1.out.trans (HB2.out.mono hs1)).mono HMb.out.size)⟩
    · have HR2 := Lib.hid (HR2.out w1 HB1.out)
      rw [hr2] at HR2
      have HE := Lib.hid (show instF nameB g t = (fits [] g t).1 by rw [HE0.out, hr2]; rfl)
      clear hr2
      go_wp2_with fail
      refine HR2.out.mono ?_
      rintro e w2 ⟨rfl, hb2⟩
      obtain ⟨p0, p1, p2, p3⟩ := HX1.out.keep hb2 (by have := HMs.out; omega)
      obtain ⟨q0, q1, q2, q3⟩ := HY1.out.keep hb2 (by have := HMs.out; omega)
      have HB2 := Lib.hid (HB1.out.trans (hb2.mono hs1))
      have hs2 := hb2.size
      have hsl : w.heap.size + 1 < w2.heap.size := by have := HMs.out; omega
      have hsl0 : w.heap.size < w2.heap.size := by omega
      clear hb2 x0 x1 x2 x3 y0 y1 y2 y3
      have HF2 := Lib.hid (HF.out w2 HB2.out HWT.out)
      go_wp2_with (go_at_call 29; with_reducible (refine HF2.out.mono ?_); rintro e w3 ⟨rfl, hb3⟩; have HB3 := Lib.hid hb3; clear hb3)
      go_ret
      rw [HE.out]
      exact ⟨rfl, HMb.out.trans ((HB2.out.trans (HB3.out.mono (by omega))).mono HMb.out.size)⟩
end Go.Proofs.YtmpmibebkflaiaaGreatDoor
