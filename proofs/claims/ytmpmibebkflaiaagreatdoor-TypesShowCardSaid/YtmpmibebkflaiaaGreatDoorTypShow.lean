/- The contract of types' write: a variable. The contract of types' write: a pair. The contract of types' write: a function's type. The contract of types' write: a name, alone or behind one type. The contract of types' write: a name behind several types. The contracts of types' write and Show; how long a type's text is at most. The contract of types' Show. -/
import Derived.Test.YtmpmibebkflaiaaGreatDoorTypY
import Derived.Deep.DeepMust
import Derived.Deep.Cut
import Derived.Test.YtmpmibebkflaiaaGreatDoorTypR
namespace Go.Proofs.YtmpmibebkflaiaaGreatDoor
open Go.RowKit Go.Lib Tp
set_option maxRecDepth 100000
set_option linter.unusedVariables false
set_option linter.unusedSectionVars false

theorem news2 {W' : World} {b c : UInt8} {x y : Int} {e : TypeId} {B : Nat} (hx : x = (b.toNat : Int)) (hy : y = (c.toNat : Int)) (hk : W'.heap[B]? = some (.cells #[.int .u8 x, .int .u8 y] e)) : ∀ (j : Nat) (u : Value), (bytesV [b, c])[j]? = some u → W'.cell? ((⟨B, 0, none⟩ : Addr).add j) = some u := by
  intro j u hj
  match j, hj with
  | 0, hj =>
    simp [bytesV, byteV] at hj
    subst hj
    rw [← hx]
    simp [Addr.add, World.cell?, hk]
  | 1, hj =>
    simp [bytesV, byteV] at hj
    subst hj
    rw [← hy]
    simp [Addr.add, World.cell?, hk]
  | j + 2, hj => simp [bytesV] at hj
theorem box4 {W : World} {b : Nat} {x0 x1 x2 x3 : Value} {e : TypeId} (h : W.heap[b]? = some (.cells #[x0, x1, x2, x3] e)) : W.cell? ⟨b, 0, none⟩ = some x0 ∧ W.cell? ⟨b, 1, none⟩ = some x1 ∧ W.cell? ⟨b, 2, none⟩ = some x2 ∧ W.cell? ⟨b, 3, none⟩ = some x3 := by
  simp only [World.cell?, h]
  exact ⟨rfl, rfl, rfl, rfl⟩
theorem obj_new (W : World) (o : Obj) (n : Nat) (hn : n = W.heap.size) : (W.alloc o).heap[n]? = some o := by
  subst hn
  exact heap_alloc_new W _
theorem letter_num {n : Int} (h0 : 0 ≤ n) : 97 + n % 26 = (((97 : UInt8) + (n % 26).toNat.toUInt8).toNat : Int) := by
  have h1 : (n % 26).toNat < 26 := by omega
  have h2 : ((n % 26).toNat : Int) = n % 26 := by omega
  generalize (n % 26).toNat = m at *
  rw [← h2, UInt8.toNat_add, show (97 : UInt8).toNat = 97 from rfl]
  have : m.toUInt8.toNat = m := by
    rw [Nat.toUInt8, UInt8.toNat_ofNat']
    omega
  rw [this]
  omega
set_option maxHeartbeats 4000000 in
theorem write_var (B : Nat) (n : Int) (s v : Value) (l : List UInt8) (w : World) (h0 : 0 ≤ n) (h1 : n < 1073741824) (hs : ∃ A c, s = .slice A 0 c) (hB : B ≤ w.heap.size) (ho : BRow B l v w) (hlen : l.length + (varB n).length ≤ 1099511627776) (hT : PowB B w) :
    Calls Tryz.prog 25 #[v, .agg #[.int .i64 1, .int .i64 n, .string ⟨#[]⟩, s]] w (BPost B (l ++ varB n) v w) := by
  obtain ⟨A, c, rfl⟩ := hs
  have HN := Lib.hid (letter_num h0)
  have HN0 := Lib.hid (show (39 : Int) = ((39 : UInt8).toNat : Int) from rfl)
  have HD := Lib.hid h0
  obtain ⟨ch, hch⟩ : ∃ ch, ch = (97 : UInt8) + (n % 26).toNat.toUInt8 := ⟨_, rfl⟩
  rw [← hch] at HN
  have HO := Lib.hid ho
  have HT := Lib.hid hT
  have hl2 : l.length + 2 ≤ 140737488355328 := by unfold varB at hlen; simp at hlen; omega
  by_cases h26 : 26 ≤ n
  · have HV := Lib.hid (show l ++ varB n = l ++ [39, ch] ++ decDigits (n / 26).toNat by unfold varB; rw [if_pos h26, hch]; simp)
    have HL2 := Lib.hid (show (l ++ [39, ch]).length ≤ 1099511627776 by unfold varB at hlen; simp at hlen ⊢; omega)
    have HC := Lib.hid (fun (Y : World) (y : Value) (hb : Below B w Y) (hr : BRow B (l ++ [39, ch]) y Y) =>
      show Calls Tryz.prog 34 #[y, .int .i64 (n / 26), .int .i64 10] Y (BPost B (l ++ varB n) y Y) by
        have h := appendInt_any B (l ++ [39, ch]) y (n / 26).toNat Y (by omega) hr (by have := hb.size; omega) HL2.out (HT.out.on hb)
        rw [show (((n / 26).toNat : Nat) : Int) = n / 26 by omega, ← HV.out] at h
        exact h)
    clear ho hlen hT hch
    go_enter Tryz.func25, Tryz.ntmps25
    go_wp2_with (first
      | (at_builtin
         go_must (refine wpList_append_bs rfl _ _ rfl B _ l rfl ?h1 ⟨_, 0, none⟩ 2 2 [39, ch] rfl rfl ?h2 hl2 ?h3 ?h4)
         case h1 => exact (HO.out.alloc _).alloc _
         case h3 => simp; omega
         case h2 => exact news2 HN0.out HN.out (obj_new _ _ _ (by simp))
         intro v1 w1 hr1 hw1
         have HW1 := Lib.hid (((Wr.alloc w _ v).trans (Wr.alloc _ _ _)).trans hw1)
         obtain ⟨z0, z1, z2, z3⟩ := box4 (lit_kept (lit_on (heap_alloc_new w _) _) hw1 (HO.out.ne (Nat.le_refl _)))
         have HR1 := Lib.hid hr1
         have hsz : w.heap.size < w1.heap.size := by have := hw1.1.size; simp at this; omega
         clear hr1 hw1)
      | (go_at_call 34
         refine (HC.out _ _ (HO.out.below HW1.out hB) HR1.out).mono ?_
         rintro e w2 ⟨v2, rfl, hr2, hw2⟩))
    go_ret
    exact ⟨_, rfl, hr2, HW1.out.trans hw2.out⟩
  · have HV := Lib.hid (show l ++ varB n = l ++ [39, ch] by unfold varB; rw [if_neg h26, hch]; simp)
    clear ho hlen hT hch
    go_enter Tryz.func25, Tryz.ntmps25
    go_wp2_with (first
      | (at_builtin
         go_must (refine wpList_append_bs rfl _ _ rfl B _ l rfl ?k1 ⟨_, 0, none⟩ 2 2 [39, ch] rfl rfl ?k2 hl2 ?k3 ?k4)
         case k1 => exact (HO.out.alloc _).alloc _
         case k3 => simp; omega
         case k2 => exact news2 HN0.out HN.out (obj_new _ _ _ (by simp))
         intro v1 w1 hr1 hw1
         have HW1 := Lib.hid (((Wr.alloc w _ v).trans (Wr.alloc _ _ _)).trans hw1)
         obtain ⟨z0, z1, z2, z3⟩ := box4 (lit_kept (lit_on (heap_alloc_new w _) _) hw1 (HO.out.ne (Nat.le_refl _)))
         have HR1 := Lib.hid hr1
         have hsz : w.heap.size < w1.heap.size := by have := hw1.1.size; simp at this; omega
         clear hr1 hw1))
    go_ret
    exact ⟨_, rfl, by rw [HV.out]; exact HR1.out, HW1.out⟩
end Go.Proofs.YtmpmibebkflaiaaGreatDoor
namespace Go.Proofs.YtmpmibebkflaiaaGreatDoor
open Go.RowKit Go.Lib Tp
set_option maxRecDepth 100000
set_option linter.unusedVariables false
set_option linter.unusedSectionVars false

theorem kat_new (W : World) (ks : List Int) (n : Nat) (hn : n = W.heap.size) : KAt (W.alloc (.cells (intsC ks).toArray 3)) (.slice (some ⟨n, 0, none⟩) ks.length ks.length) ks := .inr ⟨n, rfl, obj_new W _ n hn⟩
set_option maxHeartbeats 4000000 in
theorem write_pair (B : Nat) (ls : List Ty) (hW : ∀ x ∈ ls, WriteAt B x) (n : Int) (nm : ByteArray) (s v : Value) (l : List UInt8) (w : World) (hB : B ≤ w.heap.size) (ho : BRow B l v w) (hA : IsA w (fun g => g < B) ls s)
    (hlen : l.length + (joinB [32, 42, 32] [3, 4] (texts ls)).length ≤ 1099511627776) (hT : PowB B w) (hll : ls.length ≤ 2513169434843) :
    Calls Tryz.prog 25 #[v, .agg #[.int .i64 3, .int .i64 n, .string nm, s]] w (BPost B (l ++ joinB [32, 42, 32] [3, 4] (texts ls)) v w) := by
  obtain ⟨A, c, rfl, hc⟩ := hA.form
  obtain ⟨M, hM⟩ : ∃ M, M = (w.alloc (.cells #[.int .i64 3, .int .i64 n, .string nm, .slice A ls.length c] 24)).alloc (.cells #[.int .i64 3, .int .i64 4] 3) := ⟨_, rfl⟩
  have hw : Wr w v M v := by rw [hM]; exact (Wr.alloc _ _ _).trans (Wr.alloc _ _ _)
  have hb : Below B w M := by rw [hM]; exact ((Below.refl _ _).alloc hB _).alloc (by simp; omega) _
  have HC := Lib.hid (show Calls Tryz.prog 35 #[v, .slice A ls.length c, .string ⟨#[32, 42, 32]⟩, .slice (some ⟨w.heap.size + 1, 0, none⟩) 2 2] M (BPost B (l ++ joinB [32, 42, 32] [3, 4] (texts ls)) v M) from
    list_any B ls hW _ v _ ⟨#[32, 42, 32]⟩ l [3, 4] M (by have := hb.size; omega) (by rw [hM]; exact (ho.alloc _).alloc _) (hA.bel hb) hlen (hT.on hb) (by rw [hM]; exact kat_new _ [3, 4] _ (by simp)) (by simp) hll (by decide))
  have HW := Lib.hid hw
  rw [hM] at HC HW
  clear hW ho hA hlen hT hw hb hM
  go_enter Tryz.func25, Tryz.ntmps25
  go_wp2_with (go_at_call 35; refine HC.out.mono ?_; rintro e w2 ⟨v2, rfl, hr2, hw2⟩)
  go_ret
  exact ⟨_, rfl, hr2, HW.out.trans hw2.out⟩
end Go.Proofs.YtmpmibebkflaiaaGreatDoor
namespace Go.Proofs.YtmpmibebkflaiaaGreatDoor
open Go.RowKit Go.Lib Tp
set_option maxRecDepth 100000
set_option linter.unusedVariables false
set_option linter.unusedSectionVars false

/-- an element of a slice of types, in a later world. -/
theorem el_at {w W : World} {B : Nat} {ls : List Ty} {A : Option Addr} {m c : Nat} (h : IsA w (fun g => g < B) ls (.slice A m c)) (hb : Below B w W) {k : Nat} {x : Ty} (hx : ls[k]? = some x) :
    ∃ g o Ax cx, A = some ⟨g, o, none⟩ ∧ g < B ∧ m = ls.length ∧ ls.length ≤ c ∧ W.cell? ⟨g, o + k * 4, none⟩ = some (.int .i64 x.kind) ∧ W.cell? ⟨g, o + k * 4 + 1, none⟩ = some (.int .i64 x.num) ∧ W.cell? ⟨g, o + k * 4 + 2, none⟩ = some (.string x.name) ∧ W.cell? ⟨g, o + k * 4 + 3, none⟩ = some (.slice Ax x.args.length cx) ∧ IsA W (fun g => g < B) x.args (.slice Ax x.args.length cx) := by
  obtain ⟨A', c', e, hc, hr⟩ := (h.bel hb).open
  simp only [Value.slice.injEq] at e
  obtain ⟨rfl, rfl, rfl⟩ := e
  have hlt := (List.getElem?_eq_some_iff.1 hx).1
  obtain ⟨g, o, rfl, hg, hr⟩ := hr (by omega)
  obtain ⟨sx, c0, c1, c2, c3, hax⟩ := hr k x hx
  obtain ⟨Ax, cx, rfl, hcx⟩ := hax.form
  exact ⟨g, o, Ax, cx, rfl, hg, rfl, hc, c0, c1, c2, c3, hax⟩
set_option maxHeartbeats 4000000 in
theorem write_arrow (B : Nat) (x y : Ty) (hWx : WriteAt B x) (hWy : WriteAt B y) (n : Int) (nm : ByteArray) (s v : Value) (l : List UInt8) (w : World) (hB : B ≤ w.heap.size) (ho : BRow B l v w) (hA : IsA w (fun g => g < B) [x, y] s)
    (hlen : l.length + (pieceB [4] x ++ [32, 45, 62, 32] ++ writeB y).length ≤ 1099511627776) (hT : PowB B w) :
    Calls Tryz.prog 25 #[v, .agg #[.int .i64 4, .int .i64 n, .string nm, s]] w (BPost B (l ++ (pieceB [4] x ++ [32, 45, 62, 32] ++ writeB y)) v w) := by
  obtain ⟨A, c, rfl, hc⟩ := hA.form
  obtain ⟨g, o, Ax, cx, rfl, hg, -, -, x0, x1, x2, x3, hax⟩ := el_at (k := 0) hA (Below.refl _ _) rfl
  obtain ⟨M, hM⟩ : ∃ M, M = (w.alloc (.cells #[.int .i64 4, .int .i64 n, .string nm, .slice (some ⟨g, o, none⟩) 2 c] 24)).alloc (.cells #[.int .i64 4] 3) := ⟨_, rfl⟩
  have hw : Wr w v M v := by rw [hM]; exact (Wr.alloc _ _ _).trans (Wr.alloc _ _ _)
  have hb : Below B w M := by rw [hM]; exact ((Below.refl _ _).alloc hB _).alloc (by simp; omega) _
  have hBM : B ≤ M.heap.size := by have := hb.size; omega
  have hor : BRow B l v M := by rw [hM]; exact (ho.alloc _).alloc _
  have hbox : M.heap[w.heap.size]? = some (.cells #[.int .i64 4, .int .i64 n, .string nm, .slice (some ⟨g, o, none⟩) 2 c] 24) := by rw [hM]; exact lit_on (heap_alloc_new w _) _
  rw [List.length_append, List.length_append] at hlen
  have hk : KAt M (.slice (some ⟨w.heap.size + 1, 0, none⟩) 1 1) [4] := by rw [hM]; exact kat_new _ [4] _ (by simp)
  have HC := Lib.hid (show Calls Tryz.prog 36 #[v, .agg #[.int .i64 x.kind, .int .i64 x.num, .string x.name, .slice Ax x.args.length cx], .slice (some ⟨w.heap.size + 1, 0, none⟩) 1 1] M (BPost B (l ++ pieceB [4] x) v M) from
    part_any B x _ v _ l [4] M M.heap.size hWx hBM hor (hax.bel hb) (by omega) (hT.on hb) hk.rd (by simp))
  have HY := Lib.hid (fun (Y : World) (Ay : Option Addr) (cy : Nat) (u : Value) (hbY : Below B w Y) (hr : BRow B (l ++ pieceB [4] x ++ [32, 45, 62, 32]) u Y) (hay : IsA Y (fun g => g < B) y.args (.slice Ay y.args.length cy)) =>
    show Calls Tryz.prog 25 #[u, .agg #[.int .i64 y.kind, .int .i64 y.num, .string y.name, .slice Ay y.args.length cy]] Y (BPost B (l ++ pieceB [4] x ++ [32, 45, 62, 32] ++ writeB y) u Y) from
    hWy _ u _ Y (by have := hbY.size; omega) hr hay (by rw [List.length_append, List.length_append]; omega) (hT.on hbY))
  have HE := Lib.hid (show l ++ (pieceB [4] x ++ [32, 45, 62, 32] ++ writeB y) = l ++ pieceB [4] x ++ [32, 45, 62, 32] ++ writeB y by simp)
  have hlim : (l ++ pieceB [4] x).length + 4 ≤ 140737488355328 := by rw [List.length_append]; omega
  have HA := Lib.hid hA
  have HO := Lib.hid ho
  have HW := Lib.hid hw
  have HB := Lib.hid hb
  have HM := Lib.hid hM
  have HBOX := Lib.hid hbox
  have hMs : M.heap.size = w.heap.size + 2 := by rw [hM]; simp
  clear hWx hWy ho hA hlen hT hw hb hM hbox hor hk hax
  have hgw : g < w.heap.size := by omega
  replace x0 : w.cell? ⟨g, o, none⟩ = some (.int .i64 x.kind) := by simpa using x0
  replace x1 : w.cell? ⟨g, o + 1, none⟩ = some (.int .i64 x.num) := by simpa using x1
  replace x2 : w.cell? ⟨g, o + 2, none⟩ = some (.string x.name) := by simpa using x2
  replace x3 : w.cell? ⟨g, o + 3, none⟩ = some (.slice Ax x.args.length cx) := by simpa using x3
  obtain ⟨LL, hLL⟩ : ∃ LL, LL = l ++ (pieceB [4] x ++ [32, 45, 62, 32] ++ writeB y) := ⟨_, rfl⟩
  rw [← hLL] at HE ⊢
  clear hLL
  go_enter Tryz.func25, Tryz.ntmps25
  go_wp2_with (first
    | (go_at_call 36
       rw [← HM.out]
       refine HC.out.mono ?_
       rintro e w2 ⟨v2, rfl, hr2, hw2⟩
       have HR2 := Lib.hid hr2.out
       have HW2 := Lib.hid (HW.out.trans hw2.out)
       have HBX2 := Lib.hid (lit_kept HBOX.out hw2.out (HO.out.ne (Nat.le_refl _)))
       have hs2 : B ≤ w2.heap.size := by have := hw2.out.1.size; omega
       have hn2 : v2.ownBlock ≠ some w.heap.size := hw2.out.ne (HO.out.ne (Nat.le_refl _)) (by omega)
       clear hr2 hw2)
    | (at_builtin
       refine wpList_append_str rfl _ _ rfl B _ _ rfl HR2.out ⟨#[32, 45, 62, 32]⟩ rfl hlim hs2 ?_
       intro v3 w3 hr3 hw3
       have HR3 := Lib.hid hr3
       have HW3 := Lib.hid (HW2.out.trans hw3)
       have hb3 : Below B w w3 := HO.out.below HW3.out hB
       obtain ⟨z0, z1, z2, z3⟩ := box4 (lit_kept HBX2.out hw3 hn2)
       obtain ⟨g', o', Ay, cy, e, -, -, -, y0, y1, y2, y3, hay⟩ := el_at (k := 1) HA.out hb3 rfl
       simp only [Option.some.injEq, Addr.mk.injEq, and_true] at e
       obtain ⟨rfl, rfl⟩ := e
       replace y0 : w3.cell? ⟨g, o + 4, none⟩ = some (.int .i64 y.kind) := y0
       replace y1 : w3.cell? ⟨g, o + 5, none⟩ = some (.int .i64 y.num) := y1
       replace y2 : w3.cell? ⟨g, o + 6, none⟩ = some (.string y.name) := y2
       replace y3 : w3.cell? ⟨g, o + 7, none⟩ = some (.slice Ay y.args.length cy) := y3
       have hs3 : w.heap.size < w3.heap.size := by have := HW2.out.1.size; have := hw3.1.size; have := (Array.getElem?_eq_some_iff.1 HBX2.out).1; omega
       have hgs3 : g < w3.heap.size := by omega
       have HAY := Lib.hid hay
       have HB3 := Lib.hid hb3
       clear hr3 hw3 hay hb3)
    | (go_at_call 25
       refine (HY.out _ _ _ _ HB3.out HR3.out HAY.out).mono ?_
       rintro e w4 ⟨v4, rfl, hr4, hw4⟩
       have HR4 := Lib.hid hr4.out
       have HW4 := Lib.hid hw4.out
       clear hr4 hw4))
  go_ret
  exact ⟨_, rfl, by rw [HE.out]; exact HR4.out, HW3.out.trans HW4.out⟩
end Go.Proofs.YtmpmibebkflaiaaGreatDoor
namespace Go.Proofs.YtmpmibebkflaiaaGreatDoor
open Go.RowKit Go.Lib Tp
set_option maxRecDepth 100000
set_option linter.unusedVariables false
set_option linter.unusedSectionVars false

set_option maxHeartbeats 4000000 in
theorem write_con0 (B : Nat) (n : Int) (nm : ByteArray) (s v : Value) (l : List UInt8) (w : World) (hs : ∃ A c, s = .slice A 0 c) (hB : B ≤ w.heap.size) (ho : BRow B l v w)
    (hlen : l.length + nm.data.toList.length ≤ 1099511627776) (hT : PowB B w) :
    Calls Tryz.prog 25 #[v, .agg #[.int .i64 2, .int .i64 n, .string nm, s]] w (BPost B (l ++ nm.data.toList) v w) := by
  obtain ⟨A, c, rfl⟩ := hs
  have HO := Lib.hid ho
  have hlim : l.length + nm.size ≤ 140737488355328 := by
    have e : nm.data.toList.length = nm.size := by simp
    omega
  clear ho hlen hT
  obtain ⟨LL, hLL⟩ : ∃ LL, LL = l ++ nm.data.toList := ⟨_, rfl⟩
  rw [← hLL]
  have HL := Lib.hid hLL
  clear hLL
  go_enter Tryz.func25, Tryz.ntmps25
  go_wp2_with (at_builtin; refine wpList_append_str rfl _ _ rfl B _ _ rfl (HO.out.alloc _) nm rfl hlim (by simp; omega) ?_; intro v3 w3 hr3 hw3; have HR3 := Lib.hid hr3; have HW3 := Lib.hid ((Wr.alloc w _ v).trans hw3); clear hr3 hw3)
  go_ret
  exact ⟨_, rfl, by rw [HL.out]; exact HR3.out, HW3.out⟩
set_option maxHeartbeats 4000000 in
theorem write_con1 (B : Nat) (x : Ty) (hWx : WriteAt B x) (n : Int) (nm : ByteArray) (s v : Value) (l : List UInt8) (w : World) (hB : B ≤ w.heap.size) (ho : BRow B l v w) (hA : IsA w (fun g => g < B) [x] s)
    (hlen : l.length + (pieceB [3, 4] x ++ [32] ++ nm.data.toList).length ≤ 1099511627776) (hT : PowB B w) :
    Calls Tryz.prog 25 #[v, .agg #[.int .i64 2, .int .i64 n, .string nm, s]] w (BPost B (l ++ (pieceB [3, 4] x ++ [32] ++ nm.data.toList)) v w) := by
  obtain ⟨A, c, rfl, hc⟩ := hA.form
  obtain ⟨g, o, Ax, cx, rfl, hg, -, -, x0, x1, x2, x3, hax⟩ := el_at (k := 0) hA (Below.refl _ _) rfl
  obtain ⟨M, hM⟩ : ∃ M, M = (w.alloc (.cells #[.int .i64 2, .int .i64 n, .string nm, .slice (some ⟨g, o, none⟩) 1 c] 24)).alloc (.cells #[.int .i64 3, .int .i64 4] 3) := ⟨_, rfl⟩
  have hw : Wr w v M v := by rw [hM]; exact (Wr.alloc _ _ _).trans (Wr.alloc _ _ _)
  have hb : Below B w M := by rw [hM]; exact ((Below.refl _ _).alloc hB _).alloc (by simp; omega) _
  have hBM : B ≤ M.heap.size := by have := hb.size; omega
  have hor : BRow B l v M := by rw [hM]; exact (ho.alloc _).alloc _
  have hbox : M.heap[w.heap.size]? = some (.cells #[.int .i64 2, .int .i64 n, .string nm, .slice (some ⟨g, o, none⟩) 1 c] 24) := by rw [hM]; exact lit_on (heap_alloc_new w _) _
  rw [List.length_append, List.length_append] at hlen
  have hk : KAt M (.slice (some ⟨w.heap.size + 1, 0, none⟩) 2 2) [3, 4] := by rw [hM]; exact kat_new _ [3, 4] _ (by simp)
  have HC := Lib.hid (show Calls Tryz.prog 36 #[v, .agg #[.int .i64 x.kind, .int .i64 x.num, .string x.name, .slice Ax x.args.length cx], .slice (some ⟨w.heap.size + 1, 0, none⟩) 2 2] M (BPost B (l ++ pieceB [3, 4] x) v M) from
    part_any B x _ v _ l [3, 4] M M.heap.size hWx hBM hor (hax.bel hb) (by omega) (hT.on hb) hk.rd (by simp))
  have HE := Lib.hid (show l ++ (pieceB [3, 4] x ++ [32] ++ nm.data.toList) = l ++ pieceB [3, 4] x ++ [32] ++ nm.data.toList by simp)
  have hlim : (l ++ pieceB [3, 4] x).length + 1 ≤ 140737488355328 := by rw [List.length_append]; omega
  have hlim2 : (l ++ pieceB [3, 4] x ++ [32]).length + nm.size ≤ 140737488355328 := by
    have e : nm.data.toList.length = nm.size := by simp
    rw [List.length_append, List.length_append]; simp only [List.length_cons, List.length_nil] at hlen ⊢; omega
  have HO := Lib.hid ho
  have HW := Lib.hid hw
  have HM := Lib.hid hM
  have HBOX := Lib.hid hbox
  have HN0 := Lib.hid (show (32 : Int) = ((32 : UInt8).toNat : Int) from rfl)
  have hMs : M.heap.size = w.heap.size + 2 := by rw [hM]; simp
  clear hWx ho hA hlen hT hw hb hM hbox hor hk hax
  have hgw : g < w.heap.size := by omega
  replace x0 : w.cell? ⟨g, o, none⟩ = some (.int .i64 x.kind) := by simpa using x0
  replace x1 : w.cell? ⟨g, o + 1, none⟩ = some (.int .i64 x.num) := by simpa using x1
  replace x2 : w.cell? ⟨g, o + 2, none⟩ = some (.string x.name) := by simpa using x2
  replace x3 : w.cell? ⟨g, o + 3, none⟩ = some (.slice Ax x.args.length cx) := by simpa using x3
  obtain ⟨LL, hLL⟩ : ∃ LL, LL = l ++ (pieceB [3, 4] x ++ [32] ++ nm.data.toList) := ⟨_, rfl⟩
  rw [← hLL] at HE ⊢
  clear hLL
  go_enter Tryz.func25, Tryz.ntmps25
  go_wp2_with (first
    | (go_at_call 36
       rw [← HM.out]
       refine HC.out.mono ?_
       rintro e w2 ⟨v2, rfl, hr2, hw2⟩
       have HR2 := Lib.hid hr2.out
       have HW2 := Lib.hid (HW.out.trans hw2.out)
       have HBX2 := Lib.hid (lit_kept HBOX.out hw2.out (HO.out.ne (Nat.le_refl _)))
       have hs2 : B ≤ w2.heap.size := by have := hw2.out.1.size; omega
       have hn2 : v2.ownBlock ≠ some w.heap.size := hw2.out.ne (HO.out.ne (Nat.le_refl _)) (by omega)
       have hsz2 : w.heap.size < w2.heap.size := by have := hw2.out.1.size; omega
       clear hr2 hw2)
    | (at_builtin
       refine wpList_append_bs rfl _ _ rfl B _ _ rfl (HR2.out.alloc _) ⟨_, 0, none⟩ 1 1 [32] rfl rfl (news1 HN0.out (obj_new _ _ _ rfl)) hlim (by simp; omega) ?_
       intro v3 w3 hr3 hw3
       have HR3 := Lib.hid hr3
       have HW3 := Lib.hid (HW2.out.trans ((Wr.alloc _ _ _).trans hw3))
       obtain ⟨z0, z1, z2, z3⟩ := box4 (lit_kept (lit_on HBX2.out _) hw3 hn2)
       have hs3 : w.heap.size < w3.heap.size := by have := hw3.1.size; simp at this; omega
       have hs3b : B ≤ w3.heap.size := by omega
       clear hr3 hw3)
    | (at_builtin
       refine wpList_append_str rfl _ _ rfl B _ _ rfl HR3.out nm rfl hlim2 hs3b ?_
       intro v4 w4 hr4 hw4
       have HR4 := Lib.hid hr4
       have HW4 := Lib.hid hw4
       clear hr4 hw4))
  go_ret
  exact ⟨_, rfl, by rw [HE.out]; exact HR4.out, HW3.out.trans HW4.out⟩
end Go.Proofs.YtmpmibebkflaiaaGreatDoor
namespace Go.Proofs.YtmpmibebkflaiaaGreatDoor
open Go.RowKit Go.Lib Tp
set_option maxRecDepth 100000
set_option linter.unusedVariables false
set_option linter.unusedSectionVars false

set_option maxHeartbeats 4000000 in
theorem write_many (B : Nat) (ls : List Ty) (hW : ∀ x ∈ ls, WriteAt B x) (n : Int) (nm : ByteArray) (s v : Value) (l : List UInt8) (w : World) (hB : B ≤ w.heap.size) (ho : BRow B l v w) (hA : IsA w (fun g => g < B) ls s) (h2 : 2 ≤ ls.length)
    (hlen : l.length + ([40] ++ joinB [44, 32] [] (texts ls) ++ [41, 32] ++ nm.data.toList).length ≤ 1099511627776) (hT : PowB B w) (hll : ls.length ≤ 2513169434843) :
    Calls Tryz.prog 25 #[v, .agg #[.int .i64 2, .int .i64 n, .string nm, s]] w (BPost B (l ++ ([40] ++ joinB [44, 32] [] (texts ls) ++ [41, 32] ++ nm.data.toList)) v w) := by
  obtain ⟨A, c, rfl, hc⟩ := hA.form
  obtain ⟨J, hJ⟩ : ∃ J, J = joinB [44, 32] [] (texts ls) := ⟨_, rfl⟩
  obtain ⟨M, hM⟩ : ∃ M, M = w.alloc (.cells #[.int .i64 2, .int .i64 n, .string nm, .slice A ls.length c] 24) := ⟨_, rfl⟩
  have hMw : Wr w v M v := by rw [hM]; exact Wr.alloc w _ v
  have hMs : M.heap.size = w.heap.size + 1 := by rw [hM]; simp
  have hMb : Below B w M := by rw [hM]; exact (Below.refl _ _).alloc hB _
  have hbk : M.heap[w.heap.size]? = some (.cells #[.int .i64 2, .int .i64 n, .string nm, .slice A ls.length c] 24) := by rw [hM]; exact heap_alloc_new w _
  have hoM : BRow B l v M := by rw [hM]; exact ho.alloc _
  rw [← hJ] at hlen ⊢
  simp only [List.length_append, List.length_cons, List.length_nil] at hlen
  have HC := Lib.hid (fun (Y : World) (y : Value) (hb : Below B w Y) (hr : BRow B (l ++ [40]) y Y) =>
    show Calls Tryz.prog 35 #[y, .slice A ls.length c, .string ⟨#[44, 32]⟩, .slice none 0 0] Y (BPost B (l ++ [40] ++ J) y Y) from hJ ▸
    list_any B ls hW _ y _ ⟨#[44, 32]⟩ (l ++ [40]) [] Y (by have := hb.size; omega) hr (hA.bel hb) (by rw [List.length_append, show (⟨#[44, 32]⟩ : ByteArray).data.toList = [44, 32] from rfl, ← hJ]; simp; omega) (hT.on hb) (.inl ⟨rfl, rfl⟩) (by simp) hll (by decide))
  have HE := Lib.hid (show l ++ ([40] ++ J ++ [41, 32] ++ nm.data.toList) = l ++ [40] ++ J ++ [41, 32] ++ nm.data.toList by simp)
  have hl1 : l.length + 1 ≤ 140737488355328 := by omega
  have hl2 : (l ++ [40] ++ J).length + 2 ≤ 140737488355328 := by simp; omega
  have hl3 : (l ++ [40] ++ J ++ [41, 32]).length + nm.size ≤ 140737488355328 := by
    have e : nm.data.toList.length = nm.size := by simp
    simp at hlen ⊢; omega
  have HL2 := Lib.hid hl2
  have HL3 := Lib.hid hl3
  have HO := Lib.hid hoM
  have HOW := Lib.hid ho
  have HMW := Lib.hid hMw
  have HMB := Lib.hid hMb
  have HM := Lib.hid hM
  have HBK := Lib.hid hbk
  have hBM : B ≤ M.heap.size := by omega
  obtain ⟨L, hL⟩ : ∃ L, L = ls.length := ⟨_, rfl⟩
  rw [← hL] at HC HM HBK h2 hll hc ⊢
  have hL0 : ((L : Int) == 0) = false := by simp; omega
  have hL1 : ((L : Int) == 1) = false := by simp; omega
  obtain ⟨LL, hLL⟩ : ∃ LL, LL = l ++ ([40] ++ J ++ [41, 32] ++ nm.data.toList) := ⟨_, rfl⟩
  rw [← hLL] at HE ⊢
  clear hW ho hA hT hM hbk hoM hMw hMb hL hlen hJ hl2 hl3 hLL
  go_enter Tryz.func25, Tryz.ntmps25
  obtain ⟨z0, z1, z2, z3⟩ := box4 HBK.out
  rw [HM.out] at z0 z1 z2 z3
  go_upto_region 13 with fail
  rw [← HM.out]
  rw [← HM.out] at z0 z1 z2 z3
  have hMsz : w.heap.size < M.heap.size := by omega
  have HMs := Lib.hid hMs
  clear hMs
  go_region_law (first
    | (refine step_append_bs rfl (.tmp 52) (.tmp 53) rfl B _ l rfl (by first | exact HO.out.alloc _ | exact (HO.out.alloc _).alloc _) ⟨_, 0, none⟩ 1 1 [40] rfl rfl (by first | exact news1 rfl (lit_new _ _ _ _ (by simp)) | exact news1 rfl (lit_on (lit_new _ _ _ _ (by simp)) _)) hl1 (by simp; omega) ?_
       intro v1 w1 hr1 hw1
       have hWM : Wr M v w1 v1 := by first | exact (Wr.drew _ _).trans ((Wr.alloc _ _ _).trans hw1) | exact (Wr.drew _ _).trans ((Wr.alloc _ _ _).trans ((Wr.alloc _ _ _).trans hw1))
       have hs1 : M.heap.size ≤ w1.heap.size := hWM.1.size
       have hsz1 : w.heap.size < w1.heap.size := by omega
       have hbB : Below B w w1 := HMB.out.trans (HO.out.below hWM hBM)
       obtain ⟨z0, z1, z2, z3⟩ := box4 (lit_kept HBK.out hWM (HOW.out.ne (Nat.le_refl _)))
       have HBK1 := Lib.hid (lit_kept HBK.out hWM (HOW.out.ne (Nat.le_refl _)))
       have HN1 := Lib.hid (hWM.ne (HOW.out.ne (Nat.le_refl _)) hMsz)
       have HR1 := Lib.hid hr1
       have HWM := Lib.hid hWM
       have HBB := Lib.hid hbB
       clear hr1 hw1 hWM hbB)
    | (rw [if_pos (by simp [Region.wanted])]
       go_simp
       go_at_call 35
       refine (HC.out _ v1 HBB.out HR1.out).mono ?_
       rintro e w2 ⟨v2, rfl, hr2, hw2⟩
       have hs2 : w1.heap.size ≤ w2.heap.size := hw2.out.1.size)
    | (refine step_append_str rfl (.tmp 57) _ rfl B _ (l ++ [40] ++ J) rfl hr2.out ⟨#[41, 32]⟩ rfl HL2.out (by omega) ?_
       intro v3 w3 hr3 hw3
       have HR3 := Lib.hid (show BRow B (l ++ [40] ++ J ++ [41, 32]) v3 w3 from hr3)
       have HW3 := Lib.hid (show Wr M v w3 v3 from HWM.out.trans (hw2.out.trans hw3))
       obtain ⟨z0, z1, z2, z3⟩ := box4 (lit_kept (lit_kept HBK1.out hw2.out HN1.out) hw3 (hw2.out.ne HN1.out (by omega)))
       have hs3 : w.heap.size < w3.heap.size := by have := hw3.1.size; omega
       have hB3 : B ≤ w3.heap.size := by omega
       clear hr3 hw3))
  all_goals
    clear HO HOW HBK HM HC HR1 HWM HBB HBK1 HN1 hr2 hw2
    go_wp2_with (at_builtin; refine wpList_append_str rfl _ _ rfl B _ _ rfl HR3.out nm rfl HL3.out hB3 ?_; intro v4 w4 hr4 hw4; have HR4 := Lib.hid hr4; have HW4 := Lib.hid hw4; clear hr4 hw4)
    go_ret
    exact ⟨_, rfl, by rw [HE.out]; exact HR4.out, HMW.out.trans (HW3.out.trans HW4.out)⟩
end Go.Proofs.YtmpmibebkflaiaaGreatDoor
namespace Go.Proofs.YtmpmibebkflaiaaGreatDoor
open Go.RowKit Go.Lib Tp
set_option maxRecDepth 100000
set_option linter.unusedVariables false
set_option linter.unusedSectionVars false

theorem rp_kind {t : Ty} (h : rightPart nameB t = true) : t.kind = 1 ∨ (t.kind = 2) ∨ (t.kind = 3) ∨ (t.kind = 4 ∧ t.args.length = 2) := by
  unfold rightPart at h
  split at h
  · exact .inl ‹_›
  split at h
  · exact .inr (.inl ‹_›)
  split at h
  · exact .inr (.inr (.inl ‹_›))
  split at h
  · refine .inr (.inr (.inr ⟨‹_›, ?_⟩))
    simp at h
    omega
  · simp at h
theorem write_any (B : Nat) (t : Ty) : okT nameB t → fit t → WriteAt B t := by
  refine Ty.ind (P := fun t => okT nameB t → fit t → WriteAt B t) (fun t ih => ?_) t
  intro hok hfit s v l w hB ho hA hlen hT
  have hW : ∀ x ∈ t.args, WriteAt B x := fun x hx => ih x hx (hok.arg hx) (hfit.arg hx)
  have hrp := hok.self
  have hll := hfit.self.2
  rw [writeB_eq] at hlen ⊢
  rcases rp_kind hrp with hk | hk | hk | ⟨hk, h2⟩
  · obtain ⟨e, h0, h1⟩ := rp_var hrp hk
    generalize t.num = n at *
    subst e
    obtain ⟨A, c, rfl, hc⟩ := hA.form
    exact write_var B n _ v l w h0 h1 ⟨A, c, rfl⟩ hB ho (by simpa [headB, var, Ty.kind, Ty.num] using hlen) hT
  · obtain ⟨k, n, nm, bs⟩ := t
    simp only [Ty.kind, Ty.num, Ty.name, Ty.args] at *
    subst hk
    unfold tv
    simp only [Ty.kind, Ty.num, Ty.name]
    match bs, hA, hW, hlen, hll with
    | [], hA, hW, hlen, hll =>
      obtain ⟨A, c, rfl, hc⟩ := hA.form
      exact write_con0 B n nm _ v l w ⟨A, c, rfl⟩ hB ho (by simpa [headB, texts] using hlen) hT
    | [x], hA, hW, hlen, hll => exact write_con1 B x (hW x (by simp)) n nm s v l w hB ho hA (by simpa [headB, texts, pieceB] using hlen) hT
    | x :: y :: r, hA, hW, hlen, hll => exact write_many B (x :: y :: r) hW n nm s v l w hB ho hA (by simp) (by simpa [headB, texts] using hlen) hT hll
  · obtain ⟨k, n, nm, bs⟩ := t
    simp only [Ty.kind, Ty.num, Ty.name, Ty.args] at *
    subst hk
    exact write_pair B bs hW n nm s v l w hB ho hA (by simpa [headB] using hlen) hT hll
  · obtain ⟨k, n, nm, bs⟩ := t
    simp only [Ty.kind, Ty.num, Ty.name, Ty.args] at *
    subst hk
    match bs, hA, hW, hlen, h2 with
    | [x, y], hA, hW, hlen, h2 => exact write_arrow B x y (hW x (by simp)) (hW y (by simp)) n nm s v l w hB ho hA (by simpa [headB, texts, pieceB] using hlen) hT
theorem joinB_len (sep : List UInt8) (ks : List Int) (ps : List (Int × List UInt8)) : (joinB sep ks ps).length ≤ (ps.map fun p => p.2.length + 2 + sep.length).sum := by
  induction ps with
  | nil => simp [joinB]
  | cons p ps ih =>
    have := br_len ks p
    cases ps with
    | nil => simp [joinB]; omega
    | cons q r =>
      rw [joinB, List.length_append, List.length_append, List.map_cons, List.sum_cons]
      omega
theorem texts_sum (ls : List Ty) (h : ∀ x ∈ ls, (writeB x).length + 6 ≤ 16040 * x.wt) : ((texts ls).map fun p => p.2.length + 5).sum ≤ 16040 * Ty.wts ls := by
  induction ls with
  | nil => rw [texts]; simp
  | cons a ls ih =>
    rw [texts, List.map_cons, List.sum_cons, Ty.wts]
    have := h a (by simp)
    have := ih fun x hx => h x (by simp [hx])
    show (writeB a).length + 5 + _ ≤ _
    omega
theorem sum_mono (ps : List (Int × List UInt8)) (a b : Nat) (h : a ≤ b) : (ps.map fun p => p.2.length + 2 + a).sum ≤ (ps.map fun p => p.2.length + (b + 2)).sum := by
  induction ps with
  | nil => simp
  | cons p ps ih => rw [List.map_cons, List.map_cons, List.sum_cons, List.sum_cons]; omega
theorem varB_len {n : Int} (h0 : 0 ≤ n) (h1 : n < 1073741824) : (varB n).length ≤ 22 := by
  unfold varB
  split
  · have : (decDigits (n / 26).toNat).length ≤ 20 := by
      rw [decDigits_length]
      have := numDigits_eq (n / 26).toNat (by omega) (by omega)
      split at this <;> omega
    simp
    omega
  · simp
theorem write_len (t : Ty) : okT nameB t → (∀ p ∈ parts t, p.name.size ≤ 16000) → (writeB t).length + 6 ≤ 16040 * t.wt := by
  refine Ty.ind (P := fun t => okT nameB t → (∀ p ∈ parts t, p.name.size ≤ 16000) → (writeB t).length + 6 ≤ 16040 * t.wt) (fun t ih => ?_) t
  intro hok hs
  have hsum := texts_sum t.args fun x hx => ih x hx (hok.arg hx) fun p hp => hs p (parts_mem hx hp)
  have hn := hs t (parts_self t)
  have hn2 : t.name.data.toList.length = t.name.size := by simp
  rw [writeB_eq, Ty.wt_eq]
  have j3 := fun ks => Nat.le_trans (Nat.le_trans (joinB_len [32, 42, 32] ks (texts t.args)) (sum_mono _ 3 3 (by omega))) hsum
  have j2 := fun ks => Nat.le_trans (Nat.le_trans (joinB_len [44, 32] ks (texts t.args)) (sum_mono _ 2 3 (by omega))) hsum
  have hrp := hok.self
  rcases rp_kind hrp with hk | hk | hk | ⟨hk, h2⟩
  · obtain ⟨e, h0, h1⟩ := rp_var hrp hk
    unfold headB; rw [if_pos hk]
    have := varB_len h0 h1
    omega
  · unfold headB; rw [if_neg (by omega), if_neg (by omega), if_neg (by omega)]
    generalize texts t.args = ps at *
    match ps with
    | [] => simp only at *; omega
    | [p] =>
      have := br_len [3, 4] p
      simp only [List.map_cons, List.map_nil, List.sum_cons, List.sum_nil, List.length_append, List.length_cons, List.length_nil] at *
      omega
    | p :: q :: r =>
      have := j2 []
      simp only [List.length_append, List.length_cons, List.length_nil] at *
      omega
  · unfold headB; rw [if_neg (by omega), if_pos hk]
    have := j3 [3, 4]
    omega
  · unfold headB; rw [if_neg (by omega), if_neg (by omega), if_pos hk]
    generalize texts t.args = ps at *
    match ps with
    | [] => simp; omega
    | [p] => simp; omega
    | p :: q :: r =>
      have := br_len [4] p
      simp only [List.map_cons, List.sum_cons, List.length_append, List.length_cons, List.length_nil] at *
      omega
end Go.Proofs.YtmpmibebkflaiaaGreatDoor
namespace Go.Proofs.YtmpmibebkflaiaaGreatDoor
open Go.RowKit Go.Lib Tp
set_option maxRecDepth 100000
set_option linter.unusedVariables false
set_option linter.unusedSectionVars false

/-- what Show answers. -/
def showF (t : Ty) : ByteArray × Int := if rightF nameB t then (⟨⟨writeB t⟩⟩, 0) else (⟨#[]⟩, 120)
set_option maxHeartbeats 4000000 in
theorem show_any (t : Ty) (s : Value) (w : World) (hf : fit t) (hlen : rightF nameB t = true → (writeB t).length ≤ 1099511627776) (hA : IsA w (Old w) t.args s) (hT : PowB w.heap.size w) :
    Calls Tryz.prog 12 #[tv t s] w fun e w' => e = .returned (.tuple #[.string (showF t).1, .int .i64 (showF t).2]) ∧ Below w.heap.size w w' := by
  obtain ⟨A, c, rfl, hc⟩ := hA.form
  obtain ⟨M, hM⟩ : ∃ M, M = w.alloc (.cells #[.int .i64 t.kind, .int .i64 t.num, .string t.name, .slice A t.args.length c] 24) := ⟨_, rfl⟩
  have hMb : Below w.heap.size w M := by rw [hM]; exact (Below.refl _ _).alloc (Nat.le_refl _) _
  have hMs : M.heap.size = w.heap.size + 1 := by rw [hM]; simp
  have hbx : BoxT t (.slice A t.args.length c) w.heap.size M := by rw [hM]; exact boxT_new w t _ _
  have HR := Lib.hid (right_any t _ M hf (hA.after hMb))
  have HX := Lib.hid hbx
  have HMB := Lib.hid hMb
  have HM := Lib.hid hM
  unfold tv at HR ⊢
  cases hr : rightF nameB t
  · rw [hr] at HR
    have HE := Lib.hid (show showF t = (⟨#[]⟩, 120) by unfold showF; rw [hr]; rfl)
    clear hr hlen hA hf hT hM hMb hbx
    go_enter Tryz.func12, Tryz.ntmps12
    go_wp2_with (go_at_call 9; rw [← HM.out]; with_reducible (refine HR.out.mono ?_); rintro e w1 ⟨rfl, hb1⟩; have HB1 := Lib.hid hb1; clear hb1)
    go_ret2
    rw [HE.out]
    exact ⟨rfl, HMB.out.trans (HB1.out.mono HMB.out.size)⟩
  · rw [hr] at HR
    have HE := Lib.hid (show showF t = (⟨⟨writeB t⟩⟩, 0) by unfold showF; rw [hr]; rfl)
    have HW := Lib.hid (fun (W : World) (hb : Below w.heap.size w W) => show Calls Tryz.prog 25 #[.slice none 0 0, .agg #[.int .i64 t.kind, .int .i64 t.num, .string t.name, .slice A t.args.length c]] W (BPost w.heap.size (writeB t) (.slice none 0 0) W) from
      write_any w.heap.size t (right_ok hr).1 hf _ _ [] W hb.size (BRow.nil _ _) (hA.bel hb) (by have := hlen hr; simpa using this) (hT.on hb))
    clear hr hlen hA hf hT hM hMb hbx
    go_enter Tryz.func12, Tryz.ntmps12
    go_wp2_with (first
      | (go_at_call 9
         rw [← HM.out]
         with_reducible (refine HR.out.mono ?_)
         rintro e w1 ⟨rfl, hb1⟩
         obtain ⟨x0, x1, x2, x3⟩ := HX.out.keep hb1 (by omega)
         have hs1 : w.heap.size < w1.heap.size := by have := hb1.size; omega
         have HB1 := Lib.hid (HMB.out.trans (hb1.mono HMB.out.size))
         clear hb1)
      | (go_at_call 25
         refine (HW.out _ HB1.out).mono ?_
         rintro e w2 ⟨v2, rfl, hr2, hw2⟩
         have hrd : Rd w2 w2.heap.size 1 v2 (writeB t).length (bytesV (writeB t)) := Rd.of_own hr2.out
         obtain ⟨-, A2, c2, rfl, -⟩ := id hrd
         have kcv := conv_rd hrd 47 9 5 Tryz.underlying47 Tryz.underlying5 Tryz.underlying9
         have HB2 := Lib.hid (HB1.out.trans ((BRow.nil w.heap.size w1).below hw2.out HB1.out.size))
         clear hr2 hw2 hrd))
    go_ret2
    rw [HE.out]
    exact ⟨rfl, HB2.out⟩
end Go.Proofs.YtmpmibebkflaiaaGreatDoor
