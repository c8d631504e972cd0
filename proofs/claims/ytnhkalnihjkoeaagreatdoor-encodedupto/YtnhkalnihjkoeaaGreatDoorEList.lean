/- The reference's reader of texts takes lists. -/
import Derived.Test.YtnhkalnihjkoeaaGreatDoorEBytes
import Derived.Test.YtnhkalnihjkoeaaGreatDoorDRow
namespace Go.Proofs.YtnhkalnihjkoeaaGreatDoor
open Go.RowKit

theorem DF.up {w : World} {B B' db : Nat} {tab : List RT} {roots : List Nat} (h : DF w B db tab roots) (hB : B ≤ B') : DF w B' db tab roots := by
  obtain ⟨w0, X, s, n, tv, lv, av, rv, lines, ats, B0, h1, h2, h3, h4⟩ := h
  exact ⟨w0, X, s, n, tv, lv, av, rv, lines, ats, B0, Nat.le_trans h1 hB, h2.mono (fun k hk e => by unfold From at e ⊢; omega), h3, h4⟩

/-- What a call that reads a value begins with. -/
structure MIn (w : World) (B mb db : Nat) (s : ByteArray) (l : Bs) (out : Bs) (tab : List RT) (roots : List Nat) : Prop where
  ms : MS w B mb db s l false out
  df : DF w B db tab roots
  hs : s.size ≤ 1048576
  tl : tab.length ≤ 1000000
  hB : B ≤ w.heap.size

def MSaid (k : Nat) : Prop := ∀ (w : World) (B mb db : Nat) (s : ByteArray) (l out : Bs) (tab : List RT) (roots : List Nat) (x : Nat) (t : PT),
  MIn w B mb db s l out tab roots → Is tab x t → WFT k t → out.length + 8 * l.length + 600 * k ≤ 800000000 →
  Calls Tryz.prog 106 #[.pointer (some ⟨mb, 0, none⟩), .int .i64 x] w fun e w' => EPost mb B db s out (8 * l.length + 600 * k) w l (rText k t l) (wMsg k) e w'

theorem Fr.tx' {mb : Nat} {w0 w w' : World} (h : Fr (One mb) w w') : Fr (TX mb w0) w w' := h.mono (fun _ _ e => .inl e)
theorem rAcc_hd {c : Nat} (hc : 0 < c) (r : Bs) : rAcc c r = if hd r = c then some r.tail else none := by
  rcases r with _ | ⟨b, r⟩
  · have e : ¬ hd [] = c := by
      show ¬ (0 = c)
      omega
    rw [if_neg e]
    rfl
  · rfl
theorem digStart.acc {r : Bs} (h : digStart r) {c : Nat} (hc : c < 48 ∨ 57 < c) : rAcc c r = none := by
  obtain ⟨b, r', rfl, hb⟩ := h
  unfold isDig at hb
  exact rAcc_ne (by omega)
theorem msg_room {k : Nat} {t : PT} {l r : Bs} {v : PV} (hW : WFT k t) (h : rText k t l = (some v, r)) : (wMsg k v).length + 8 * r.length ≤ 8 * l.length := by
  obtain ⟨h1, h2⟩ := rText_sound k t l v r hW h
  have h3 := msg_len k t v hW h1
  have h4 := congrArg List.length h2
  simp only [List.length_append] at h4
  omega

/-- After n elements. -/
def ListI (k : Nat) (t0 : PT) (l : Bs) (n : Nat) (more bad : Bool) (r xout : Bs) : Prop :=
  n ≤ 300 ∧ r.length ≤ l.length ∧ (more = true → n < 300) ∧
  (bad = false → ∃ vs : List PV, vs.length = n ∧ xout = vs.flatMap (wMsg k) ∧ xout.length + 8 * r.length ≤ 8 * l.length ∧
     (more = true → rList (rText k t0) l = rElems (rText k t0) (300 - n) vs r) ∧
     (more = false → rList (rText k t0) l = (match rAcc 93 r with | some l2 => (some vs, l2) | none => (none, r)))) ∧
  (bad = true → rList (rText k t0) l = (none, r) ∧ xout.length ≤ 8 * l.length + 600 * k)

theorem ListI.start (k : Nat) (t0 : PT) (l : Bs) : ListI k t0 l 0 (!decide ((if (mMust 91 l false).2 = true then 0 else hd (mMust 91 l false).1) = 93)) (mMust 91 l false).2 (mMust 91 l false).1 [] := by
  rcases hq : rAcc 91 l with _ | l1
  · refine ⟨by omega, by simp [mMust, hq], fun _ => by omega, by simp [mMust, hq], fun _ => ⟨by simp [mMust, hq, rList], by simp⟩⟩
  · have hm : mMust 91 l false = (l1, false) := by simp [mMust, hq]
    obtain ⟨b, rfl, _⟩ := rAcc_some hq
    rw [hm]
    refine ⟨by omega, by simp, fun _ => by omega, fun _ => ⟨[], rfl, rfl, by simp; omega, fun h => ?_, fun h => ?_⟩, fun h => by simp at h⟩
    · have hne : ¬ hd l1 = 93 := by simpa using h
      have : rAcc 93 l1 = none := by rw [rAcc_hd (by omega), if_neg hne]
      simp only [rList, hq, this]
    · have he : hd l1 = 93 := by simpa using h
      have : rAcc 93 l1 = some l1.tail := by rw [rAcc_hd (by omega), if_pos he]
      simp only [rList, hq, this]

theorem ListI.good {k : Nat} {t0 : PT} {l : Bs} {n : Nat} {r xout : Bs} (h : ListI k t0 l n true false r xout) (hW : WFT k t0) {r' xout' : Bs} {bad' : Bool} (hr : r' = (rText k t0 r).2) (hrl : r'.length ≤ r.length)
    (hg : bad' = false → ∃ v, (rText k t0 r).1 = some v ∧ xout' = xout ++ wMsg k v) (hb : bad' = true → ((rText k t0 r).1 = none ∨ digStart r') ∧ xout'.length ≤ xout.length + (8 * r.length + 600 * k)) :
    ((bad' = true ∨ hd r' ≠ 44 ∨ ¬ n + 1 < 300) → ListI k t0 l (n + 1) false bad' r' xout') ∧ (bad' = false → hd r' = 44 → n + 1 < 300 → ListI k t0 l (n + 1) true false r'.tail xout') := by
  obtain ⟨h1, h2, h3, h4, _⟩ := h
  obtain ⟨vs, a1, a2, a3, a4, _⟩ := h4 rfl
  have h3 := h3 rfl
  have a4 := a4 rfl
  rw [show 300 - n = (300 - (n + 1)) + 1 by omega] at a4
  rcases hp : rText k t0 r with ⟨o, r1⟩
  rw [hp] at hr hg hb
  simp only at hr
  subst hr
  cases bad' with
  | true =>
    obtain ⟨b1, b2⟩ := hb rfl
    refine ⟨fun _ => ⟨by omega, by omega, fun h => by simp at h, fun h => by simp at h, fun _ => ⟨?_, by omega⟩⟩, fun h => by simp at h⟩
    rw [a4]
    simp only [rElems, hp]
    rcases o with _ | v
    · rfl
    · rcases b1 with b1 | b1
      · simp at b1
      · simp only [b1.acc (c := 93) (by omega), b1.acc (c := 44) (by omega)]
        split <;> rfl
  | false =>
    obtain ⟨v, c1, c2⟩ := hg rfl
    simp only at c1
    subst c1
    have hroom := msg_room hW hp
    have hx : xout' = (vs ++ [v]).flatMap (wMsg k) := by rw [c2, a2]; simp
    have hxl : xout'.length + 8 * r'.length ≤ 8 * l.length := by rw [c2, List.length_append]; omega
    have e1 : rList (rText k t0) l = (match rAcc 93 r' with | some l2 => (some (vs ++ [v]), l2) | none => if vs.length + 1 = 300 then (none, r') else match rAcc 44 r' with | some l2 => rElems (rText k t0) (300 - (n + 1)) (vs ++ [v]) l2 | none => (none, r')) := by
      rw [a4]
      simp only [rElems, hp]
      rfl
    refine ⟨fun hc => ⟨by omega, by omega, fun h => by simp at h, fun _ => ⟨vs ++ [v], by simp [a1], hx, hxl, fun h => by simp at h, fun _ => ?_⟩, fun h => by simp at h⟩, fun _ hc hn => ⟨by omega, ?_, fun _ => by omega, fun _ => ⟨vs ++ [v], by simp [a1], hx, ?_, fun _ => ?_, fun h => by simp at h⟩, fun h => by simp at h⟩⟩
    · rw [e1]
      rcases hq : rAcc 93 r' with _ | l2
      · simp only
        by_cases hn : vs.length + 1 = 300
        · rw [if_pos hn]
        · rw [if_neg hn]
          have : rAcc 44 r' = none := by
            rw [rAcc_hd (by omega), if_neg]
            rcases hc with hc | hc | hc
            · simp at hc
            · exact hc
            · omega
          rw [this]
      · rfl
    · simp only [List.length_tail]; omega
    · simp only [List.length_tail]; omega
    · rw [e1]
      have q1 : rAcc 93 r' = none := by rw [rAcc_hd (by omega), if_neg (by omega)]
      have q2 : rAcc 44 r' = some r'.tail := by rw [rAcc_hd (by omega), if_pos hc]
      rw [q1, q2]
      simp only
      rw [if_neg (by omega)]

theorem ListI.fin {k : Nat} {t0 : PT} {l : Bs} {n : Nat} {more bad : Bool} {r xout : Bs} (h : ListI k t0 l n more bad r xout) (hx : more = false ∨ bad = true) :
    (mMust 93 r bad).1.length ≤ l.length ∧ (mMust 93 r bad).1 = (rList (rText k t0) l).2 ∧ ((mMust 93 r bad).2 = false → ∃ vs, (rList (rText k t0) l).1 = some vs ∧ wCount n ++ xout = wCount vs.length ++ vs.flatMap (wMsg k)) ∧ ((mMust 93 r bad).2 = true → (rList (rText k t0) l).1 = none) ∧ xout.length ≤ 8 * l.length + 600 * k := by
  obtain ⟨h1, h2, _, h4, h5⟩ := h
  cases bad with
  | true =>
    obtain ⟨a1, a2⟩ := h5 rfl
    exact ⟨by simp [mMust]; omega, by simp [mMust, a1], by simp [mMust], by simp [a1], a2⟩
  | false =>
    have hm : more = false := by
      rcases hx with hx | hx
      · exact hx
      · simp at hx
    obtain ⟨vs, a1, a2, a3, _, a4⟩ := h4 rfl
    have a4 := a4 hm
    rcases hq : rAcc 93 r with _ | l2
    · rw [hq] at a4
      exact ⟨by simp [mMust, hq]; omega, by simp [mMust, hq, a4], by simp [mMust, hq], by simp [a4], by omega⟩
    · rw [hq] at a4
      obtain ⟨b, rfl, _⟩ := rAcc_some hq
      simp only [List.length_cons] at h2
      exact ⟨by simp [mMust, hq]; omega, by simp [mMust, hq, a4], fun _ => ⟨vs, by simp [a4], by rw [a1, a2]⟩, by simp [mMust, hq], by omega⟩

set_option maxHeartbeats 16000000 in
set_option maxRecDepth 100000 in
theorem mList_any {w : World} {B mb db : Nat} {s : ByteArray} {l out : Bs} {tab : List RT} {roots : List Nat} {k : Nat} (hV : MSaid k) (h : MIn w B mb db s l out tab roots) (x : Nat) (t0 : PT) (hI : Is tab x t0) (hW : WFT k t0) (hr : out.length + 8 * l.length + 600 * k ≤ 800000000) :
    Calls Tryz.prog 177 #[.pointer (some ⟨mb, 0, none⟩), .int .i64 x] w fun e w' => EPost mb B db s out (8 * l.length + 600 * k + 2) w l (rList (rText k t0) l) (fun vs => wCount vs.length ++ vs.flatMap (wMsg k)) e w' := by
  have HM := hide h
  obtain ⟨ov, hb, hBm, ho⟩ := h.ms
  have hlt := hb.lt
  have hB := h.hB
  have hs : s.size ≤ maxLen := by unfold maxLen; have := h.hs; omega
  have HSL0 : Hid (∀ (w' : World) (r : Bs) (bad' : Bool), MB w' mb db s r bad' ov → Fr (TX mb w) w w' → MS w' B mb db s r bad' out ∧ MFr mb w w' ∧ BO w' B ov out) := fun w' r bad' hb' hf' => MS.sealT hb hBm ho hb' hf'
  have HOL : Hid (∀ k, ov.ownBlock = some k → k < w.heap.size) := fun k hk => ho.lt hk
  have HBm := hide hBm
  have HDF : Hid (∀ w', Fr (TX mb w) w w' → DF w' B db tab roots) := fun w' hf => h.df.keep (hf.mono (fun k hk e => by
    rcases e with e | e
    · unfold From; omega
    · unfold From; omega))
  have HVS := hide hV
  have HIs := hide hI
  have HW := hide hW
  have hs' := hs
  unfold maxLen at hs'
  clear ho hBm h hV hI hW
  go_enter Tryz.func177, Tryz.ntmps177
  go_wp2_with fail
  refine (mMustB hb hs 91 (by omega) (by omega)).mono ?_
  rintro e w1 ⟨hF1, hb1, rfl⟩
  have HS0 := hide (ListI.start k t0 l)
  obtain ⟨l1, b0, hm0⟩ : ∃ l1 b0, mMust 91 l false = (l1, b0) := ⟨_, _, rfl⟩
  rw [hm0] at hb1 HS0
  have HB1 := hide hb1
  have HF1 : Hid (Fr (TX mb w) w w1) := hF1.tx
  have g0 := hb1.at0
  have g1 := hb1.at1
  have g2 := hb1.at2
  have g4 := hb1.at4
  clear hF1 hb1 hb hm0
  go_wp2_with fail
  go_region
  have HX2 : Hid (MB ((w1.alloc (.cells #[.pointer (some ⟨db, 0, none⟩), .string s, .int .i64 (pos s l1), .slice none 0 0, .bool b0] 207)).drew) w1.heap.size db s l1 b0 (.slice none 0 0)) := ⟨HB1.out.len, HB1.out.tail, heap_new_at rfl _⟩
  have HFz : Hid (Fr Zero w1 ((w1.alloc (.cells #[.pointer (some ⟨db, 0, none⟩), .string s, .int .i64 (pos s l1), .slice none 0 0, .bool b0] 207)).drew)) := (Fr.alloc _ _ _).trans (Fr.drew _ _)
  generalize (w1.alloc (.cells #[.pointer (some ⟨db, 0, none⟩), .string s, .int .i64 (pos s l1), .slice none 0 0, .bool b0] 207)).drew = w2 at *
  clear g0 g1 g2 g4
  go_wp2_with fail
  refine (mNext_any (HB1.out.keep HFz.out (fun h => h)) hs).mono ?_
  rintro e w3 ⟨rfl, n3, e3⟩
  obtain rfl := e3.symm
  have HX3 := hide (HX2.out.keep (Fr.drewN Zero w2 n3) (fun h => h))
  have HF3 := hide (HFz.out.trans (Fr.drewN Zero w2 n3))
  generalize w2.drewN n3 = w3 at *
  clear HX2 HFz
  have hc0 : (if b0 = true then 0 else hd l1) < 256 := by have := hd_lt l1; split <;> omega
  try simp only at HS0
  have HB0 : Hid ((b0 = true → (if b0 = true then 0 else hd l1) ≠ 93)) := fun h => by rw [if_pos h]; omega
  generalize (if b0 = true then 0 else hd l1) = c0 at *
  have hsw := HF1.out.size
  go_wp2_with fail
  go_loopw [5, 6, 7] (fun nv _ mv wr => ∃ (n : Nat) (more bad : Bool) (r got : Bs) (xv : Value), nv = .int .i64 n ∧ mv = .bool more ∧ n ≤ 300 ∧ Hid (ListI k t0 l n more bad r got) ∧ Hid (MB wr w1.heap.size db s r bad xv) ∧ Hid (BO wr w1.heap.size xv got) ∧ Hid (Fr Zero w1 wr) ∧ Hid ((b0 = true ∧ more = true ∧ bad = true) ∨ (b0 = false ∧ (bad = true → more = false)))) (fun nv _ _ _ => 301 - (intOf nv).toNat)
  case atStart =>
    have hm : (((c0 : Nat) : Int) != 93) = !decide (c0 = 93) := by
      rw [Bool.eq_iff_iff]
      simp
      omega
    refine ⟨0, !decide (c0 = 93), b0, l1, [], .slice none 0 0, rfl, by first | rw [hm] | rw [← hm] | simp [hm], by omega, HS0, HX3, BO.nil _ _, HF3, ?_⟩
    show _ ∨ _
    cases b0 with
    | true => exact .inl ⟨rfl, by simpa using HB0.out rfl, rfl⟩
    | false => exact .inr ⟨rfl, fun h => by simp at h⟩
  case round =>
    obtain ⟨n, more, bad, r, got, xv, rfl, rfl, hn3, HL, HX, HXO, HFr, HBB⟩ := hrel
    have x4 := HX.out.at4
    by_cases hgo : more = true ∧ bad = false
    · obtain ⟨rfl, rfl⟩ := hgo
      have hn : n < 300 := HL.out.2.2.1 rfl
      have hb0 : b0 = false := by
        rcases HBB.out with h | h
        · simp at h
        · exact h.1
      subst hb0
      have HRM : Hid (got.length + 8 * r.length ≤ 8 * l.length) := by
        obtain ⟨vs, _, _, q, _⟩ := HL.out.2.2.2.1 rfl
        exact q
      have hrm := HRM.out
      have HD4 : Hid (DF wr w1.heap.size db tab roots) := ((HDF.out w1 HF1.out).keep HFr.out.of0).up (Nat.le_trans hB hsw)
      have HM4 : Hid (MS wr w1.heap.size w1.heap.size db s r false got) := ⟨xv, HX.out, Nat.le_refl _, HXO.out⟩
      clear hrm
      go_wp2_with fail
      refine (HVS.out wr w1.heap.size w1.heap.size db s r got tab roots x t0 ⟨HM4.out, HD4.out, HM.out.hs, HM.out.tl, HFr.out.size⟩ HIs.out HW.out (by have := HRM.out; omega)).mono ?_
      rintro e w4 ⟨hF4, r4, bad4, xo4, hM4, rfl, hr4, hrl4, hg4, hb4⟩
      have HG := hide (HL.out.good HW.out hr4 hrl4 hg4 hb4)
      have HF4 : Hid (Fr Zero w1 w4) := HFr.out.past (HM4.out.fromB hF4)
      obtain ⟨xv4, hx4, _, hxo4⟩ := hM4
      have HX4 := hide hx4
      have HXO4 := hide hxo4
      clear hF4 hr4 hrl4 hg4 hb4 hx4 hxo4 x4
      go_wp2_with fail
      refine (mNext_any HX4.out hs).mono ?_
      rintro e w5 ⟨rfl, n5, e5⟩
      obtain rfl := e5.symm
      have HX5 := hide (HX4.out.keep (Fr.drewN Zero w4 n5) (fun h => h))
      have HXO5 := hide (HXO4.out.keep (Fr.drewN Zero w4 n5) (fun _ _ h => h))
      have HF5 := hide (HF4.out.trans (Fr.drewN Zero w4 n5))
      generalize w4.drewN n5 = w5 at *
      clear HX4 HXO4 HF4
      have y4 := HX5.out.at4
      have hh := hd_lt r4
      cases bad4 with
      | true =>
        simp only [if_true]
        go_wp2_with fail
        go_roundw
        case rel => exact ⟨n + 1, false, true, r4, xo4, xv4, by go_num, by first | rfl | exact trivial | simp, by omega, HG.out.1 (.inl rfl), HX5, HXO5, HF5, hide (by simp)⟩
        case measure => simp [intOf]; omega
      | false =>
        simp only [Bool.false_eq_true, if_false]
        by_cases hc : hd r4 = 44
        · by_cases hn1 : n + 1 < 300
          · have hnI : (n : Int) + 1 < 300 := by omega
            obtain ⟨b, r5, rfl⟩ : ∃ b r5, r4 = b :: r5 := by
              rcases r4 with _ | ⟨b, r5⟩
              · simp [hd] at hc
              · exact ⟨b, r5, rfl⟩
            have HLL := hide (HG.out.2 rfl hc hn1)
            have y2 := HX5.out.at2
            have yf2 := HX5.out.free 2
            have hps := HX5.out.posle
            obtain ⟨hp, hp1, htl, _⟩ := HX5.out.next
            have hpe : ((pos s (b :: r5) : Nat) : Int) + 1 = ((pos s r5 : Nat) : Int) := by omega
            have HLR : Hid (r5.length ≤ s.size) := by show _ ≤ _; have := HX5.out.len; simp at this; omega
            have HX6 := hide (HX5.out.move HLR.out htl)
            have HS6 : Hid (Fr (One w1.heap.size) w5 (w5.setCell ⟨w1.heap.size, 2, none⟩ (.int .i64 (pos s r5)))) := Fr.setCell _ _ _ _ rfl
            have HXO6 : Hid (BO (w5.setCell ⟨w1.heap.size, 2, none⟩ (.int .i64 (pos s r5))) w1.heap.size xv4 xo4) := ⟨ownsRow_keep HXO5.out.own HS6.out (fun g hg e => HXO5.out.ne HX5.out.block (by decide) (by rw [hg]; exact congrArg some e)), HXO5.out.from_⟩
            have HF6 : Hid (Fr Zero w1 (w5.setCell ⟨w1.heap.size, 2, none⟩ (.int .i64 (pos s r5)))) := HF5.out.past (HS6.out.mono (fun k _ e => by have e' : k = w1.heap.size := e; show _ ≤ _; omega))
            rw [hc]
            clear htl hp1 hc
            go_wp2_with fail
            go_roundw
            case rel => exact ⟨n + 1, true, false, r5, xo4, xv4, by go_num, by first | rfl | exact trivial | simp, by omega, HLL, HX6, HXO6, HF6, hide (by simp)⟩
            case measure => simp [intOf]; omega
          · have hnI : ¬ (n : Int) + 1 < 300 := by omega
            have HLL := hide (HG.out.1 (.inr (.inr hn1)))
            rw [hc]
            clear hc hn1
            go_wp2_with fail
            go_roundw
            case rel => exact ⟨n + 1, false, false, r4, xo4, xv4, by go_num, by first | rfl | exact trivial | simp, by omega, HLL, HX5, HXO5, HF5, hide (by simp)⟩
            case measure => simp [intOf]; omega
        · have hq : (((hd r4 : Nat) : Int) == 44) = false := beq_eq_false_iff_ne.2 (by omega)
          have HLL := hide (HG.out.1 (.inr (.inl hc)))
          generalize hd r4 = cc at *
          clear hc
          go_wp2_with fail
          go_roundw
          case rel => exact ⟨n + 1, false, false, r4, xo4, xv4, by go_num, by first | rfl | exact trivial | simp, by omega, HLL, HX5, HXO5, HF5, hide (by simp)⟩
          case measure => simp [intOf]; omega
    · have hx : more = false ∨ bad = true := by
        cases more with
        | false => exact .inl rfl
        | true =>
          cases bad with
          | true => exact .inr rfl
          | false => exact absurd ⟨rfl, rfl⟩ hgo
      have HFIN := hide (HL.out.fin hx)
      have hxx : (b0 = true ∧ more = true ∧ bad = true) ∨ (b0 = false ∧ more = false) := by
        rcases HBB.out with h | ⟨h1, h2⟩
        · exact .inl h
        · right
          refine ⟨h1, ?_⟩
          rcases hx with hx | hx
          · exact hx
          · exact h2 hx
      have HB3 := hide (HB1.out.keep HFr.out (fun h => h))
      have x2 := HX.out.at2
      have m2 := HB3.out.at2
      have mf2 := HB3.out.free 2
      have HMV := hide (HB3.out.move HX.out.len HX.out.tail)
      have m4 := HMV.out.at4
      have mf4 := HMV.out.free 4
      have hxm : mb < w1.heap.size := by omega
      have HXA : Hid (MB (wr.setCell ⟨mb, 2, none⟩ (.int .i64 (pos s r))) w1.heap.size db s r bad xv) := HX.out.keep (Fr.setCell (One mb) wr ⟨mb, 2, none⟩ _ rfl) (fun e => by have e' : w1.heap.size = mb := e; omega)
      have x4' := HXA.out.at4
      have HM5 := hide (HMV.out.mark bad)
      have HFA : Hid (Fr (One mb) wr ((wr.setCell ⟨mb, 2, none⟩ (.int .i64 (pos s r))).setCell ⟨mb, 4, none⟩ (.bool bad))) := (Fr.setCell (One mb) wr ⟨mb, 2, none⟩ _ rfl).trans (Fr.setCell (One mb) _ ⟨mb, 4, none⟩ _ rfl)
      have hps := HX.out.posle
      obtain ⟨sa, sc, rfl⟩ := HXO.out.len
      clear hgo hx
      rcases hxx with ⟨h1, h2, h3⟩ | ⟨h1, h2⟩
      case' inl =>
        subst h1 h2 h3
        go_wp2_with fail
      case' inr =>
        subst h1 h2
        go_wp2_with fail
      all_goals
        refine (mMustB HM5.out hs 93 (by omega) (by omega)).mono ?_
        rintro e w5 ⟨hF5, hb5, rfl⟩
        have HFB := hide (HFA.out.trans hF5)
        have HX5 : Hid (MB w5 w1.heap.size db s r _ (.slice sa got.length sc)) := HX.out.keep HFB.out (fun e => by have e' : w1.heap.size = mb := e; omega)
        have HXO5 : Hid (BO w5 w1.heap.size (.slice sa got.length sc) got) := HXO.out.keep HFB.out (fun k hk e => by have e' : k = mb := e; omega)
        have HT5 : Hid (MT w w5 mb db s ov _ _ (.slice sa got.length sc) got) := ⟨hb5, ⟨HXO5.out.own, fun g hg => Nat.le_trans hsw (HXO5.out.from_ g hg)⟩, (HF1.out.trans HFr.out.of0).trans HFB.out.tx', hlt⟩
        clear hF5 hb5 x2 m2 mf2 m4 mf4 x4 x4' HFA HM5 HXA HMV HB3
        have hr5 := HFIN.out.1
        obtain ⟨q1, q2, q3⟩ := HSL0.out w5 _ _ HT5.out.kb HT5.out.fr
        obtain ⟨oa, oc, rfl⟩ := q3.len
        have k3 := HT5.out.kb.at3
        have f3 := HT5.out.kb.free 3
        have HQ2 := hide q2
        have HQ3 := hide q3
        have hB5 : B ≤ w5.heap.size := Nat.le_trans hB q2.fr.size
        have hsz5 := HT5.out.size
        have hwl : (wCount n).length ≤ 2 := by unfold wCount; split <;> simp
        have HWl := hide hwl
        have hgl := HFIN.out.2.2.2.2
        clear q1 q2 q3 hwl
        go_wp2_with fail
        refine wp_region_held_drew (S := fun _ => True) (by kernel_rfl) trivial (fun hT => ?_)
        refine wtake0 (by kernel_rfl) (by kernel_rfl) (by kernel_rfl) (fun _ _ _ h => h) (Or.inl ⟨by rfl, fun W _ => by go_simp; try with_reducible rfl⟩) trivial ?_
        try simp only [Act.put, List.setIfInBounds_toArray, List.set_cons_zero, List.set_cons_succ]
        refine wtake1 (by kernel_rfl) (by kernel_rfl) (by kernel_rfl) (fun _ _ _ h => h) (Or.inl ⟨by rfl, fun W _ => by go_simp; try with_reducible rfl⟩) trivial ?_
        try simp only [Act.put, List.setIfInBounds_toArray, List.set_cons_zero, List.set_cons_succ]
        refine wtake2 (by kernel_rfl) (by kernel_rfl) (by kernel_rfl) (fun _ _ _ h => h) (Or.inl ⟨by rfl, fun W _ => by go_simp; try with_reducible rfl⟩) trivial ?_
        try simp only [Act.put, List.setIfInBounds_toArray, List.set_cons_zero, List.set_cons_succ]
        refine wtake3 (by kernel_rfl) (by kernel_rfl) (by kernel_rfl) (fun _ _ _ h => h) (Or.inl ⟨by rfl, fun W _ => by go_simp; try with_reducible rfl⟩) trivial ?_
        try simp only [Act.put, List.setIfInBounds_toArray, List.set_cons_zero, List.set_cons_succ]
        refine wtake5 (by kernel_rfl) (by kernel_rfl) (by kernel_rfl) (fun _ _ _ h => h) (Or.inl ⟨by rfl, fun W _ => by go_simp; try with_reducible rfl⟩) trivial ?_
        try simp only [Act.put, List.setIfInBounds_toArray, List.set_cons_zero, List.set_cons_succ]
        refine wpAnyH_ready (rs := [4, 6]) (by kernel_rfl) (by simp) ?_
        refine wcons4 (fun K hK => ?_) (wcons6 (fun K hK => ?_) AllReadyH.nil)
        focus
          go_simp
          refine hK.out _ _ trivial (fun _ => ?_)
          clear hK K
          try simp only [Act.put, List.setIfInBounds_toArray, List.set_cons_zero, List.set_cons_succ]
          refine wpAnyH_ready (rs := [6]) (by kernel_rfl) (by simp) ?_
          refine wcons6 (fun K hK => ?_) AllReadyH.nil
          go_simp
          refine (counted_any n hn3 _).mono ?_
          rintro e w6 ⟨hF6, cv, rfl, hcv⟩
          have HF6 : Hid (Fr Zero w5 w6) := (Fr.drew Zero w5).trans hF6
          have HCV := hide hcv
          have HB6 := hide (HT5.out.kb.keep HF6.out (fun h => h))
          have e3 := HB6.out.at3
          have HO6 : Hid (BO w6 B (.slice oa out.length oc) out) := HQ3.out.keep HF6.out (fun _ _ h => h)
          have HL6 : Hid (BO w6 w.heap.size (.slice sa got.length sc) got) := HT5.out.bo.keep HF6.out (fun _ _ h => h)
          have hB6 : B ≤ w6.heap.size := Nat.le_trans hB5 HF6.out.size
          have HX6 := hide (HX5.out.keep HF6.out (fun h => h))
          clear hF6 hcv
          go_wp2_with fail
          refine hK.out _ _ trivial (fun _ => ?_)
          clear hK K
          try simp only [Act.put, List.setIfInBounds_toArray, List.set_cons_zero, List.set_cons_succ]
        rotate_left
        focus
          go_simp
          refine (counted_any n hn3 _).mono ?_
          rintro e w6 ⟨hF6, cv, rfl, hcv⟩
          have HF6 : Hid (Fr Zero w5 w6) := (Fr.drew Zero w5).trans hF6
          have HCV := hide hcv
          have HB6 := hide (HT5.out.kb.keep HF6.out (fun h => h))
          have e3 := HB6.out.at3
          have HO6 : Hid (BO w6 B (.slice oa out.length oc) out) := HQ3.out.keep HF6.out (fun _ _ h => h)
          have HL6 : Hid (BO w6 w.heap.size (.slice sa got.length sc) got) := HT5.out.bo.keep HF6.out (fun _ _ h => h)
          have hB6 : B ≤ w6.heap.size := Nat.le_trans hB5 HF6.out.size
          have HX6 := hide (HX5.out.keep HF6.out (fun h => h))
          clear hF6 hcv
          go_wp2_with fail
          refine hK.out _ _ trivial (fun _ => ?_)
          clear hK K
          try simp only [Act.put, List.setIfInBounds_toArray, List.set_cons_zero, List.set_cons_succ]
          refine wpAnyH_ready (rs := [4]) (by kernel_rfl) (by simp) ?_
          refine wcons4 (fun K hK => ?_) AllReadyH.nil
          go_simp
          refine hK.out _ _ trivial (fun _ => ?_)
          clear hK K
          try simp only [Act.put, List.setIfInBounds_toArray, List.set_cons_zero, List.set_cons_succ]
        all_goals
          refine wpAnyH_ready (rs := [7]) (by kernel_rfl) (by simp) ?_
          refine wcons7 (fun K hK => ?_) AllReadyH.nil
          refine step_out2 rfl (.tmp 94) (.tmp 96) 32 rfl (wCount n) (by simp [Act.eval]) (by simp [Act.eval]) HO6.out HCV.out.src hB6 (by have := HWl.out; omega) ?_
          intro v7 w7 hB7 hF7 hv7
          obtain ⟨va, vc, hva⟩ := BO.len' hB7
          subst hva
          have HG7 := hide (MS.grow2 HB6.out HBm.out HO6.out hB7 hF7 hv7)
          have e4 := (HB6.out.keep hF7 (fun e => HO6.out.ne HB6.out.block (by decide) e)).at3
          have e5 := (HB6.out.keep hF7 (fun e => HO6.out.ne HB6.out.block (by decide) e)).free 3
          have HL7 : Hid (BO w7 w.heap.size (.slice sa got.length sc) got) := ⟨ownsRow_keep HL6.out.own hF7 (fun g hg e => by have := HOL.out g e; have := HL6.out.from_ g hg; omega), HL6.out.from_⟩
          have HX7 := hide (HX6.out.keep hF7 (fun e => HO6.out.ne HX6.out.block (by decide) e))
          clear hB7 hF7 hv7
          refine hK.out _ _ trivial (fun _ => ?_)
          clear hK K
          try simp only [Act.put, List.setIfInBounds_toArray, List.set_cons_zero, List.set_cons_succ]
          refine wtake8 (by kernel_rfl) (by kernel_rfl) (by kernel_rfl) (fun _ _ _ h => h) (Or.inl ⟨by rfl, fun W _ => by go_simp; try with_reducible rfl⟩) trivial ?_
          try simp only [Act.put, List.setIfInBounds_toArray, List.set_cons_zero, List.set_cons_succ]
          refine wtake9 (by kernel_rfl) (by kernel_rfl) (by kernel_rfl) (fun _ _ _ h => h) (Or.inl ⟨by rfl, fun W _ => by go_simp; try with_reducible rfl⟩) trivial ?_
          try simp only [Act.put, List.setIfInBounds_toArray, List.set_cons_zero, List.set_cons_succ]
          refine wpAnyH_ready (rs := [10]) (by kernel_rfl) (by simp) ?_
          refine wcons10 (fun K hK => ?_) AllReadyH.nil
          go_simp
          refine hK.out _ _ trivial (fun _ => ?_)
          clear hK K
          try simp only [Act.put, List.setIfInBounds_toArray, List.set_cons_zero, List.set_cons_succ]
          refine wpAnyH_done (by kernel_rfl) ?_ _
          obtain ⟨hb8, ho8, hf8⟩ := HG7.out
          have HB8 := hide hb8
          have HO8 := hide ho8
          have HF8 := hide ((HQ2.out.trans (MFr.quiet HF6.out HT5.out.kb.lt)).trans hf8)
          have HL8 : Hid (BO (w7.setCell ⟨mb, 3, none⟩ (.slice va (out.length + (wCount n).length) vc)) w.heap.size (.slice sa got.length sc) got) := HL7.out.keep (Fr.setCell (One mb) _ _ _ rfl) (fun k hk e => by have e' : k = mb := e; omega)
          have k8 := hb8.at3
          have f8 := hb8.free 3
          have hB8 : B ≤ (w7.setCell ⟨mb, 3, none⟩ (.slice va (out.length + (wCount n).length) vc)).heap.size := Nat.le_trans hB HF8.out.fr.size
          have HX8 := hide (HX7.out.keep (Fr.setCell (One mb) w7 ⟨mb, 3, none⟩ (.slice va (out.length + (wCount n).length) vc) rfl) (fun e => by have e' : w1.heap.size = mb := e; omega))
          clear hb8 ho8 hf8 e3 e4 e5 k3 f3
          generalize w7.setCell ⟨mb, 3, none⟩ (.slice va (out.length + (wCount n).length) vc) = w8 at *
        all_goals
          have x8 := HX8.out.at3
          have HBd := hide (HB8.out.keep (Fr.drew Zero w8) (fun h => h))
          have HOd := hide (HO8.out.keep (Fr.drew Zero w8) (fun _ _ h => h))
          have HLd := hide (HL8.out.keep (Fr.drew Zero w8) (fun _ _ h => h))
          have hBd : B ≤ w8.drew.heap.size := hB8
          go_wp2_with fail
          refine wp_region_held_drew (S := fun _ => True) (by kernel_rfl) trivial (fun hT => ?_)
          refine wtake0 (by kernel_rfl) (by kernel_rfl) (by kernel_rfl) (fun _ _ _ h => h) (Or.inl ⟨by rfl, fun W _ => by go_simp; try with_reducible rfl⟩) trivial ?_
          try simp only [Act.put, List.setIfInBounds_toArray, List.set_cons_zero, List.set_cons_succ]
          refine wtake1 (by kernel_rfl) (by kernel_rfl) (by kernel_rfl) (fun _ _ _ h => h) (Or.inl ⟨by rfl, fun W _ => by go_simp; try with_reducible rfl⟩) trivial ?_
          try simp only [Act.put, List.setIfInBounds_toArray, List.set_cons_zero, List.set_cons_succ]
          refine wtake2 (by kernel_rfl) (by kernel_rfl) (by kernel_rfl) (fun _ _ _ h => h) (Or.inl ⟨by rfl, fun W _ => by go_simp; try with_reducible rfl⟩) trivial ?_
          try simp only [Act.put, List.setIfInBounds_toArray, List.set_cons_zero, List.set_cons_succ]
          refine wtake3 (by kernel_rfl) (by kernel_rfl) (by kernel_rfl) (fun _ _ _ h => h) (Or.inl ⟨by rfl, fun W _ => by go_simp; try with_reducible rfl⟩) trivial ?_
          try simp only [Act.put, List.setIfInBounds_toArray, List.set_cons_zero, List.set_cons_succ]
          refine wtake5 (by kernel_rfl) (by kernel_rfl) (by kernel_rfl) (fun _ _ _ h => h) (Or.inl ⟨by rfl, fun W _ => by go_simp; try with_reducible rfl⟩) trivial ?_
          try simp only [Act.put, List.setIfInBounds_toArray, List.set_cons_zero, List.set_cons_succ]
          refine wtake6 (by kernel_rfl) (by kernel_rfl) (by kernel_rfl) (fun _ _ _ h => h) (Or.inl ⟨by rfl, fun W _ => by go_simp; try with_reducible rfl⟩) trivial ?_
          try simp only [Act.put, List.setIfInBounds_toArray, List.set_cons_zero, List.set_cons_succ]
          refine wtake7 (by kernel_rfl) (by kernel_rfl) (by kernel_rfl) (fun _ _ _ h => h) (Or.inl ⟨by rfl, fun W _ => by go_simp; try with_reducible rfl⟩) trivial ?_
          try simp only [Act.put, List.setIfInBounds_toArray, List.set_cons_zero, List.set_cons_succ]
          refine wpAnyH_ready (rs := [4, 8]) (by kernel_rfl) (by simp) ?_
          refine wcons4 (fun K hK => ?_) (wcons8 (fun K hK => ?_) AllReadyH.nil)
          focus
            go_simp
            refine hK.out _ _ trivial (fun _ => ?_)
            clear hK K
            try simp only [Act.put, List.setIfInBounds_toArray, List.set_cons_zero, List.set_cons_succ]
            refine wpAnyH_ready (rs := [8]) (by kernel_rfl) (by simp) ?_
            refine wcons8 (fun K hK => ?_) AllReadyH.nil
            go_simp
            refine hK.out _ _ trivial (fun _ => ?_)
            clear hK K
            try simp only [Act.put, List.setIfInBounds_toArray, List.set_cons_zero, List.set_cons_succ]
          rotate_left
          focus
            go_simp
            refine hK.out _ _ trivial (fun _ => ?_)
            clear hK K
            try simp only [Act.put, List.setIfInBounds_toArray, List.set_cons_zero, List.set_cons_succ]
            refine wpAnyH_ready (rs := [4]) (by kernel_rfl) (by simp) ?_
            refine wcons4 (fun K hK => ?_) AllReadyH.nil
            go_simp
            refine hK.out _ _ trivial (fun _ => ?_)
            clear hK K
            try simp only [Act.put, List.setIfInBounds_toArray, List.set_cons_zero, List.set_cons_succ]
          all_goals
            refine wpAnyH_ready (rs := [9]) (by kernel_rfl) (by simp) ?_
            refine wcons9 (fun K hK => ?_) AllReadyH.nil
            refine step_out2 rfl (.tmp 104) (.tmp 108) 32 rfl got (by simp [Act.eval]) (by simp [Act.eval]) HOd.out HLd.out.src hBd (by have := HWl.out; simp only [List.length_append]; omega) ?_
            intro v9 w9 hB9 hF9 hv9
            obtain ⟨vb, vn, vd, hvb⟩ := BO.any hB9
            subst hvb
            have HG9 := hide (MS.grow2 HBd.out HBm.out HOd.out hB9 hF9 hv9)
            have e8 := (HBd.out.keep hF9 (fun e => HOd.out.ne HBd.out.block (by decide) e)).at3
            have e9 := (HBd.out.keep hF9 (fun e => HOd.out.ne HBd.out.block (by decide) e)).free 3
            clear hB9 hF9 hv9 k8 f8
            refine hK.out _ _ trivial (fun _ => ?_)
            clear hK K
            try simp only [Act.put, List.setIfInBounds_toArray, List.set_cons_zero, List.set_cons_succ]
            refine wtake10 (by kernel_rfl) (by kernel_rfl) (by kernel_rfl) (fun _ _ _ h => h) (Or.inl ⟨by rfl, fun W _ => by go_simp; try with_reducible rfl⟩) trivial ?_
            try simp only [Act.put, List.setIfInBounds_toArray, List.set_cons_zero, List.set_cons_succ]
            refine wtake11 (by kernel_rfl) (by kernel_rfl) (by kernel_rfl) (fun _ _ _ h => h) (Or.inl ⟨by rfl, fun W _ => by go_simp; try with_reducible rfl⟩) trivial ?_
            try simp only [Act.put, List.setIfInBounds_toArray, List.set_cons_zero, List.set_cons_succ]
            refine wpAnyH_ready (rs := [12]) (by kernel_rfl) (by simp) ?_
            refine wcons12 (fun K hK => ?_) AllReadyH.nil
            go_simp
            refine hK.out _ _ trivial (fun _ => ?_)
            clear hK K
            try simp only [Act.put, List.setIfInBounds_toArray, List.set_cons_zero, List.set_cons_succ]
            refine wpAnyH_done (by kernel_rfl) ?_ _
            go_wp2_with fail
            go_end0
            obtain ⟨hb9, ho9, hf9⟩ := HG9.out
            have hwl := HWl.out
            obtain ⟨z1, z2, z3, z4, z5⟩ := HFIN.out
            refine ⟨(HF8.out.trans (MFr.quiet (Fr.drew Zero w8) HB8.out.lt)).trans hf9, _, _, out ++ (wCount n ++ got), ⟨_, hb9, HBm.out, by simpa using ho9⟩, rfl, z2, z1, fun hh => ?_, fun hh => ⟨.inl (z4 hh), by simp only [List.length_append]; omega⟩⟩
            obtain ⟨vs, y1, y2⟩ := z3 hh
            exact ⟨vs, y1, by rw [y2]⟩

end Go.Proofs.YtnhkalnihjkoeaaGreatDoor
