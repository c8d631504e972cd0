/- The reference's reader of texts takes values. -/
import Derived.Test.YtnhkalnihjkoeaaGreatDoorEChoice
namespace Go.Proofs.YtnhkalnihjkoeaaGreatDoor
open Go.RowKit

theorem EPost.map {α β : Type} {mb B db : Nat} {s : ByteArray} {out : Bs} {ext ext' : Nat} {w w' : World} {l : Bs} {p : Option α × Bs} {q : Option β × Bs} {f : α → Bs} {F : β → Bs} {e : Ending} (h : EPost mb B db s out ext w l p f e w') (h2 : q.2 = p.2) (hs : ∀ a, p.1 = some a → ∃ b, q.1 = some b ∧ F b = f a) (hn : p.1 = none → q.1 = none) (he : ext ≤ ext') : EPost mb B db s out ext' w l q F e w' := by
  obtain ⟨hF, r, bad, out', h1, h3, h4, h5, h6, h7⟩ := h
  refine ⟨hF, r, bad, out', h1, h3, by rw [h2]; exact h4, h5, fun hb => ?_, fun hb => ⟨?_, by have := (h7 hb).2; omega⟩⟩
  · obtain ⟨a, q1, q2⟩ := h6 hb
    obtain ⟨b, q3, q4⟩ := hs a q1
    exact ⟨b, q3, by rw [q2, q4]⟩
  · rcases (h7 hb).1 with q | q
    · exact .inl (hn q)
    · exact .inr q
theorem EPost.pre {α : Type} {mb B db : Nat} {s : ByteArray} {out : Bs} {ext : Nat} {w w1 w' : World} {l : Bs} {p : Option α × Bs} {f : α → Bs} {e : Ending} (hF : MFr mb w w1) (h : EPost mb B db s out ext w1 l p f e w') : EPost mb B db s out ext w l p f e w' := by
  obtain ⟨hF1, h⟩ := h
  exact ⟨hF.trans hF1, h⟩
theorem EPost.end_ {α : Type} {mb B db : Nat} {s : ByteArray} {out : Bs} {ext : Nat} {w w' : World} {l : Bs} {p : Option α × Bs} {f : α → Bs} {e : Ending} (h : EPost mb B db s out ext w l p f e w') : e = .returned (.tuple #[]) := by
  obtain ⟨_, _, _, _, _, h, _⟩ := h
  exact h
theorem MIn.quiet {w w' : World} {B mb db : Nat} {s : ByteArray} {l out : Bs} {tab : List RT} {roots : List Nat} (h : MIn w B mb db s l out tab roots) (hf : Fr Zero w w') : MIn w' B mb db s l out tab roots :=
  ⟨h.ms.quiet hf, h.df.keep hf.of0, h.hs, h.tl, Nat.le_trans h.hB hf.size⟩
theorem MIn.next {w w' : World} {B mb db : Nat} {s : ByteArray} {l l' out out' : Bs} {bad : Bool} {tab : List RT} {roots : List Nat} (h : MIn w B mb db s l out tab roots) (hf : MFr mb w w') (hm : MS w' B mb db s l' bad out') (hb : bad = false) : MIn w' B mb db s l' out' tab roots := by
  subst hb
  exact ⟨hm, h.df.keep (h.ms.fromB hf), h.hs, h.tl, Nat.le_trans h.hB hf.fr.size⟩

set_option maxHeartbeats 4000000 in
theorem mValue_bad {w : World} {B mb db : Nat} {s : ByteArray} {l : Bs} {out : Bs} (h : MS w B mb db s l true out) (x : Int) :
    Calls Tryz.prog 106 #[.pointer (some ⟨mb, 0, none⟩), .int .i64 x] w fun e w' => e = .returned (.tuple #[]) ∧ w' = w := by
  obtain ⟨ov, hb⟩ := h.block
  have h4 := hb.at4
  clear h hb
  go_enter Tryz.func106, Tryz.ntmps106
  go_wp2_with fail
  refine bodyPost_ret (v := .tuple #[]) (by simp [results, Tryz.results106, go_sem]) rfl ?_
  exact ⟨rfl, rfl⟩

set_option maxHeartbeats 8000000 in
set_option maxRecDepth 100000 in
theorem mv_plain {w : World} {B mb db : Nat} {s : ByteArray} {l out : Bs} {tab : List RT} {roots : List Nat} {k x : Nat} {t : PT} (h : MIn w B mb db s l out tab roots) (hI : Is tab x t) (hk : t.kind ≤ 2) (hr : out.length + 8 * l.length + 600 * (k + 1) ≤ 800000000) :
    Calls Tryz.prog 106 #[.pointer (some ⟨mb, 0, none⟩), .int .i64 x] w fun e w' => EPost mb B db s out (8 * l.length + 600 * (k + 1)) w l (rText (k + 1) t l) (wMsg (k + 1)) e w' := by
  obtain ⟨ov, hb⟩ := h.ms.block
  have h0 := hb.at0
  have h4 := hb.at4
  have HI := hide h
  have HIs := hide hI
  have hlt := hb.lt
  have hs9 : s.size ≤ maxLen := by unfold maxLen; have := h.hs; omega
  have HS9 := hide hs9
  clear h hI hb hs9
  go_enter Tryz.func106, Tryz.ntmps106
  go_wp2_with fail
  refine (at_tab HI.out.df x t HIs.out HI.out.hB HI.out.tl).mono ?_
  rintro e w1 ⟨hF1, row, o, nv1, a, rfl, hrow, hRT⟩
  obtain ⟨po, qo, rfl⟩ := hRT.2.1.shape
  obtain ⟨pn, qn, rfl⟩ := hRT.2.2.1.shape
  obtain ⟨pa, qa, rfl⟩ := hRT.2.2.2.shape
  have hkk := hrow.kind
  rw [hkk]
  have HF1 := hide hF1
  clear hF1 hrow hRT hkk
  have HE : Hid (rText (k + 1) t l = ((rUns (mostOf t.kind) l).1.map (fun (n : Nat) => vNum t n), (rUns (mostOf t.kind) l).2)) := by show _ = _; simp only [rText]; rw [if_pos hk]
  obtain hk' | hk' | hk' : t.kind = 0 ∨ t.kind = 1 ∨ t.kind = 2 := by omega
  all_goals
    rw [hk'] at HE
    rw [hk']
    have HKK := hide hk'
    clear hk hk'
    go_wp2_with fail
    refine (mPlain_any (HI.out.ms.quiet (HF1.out.trans (Fr.alloc _ _ _))) HS9.out (by have := HI.out.hB; have := HF1.out.size; simp; omega) _ (by decide) (by omega)).mono ?_
    intro e w2 hE
    have he := hE.end_
    subst he
    have HP := hide (EPost.pre (MFr.quiet (HF1.out.trans (Fr.alloc _ _ _)) hlt) hE)
    clear hE
    go_wp2_with fail
    go_end0
    refine HP.out.map (by rw [HE.out]) (fun a ha => ⟨_, by rw [HE.out]; simp [ha]; rfl, ?_⟩) (fun hn => by rw [HE.out]; simp [hn]) (by omega)
    show wMsg (k + 1) ⟨t, _, _, _⟩ = _
    rw [wMsg_mk, if_pos (by rw [HKK.out]; omega), HKK.out]
    simp

set_option maxHeartbeats 8000000 in
set_option maxRecDepth 100000 in
theorem mv_int {w : World} {B mb db : Nat} {s : ByteArray} {l out : Bs} {tab : List RT} {roots : List Nat} {k x : Nat} {t : PT} (h : MIn w B mb db s l out tab roots) (hI : Is tab x t) (hk : t.kind = 3) (hr : out.length + 8 * l.length + 600 * (k + 1) ≤ 800000000) :
    Calls Tryz.prog 106 #[.pointer (some ⟨mb, 0, none⟩), .int .i64 x] w fun e w' => EPost mb B db s out (8 * l.length + 600 * (k + 1)) w l (rText (k + 1) t l) (wMsg (k + 1)) e w' := by
  obtain ⟨ov, hb⟩ := h.ms.block
  have h0 := hb.at0
  have h4 := hb.at4
  have HI := hide h
  have HIs := hide hI
  have hlt := hb.lt
  have hs9 : s.size ≤ maxLen := by unfold maxLen; have := h.hs; omega
  have HS9 := hide hs9
  clear h hI hb hs9
  go_enter Tryz.func106, Tryz.ntmps106
  go_wp2_with fail
  refine (at_tab HI.out.df x t HIs.out HI.out.hB HI.out.tl).mono ?_
  rintro e w1 ⟨hF1, row, o, nv1, a, rfl, hrow, hRT⟩
  obtain ⟨po, qo, rfl⟩ := hRT.2.1.shape
  obtain ⟨pn, qn, rfl⟩ := hRT.2.2.1.shape
  obtain ⟨pa, qa, rfl⟩ := hRT.2.2.2.shape
  have hkk := hrow.kind
  rw [hkk]
  have HF1 := hide hF1
  clear hF1 hrow hRT hkk
  have HE : Hid (rText (k + 1) t l = ((rSigned l).1.map (vNum t), (rSigned l).2)) := by show _ = _; simp only [rText]; rw [if_neg (by omega), if_pos hk]
  rw [hk]
  have HKK := hide hk
  clear hk
  go_wp2_with fail
  have HF2 : Hid (MFr mb w (w1.alloc (.cells #[.int .i64 3, .slice po (ints row.of).length qo, .slice pn (texts row.names).length qn, .slice pa (ints row.ats).length qa] 293))) := MFr.quiet (HF1.out.trans (Fr.alloc _ _ _)) hlt
  have HQ2 := hide (HF1.out.trans (Fr.alloc Zero w1 (.cells #[.int .i64 3, .slice po (ints row.of).length qo, .slice pn (texts row.names).length qn, .slice pa (ints row.ats).length qa] 293)))
  refine (mSigned_any (HI.out.ms.quiet HQ2.out) HS9.out (Nat.le_trans HI.out.hB HQ2.out.size) (by omega)).mono ?_
  intro e w2 hE
  have he := hE.end_
  subst he
  have HP := hide (EPost.pre HF2.out hE)
  clear hE
  go_wp2_with fail
  go_end0
  refine HP.out.map (by rw [HE.out]) (fun a ha => ⟨_, by rw [HE.out]; simp [ha]; rfl, ?_⟩) (fun hn => by rw [HE.out]; simp [hn]) (by omega)
  show wMsg (k + 1) ⟨t, _, _, _⟩ = _
  rw [wMsg_mk, if_neg (by rw [HKK.out]; omega), if_pos (by rw [HKK.out])]
  try rfl

set_option maxHeartbeats 8000000 in
set_option maxRecDepth 100000 in
theorem mv_text {w : World} {B mb db : Nat} {s : ByteArray} {l out : Bs} {tab : List RT} {roots : List Nat} {k x : Nat} {t : PT} (h : MIn w B mb db s l out tab roots) (hI : Is tab x t) (hk : t.kind = 5) (hr : out.length + 8 * l.length + 600 * (k + 1) ≤ 800000000) :
    Calls Tryz.prog 106 #[.pointer (some ⟨mb, 0, none⟩), .int .i64 x] w fun e w' => EPost mb B db s out (8 * l.length + 600 * (k + 1)) w l (rText (k + 1) t l) (wMsg (k + 1)) e w' := by
  obtain ⟨ov, hb⟩ := h.ms.block
  have h0 := hb.at0
  have h4 := hb.at4
  have HI := hide h
  have HIs := hide hI
  have hlt := hb.lt
  have hs9 : s.size ≤ maxLen := by unfold maxLen; have := h.hs; omega
  have HS9 := hide hs9
  clear h hI hb hs9
  go_enter Tryz.func106, Tryz.ntmps106
  go_wp2_with fail
  refine (at_tab HI.out.df x t HIs.out HI.out.hB HI.out.tl).mono ?_
  rintro e w1 ⟨hF1, row, o, nv1, a, rfl, hrow, hRT⟩
  obtain ⟨po, qo, rfl⟩ := hRT.2.1.shape
  obtain ⟨pn, qn, rfl⟩ := hRT.2.2.1.shape
  obtain ⟨pa, qa, rfl⟩ := hRT.2.2.2.shape
  have hkk := hrow.kind
  rw [hkk]
  have HF1 := hide hF1
  clear hF1 hrow hRT hkk
  have HE : Hid (rText (k + 1) t l = ((rQuoted l).1.map (vBytes t), (rQuoted l).2)) := by show _ = _; simp only [rText]; rw [if_neg (by omega), if_neg (by omega), if_neg (by omega), if_pos hk]
  rw [hk]
  have HKK := hide hk
  clear hk
  go_wp2_with fail
  have HF2 : Hid (MFr mb w (w1.alloc (.cells #[.int .i64 5, .slice po (ints row.of).length qo, .slice pn (texts row.names).length qn, .slice pa (ints row.ats).length qa] 293))) := MFr.quiet (HF1.out.trans (Fr.alloc _ _ _)) hlt
  have HQ2 := hide (HF1.out.trans (Fr.alloc Zero w1 (.cells #[.int .i64 5, .slice po (ints row.of).length qo, .slice pn (texts row.names).length qn, .slice pa (ints row.ats).length qa] 293)))
  refine (mText_any (HI.out.ms.quiet HQ2.out) HS9.out (Nat.le_trans HI.out.hB HQ2.out.size) (by omega)).mono ?_
  intro e w2 hE
  have he := hE.end_
  subst he
  have HP := hide (EPost.pre HF2.out hE)
  clear hE
  go_wp2_with fail
  go_end0
  refine HP.out.map (by rw [HE.out]) (fun a ha => ⟨_, by rw [HE.out]; simp [ha]; rfl, ?_⟩) (fun hn => by rw [HE.out]; simp [hn]) (by omega)
  show wMsg (k + 1) ⟨t, _, _, _⟩ = _
  rw [wMsg_mk, if_neg (by rw [HKK.out]; omega), if_neg (by rw [HKK.out]; omega), if_neg (by rw [HKK.out]; omega), if_pos (by rw [HKK.out]; omega)]
  try rfl

set_option maxHeartbeats 8000000 in
set_option maxRecDepth 100000 in
theorem mv_bytes {w : World} {B mb db : Nat} {s : ByteArray} {l out : Bs} {tab : List RT} {roots : List Nat} {k x : Nat} {t : PT} (h : MIn w B mb db s l out tab roots) (hI : Is tab x t) (hk : t.kind = 6) (hr : out.length + 8 * l.length + 600 * (k + 1) ≤ 800000000) :
    Calls Tryz.prog 106 #[.pointer (some ⟨mb, 0, none⟩), .int .i64 x] w fun e w' => EPost mb B db s out (8 * l.length + 600 * (k + 1)) w l (rText (k + 1) t l) (wMsg (k + 1)) e w' := by
  obtain ⟨ov, hb⟩ := h.ms.block
  have h0 := hb.at0
  have h4 := hb.at4
  have HI := hide h
  have HIs := hide hI
  have hlt := hb.lt
  have hs9 : s.size ≤ maxLen := by unfold maxLen; have := h.hs; omega
  have HS9 := hide hs9
  clear h hI hb hs9
  go_enter Tryz.func106, Tryz.ntmps106
  go_wp2_with fail
  refine (at_tab HI.out.df x t HIs.out HI.out.hB HI.out.tl).mono ?_
  rintro e w1 ⟨hF1, row, o, nv1, a, rfl, hrow, hRT⟩
  obtain ⟨po, qo, rfl⟩ := hRT.2.1.shape
  obtain ⟨pn, qn, rfl⟩ := hRT.2.2.1.shape
  obtain ⟨pa, qa, rfl⟩ := hRT.2.2.2.shape
  have hkk := hrow.kind
  rw [hkk]
  have HF1 := hide hF1
  clear hF1 hrow hRT hkk
  have HE : Hid (rText (k + 1) t l = ((rHexa l).1.map (vBytes t), (rHexa l).2)) := by show _ = _; simp only [rText]; rw [if_neg (by omega), if_neg (by omega), if_neg (by omega), if_neg (by omega), if_pos hk]
  rw [hk]
  have HKK := hide hk
  clear hk
  go_wp2_with fail
  have HF2 : Hid (MFr mb w (w1.alloc (.cells #[.int .i64 6, .slice po (ints row.of).length qo, .slice pn (texts row.names).length qn, .slice pa (ints row.ats).length qa] 293))) := MFr.quiet (HF1.out.trans (Fr.alloc _ _ _)) hlt
  have HQ2 := hide (HF1.out.trans (Fr.alloc Zero w1 (.cells #[.int .i64 6, .slice po (ints row.of).length qo, .slice pn (texts row.names).length qn, .slice pa (ints row.ats).length qa] 293)))
  refine (mBytes_any (HI.out.ms.quiet HQ2.out) HS9.out (Nat.le_trans HI.out.hB HQ2.out.size) (by omega)).mono ?_
  intro e w2 hE
  have he := hE.end_
  subst he
  have HP := hide (EPost.pre HF2.out hE)
  clear hE
  go_wp2_with fail
  go_end0
  refine HP.out.map (by rw [HE.out]) (fun a ha => ⟨_, by rw [HE.out]; simp [ha]; rfl, ?_⟩) (fun hn => by rw [HE.out]; simp [hn]) (by omega)
  show wMsg (k + 1) ⟨t, _, _, _⟩ = _
  rw [wMsg_mk, if_neg (by rw [HKK.out]; omega), if_neg (by rw [HKK.out]; omega), if_neg (by rw [HKK.out]; omega), if_pos (by rw [HKK.out]; omega)]
  try rfl

/-- A word that must come. -/
def mWord : Bs → Bs × Bool → Bs × Bool
  | [], p => p
  | b :: wd, p => mWord wd (mMust b.toNat p.1 p.2)
theorem mWord_snoc (b : UInt8) : ∀ (wd : Bs) (p : Bs × Bool), mWord (wd ++ [b]) p = mMust b.toNat (mWord wd p).1 (mWord wd p).2 := by
  intro wd
  induction wd with
  | nil => intro p; rfl
  | cons c wd ih => intro p; exact ih _
theorem mMust_len (c : Nat) (l : Bs) (bad : Bool) : (mMust c l bad).1.length ≤ l.length := by
  cases bad with
  | true => simp [mMust]
  | false =>
    rcases hq : rAcc c l with _ | r
    · simp [mMust, hq]
    · obtain ⟨b, rfl, _⟩ := rAcc_some hq
      simp [mMust, hq]
theorem mWord_len : ∀ (wd : Bs) (p : Bs × Bool), (mWord wd p).1.length ≤ p.1.length := by
  intro wd
  induction wd with
  | nil => intro p; exact Nat.le_refl _
  | cons c wd ih => intro p; exact Nat.le_trans (ih _) (mMust_len _ _ _)
def wordOf (l : Bs) : Bs := if hd l = 121 then wYes else wNo
theorem bool_word (l : Bs) : (rOne [wNo, wYes] [] l).2 = (mWord (wordOf l) (l, false)).1 ∧ ((mWord (wordOf l) (l, false)).2 = false → (rOne [wNo, wYes] [] l).1 = some ((wordOf l).length - 2)) ∧ ((mWord (wordOf l) (l, false)).2 = true → (rOne [wNo, wYes] [] l).1 = none) := by
  rcases l with _ | ⟨a, l⟩
  · exact ⟨by decide, by decide, by decide⟩
  · by_cases h1 : a.toNat = 121
    · obtain rfl : a = 121 := u8_of h1
      have hw : wordOf (121 :: l) = wYes := rfl
      rw [hw]
      rcases l with _ | ⟨b, l⟩
      · exact ⟨by decide, by decide, by decide⟩
      · by_cases h2 : b.toNat = 101
        · obtain rfl : b = 101 := u8_of h2
          rcases l with _ | ⟨c, l⟩
          · exact ⟨by decide, by decide, by decide⟩
          · by_cases h3 : c.toNat = 115
            · obtain rfl : c = 115 := u8_of h3
              have : rOne [wNo, wYes] [] (121 :: 101 :: 115 :: l) = (some 1, l) := by
                cases l <;> rfl
              rw [this]
              exact ⟨rfl, fun _ => rfl, fun h => by simp [mWord, wYes, mMust, rAcc] at h⟩
            · have hc : ¬ c = 115 := fun e => h3 (by rw [e]; rfl)
              have hm : mWord wYes (121 :: 101 :: c :: l, false) = (c :: l, true) := by
                simp [mWord, wYes, mMust, rAcc, h3]
              have hr : rOne [wNo, wYes] [] (121 :: 101 :: c :: l) = (none, c :: l) := by
                simp [rOne, wNo, wYes, List.findIdx?_cons]
                intro e
                exact absurd e hc
              rw [hm, hr]
              exact ⟨rfl, fun h => by simp at h, fun _ => rfl⟩
        · have hc : ¬ b = 101 := fun e => h2 (by rw [e]; rfl)
          have hm : mWord wYes (121 :: b :: l, false) = (b :: l, true) := by
            simp [mWord, wYes, mMust, rAcc, h2]
          have hr : rOne [wNo, wYes] [] (121 :: b :: l) = (none, b :: l) := by
            simp [rOne, wNo, wYes, List.findIdx?_cons]
            intro e
            exact absurd e hc
          rw [hm, hr]
          exact ⟨rfl, fun h => by simp at h, fun _ => rfl⟩
    · have hw : wordOf (a :: l) = wNo := by simp [wordOf, hd, h1]
      have ha : ¬ a = 121 := fun e => h1 (by rw [e]; rfl)
      rw [hw]
      by_cases h0 : a.toNat = 110
      · obtain rfl : a = 110 := u8_of h0
        rcases l with _ | ⟨b, l⟩
        · exact ⟨by decide, by decide, by decide⟩
        · by_cases h2 : b.toNat = 111
          · obtain rfl : b = 111 := u8_of h2
            have : rOne [wNo, wYes] [] (110 :: 111 :: l) = (some 0, l) := by
              cases l <;> rfl
            rw [this]
            exact ⟨rfl, fun _ => rfl, fun h => by simp [mWord, wNo, mMust, rAcc] at h⟩
          · have hc : ¬ b = 111 := fun e => h2 (by rw [e]; rfl)
            have hm : mWord wNo (110 :: b :: l, false) = (b :: l, true) := by
              simp [mWord, wNo, mMust, rAcc, h2]
            have hr : rOne [wNo, wYes] [] (110 :: b :: l) = (none, b :: l) := by
              simp [rOne, wNo, wYes, List.findIdx?_cons]
              intro e
              exact absurd e hc
            rw [hm, hr]
            exact ⟨rfl, fun h => by simp at h, fun _ => rfl⟩
      · have hc : ¬ a = 110 := fun e => h0 (by rw [e]; rfl)
        have hm : mWord wNo (a :: l, false) = (a :: l, true) := by
          simp [mWord, wNo, mMust, rAcc, h0]
        have hr : rOne [wNo, wYes] [] (a :: l) = (none, a :: l) := by
          simp [rOne, wNo, wYes, List.findIdx?_cons]
          intro e
          rcases e with e | e
          · exact absurd e hc
          · exact absurd e ha
        rw [hm, hr]
        exact ⟨rfl, fun h => by simp at h, fun _ => rfl⟩

set_option maxHeartbeats 8000000 in
set_option maxRecDepth 100000 in
theorem mv_bool {w : World} {B mb db : Nat} {s : ByteArray} {l out : Bs} {tab : List RT} {roots : List Nat} {k x : Nat} {t : PT} (h : MIn w B mb db s l out tab roots) (hI : Is tab x t) (hk : t.kind = 4) (hr : out.length + 8 * l.length + 600 * (k + 1) ≤ 800000000) :
    Calls Tryz.prog 106 #[.pointer (some ⟨mb, 0, none⟩), .int .i64 x] w fun e w' => EPost mb B db s out (8 * l.length + 600 * (k + 1)) w l (rText (k + 1) t l) (wMsg (k + 1)) e w' := by
  obtain ⟨ov, hb⟩ := h.ms.block
  have h0 := hb.at0
  have h4 := hb.at4
  have HI := hide h
  have HIs := hide hI
  have hlt := hb.lt
  have hs9 : s.size ≤ maxLen := by unfold maxLen; have := h.hs; omega
  have HS9 := hide hs9
  clear h hI hb hs9
  go_enter Tryz.func106, Tryz.ntmps106
  go_wp2_with fail
  refine (at_tab HI.out.df x t HIs.out HI.out.hB HI.out.tl).mono ?_
  rintro e w1 ⟨hF1, row, o, nv1, a, rfl, hrow, hRT⟩
  obtain ⟨po, qo, rfl⟩ := hRT.2.1.shape
  obtain ⟨pn, qn, rfl⟩ := hRT.2.2.1.shape
  obtain ⟨pa, qa, rfl⟩ := hRT.2.2.2.shape
  have hkk := hrow.kind
  rw [hkk]
  have HF1 := hide hF1
  clear hF1 hrow hRT hkk
  have HE : Hid (rText (k + 1) t l = ((rOne [wNo, wYes] [] l).1.map (fun (n : Nat) => vNum t n), (rOne [wNo, wYes] [] l).2)) := by show _ = _; simp only [rText]; rw [if_neg (by omega), if_neg (by omega), if_pos hk]
  rw [hk]
  have HKK := hide hk
  have HBW := hide (bool_word l)
  clear hk
  go_wp2_with fail
  have HQ2 := hide (HF1.out.trans (Fr.alloc Zero w1 (.cells #[.int .i64 4, .slice po (ints row.of).length qo, .slice pn (texts row.names).length qn, .slice pa (ints row.ats).length qa] 293)))
  obtain ⟨ov2, hb2⟩ := (HI.out.ms.quiet HQ2.out).block
  refine (mNext_any hb2 HS9.out).mono ?_
  rintro e w3 ⟨rfl, n3, e3⟩
  obtain rfl := e3.symm
  have HF3 : Hid (Fr Zero w ((w1.alloc (.cells #[.int .i64 4, .slice po (ints row.of).length qo, .slice pn (texts row.names).length qn, .slice pa (ints row.ats).length qa] 293)).drewN n3)) := HQ2.out.trans (Fr.drewN _ _ _)
  generalize (w1.alloc (.cells #[.int .i64 4, .slice po (ints row.of).length qo, .slice pn (texts row.names).length qn, .slice pa (ints row.ats).length qa] 293)).drewN n3 = w3 at *
  have HM3 := hide (HI.out.ms.quiet HF3.out)
  have HG3 := hide (MFr.quiet HF3.out hlt)
  clear hb2 h0 h4
  simp only [Bool.false_eq_true, if_false]
  have hh := hd_lt l
  have HWO : Hid ((hd l = 121 ∧ wordOf l = wYes) ∨ (hd l ≠ 121 ∧ wordOf l = wNo)) := by
    unfold wordOf
    by_cases q : hd l = 121
    · exact .inl ⟨q, if_pos q⟩
    · exact .inr ⟨q, if_neg q⟩
  generalize wordOf l = wd at *
  generalize hd l = c at *
  rcases HWO.out with ⟨hc, hwd⟩ | ⟨hc, hwd⟩
  case' inl =>
    subst hc
    have hwI : Hid (2 ≤ wd.length ∧ wd.length ≤ 3 ∧ ∀ b ∈ wd, 0 < b.toNat) := by rw [hwd]; exact ⟨by decide, by decide, by decide⟩
    have hws : (⟨#[121, 101, 115]⟩ : ByteArray) = ba wd := by rw [hwd]; rfl
    clear hwd
    go_wp2_with fail
  case' inr =>
    have hq : (((c : Nat) : Int) == 121) = false := beq_eq_false_iff_ne.2 (by omega)
    have hwI : Hid (2 ≤ wd.length ∧ wd.length ≤ 3 ∧ ∀ b ∈ wd, 0 < b.toNat) := by rw [hwd]; exact ⟨by decide, by decide, by decide⟩
    have hws : (⟨#[110, 111]⟩ : ByteArray) = ba wd := by rw [hwd]; rfl
    clear hwd hc
    go_wp2_with fail
  all_goals
    try rw [hws]
    clear hws
    have hwz := ba_size wd
    have hw2 := hwI.out.1
    have hw3 := hwI.out.2.1
    go_loopw [7] (fun iv wr => ∃ i : Nat, i ≤ wd.length ∧ iv = .int .i64 i ∧ Hid (MS wr B mb db s (mWord (wd.take i) (l, false)).1 (mWord (wd.take i) (l, false)).2 out) ∧ Hid (MFr mb w wr)) (fun iv _ => wd.length - (intOf iv).toNat)
    case atStart => exact ⟨0, by omega, rfl, HM3, HG3⟩
    case round =>
      obtain ⟨i, hi, rfl, HMr, HFr⟩ := hrel
      by_cases hlt' : i < wd.length
      · have hI : (i : Int) < (wd.length : Int) := by omega
        obtain ⟨b, hb⟩ : ∃ b, wd[i]? = some b := ⟨wd[i], by simp⟩
        obtain ⟨hj, hg⟩ := ba_get hb
        have hb0 := hwI.out.2.2 b (List.mem_of_getElem? hb)
        have hb8 := b.toNat_lt
        have HST : Hid (mWord (wd.take (i + 1)) (l, false) = mMust b.toNat (mWord (wd.take i) (l, false)).1 (mWord (wd.take i) (l, false)).2) := by
          obtain ⟨hk, he⟩ := List.getElem?_eq_some_iff.1 hb
          show _ = _
          rw [List.take_succ_eq_append_getElem hk, he, mWord_snoc]
        clear hb
        go_wp2_with fail
        refine (mMust_any HMr.out HS9.out b.toNat hb0 hb8).mono ?_
        rintro e w5 ⟨hF5, hM5, rfl⟩
        rw [← HST.out] at hM5
        have HF5 := hide (HFr.out.trans hF5)
        have HM5 := hide hM5
        clear hF5 hM5
        go_wp2_with fail
        go_roundw
        case rel => exact ⟨i + 1, by omega, by go_num, HM5, HF5⟩
        case measure => simp [intOf]; omega
      · have hi' : i = wd.length := by omega
        subst hi'
        have hI : ¬ (wd.length : Int) < (wd.length : Int) := by omega
        rw [List.take_length] at HMr
        have hbq : (((wd.length : Nat) : Int) - 2) = (((UInt8.ofNat (wd.length - 2)).toNat : Nat) : Int) := by rw [toNat_ofNat (by omega)]; omega
        have HBQ := hide hbq
        have hBr : B ≤ wr.heap.size := Nat.le_trans HI.out.hB HFr.out.fr.size
        clear hbq
        go_wp2_with fail
        refine (mPut_any HMr.out hBr _ (UInt8.ofNat (wd.length - 2)) HBQ.out (by omega)).mono ?_
        rintro e w5 ⟨hF5, hM5, rfl⟩
        have HF5 := hide (HFr.out.trans hF5)
        have HM5 := hide hM5
        clear hF5 hM5
        go_wp2_with fail
        go_end0
        obtain ⟨q1, q2, q3⟩ := HBW.out
        refine ⟨HF5, _, _, out ++ [UInt8.ofNat (wd.length - 2)], HM5, rfl, by rw [HE.out]; exact q1.symm, mWord_len _ _, fun h => ?_, fun h => ⟨.inl (by rw [HE.out]; simp [q3 h]), by simp; omega⟩⟩
        refine ⟨_, by rw [HE.out]; simp [q2 h]; rfl, ?_⟩
        show _ = out ++ wMsg (k + 1) ⟨t, _, _, _⟩
        rw [wMsg_mk, if_neg (by rw [HKK.out]; omega), if_neg (by rw [HKK.out]; omega), if_pos (by rw [HKK.out])]
        simp


end Go.Proofs.YtnhkalnihjkoeaaGreatDoor
