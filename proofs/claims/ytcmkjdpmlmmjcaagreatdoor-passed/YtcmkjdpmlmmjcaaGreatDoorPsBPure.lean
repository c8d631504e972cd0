/- One message through an empty bus: what each call tells. -/
import Derived.Test.YtcmkjdpmlmmjcaaGreatDoorPsVWf
import Derived.Test.YtcmkjdpmlmmjcaaGreatDoorPsVDec
import Derived.Test.YtcmkjdpmlmmjcaaGreatDoorPsPAny
import Derived.Test.YtcmkjdpmlmmjcaaGreatDoorPsBBus
section
namespace Go.Proofs.YtcmkjdpmlmmjcaaGreatDoor

/-! ### Names are none of them empty -/
def NE : Nat → PT → Prop
  | 0, _ => True
  | k + 1, t => (9 ≤ t.kind → ∀ n ∈ t.names, n.data.toList ≠ []) ∧ ∀ u ∈ t.subs, NE k u
def NEA (t : PT) : Prop := ∀ k, NE k t
theorem NEA.compound (kind : Nat) (l : List (ByteArray × PT)) (h1 : ∀ q ∈ l, NEA q.2) (h2 : 9 ≤ kind → ∀ q ∈ l, q.1.data.toList ≠ []) : NEA (compoundT kind l) := by
  intro k
  cases k with
  | zero => trivial
  | succ k =>
    refine ⟨fun h9 n hn => ?_, fun u hu => ?_⟩
    · simp only [compoundT, List.mem_map] at hn
      obtain ⟨q, hq, rfl⟩ := hn
      exact h2 h9 q hq
    · simp only [compoundT, List.mem_map] at hu
      obtain ⟨q, hq, rfl⟩ := hu
      exact h1 q hq k
/-! ### A path's text and its steps -/
/-! ### Ways by their steps -/
theorem behindI_at {v u : PV} {st : Bs} : ∀ (l : List PV) (i : Nat), behindI v st i l = some u → ∃ j, i ≤ j ∧ j < i + l.length ∧ stepOf v.of v.num j = st := by
  intro l
  induction l with
  | nil => intro i h; simp [behindI] at h
  | cons x l ih =>
    intro i h
    unfold behindI at h
    split at h
    · rename_i e; exact ⟨i, Nat.le_refl _, by simp, e⟩
    · obtain ⟨j, h1, h2, h3⟩ := ih _ h; exact ⟨j, by omega, by simp; omega, h3⟩
/-! ### Finding a way -/
/-! ### What the reference tells at a path -/
end Go.Proofs.YtcmkjdpmlmmjcaaGreatDoor
end
section
namespace Go.Proofs.YtcmkjdpmlmmjcaaGreatDoor
open Go.RowKit

/-! ### What is written is read again, and what is read is written again -/

theorem ba_inj {s : ByteArray} {l : Bs} (h : s.data.toList = l) : s = ba l := by rw [← h, ba_data]

theorem enc_back {s value : ByteArray} (hc : checkP s = (0, 0)) (h : (encP s value).2.1 = 0) : decP s (encP s value).1 = (value, 0, 0) ∧ (encP s value).1.size ≤ 1000 := by
  have hW := typeP_good hc
  have hE : encP s value = encR s value (rText 12 (typeP s) value.data.toList) := by unfold encP; rw [if_pos (by rw [hc])]
  rw [hE] at h ⊢
  rcases hq : rText 12 (typeP s) value.data.toList with ⟨q, r⟩
  rw [hq] at h
  by_cases hv : ∃ v, (q, r) = (some v, [])
  · obtain ⟨v, hv⟩ := hv
    simp only [Prod.mk.injEq] at hv
    obtain ⟨rfl, rfl⟩ := hv
    obtain ⟨hVal, htx⟩ := rText_sound 12 (typeP s) _ _ _ hW hq
    have hle : (wMsg 12 v).length ≤ 1000 := by
      by_cases h' : (wMsg 12 v).length ≤ 1000
      · exact h'
      · simp only [encR, if_neg h'] at h
        cases h
    have e1 : encR s value (some v, []) = (ba (wMsg 12 v), 0, 0) := by simp only [encR, if_pos hle]
    rw [e1]
    have hsz : (ba (wMsg 12 v)).size ≤ 1000 := by rw [ba_size]; exact hle
    refine ⟨?_, hsz⟩
    have hr := rMsg_whole 12 (typeP s) v [] hW hVal
    rw [List.append_nil] at hr
    unfold decP
    rw [if_pos (by rw [hc]), if_pos hsz, ba_list, hr]
    simp only [decR]
    rw [List.append_nil] at htx
    rw [← ba_inj htx]
  · rw [encR_no hv] at h
    cases h
/-! ### awake -/

def awD : ByteArray := ⟨#[109, 61, 123, 105, 100, 58, 115, 104, 111, 114, 116, 44, 116, 97, 103, 58, 116, 101, 120, 116, 44, 111, 110, 58, 63, 98, 111, 111, 108, 125]⟩
def awV : ByteArray := ⟨#[123, 50, 53, 56, 44, 34, 104, 105, 34, 44, 43, 121, 101, 115, 125]⟩
def awM : ByteArray := ⟨#[2, 1, 2, 104, 105, 1, 1]⟩
theorem aw_enc : encP awD awV = (awM, 0, 0) := by decide +kernel
theorem aw_dec : decP awD awM = (awV, 0, 0) := by decide +kernel

theorem awake_any (w : World) (hw : Words w) (het : ErrT w) (hpt : PowT w) :
    Calls Tryz.prog 4 #[] w fun e w' => Fr Zero w w' ∧ e = .returned (.bool true) := by
  have HW := hide hw
  have HE := hide het
  have HP := hide hpt
  clear hw het hpt
  go_enter Tryz.func4, Tryz.ntmps4
  go_wp2_with fail
  refine (encode_any awD awV _ HW HE (by decide) (by decide)).mono ?_
  rw [aw_enc]
  rintro e w1 ⟨hF1, rfl⟩
  have HF1 := hide hF1
  have HW1 := hide (HW.out.keep hF1 (fun h => h))
  have HE1 := hide (HE.out.keep hF1 (fun h => h))
  have HP1 := hide (HP.out.keep hF1 (fun h => h))
  clear hF1
  go_wp2_with fail
  refine (decode_any awD awM _ HW1 HE1 HP1 (by decide) (by decide)).mono ?_
  rw [aw_dec]
  rintro e w2 ⟨hF2, rfl⟩
  have HF2 := hide (HF1.out.trans hF2)
  clear hF2
  have q1 : (awM.toList == [2, 1, 2, 104, 105, 1, 1]) = true := by rw [ByteArray.toList_eq]; decide
  have q2 : (awV.toList == [123, 50, 53, 56, 44, 34, 104, 105, 34, 44, 43, 121, 101, 115, 125]) = true := by rw [ByteArray.toList_eq]; decide
  go_wp2_with fail
  go_ret
  exact ⟨HF2, rfl⟩

theorem emptyB : (⟨#[]⟩ : ByteArray).toList.isEmpty = true := by rw [ByteArray.toList_eq]; rfl
end Go.Proofs.YtcmkjdpmlmmjcaaGreatDoor
end
section
namespace Go.Proofs.YtcmkjdpmlmmjcaaGreatDoor.Q
open Go.RowKit

/-- An empty ring of 64 granules whose next frame has the number m. -/
structure Emp (R : PR) (m : Nat) : Prop where
  fit : Fit R
  fs : R.fs = []
  shut : R.shut = false
  g : R.g = 64
  first : R.first = m
theorem Emp.new : Emp (newR 64) 1 := ⟨Fit.new (by omega) (by omega), rfl, rfl, rfl, rfl⟩
theorem Emp.tidy {R : PR} {m : Nat} (h : Emp R m) : Tidy R := h.fit.tidy

/-- Too large: refused, and nothing is changed. -/
theorem put_large {R : PR} {m : Nat} (h : Emp R m) {d : Bs} (hl : 64 < 2 * needs d.length) : putP R d = (9, R) := by
  unfold putP
  rw [h.shut, h.g]
  simp [hl]
/-- One frame in the ring, in the state st. -/
def oneR (R : PR) (d : Bs) (st : Nat) : PR :=
  { R with row := putRow R.row (8 * putAt R (needs d.length)) (hdr d.length ++ d), fs := [⟨putAt R (needs d.length), gapOf R.g R.next (needs d.length) + needs d.length, st, d⟩], next := (putAt R (needs d.length) + needs d.length) % R.g }
theorem put_one {R : PR} {m : Nat} (h : Emp R m) {d : Bs} (hl : 2 * needs d.length ≤ 64) : putP R d = (0, oneR R d 0) := by
  have hp := needs_pos d.length
  unfold putP
  rw [if_neg (by rw [h.shut]; simp), if_neg (by rw [h.g]; omega), if_neg]
  · unfold oneR
    rw [h.fs]
    rfl
  · rw [h.fs, h.g]
    have hn := h.fit.next
    rw [h.g] at hn
    unfold taken gapOf
    simp
    split <;> omega
theorem take_one {R : PR} {m : Nat} (h : Emp R m) (d : Bs) : takeP (oneR R d 0) = (m, 0, oneR R d 1) := by
  unfold takeP
  have e : waitI (oneR R d 0).fs = some 0 := by simp [waitI, oneR]
  rw [e]
  have e2 : (oneR R d 0).first = m := h.first
  show ((oneR R d 0).first + 0, 0, ({ oneR R d 0 with fs := setSt (oneR R d 0).fs 0 1 } : PR)) = _
  have e3 : ({ oneR R d 0 with fs := setSt (oneR R d 0).fs 0 1 } : PR) = oneR R d 1 := rfl
  rw [e3, e2, Nat.add_zero]
theorem held_one {R : PR} {m : Nat} (h : Emp R m) (d : Bs) : heldI (oneR R d 1) m = some 0 := by
  unfold heldI
  have e1 : (oneR R d 1).first = m := h.first
  have e2 : (oneR R d 1).fs = [⟨putAt R (needs d.length), gapOf R.g R.next (needs d.length) + needs d.length, 1, d⟩] := rfl
  rw [e1, e2]
  rw [if_neg (by simp)]
  simp
theorem bytes_one {R : PR} {m : Nat} (h : Emp R m) (d : Bs) : bytesP (oneR R d 1) m = (d, 0) := by
  unfold bytesP
  rw [held_one h]
  rfl
/-- The ring behind it. -/
def goneR (R : PR) (d : Bs) : PR := { oneR R d 1 with fs := [], first := R.first + 1 }
theorem rel_one {R : PR} {m : Nat} (h : Emp R m) (d : Bs) : relP (oneR R d 1) m = (0, goneR R d) := by
  unfold relP
  rw [held_one h]
  rfl
theorem Emp.gone {R : PR} {m : Nat} (h : Emp R m) {d : Bs} (hl : 2 * needs d.length ≤ 64) : Emp (goneR R d) (m + 1) := by
  have h1 := h.fit.put d
  rw [put_one h hl] at h1
  have h2 := h1.take
  rw [take_one h] at h2
  have h3 := h2.release m
  rw [rel_one h] at h3
  exact ⟨h3, rfl, h.shut, h.g, by show R.first + 1 = m + 1; rw [h.first]⟩
theorem bytes_gone {R : PR} {m : Nat} (h : Emp R m) (d : Bs) : bytesP (goneR R d) m = ([], 13) := by
  unfold bytesP heldI
  have e1 : (goneR R d).first = m + 1 := by show R.first + 1 = _; rw [h.first]
  rw [e1, if_pos (by left; omega)]
theorem rel_gone {R : PR} {m : Nat} (h : Emp R m) (d : Bs) : relP (goneR R d) m = (13, goneR R d) := by
  unfold relP heldI
  have e1 : (goneR R d).first = m + 1 := by show R.first + 1 = _; rw [h.first]
  rw [e1, if_pos (by left; omega)]
theorem Emp.one {R : PR} {m : Nat} (h : Emp R m) {d : Bs} (hl : 2 * needs d.length ≤ 64) : Fit (oneR R d 0) ∧ Fit (oneR R d 1) := by
  have h1 := h.fit.put d
  rw [put_one h hl] at h1
  have h2 := h1.take
  rw [take_one h] at h2
  exact ⟨h1, h2⟩

/-! ### A path that leads nowhere -/
theorem decN_hi : ∀ (f n : Nat), ∀ b ∈ decN f n, b.toNat ≤ 57 := by
  intro f
  induction f with
  | zero => intro n b hb; simp [decN] at hb
  | succ f ih =>
    intro n b hb
    simp only [decN] at hb
    rcases List.mem_append.1 hb with h | h
    · split at h
      · simp at h
      · exact ih _ b h
    · simp only [List.mem_singleton] at h
      subst h
      rw [toNat_ofNat (by omega)]
      omega
theorem behind_Z {k : Nat} {t : PT} {v : PV} (hW : WFT (k + 1) t) (hV : Valid (k + 1) t v) : behindP v [90] = none := by
  rcases hb : behindP v [90] with _ | u
  · rfl
  · exfalso
    obtain ⟨j, _, h2, h3⟩ := behindI_at _ _ hb
    rw [Nat.zero_add] at h2
    have hk := (hV.stepOk hW).1 j h2
    have hnm : ∀ i, 9 ≤ t.kind → t.name i = [90] → False := fun i h9 e => by
      unfold PT.name at e
      rcases hn : t.names[i]? with _ | n
      · rw [hn] at e; simp at e
      · rw [hn, Option.getD_some] at e
        have := (hW.2.2.2.2.2.2 h9).2 n (List.mem_of_getElem? hn) 90 (by rw [e]; simp)
        simp at this
    rw [hV.1] at h3 hk
    unfold stepOf at h3
    split at h3
    · have := decN_hi 20 j 90 (by rw [h3]; simp)
      simp at this
    · split at h3
      · simp at h3
      · rcases hk with h | h | ⟨h, _⟩ | ⟨h, _⟩
        · contradiction
        · contradiction
        · rw [if_pos h] at h3; exact hnm _ (by omega) h3
        · rw [if_neg (by omega)] at h3; exact hnm _ (by omega) h3
theorem split_Z : splitP [90] = [[90]] := by decide
theorem get_Z {t : PT} {data : ByteArray} {x : ByteArray} (hW : WFT 12 t) (h : getT t data ⟨#[]⟩ = (x, 0, 0)) : getT t data ⟨#[90]⟩ = (⟨#[]⟩, 7, 0) := by
  unfold getT at h ⊢
  split at h
  · rename_i hsz
    rw [if_pos hsz]
    rcases hq : rMsg 12 t data.data.toList with ⟨q, r⟩
    rw [hq] at h
    by_cases hv : ∃ v, (q, r) = (some v, [])
    · obtain ⟨v, hv⟩ := hv
      simp only [Prod.mk.injEq] at hv
      obtain ⟨rfl, rfl⟩ := hv
      obtain ⟨hVal, _⟩ := rMsg_sound 12 t _ _ _ hW hq
      simp only [getR, getV]
      rw [if_neg (by simp), split_Z]
      simp only [partP, behind_Z hW hVal]
    · rw [getR_no hv] at h
      cases h
  · cases h

end Go.Proofs.YtcmkjdpmlmmjcaaGreatDoor.Q
end
