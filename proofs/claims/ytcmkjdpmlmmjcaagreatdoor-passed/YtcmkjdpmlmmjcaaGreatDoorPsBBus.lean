/- A bus in memory; its calls. -/
import Derived.Test.YtcmkjdpmlmmjcaaGreatDoorPsVDec
import Derived.Test.YtcmkjdpmlmmjcaaGreatDoorPsPAny
import Derived.Test.YtcmkjdpmlmmjcaaGreatDoorPsQList
import Derived.Test.YtcmkjdpmlmmjcaaGreatDoorPsQPure
namespace Go.Proofs.YtcmkjdpmlmmjcaaGreatDoor.Q
open Go.RowKit

/-- A bus: its type, which lies below B, and its ring, which does not. -/
structure BM (w : World) (B bb rb yb : Nat) (a : Addr) (t : PT) (R : PR) : Prop where
  b : w.heap[bb]? = some (.cells #[.pointer (some a), .pointer (some ⟨rb, 0, none⟩)] 44 (0, 0))
  r : ∃ fv, RM w rb yb R fv
  t : TR w (From B) a t
  x : ∀ k, RX w rb yb k → B ≤ k

section
variable {w w' : World} {B bb rb yb : Nat} {a : Addr} {t : PT} {R R' : PR}
theorem BM.at0 (h : BM w B bb rb yb a t R) : w.cell? ⟨bb, 0, none⟩ = some (.pointer (some a)) := by rw [cell_of_heap h.b]; rfl
theorem BM.at1 (h : BM w B bb rb yb a t R) : w.cell? ⟨bb, 1, none⟩ = some (.pointer (some ⟨rb, 0, none⟩)) := by rw [cell_of_heap h.b]; rfl
theorem BM.lt (h : BM w B bb rb yb a t R) : rb < w.heap.size := by obtain ⟨fv, h1⟩ := h.r; exact h1.lt
theorem BM.le (h : BM w B bb rb yb a t R) : B ≤ rb := h.x rb (.inl rfl)
theorem BM.tr (h : BM w B bb rb yb a t R) : TR w Zero a t := h.t.avoid (fun _ _ e => e.elim)
theorem RX.quiet {w w' : World} {rb yb : Nat} (hf : Fr Zero w w') (hb : rb < w.heap.size) {k : Nat} (h : RX w' rb yb k) : RX w rb yb k := by
  rcases h with h | h | ⟨v, h1, h2⟩
  · exact .inl h
  · exact .inr (.inl h)
  · exact .inr (.inr ⟨v, (hf.cell (a := ⟨rb, 1, none⟩) hb (fun h => h)).symm.trans h1, h2⟩)
theorem BM.quiet (h : BM w B bb rb yb a t R) (hf : Fr Zero w w') : BM w' B bb rb yb a t R := by
  have hlt := h.lt
  obtain ⟨fv, h1⟩ := h.r
  exact ⟨hf.keep h.b (fun h => h), ⟨fv, h1.quiet hf⟩, h.t.keep hf.of0, fun k hk => h.x k (RX.quiet hf hlt hk)⟩
theorem BM.next {fv' : Value} (h : BM w B bb rb yb a t R) (hf : RFr rb yb w w') (h' : RM w' rb yb R' fv') : BM w' B bb rb yb a t R' := by
  have hlt := h.lt
  have hle := h.le
  obtain ⟨fv, h1⟩ := h.r
  refine ⟨hf.fr.keep h.b (h1.notX h.b (by decide) (by decide) (by decide)), ⟨fv', h'⟩, h.t.keep (hf.fr.mono (fun k _ e => h.x k e)), fun k hk => ?_⟩
  rcases Nat.lt_or_ge k w.heap.size with q | q
  · exact h.x k (hf.own k q hk)
  · omega
/-- What a call on a bus writes lies from B on. -/
theorem BM.from (h : BM w B bb rb yb a t R) (hf : RFr rb yb w w') : Fr (From B) w w' := hf.fr.mono (fun k _ e => h.x k e)
end

def BPost (w : World) (B bb rb yb : Nat) (a : Addr) (t : PT) (R' : PR) (w' : World) : Prop := RFr rb yb w w' ∧ BM w' B bb rb yb a t R'

set_option maxHeartbeats 4000000 in
theorem raw_any {w : World} {B bb rb yb : Nat} {a : Addr} {t : PT} {R : PR} (h : BM w B bb rb yb a t R) (hT : Tidy R) (data : ByteArray) (hd : data.size ≤ 1000000000000000) :
    Calls Tryz.prog 18 #[.pointer (some ⟨bb, 0, none⟩), .string data] w fun e w' => e = .returned (.int .i64 (putP R data.data.toList).1) ∧ BPost w B bb rb yb a t (putP R data.data.toList).2 w' := by
  have H := hide h
  have h0 := h.at1
  obtain ⟨fv, hr⟩ := h.r
  have HR := hide hr
  clear h hr
  go_enter Tryz.func18, Tryz.ntmps18
  go_wp2_with fail
  refine (put_any HR.out hT data hd).mono ?_
  rintro e w1 ⟨rfl, hF1, fv', hM1⟩
  have HF1 := hide hF1
  have HM1 := hide (H.out.next hF1 hM1)
  clear hF1 hM1
  go_wp2_with fail
  go_ret
  exact ⟨rfl, HF1, HM1⟩

set_option maxHeartbeats 4000000 in
theorem brelease_any {w : World} {B bb rb yb : Nat} {a : Addr} {t : PT} {R : PR} (h : BM w B bb rb yb a t R) (hl : R.fs.length ≤ 1000000) (h1st : 1 ≤ R.first) (hfl : R.first ≤ 1000000000000) (n : Int) (hn1 : -9223372036854775808 ≤ n) (hn2 : n ≤ 9223372036854775807) :
    Calls Tryz.prog 17 #[.pointer (some ⟨bb, 0, none⟩), .int .i64 n] w fun e w' => e = .returned (.int .i64 (relP R n).1) ∧ BPost w B bb rb yb a t (relP R n).2 w' := by
  have H := hide h
  have h0 := h.at1
  obtain ⟨fv, hr⟩ := h.r
  have HR := hide hr
  clear h hr
  go_enter Tryz.func17, Tryz.ntmps17
  go_wp2_with fail
  refine (release_any HR.out hl h1st hfl n hn1 hn2).mono ?_
  rintro e w1 ⟨rfl, hF1, fv', hM1⟩
  have HF1 := hide hF1
  have HM1 := hide (H.out.next hF1 hM1)
  clear hF1 hM1
  go_wp2_with fail
  go_ret
  exact ⟨rfl, HF1, HM1⟩

set_option maxHeartbeats 4000000 in
set_option maxRecDepth 100000 in
theorem broom_any {w : World} {B bb rb yb : Nat} {a : Addr} {t : PT} {R : PR} (h : BM w B bb rb yb a t R) (ht : taken R.fs ≤ 1000000) (hl : R.fs.length ≤ 1000000) :
    Calls Tryz.prog 9 #[.pointer (some ⟨bb, 0, none⟩)] w fun e w' => e = .returned (roomV R) ∧ Fr Zero w w' := by
  have h0 := h.at1
  have hlt : bb < w.heap.size := lt_of_heap h.b
  obtain ⟨fv, hr⟩ := h.r
  have HR := hide hr
  clear h hr
  go_enter Tryz.func9, Tryz.ntmps9
  go_wp2_with fail
  refine (room_any (HR.out.quiet (Fr.alloc _ _ _)) ht hl).mono ?_
  rintro e w1 ⟨rfl, hF1⟩
  have HF1 := hide hF1
  have HB : Hid (w1.heap[w.heap.size]? = some (.cells #[.int .i64 0, .int .i64 0, .int .i64 0, .bool false] 32 (0, 0))) := hF1.keep (heap_new_at rfl _) (fun h => h)
  clear hF1
  have c0 : w1.cell? ⟨w.heap.size, 0, none⟩ = some (.int .i64 0) := by rw [cell_of_heap HB.out]; rfl
  have c1 : w1.cell? ⟨w.heap.size, 1, none⟩ = some (.int .i64 0) := by rw [cell_of_heap HB.out]; rfl
  have c2 : w1.cell? ⟨w.heap.size, 2, none⟩ = some (.int .i64 0) := by rw [cell_of_heap HB.out]; rfl
  have c3 : w1.cell? ⟨w.heap.size, 3, none⟩ = some (.bool false) := by rw [cell_of_heap HB.out]; rfl
  have f0 : ∀ o, w1.frozen? ⟨w.heap.size, o, none⟩ = false := fun o => free_of_heap HB.out
  have f00 := f0 0
  have f01 := f0 1
  have f02 := f0 2
  have f03 := f0 3
  unfold roomV
  go_wp2_with fail
  refine bodyPost_ret (v := roomV R) ?_ rfl ⟨rfl, ?_⟩
  · rw [results_cell1 rfl]
    have e := heap_four HB.out (.int .i64 (taken R.fs)) (.int .i64 (countOf 0 R.fs)) (.int .i64 (countOf 1 R.fs)) (.bool R.shut)
    have d0 := cell_of_heap (o := 0) e
    have d1 := cell_of_heap (o := 1) e
    have d2 := cell_of_heap (o := 2) e
    have d3 := cell_of_heap (o := 3) e
    go_simp
    try rfl
  · exact ((Fr.alloc Zero w _).trans HF1.out).past (Fr.four (fun b => w.heap.size ≤ b) w1 w.heap.size _ _ _ _ (Nat.le_refl _))

/-- What Field tells: the bytes of the frame, then the part. -/
def fieldP (t : PT) (R : PR) (n : Int) (path : ByteArray) : ByteArray × Nat × Nat :=
  if (bytesP R n).2 = 0 then getT t (ba (bytesP R n).1) path else (⟨#[]⟩, (bytesP R n).2, 0)
theorem bytesP_len {R : PR} (hK : Kept R) (n : Int) : (bytesP R n).1.length ≤ 1000 := by
  unfold bytesP
  split
  · simp
  · split
    · simp
    · rename_i f hf
      exact (hK _ f hf).2
theorem getT_le (t : PT) (data path : ByteArray) : (getT t data path).2.1 ≤ 10 := by
  unfold getT
  split
  · rcases rMsg 12 t data.data.toList with ⟨_ | v, _ | ⟨b, l⟩⟩
    · simp [getR]
    · simp [getR]
    · simp only [getR, getV]
      split
      · simp
      · rcases partP v (splitP path.data.toList) 0 with ⟨_ | u, n⟩ <;> simp
    · simp [getR]
  · simp
theorem bytesP_le (R : PR) (n : Int) : (bytesP R n).2 ≤ 13 := by
  unfold bytesP
  split
  · simp
  · split <;> simp

theorem fieldP_le (t : PT) (R : PR) (n : Int) (path : ByteArray) : (fieldP t R n path).2.1 ≤ 100 := by
  unfold fieldP
  split
  · have := getT_le t (ba (bytesP R n).1) path; omega
  · have := bytesP_le R n; show (bytesP R n).2 ≤ 100; omega

set_option maxHeartbeats 8000000 in
set_option maxRecDepth 100000 in
theorem field_any {w : World} {B bb rb yb : Nat} {a : Addr} {t : PT} {R : PR} (h : BM w B bb rb yb a t R) (hpt : PowT w) (hW : WFT 12 t) (hK : Kept R) (hl : R.fs.length ≤ 1000000) (h1st : 1 ≤ R.first) (hfl : R.first ≤ 1000000000000) (n : Int) (hn1 : -9223372036854775808 ≤ n) (hn2 : n ≤ 9223372036854775807) (path : ByteArray) (hpl : path.size ≤ maxLen) :
    Calls Tryz.prog 16 #[.pointer (some ⟨bb, 0, none⟩), .int .i64 n, .string path] w fun e w' => TriPost w (fieldP t R n path) e w' := by
  have H := hide h
  have HP := hide hpt
  have HW := hide hW
  have h0 := h.at0
  have h1 := h.at1
  have hbl := lt_of_heap h.b
  have hlen := bytesP_len hK n
  have hle := bytesP_le R n
  obtain ⟨fv, hr⟩ := h.r
  have HR := hide hr
  have HK := hide hK
  clear h hr hpt hW hK
  go_enter Tryz.func16, Tryz.ntmps16
  go_wp2_with fail
  refine (frame_any HR.out HK.out hl h1st hfl n hn1 hn2).mono ?_
  rintro e w1 ⟨rfl, hF1⟩
  have HF1 := hide hF1
  have d0 : w1.cell? ⟨bb, 0, none⟩ = some (.pointer (some a)) := (hF1.cell (a := ⟨bb, 0, none⟩) hbl (fun h => h)).trans h0
  clear hF1
  by_cases hz : (bytesP R n).2 = 0
  · have HU : Hid (fieldP t R n path = getT t (ba (bytesP R n).1) path) := by show _ = _; unfold fieldP; rw [if_pos hz]
    rw [hz]
    clear hz hle
    have hs : (ba (bytesP R n).1).size ≤ maxLen := by rw [ba_size]; unfold maxLen; omega
    generalize ba (bytesP R n).1 = data at *
    go_wp2_with fail
    refine (gett_any _ a t data path (HP.out.keep HF1.out (fun h => h)) (H.out.quiet HF1.out).tr HW.out hs hpl).mono ?_
    rintro e w2 ⟨hF2, rfl⟩
    have HF2 := hide (HF1.out.trans hF2)
    clear hF2
    go_wp2_with fail
    go_ret3
    rw [HU.out]
    exact ⟨HF2, rfl⟩
  · have HU : Hid (fieldP t R n path = (⟨#[]⟩, (bytesP R n).2, 0)) := by show _ = _; unfold fieldP; rw [if_neg hz]
    generalize (bytesP R n).2 = m at *
    have hzI : (m : Int) ≠ 0 := by omega
    have hzb : ((m : Int) == 0) = false := beq_eq_false_iff_ne.2 hzI
    clear hz
    go_wp2_with fail
    go_ret3
    rw [HU.out]
    exact ⟨HF1, rfl⟩

/-- What Publish tells, and the ring behind it. -/
def pubP (t : PT) (R : PR) (value : ByteArray) : Nat × Nat × PR :=
  if (encR ⟨#[]⟩ value (rText 12 t value.data.toList)).2.1 = 0 then ((putP R (encR ⟨#[]⟩ value (rText 12 t value.data.toList)).1.data.toList).1, 0, (putP R (encR ⟨#[]⟩ value (rText 12 t value.data.toList)).1.data.toList).2)
  else ((encR ⟨#[]⟩ value (rText 12 t value.data.toList)).2.1, (encR ⟨#[]⟩ value (rText 12 t value.data.toList)).2.2, R)
theorem encR_size (s value : ByteArray) (r : Option PV × Bs) : (encR s value r).1.size ≤ 1000 := by
  rcases r with ⟨_ | v, _ | ⟨b, l⟩⟩
  · exact Nat.zero_le _
  · exact Nat.zero_le _
  · unfold encR
    simp only
    split
    · rw [ba_size]; assumption
    · exact Nat.zero_le _
  · exact Nat.zero_le _
theorem encR_le (s value : ByteArray) (r : Option PV × Bs) : (encR s value r).2.1 ≤ 5 := by
  rcases r with ⟨_ | v, _ | ⟨b, l⟩⟩
  · simp [encR]
  · simp [encR]
  · unfold encR
    simp only
    split <;> simp
  · simp [encR]

set_option maxHeartbeats 8000000 in
set_option maxRecDepth 100000 in
theorem publish_any {w : World} {B bb rb yb : Nat} {a : Addr} {t : PT} {R : PR} (h : BM w B bb rb yb a t R) (hW : WFT 12 t) (hT : Tidy R) (value : ByteArray) (hv : value.size ≤ 140737488355328) :
    Calls Tryz.prog 14 #[.pointer (some ⟨bb, 0, none⟩), .string value] w fun e w' => e = .returned (.tuple #[.int .i64 (pubP t R value).1, .int .i64 (pubP t R value).2.1]) ∧ BPost w B bb rb yb a t (pubP t R value).2.2 w' := by
  have H := hide h
  have HW := hide hW
  have HT := hide hT
  have h0 := h.at0
  have h1 := h.at1
  have hbl := lt_of_heap h.b
  have hrl := h.lt
  clear h hW hT
  go_enter Tryz.func14, Tryz.ntmps14
  go_wp2_with fail
  refine (enct_any ⟨#[]⟩ _ a t value H.out.tr HW.out hv).mono ?_
  rintro e w1 ⟨hF1, rfl⟩
  have HF1 := hide hF1
  have d1 : w1.cell? ⟨bb, 1, none⟩ = some (.pointer (some ⟨rb, 0, none⟩)) := (hF1.cell (a := ⟨bb, 1, none⟩) hbl (fun h => h)).trans h1
  have H1 := hide (H.out.quiet hF1)
  obtain ⟨fv, hr⟩ := H1.out.r
  have HR := hide hr
  clear hF1 hr
  have hsz := encR_size ⟨#[]⟩ value (rText 12 t value.data.toList)
  have hle := encR_le ⟨#[]⟩ value (rText 12 t value.data.toList)
  rcases hx : encR ⟨#[]⟩ value (rText 12 t value.data.toList) with ⟨x0, x1, x2⟩
  have HPu : Hid (pubP t R value = if x1 = 0 then ((putP R x0.data.toList).1, 0, (putP R x0.data.toList).2) else (x1, x2, R)) := by show _ = _; unfold pubP; rw [hx]
  rw [hx] at hsz hle
  clear hx
  simp only at hsz hle ⊢
  by_cases hz : x1 = 0
  · rw [if_pos hz] at HPu
    subst hz
    go_wp2_with fail
    refine (put_any HR.out HT.out x0 (by omega)).mono ?_
    rintro e w2 ⟨rfl, hF2, fv', hM2⟩
    have HF2 := hide ((RFr.quiet HF1.out hrl).trans hF2)
    have HM2 := hide (H1.out.next hF2 hM2)
    clear hF2 hM2
    go_wp2_with fail
    go_ret2
    rw [HPu.out]
    exact ⟨rfl, HF2, HM2⟩
  · rw [if_neg hz] at HPu
    have hzI : (x1 : Int) ≠ 0 := by omega
    have hzb : ((x1 : Int) == 0) = false := beq_eq_false_iff_ne.2 hzI
    clear hz
    go_wp2_with fail
    go_ret2
    rw [HPu.out]
    exact ⟨rfl, RFr.quiet HF1.out hrl, H1.out⟩

/-- What Consume tells, and the ring behind it. -/
def conP (t : PT) (R : PR) : Nat × ByteArray × Nat × PR :=
  if (takeP R).2.1 = 0 then
    if (fieldP t (takeP R).2.2 (takeP R).1 ⟨#[]⟩).2.1 = 0 then ((takeP R).1, (fieldP t (takeP R).2.2 (takeP R).1 ⟨#[]⟩).1, 0, (takeP R).2.2)
    else ((takeP R).1, ⟨#[]⟩, 6, (relP (takeP R).2.2 (takeP R).1).2)
  else (0, ⟨#[]⟩, (takeP R).2.1, R)

theorem waitI_lt {l : List PF} {i : Nat} (h : waitI l = some i) : i < l.length := by
  unfold waitI at h
  exact (List.findIdx?_eq_some_iff_getElem.1 h).1
theorem takeP_len (R : PR) : (takeP R).2.2.fs.length = R.fs.length ∧ (takeP R).2.2.first = R.first ∧ (takeP R).1 ≤ R.first + R.fs.length ∧ (takeP R).2.1 ≤ 12 := by
  unfold takeP
  split
  · rename_i i hi
    refine ⟨by simp [setSt], rfl, ?_, by simp⟩
    have := waitI_lt hi
    show R.first + i ≤ _
    omega
  · refine ⟨rfl, rfl, by simp, ?_⟩
    show (if R.shut then 12 else 11) ≤ 12
    split <;> omega

set_option maxHeartbeats 8000000 in
set_option maxRecDepth 100000 in
theorem consume_any {w : World} {B bb rb yb : Nat} {a : Addr} {t : PT} {R : PR} (h : BM w B bb rb yb a t R) (hpt : PowT w) (hpb : 5 < B) (hW : WFT 12 t) (hF : Fit R) (hl : R.fs.length ≤ 1000000) (hfl : R.first ≤ 1000000000) :
    Calls Tryz.prog 15 #[.pointer (some ⟨bb, 0, none⟩)] w fun e w' => e = .returned (.tuple #[.int .i64 (conP t R).1, .string (conP t R).2.1, .int .i64 (conP t R).2.2.1]) ∧ BPost w B bb rb yb a t (conP t R).2.2.2 w' := by
  have H := hide h
  have HP := hide hpt
  have HW := hide hW
  have HFit := hide hF
  have HFit2 := hide hF.take
  have h1 := h.at1
  have hbl := lt_of_heap h.b
  have hrl := h.lt
  obtain ⟨hl2, hf2, hn2, hle2⟩ := takeP_len R
  obtain ⟨fv, hr⟩ := h.r
  have HR := hide hr
  have HU0 : Hid (conP t R = if (takeP R).2.1 = 0 then
    if (fieldP t (takeP R).2.2 (takeP R).1 ⟨#[]⟩).2.1 = 0 then ((takeP R).1, (fieldP t (takeP R).2.2 (takeP R).1 ⟨#[]⟩).1, 0, (takeP R).2.2)
    else ((takeP R).1, ⟨#[]⟩, 6, (relP (takeP R).2.2 (takeP R).1).2)
  else (0, ⟨#[]⟩, (takeP R).2.1, R)) := rfl
  have HTk : Hid ((takeP R).2.1 ≠ 0 → (takeP R).2.2 = R) := by
    unfold takeP
    split
    · exact fun h => absurd rfl h
    · exact fun _ => rfl
  clear h hr hpt hW hF
  go_enter Tryz.func15, Tryz.ntmps15
  go_wp2_with fail
  refine (take_any HR.out hl (by omega)).mono ?_
  rintro e w1 ⟨rfl, hF1, fv1, hM1⟩
  have HF1 := hide hF1
  have HM1 := hide (H.out.next hF1 hM1)
  have d1 := HM1.out.at1
  have HP1 := hide (HP.out.keep (H.out.from hF1) (fun e => by unfold From at e; omega))
  clear hF1 hM1
  rcases hq : takeP R with ⟨n, er, R1⟩
  rw [hq] at HM1 HU0 HTk HFit2 hl2 hf2 hn2 hle2
  clear hq
  simp only at hl2 hf2 hn2 hle2 HM1 HU0 HTk HFit2 ⊢
  by_cases hz : er = 0
  · rw [if_pos hz] at HU0
    subst hz
    go_wp2_with fail
    refine (field_any HM1.out HP1.out HW.out HFit2.out.kept (by omega) HFit2.out.first (by omega) n (by omega) (by omega) ⟨#[]⟩ (by decide)).mono ?_
    rintro e w2 ⟨hF2, rfl⟩
    have HM2 := hide (HM1.out.quiet hF2)
    have HF2 := hide (HF1.out.trans (RFr.quiet hF2 HM1.out.lt))
    have e1 := HM2.out.at1
    clear hF2
    rcases hx : fieldP t R1 n ⟨#[]⟩ with ⟨x0, x1, x2⟩
    have hxl : x1 ≤ 100 := by
      have h0 : (fieldP t R1 n ⟨#[]⟩).2.1 ≤ 100 := fieldP_le t R1 n _
      rw [hx] at h0
      exact h0
    rw [hx] at HU0
    clear hx
    simp only at HU0 ⊢
    by_cases hz2 : x1 = 0
    · rw [if_pos hz2] at HU0
      subst hz2
      go_wp2_with fail
      go_ret3
      rw [HU0.out]
      exact ⟨rfl, HF2, HM2⟩
    · rw [if_neg hz2] at HU0
      have hzI : (x1 : Int) ≠ 0 := by omega
      have hzb : ((x1 : Int) == 0) = false := beq_eq_false_iff_ne.2 hzI
      obtain ⟨fv2, hr2⟩ := HM2.out.r
      have HR2 := hide hr2
      clear hr2 hz2
      go_wp2_with fail
      refine (release_any HR2.out (by omega) HFit2.out.first (by omega) n (by omega) (by omega)).mono ?_
      rintro e w3 ⟨rfl, hF3, fv3, hM3⟩
      have HM3 := hide (HM2.out.next hF3 hM3)
      have HF3 := hide (HF2.out.trans hF3)
      clear hF3 hM3
      go_wp2_with fail
      go_ret3
      rw [HU0.out]
      exact ⟨rfl, HF3, HM3⟩
  · rw [if_neg hz] at HU0
    have HTk' := HTk.out hz
    subst HTk'
    have hzI : (er : Int) ≠ 0 := by omega
    have hzb : ((er : Int) == 0) = false := beq_eq_false_iff_ne.2 hzI
    clear hz
    go_wp2_with fail
    go_ret3
    rw [HU0.out]
    exact ⟨rfl, HF1, HM1⟩

/-- What NewBus leaves: an error and its place, or an empty bus. -/
def NBPost (w : World) (s : ByteArray) (g : Nat) (e : Ending) (w' : World) : Prop :=
  Fr Zero w w' ∧ ((checkP s ≠ (0, 0) ∧ e = .returned (.tuple #[.pointer none, .int .i64 (checkP s).1, .int .i64 (checkP s).2])) ∨
    (checkP s = (0, 0) ∧ ∃ B bb rb yb a, e = .returned (.tuple #[.pointer (some ⟨bb, 0, none⟩), .int .i64 0, .int .i64 0]) ∧ w.heap.size ≤ B ∧ w.heap.size ≤ bb ∧ BM w' B bb rb yb a (typeP s) (newR g)))

set_option maxHeartbeats 8000000 in
set_option maxRecDepth 100000 in
theorem newbus_any (s : ByteArray) (g : Nat) (h2 : 2 ≤ g) (h64 : g ≤ 64) (w : World) (hw : Words w) (het : ErrT w) (hs : s.size ≤ maxLen) :
    Calls Tryz.prog 6 #[.string s, .int .i64 g] w fun e w' => NBPost w s g e w' := by
  have HW := hide hw
  have HE := hide het
  clear hw het
  go_enter Tryz.func6, Tryz.ntmps6
  go_wp2_with fail
  refine (sparse_any s _ HW HE hs).mono ?_
  rintro e w1 ⟨hF1, a, rfl, hok⟩
  have HF1 := hide hF1
  by_cases hz : (checkP s).1 = 0
  · have hc := checkP_ok hz
    obtain ⟨a', rfl, ht⟩ := hok hc
    have HTR := hide ht
    have HC := hide hc
    rw [hc]
    clear hF1 hok hz hc ht
    go_wp2_with fail
    refine (new_any g h2 h64 _).mono ?_
    rintro e w2 ⟨rfl, hF2, hM2⟩
    have HF2 := hide (hF2)
    have HM2 := hide hM2
    clear hF2 hM2
    go_wp2_with fail
    go_ret3
    have hsz := HF2.out.size
    refine ⟨HF1.out.trans (HF2.out.trans (Fr.alloc _ _ _)), .inr ⟨HC.out, w1.heap.size, w2.heap.size, w1.heap.size + 1, w1.heap.size, a', rfl, HF1.out.size, Nat.le_trans HF1.out.size hsz, ⟨heap_new_at rfl _, ⟨_, HM2.out.quiet (Fr.alloc _ _ _)⟩, ?_, ?_⟩⟩⟩
    · exact (HTR.out.avoid (fun b hb e => by unfold From at e; omega)).keep (HF2.out.trans (Fr.alloc _ _ _)).of0
    · intro k hk
      rcases RX.of (HM2.out.quiet (Fr.alloc Zero _ _)) hk with h | h | h
      · omega
      · omega
      · simp [blockOf] at h
  · have hc : checkP s ≠ (0, 0) := fun e => hz (by rw [e])
    have HC := hide hc
    have hzI : (((checkP s).1 : Nat) : Int) ≠ 0 := by omega
    have hzb : ((((checkP s).1 : Nat) : Int) == 0) = false := beq_eq_false_iff_ne.2 hzI
    clear hF1 hok hz hc
    go_wp2_with fail
    go_ret3
    exact ⟨HF1, .inl ⟨HC, rfl⟩⟩

end Go.Proofs.YtcmkjdpmlmmjcaaGreatDoor.Q
