/- What is looked at in the end: all frames of a ring, then all that wait are taken. -/
import Derived.Test.YtnhkalnihjkoeaaGreatDoorRgSNew
namespace Go.Proofs.YtnhkalnihjkoeaaGreatDoor.Q
open Go.RowKit

/-- Where a ring's pointers lie. -/
theorem WM.rows {w : World} {B wb M : Nat} {L : List RP} {rv qv : Value} (h : WM w B wb L M rv qv) {i : Nat} {p : RP} (hp : L[i]? = some p) : ∃ fb fo fc gb go gc, rv = .slice (some ⟨fb, fo, none⟩) L.length fc ∧ qv = .slice (some ⟨gb, go, none⟩) L.length gc ∧ w.cell? ⟨fb, fo + i, none⟩ = some (.pointer (some ⟨p.sb, 0, none⟩)) ∧ w.cell? ⟨gb, go + i, none⟩ = some (.pointer (some ⟨p.qb, 0, none⟩)) := by
  obtain ⟨fb, fo, fc, fe, fcell⟩ := h.rs.at_ (j := i) (u := rptr p) (by rw [List.getElem?_map, hp]; rfl)
  obtain ⟨gb, go, gc, ge, gcell⟩ := h.qs.at_ (j := i) (u := qptr p) (by rw [List.getElem?_map, hp]; rfl)
  exact ⟨fb, fo, fc, gb, go, gc, fe, ge, fcell, gcell⟩

set_option maxHeartbeats 16000000 in
set_option maxRecDepth 100000 in
theorem views_any {w : World} {B wb M : Nat} {L : List RP} {rv qv : Value} (h : WM w B wb L M rv qv) (hM : M ≤ 2800000000000) (_hL2 : L.length ≤ 2800000000000) (i : Nat) (hi : i < L.length) :
    Calls Tryz.prog 48 #[.pointer (some ⟨wb, 0, none⟩), .int .i64 i] w fun e w' => e = .returned (.bool true) ∧ Fr Zero w w' := by
  obtain ⟨p, hp⟩ : ∃ p, L[i]? = some p := ⟨_, List.getElem?_eq_getElem hi⟩
  have HPM := hide (h.each i p hp)
  have hpl := h.lens i p hp
  obtain ⟨fb, fo, fc, gb, go, gc, rfl, rfl, fcell, gcell⟩ := h.rows hp
  have H := hide h
  have a0 := h.at0
  have a1 := h.at1
  have hwl := h.lt
  have hfl := World.block_lt_of_cell? _ _ fcell
  have hgl := World.block_lt_of_cell? _ _ gcell
  have hiI : (i : Int) < (L.length : Int) := by omega
  clear h hp
  go_enter Tryz.func48, Tryz.ntmps48
  go_wp2_with fail
  refine (ring_room HPM.out (by omega) 0 0 0 0 ⟨#[]⟩).mono ?_
  rintro e w1 ⟨rfl, hF1⟩
  have HF1 := hide hF1
  clear hF1
  go_wp2_with fail
  go_loopw [6, 7] (fun ov iv wr => ∃ j : Nat, j ≤ p.Q.fs.length ∧ ov = .bool true ∧ iv = .int .i64 j ∧ Hid (Fr Zero w wr)) (fun _ iv _ => p.Q.fs.length - (intOf iv).toNat)
  case atStart => exact ⟨0, by omega, rfl, rfl, HF1⟩
  case round =>
    clear HF1
    obtain ⟨j, hj, rfl, rfl, HF⟩ := hrel
    have HPr := hide (HPM.out.quiet HF.out)
    obtain ⟨fq, hq⟩ := HPr.out.1.rq
    have k1 := hq.at1
    have b0 : wr.cell? ⟨wb, 0, none⟩ = some (.slice (some ⟨fb, fo, none⟩) L.length fc) := (HF.out.cell (a := ⟨wb, 0, none⟩) hwl (fun h => h)).trans a0
    have bf : wr.cell? ⟨fb, fo + i, none⟩ = some (.pointer (some ⟨p.sb, 0, none⟩)) := (HF.out.cell (a := ⟨fb, fo + i, none⟩) hfl (fun h => h)).trans fcell
    obtain ⟨qa, qc, rfl⟩ := hq.f.len
    by_cases hlt : j < p.Q.fs.length
    · have hI : (j : Int) < (p.Q.fs.length : Int) := by omega
      obtain ⟨f, hf⟩ : ∃ f, p.Q.fs[j]? = some f := ⟨_, List.getElem?_eq_getElem hlt⟩
      obtain ⟨xb, xo, xc, e1, c0, c1, c2, _⟩ := hq.frame hf
      obtain ⟨rfl, _, rfl⟩ : qa = some ⟨xb, xo, none⟩ ∧ True ∧ qc = xc := by simp at e1; exact ⟨e1.1, trivial, e1.2⟩
      have hsh := HPr.out.1.same.short f (List.mem_of_getElem? hf)
      have hsz := ba_size f.bytes
      generalize ba f.bytes = S at *
      have hSl : S.size ≤ 1000 := by omega
      have HOK : Hid (OpOk 4 ((j : Int) + 1) 0 (S.size : Int) 0 ⟨#[]⟩) := ⟨by omega, by omega, by omega, by omega, by omega, by omega, by omega, by omega, by omega, by omega, by show (0 : Nat) ≤ _; omega⟩
      clear hf e1 hq c1 c2 hsz hsh
      go_wp2_with fail
      refine (ring_view HPr.out.1 (by omega) ((j : Int) + 1) 0 (S.size : Int) 0 ⟨#[]⟩ HOK.out).mono ?_
      rintro e w2 ⟨rfl, hF2⟩
      have HF2 := hide (HF.out.trans hF2)
      clear hF2
      go_wp2_with fail
      exact ⟨⟨j + 1, by omega, rfl, by go_num, HF2⟩, by simp [intOf]; omega⟩
    · have hj' : j = p.Q.fs.length := by omega
      subst hj'
      have hI : ¬ (p.Q.fs.length : Int) < (p.Q.fs.length : Int) := by omega
      clear hq
      go_wp2_with fail
      go_ret
      exact ⟨rfl, HF⟩

end Go.Proofs.YtnhkalnihjkoeaaGreatDoor.Q
