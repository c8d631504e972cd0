/- What FromText tells of a text. -/
import Derived.Test.YtdcjogpkogidaaaGreatDoorMdVValue
namespace Go.Proofs.YtdcjogpkogidaaaGreatDoor
open Go.RowKit

def FromPost (w : World) (errno : Int) (s : ByteArray) (res : Option PV × Bs) (e : Ending) (w' : World) : Prop :=
  Fr Zero w w' ∧ ((∃ v c, res = (some v, []) ∧ (∃ o n k, c.sv = .slice o n k) ∧ e = .returned (.tuple #[VC.val c, .int .i64 0, .int .i64 0]) ∧ VR w' Zero c v) ∨
    (¬ (∃ v, res = (some v, [])) ∧ e = .returned (.tuple #[.agg #[.pointer none, .int .i64 0, .string ⟨#[]⟩, .slice none 0 0], .int .i64 errno, .int .i64 (pos s res.2)])))

/-- The four cells of a block, written empty. -/
def setZ (w : World) (b : Nat) : World := (((w.setCell ⟨b, 0, none⟩ (.pointer none)).setCell ⟨b, 1, none⟩ (.int .i64 0)).setCell ⟨b, 2, none⟩ (.string ⟨#[]⟩)).setCell ⟨b, 3, none⟩ (.slice none 0 0)
theorem setZ_cells {w : World} {b : Nat} {x0 x1 x2 x3 : Value} {t : TypeId} (h : w.heap[b]? = some (.cells #[x0, x1, x2, x3] t (0, 0))) : (setZ w b).cell? ⟨b, 0, none⟩ = some (.pointer none) ∧ (setZ w b).cell? ⟨b, 1, none⟩ = some (.int .i64 0) ∧ (setZ w b).cell? ⟨b, 2, none⟩ = some (.string ⟨#[]⟩) ∧ (setZ w b).cell? ⟨b, 3, none⟩ = some (.slice none 0 0) := by
  have h4 : (setZ w b).heap[b]? = some (.cells #[.pointer none, .int .i64 0, .string ⟨#[]⟩, .slice none 0 0] t (0, 0)) := by
    unfold setZ
    rw [heap_setCell_same (heap_setCell_same (heap_setCell_same (heap_setCell_same h)))]
    rfl
  obtain ⟨h1, h2, h3, h4, _⟩ := blk4 h4
  exact ⟨h1, h2, h3, h4⟩
theorem Fr.setZ (w : World) (b : Nat) : Fr (One b) w (setZ w b) :=
  ((Fr.setCell (One b) _ ⟨b, 0, none⟩ _ rfl).trans (Fr.setCell (One b) _ ⟨b, 1, none⟩ _ rfl)).trans ((Fr.setCell (One b) _ ⟨b, 2, none⟩ _ rfl).trans (Fr.setCell (One b) _ ⟨b, 3, none⟩ _ rfl))

theorem RB.start (ty : TypeId) (w : World) (s : ByteArray) : RB ty (w.alloc (.cells #[.int .i64 0, .string s] ty)) w.heap.size s s.data.toList := by
  have hl : s.data.toList.length = s.size := by rw [Array.length_toList]; rfl
  have hp : pos s s.data.toList = 0 := by unfold pos; omega
  refine ⟨by omega, by rw [hp]; rfl, ?_⟩
  rw [hp]
  exact heap_new_at rfl _

set_option maxHeartbeats 8000000 in
set_option maxRecDepth 100000 in
theorem fromText_any (w : World) (a : Addr) (t : PT) (s : ByteArray) (ht : TR w Zero a t) (hW : WFT 12 t) (hs : s.size ≤ maxLen) :
    Calls Tryz.prog 32 #[.pointer (some a), .string s] w fun e w' => FromPost w 5 s (rText 12 t s.data.toList) e w' := by
  have HT := hide (value_all (ty := 160) hs 12 t hW)
  have HTR := hide ht
  clear ht hW
  go_enter Tryz.func32, Tryz.ntmps32
  go_wp2_with fail
  refine (newReader_any s _).mono ?_
  rintro e w1 ⟨rfl, hF1⟩
  have HF1 : Hid (Fr Zero w w1) := (Fr.alloc _ _ _).trans hF1
  have hz1 : w1.heap[w.heap.size]? = some (.cells #[.pointer none, .int .i64 0, .string ⟨#[]⟩, .slice none 0 0] 96 (0, 0)) := hF1.keep (heap_new_at rfl _) (fun h => h)
  have hnl := lt_of_heap hz1
  have HZ1 := hide hz1
  clear hF1 hz1
  go_wp2_with fail
  have HTR1 : Hid (TR (w1.alloc (.cells #[.int .i64 0, .string s] 160)) (fun b => b = w.heap.size ∨ b = w1.heap.size) a t) := by
    have h1 : TR w (fun b => w.heap.size ≤ b) a t := HTR.out.avoid (fun b hb hx => by omega)
    have h2 : TR w1 (fun b => w.heap.size ≤ b) a t := h1.keep HF1.out.of0
    exact (h2.keep (Fr.alloc _ _ _)).avoid (fun b _ hx => by rcases hx with hx | hx <;> omega)
  refine (HT.out _ (fun b => b = w.heap.size ∨ b = w1.heap.size) w1.heap.size a s.data.toList (RB.start _ w1 s) (.inr rfl) (fun b hb => by simp; omega) HTR1).mono ?_
  rcases hq : rText 12 t s.data.toList with ⟨q, r⟩
  have HQ := hide hq
  clear hq
  rintro e w2 ⟨hF2, hR2, ⟨ca, cn, cb, csv⟩, ⟨o, n, k, hsv⟩, rfl, hv⟩
  simp only at hsv
  subst hsv
  have hne : w.heap.size ≠ w1.heap.size := by omega
  have hz2 : w2.heap[w.heap.size]? = some (.cells #[.pointer none, .int .i64 0, .string ⟨#[]⟩, .slice none 0 0] 96 (0, 0)) := hF2.keep (by rw [Below.heap_alloc _ _ _ hnl]; exact HZ1) (fun e => hne e)
  have HZ2 := hide hz2
  have hn2 := lt_of_heap hz2
  have HF2 : Hid (Fr Zero w w2) := (HF1.out.trans (Fr.alloc _ _ _)).past (hF2.mono (fun k _ e => by have e' : k = w1.heap.size := e; omega))
  have HR2 := hide hR2
  have HV := hide hv
  clear hF2 hR2 hv hz2
  have HA : Hid (Fr Zero w2 (w2.alloc (.cells #[.pointer (some ca), .int .i64 cn, .string (ba cb), .slice o n k] 96))) := Fr.alloc _ _ _
  have HR3 := hide (HR2.out.keep HA (fun h => h))
  have hz3 : (w2.alloc (.cells #[.pointer (some ca), .int .i64 cn, .string (ba cb), .slice o n k] 96)).heap[w.heap.size]? = _ := HA.out.keep HZ2 (fun h => h)
  have HZ3 := hide hz3
  simp only [VC.val]
  rcases q with _ | v
  · clear hz3
    go_wp2_with fail
    have HFW := hide (HF2.out.trans HA.out)
    clear HA HV HZ2 HR2 HF2
    generalize w2.alloc (.cells #[.pointer (some ca), .int .i64 cn, .string (ba cb), .slice o n k] 96) = W at *
    obtain ⟨z0, z1, z2, z3, y0, y1, y2, y3⟩ := blk4 HZ3.out
    refine (vAt HR3).mono ?_
    rintro e w4 ⟨rfl, e4⟩
    obtain rfl := e4.symm
    go_wp2_with fail
    obtain ⟨c0, c1, c2, c3⟩ := setZ_cells HZ3.out
    simp only [setZ] at c0 c1 c2 c3
    refine bodyPost_ret (v := .tuple #[.agg #[.pointer none, .int .i64 0, .string ⟨#[]⟩, .slice none 0 0], .int .i64 5, .int .i64 (pos s r)]) (by simp [results, Tryz.results32, go_sem, c0, c1, c2, c3]) rfl ?_
    rw [HQ.out]
    refine ⟨HFW.out.past ((Fr.setZ _ w.heap.size).mono (fun k _ e => by have e' : k = w.heap.size := e; omega)), .inr ⟨(fun h => by obtain ⟨v, h⟩ := h; cases h), rfl⟩⟩
  · have HVv := hide (HV.out v rfl)
    clear hz3 HV
    go_wp2_with fail
    refine (vEnded HR3 hs).mono ?_
    rintro e w4 ⟨rfl, hR4, hF4⟩
    have hne1 : ¬ One w1.heap.size w.heap.size := fun e => hne e
    have hz4 := hF4.keep HZ3.out hne1
    obtain ⟨z0, z1, z2, z3, y0, y1, y2, y3⟩ := blk4 hz4
    have HZ4 := hide hz4
    have hv4 : w4.heap[w2.heap.size]? = some (.cells #[.pointer (some ca), .int .i64 cn, .string (ba cb), .slice o n k] 96 (0, 0)) := hF4.keep (heap_new_at rfl _) (fun e => by have e' : w2.heap.size = w1.heap.size := e; have := HR2.out.lt; omega)
    obtain ⟨v0, v1, v2, v3, x0, x1, x2, x3⟩ := blk4 hv4
    have HF4 : Hid (Fr Zero w w4) := (HF2.out.trans (Fr.alloc _ _ _)).past (hF4.mono (fun k _ e => by have e' : k = w1.heap.size := e; omega))
    have HR4 := hide hR4
    have HV4 := hide ((HVv.out.keep HA.out.of0).keep (hF4.mono (fun k _ e => .inr e)))
    clear hF4 hR4 hz4 hv4
    rcases r with _ | ⟨b, r⟩
    · go_wp2_with fail
      have hW : Fr (One (w.heap.size + 1)) w4 w4 := Fr.refl _ _
      obtain ⟨c0, c1, c2, c3⟩ := value_cells HZ4.out hW (⟨ca, cn, cb, .slice o n k⟩ : VC)
      simp only [set4] at c0 c1 c2 c3
      refine bodyPost_ret (v := .tuple #[VC.val (⟨ca, cn, cb, .slice o n k⟩ : VC), .int .i64 0, .int .i64 0]) (by simp [results, Tryz.results32, go_sem, c0, c1, c2, c3, VC.val]) rfl ?_
      rw [HQ.out]
      refine ⟨HF4.out.past ((Fr.set4 w4 w.heap.size ⟨ca, cn, cb, .slice o n k⟩).mono (fun k _ e => by have e' : k = w.heap.size := e; omega)), .inl ⟨v, ⟨ca, cn, cb, .slice o n k⟩, rfl, ⟨_, _, _, rfl⟩, rfl, ?_⟩⟩
      exact (HV4.out.keep ((Fr.set4 w4 w.heap.size ⟨ca, cn, cb, .slice o n k⟩).mono (fun k _ e => .inl e))).avoid (fun b _ hb => hb.elim)
    · go_wp2_with fail
      refine (vAt HR4).mono ?_
      rintro e w5 ⟨rfl, e5⟩
      obtain rfl := e5.symm
      go_wp2_with fail
      obtain ⟨c0, c1, c2, c3⟩ := setZ_cells HZ4.out
      simp only [setZ] at c0 c1 c2 c3
      refine bodyPost_ret (v := .tuple #[.agg #[.pointer none, .int .i64 0, .string ⟨#[]⟩, .slice none 0 0], .int .i64 5, .int .i64 (pos s (b :: r))]) (by simp [results, Tryz.results32, go_sem, c0, c1, c2, c3]) rfl ?_
      rw [HQ.out]
      refine ⟨HF4.out.past ((Fr.setZ _ w.heap.size).mono (fun k _ e => by have e' : k = w.heap.size := e; omega)), .inr ⟨fun h => by obtain ⟨v, h⟩ := h; simp at h, rfl⟩⟩

end Go.Proofs.YtdcjogpkogidaaaGreatDoor
