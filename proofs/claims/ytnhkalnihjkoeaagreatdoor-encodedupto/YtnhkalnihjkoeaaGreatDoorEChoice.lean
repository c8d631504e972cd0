/- The reference's reader of texts takes choices. -/
import Derived.Test.YtnhkalnihjkoeaaGreatDoorEList
namespace Go.Proofs.YtnhkalnihjkoeaaGreatDoor
open Go.RowKit

/-- The last of the first i words that is just this one; -1: none is. -/
def fndN (ws : List Bs) (got : Bs) : Nat → Int
  | 0 => -1
  | i + 1 => if ws[i]? = some got then i else fndN ws got i
def ptN (got : Bs) (c : Nat) (x : Bs) : Bool := got.isPrefixOf x && decide ((x[got.length]?).map UInt8.toNat = some c)
def gosN (ws : List Bs) (got : Bs) (c : Nat) : Nat → Bool
  | 0 => false
  | i + 1 => gosN ws got c i || (match ws[i]? with | some x => ptN got c x | none => false)

theorem fndN_some {ws : List Bs} {got : Bs} : ∀ (i : Nat), 0 ≤ fndN ws got i → ∃ j : Nat, j < i ∧ fndN ws got i = j ∧ ws[j]? = some got := by
  intro i
  induction i with
  | zero => intro h; simp [fndN] at h
  | succ i ih =>
    intro h
    simp only [fndN] at h ⊢
    by_cases e : ws[i]? = some got
    · exact ⟨i, by omega, by rw [if_pos e], e⟩
    · rw [if_neg e] at h ⊢
      obtain ⟨j, h1, h2, h3⟩ := ih h
      exact ⟨j, by omega, h2, h3⟩
theorem fndN_none {ws : List Bs} {got : Bs} : ∀ (i : Nat), fndN ws got i < 0 → fndN ws got i = -1 ∧ ∀ j, j < i → ws[j]? ≠ some got := by
  intro i
  induction i with
  | zero => intro _; exact ⟨rfl, fun j h => by omega⟩
  | succ i ih =>
    intro h
    simp only [fndN] at h ⊢
    by_cases e : ws[i]? = some got
    · rw [if_pos e] at h; omega
    · rw [if_neg e] at h ⊢
      obtain ⟨h1, h2⟩ := ih h
      refine ⟨h1, fun j hj => ?_⟩
      rcases Nat.lt_or_ge j i with q | q
      · exact h2 j q
      · rw [show j = i by omega]; exact e
theorem fndN_ge (ws : List Bs) (got : Bs) : ∀ (i : Nat), -1 ≤ fndN ws got i ∧ fndN ws got i ≤ (i : Int) - 1 := by
  intro i
  induction i with
  | zero => simp [fndN]
  | succ i ih =>
    simp only [fndN]
    split <;> omega
theorem find_one {ws : List Bs} {got : Bs} (hp : PreFree ws) {j : Nat} (h : ws[j]? = some got) : ws.findIdx? (fun x => x == got) = some j := by
  have := rOne_whole ws hp [] got [] j (by simpa using h)
  simp only [List.nil_append, rOne] at this
  exact (Prod.mk.inj this).1
theorem find_no {ws : List Bs} {got : Bs} (h : ∀ j, j < ws.length → ws[j]? ≠ some got) : ws.findIdx? (fun x => x == got) = none := by
  rw [List.findIdx?_eq_none_iff]
  intro x hx
  obtain ⟨j, hj, e⟩ := List.mem_iff_getElem.1 hx
  have := h j hj
  rw [List.getElem?_eq_getElem hj, e] at this
  simp only [ne_eq, Option.some.injEq] at this
  simpa using this
theorem gosN_iff {ws : List Bs} {got : Bs} {c : Nat} : ∀ (i : Nat), gosN ws got c i = true ↔ ∃ j x, j < i ∧ ws[j]? = some x ∧ ptN got c x = true := by
  intro i
  induction i with
  | zero => simp [gosN]
  | succ i ih =>
    simp only [gosN, Bool.or_eq_true, ih]
    constructor
    · rintro (⟨j, x, h1, h2, h3⟩ | h)
      · exact ⟨j, x, by omega, h2, h3⟩
      · rcases hq : ws[i]? with _ | x
        · rw [hq] at h; simp at h
        · rw [hq] at h; exact ⟨i, x, by omega, hq, h⟩
    · rintro ⟨j, x, h1, h2, h3⟩
      rcases Nat.lt_or_ge j i with q | q
      · exact .inl ⟨j, x, q, h2, h3⟩
      · right
        rw [show i = j by omega, h2]
        exact h3
theorem ptN_snoc (got x : Bs) (b : UInt8) : ptN got b.toNat x = (got ++ [b]).isPrefixOf x := by
  rw [Bool.eq_iff_iff]
  simp only [ptN, Bool.and_eq_true, List.isPrefixOf_iff_prefix, decide_eq_true_eq]
  constructor
  · rintro ⟨⟨y, rfl⟩, h⟩
    rcases y with _ | ⟨d, y⟩
    · simp at h
    · have : d = b := by
        have h' : d.toNat = b.toNat := by simpa using h
        exact UInt8.toNat_inj.1 h'
      subst this
      exact ⟨y, by simp⟩
  · rintro ⟨y, rfl⟩
    refine ⟨⟨b :: y, by simp⟩, by simp⟩
theorem gosN_any {ws : List Bs} {got : Bs} {b : UInt8} : gosN ws got b.toNat ws.length = ws.any (fun x => (got ++ [b]).isPrefixOf x) := by
  rw [Bool.eq_iff_iff, gosN_iff, List.any_eq_true]
  constructor
  · rintro ⟨j, x, h1, h2, h3⟩
    exact ⟨x, List.mem_of_getElem? h2, by rw [← ptN_snoc]; exact h3⟩
  · rintro ⟨x, hx, h⟩
    obtain ⟨j, hj, e⟩ := List.mem_iff_getElem.1 hx
    exact ⟨j, x, hj, by rw [List.getElem?_eq_getElem hj, e], by rw [ptN_snoc]; exact h⟩
theorem gosN_end {ws : List Bs} {got : Bs} (hz : ∀ x ∈ ws, ∀ b ∈ x, 0 < b.toNat) (i : Nat) : gosN ws got 0 i = false := by
  rcases hq : gosN ws got 0 i with _ | _
  · rfl
  · obtain ⟨j, x, _, h2, h3⟩ := (gosN_iff i).1 hq
    simp only [ptN, Bool.and_eq_true, decide_eq_true_eq] at h3
    rcases hb : x[got.length]? with _ | b
    · rw [hb] at h3; simp at h3
    · rw [hb] at h3
      have := hz x (List.mem_of_getElem? h2) b (List.mem_of_getElem? hb)
      have h4 : b.toNat = 0 := by simpa using h3.2
      omega
theorem name_pos {k : Nat} {t : PT} (hW : WFT (k + 1) t) (hk : 9 ≤ t.kind) : ∀ x ∈ t.names.map nameBs, ∀ b ∈ x, 0 < b.toNat := by
  intro x hx b hb
  obtain ⟨n, hn, rfl⟩ := List.mem_map.1 hx
  rcases List.mem_append.1 hb with h | h
  · have := (hW.2.2.2.2.2.2 hk).2 n hn b h; omega
  · simp at h; subst h; decide
theorem name_at {t : PT} {i : Nat} (hi : i < t.names.length) : (t.names.map nameBs)[i]? = some (t.name i ++ [58]) := by
  rw [List.getElem?_map, List.getElem?_eq_getElem hi]
  simp [nameBs, PT.name, hi]
theorem rOne_go {ws : List Bs} {got r : Bs} {b : UInt8} (h : ws.findIdx? (fun x => x == got) = none) (hg : gosN ws got b.toNat ws.length = true) : rOne ws got (b :: r) = rOne ws (got ++ [b]) r := by
  rw [gosN_any] at hg
  simp only [rOne, h]
  rw [if_pos hg]
theorem rOne_no {ws : List Bs} {got r : Bs} (h : ws.findIdx? (fun x => x == got) = none) (hg : gosN ws got (hd r) ws.length = false) : rOne ws got r = (none, r) := by
  rcases r with _ | ⟨b, r⟩
  · simp only [rOne, h]
  · simp only [hd] at hg
    rw [gosN_any] at hg
    simp only [rOne, h]
    rw [if_neg (by rw [hg]; decide)]
theorem rOne_yes {ws : List Bs} {got r : Bs} {j : Nat} (h : ws.findIdx? (fun x => x == got) = some j) : rOne ws got r = (some j, r) := by
  rcases r with _ | ⟨b, r⟩ <;> simp only [rOne, h]

theorem MS.notX {w : World} {B mb db : Nat} {s : ByteArray} {l : Bs} {bad : Bool} {out : Bs} (h : MS w B mb db s l bad out) {rb : Nat} {cs : Array Value} {fz : Nat × Nat} (hb : w.heap[rb]? = some (.cells cs 293 fz)) : ¬ MX w mb rb := by
  obtain ⟨ov, h1, _, h3⟩ := h
  intro e
  rcases MX.of h1 e with e | e
  · subst e
    have := h1.block
    rw [hb] at this
    simp at this
  · exact h3.ne hb (by decide) e
theorem MFr.below {w w' : World} {B mb db : Nat} {s : ByteArray} {l : Bs} {bad : Bool} {out : Bs} (hk : MS w B mb db s l bad out) (hf : MFr mb w w') {a : Addr} {v : Value} (ha : a.block < B) (h : w.cell? a = some v) : w'.cell? a = some v := by
  rw [hf.fr.cell (World.block_lt_of_cell? w _ h) (fun e => by have := hk.from e; omega)]
  exact h
theorem T9.keepM {w w' : World} {B rb kd go co : Nat} {row : RT} {nv av : Value} (h : T9 w B rb row kd go co nv av) {mb db : Nat} {s : ByteArray} {l : Bs} {bad : Bool} {out : Bs} (hk : MS w B mb db s l bad out) (hf : MFr mb w w') : T9 w' B rb row kd go co nv av :=
  ⟨hf.fr.keep h.blk (hk.notX h.blk), fun i hi => MFr.below hk hf h.lt (h.of i hi), h.lt⟩
theorem N9.keepM {w w' : World} {B gn : Nat} {t : PT} (h : N9 w B gn t) {mb db : Nat} {s : ByteArray} {l : Bs} {bad : Bool} {out : Bs} (hk : MS w B mb db s l bad out) (hf : MFr mb w w') : N9 w' B gn t :=
  ⟨fun i hi => MFr.below hk hf h.lt (h.nm i hi), h.lt⟩

set_option maxHeartbeats 16000000 in
set_option maxRecDepth 100000 in
theorem mChoice_any {w : World} {B mb db : Nat} {s : ByteArray} {l out : Bs} {tab : List RT} {roots : List Nat} {k : Nat} (hV : MSaid k) (h : MIn w B mb db s l out tab roots) {row : RT} {t : PT} {go co gn cn : Nat} {pa : Option Addr} {na qa : Nat} (hk : t.kind = 10) (hW : WFT (k + 1) t) (hrow : IsRow tab row t)
    (hof : ∀ i, i < row.of.length → w.cell? ⟨go, i, none⟩ = some (.int .i64 (numAt row.of i : Nat))) (hgo : go < B) (hN : N9 w B gn t) (hr : out.length + 8 * l.length + 600 * (k + 1) ≤ 800000000) :
    Calls Tryz.prog 178 #[.pointer (some ⟨mb, 0, none⟩), .agg #[.int .i64 10, .slice (some ⟨go, 0, none⟩) row.of.length co, .slice (some ⟨gn, 0, none⟩) t.names.length cn, .slice pa na qa]] w fun e w' => EPost mb B db s out (8 * l.length + 600 * (k + 1)) w l (rCase (rText k) t l) (fun p => UInt8.ofNat p.1 :: wMsg k p.2) e w' := by
  have HM := hide h
  obtain ⟨ov, hb⟩ := h.ms.block
  have hlt := hb.lt
  have g2 := hb.at2
  have hs : s.size ≤ 1048576 := h.hs
  have hs9 : s.size ≤ maxLen := by unfold maxLen; omega
  have HS9 := hide hs9
  have hlen := hb.len
  have HVS := hide hV
  have HW := hide hW
  have HROW := hide hrow
  have hnl : t.names.length ≤ 6 := by rw [hW.2.1]; exact hW.2.2.2.2.2.1.1
  have HFR := hide (hW.names (by omega))
  have HNP := hide (name_pos hW (by omega))
  have HNS : Hid (∀ i, (t.name i).length ≤ 400) := fun i => by
    unfold PT.name
    rcases hq : t.names[i]? with _ | n
    · simp
    · have := hW.2.2.2.2.2.1.2 n (List.mem_of_getElem? hq)
      simpa using this
  have HT9 : Hid (T9 (w.alloc (.cells #[.int .i64 10, .slice (some ⟨go, 0, none⟩) row.of.length co, .slice (some ⟨gn, 0, none⟩) t.names.length cn, .slice pa na qa] 293)) B w.heap.size row 10 go co (.slice (some ⟨gn, 0, none⟩) t.names.length cn) (.slice pa na qa)) :=
    ⟨heap_new_at rfl _, fun i hi => by rw [(Fr.alloc Zero w _).cell (World.block_lt_of_cell? w _ (hof i hi)) (fun h => h)]; exact hof i hi, hgo⟩
  have HN9 := hide (hN.quiet (Fr.alloc Zero w (.cells #[.int .i64 10, .slice (some ⟨go, 0, none⟩) row.of.length co, .slice (some ⟨gn, 0, none⟩) t.names.length cn, .slice pa na qa] 293)))
  have HF0 : Hid (Fr Zero w (w.alloc (.cells #[.int .i64 10, .slice (some ⟨go, 0, none⟩) row.of.length co, .slice (some ⟨gn, 0, none⟩) t.names.length cn, .slice pa na qa] 293))) := Fr.alloc _ _ _
  have HM0 := hide (h.ms.quiet HF0.out)
  have hlen2 : row.of.length = t.names.length := by rw [hrow.len, hW.2.1]
  have HLN := hide hlen2
  have hps := hb.posle
  clear h hV hW hrow hof hN hb hlen2
  go_enter Tryz.func178, Tryz.ntmps178
  go_wp2_with fail
  go_loopw [] (fun wr => ∃ (got r : Bs), l = got ++ r ∧ Hid (rOne (t.names.map nameBs) [] l = rOne (t.names.map nameBs) got r) ∧ Hid (MS wr B mb db s r false out) ∧ Hid (MFr mb w wr) ∧ Hid (T9 wr B w.heap.size row 10 go co (.slice (some ⟨gn, 0, none⟩) t.names.length cn) (.slice pa na qa)) ∧ Hid (N9 wr B gn t)) (fun wr => s.size + 1 - placeM mb wr)
  case atStart => exact ⟨[], l, rfl, rfl, HM0, MFr.quiet HF0.out hlt, HT9, HN9⟩
  case round =>
    obtain ⟨got, r, hlr, HRO, HMr, HFr, HTr, HNr⟩ := hrel
    generalize wr = wo at *
    have HLR := hide hlr
    obtain ⟨ov, hb⟩ := HMr.out.block
    have HB := hide hb
    have g4 := hb.at4
    have hh := hd_lt r
    have hlL := congrArg List.length hlr
    rw [List.length_append] at hlL
    have hPL : ((pos s r : Nat) : Int) - ((pos s l : Nat) : Int) = ((got.length : Nat) : Int) := by simp only [pos]; omega
    have hpl : pos s l ≤ pos s r := by simp only [pos]; omega
    have hpr : pos s r ≤ s.size := hb.posle
    have HEX : Hid (s.extract (pos s l) (pos s r) = ba got) := by
      refine tl_extract hpl ?_ hpr
      have e1 := hb.tail
      have e2 := HM0.out
      obtain ⟨ov2, hb2⟩ := e2.block
      rw [e1, hb2.tail, hlr]
    have c2 := HTr.out.at2
    have HWS : Hid ((t.names.map nameBs).length = t.names.length) := by show _ = _; simp
    clear hb hlr
    go_wp2_with fail
    go_loopw [5, 6, 7] (fun fv gv iv wr2 => ∃ i : Nat, i ≤ t.names.length ∧ fv = .int .i64 (fndN (t.names.map nameBs) got i) ∧ gv = .bool (gosN (t.names.map nameBs) got (hd r) i) ∧ iv = .int .i64 i ∧ Hid (Fr Zero wo wr2)) (fun _ _ iv _ => t.names.length - (intOf iv).toNat)
    case atStart => exact ⟨0, by omega, rfl, rfl, rfl, Fr.refl _ _⟩
    case round =>
      obtain ⟨i, hi, rfl, rfl, rfl, HFz⟩ := hrel
      clear c2 g4
      have HM2 := hide (HMr.out.quiet HFz.out)
      have HB2 := hide (HB.out.keep HFz.out (fun h => h))
      have HT2 := hide (HTr.out.quiet HFz.out)
      have HN2 := hide (HNr.out.quiet HFz.out)
      have c2 := HT2.out.at2
      have hfg := fndN_ge (t.names.map nameBs) got i
      by_cases hlt' : i < t.names.length
      · have hI : (i : Int) < (t.names.length : Int) := by omega
        have c3 := HN2.out.nm i hlt'
        have g1 := HB2.out.at1
        have g2 := HB2.out.at2
        have hx := name_at hlt'
        have hns := HNS.out i
        have z0 := ba_size (t.name i)
        have a58 : ba (t.name i) ++ ⟨#[58]⟩ = ba (t.name i ++ [58]) := ba_append (t.name i) [58]
        have z1 := ba_size (t.name i ++ [58])
        simp only [List.length_append, List.length_cons, List.length_nil] at z1
        replace z1 : (ba (t.name i ++ [58])).size = (t.name i).length + 1 := z1
        have n0 : ¬ (9223372036854775807 < (t.name i).length + 1) := by omega
        generalize hxd : t.name i = nm at *
        clear hxd
        have hex := HEX.out
        have HX := hide hx
        have HSTEP : Hid (∀ (f' : Int) (g' : Bool), (if (nm ++ [58]) = got then (i : Int) else fndN (t.names.map nameBs) got i) = f' → (gosN (t.names.map nameBs) got (hd r) i || ptN got (hd r) (nm ++ [58])) = g' → fndN (t.names.map nameBs) got (i + 1) = f' ∧ gosN (t.names.map nameBs) got (hd r) (i + 1) = g') := fun f' g' q1 q2 => by
          refine ⟨?_, ?_⟩
          · rw [← q1]
            simp only [fndN, HX.out, Option.some.injEq]
          · rw [← q2]
            simp only [gosN, HX.out]
        have HRL : Hid (∀ (W : World) (f' : Int) (g' : Bool), Fr Zero wo W → (if (nm ++ [58]) = got then (i : Int) else fndN (t.names.map nameBs) got i) = f' → (gosN (t.names.map nameBs) got (hd r) i || ptN got (hd r) (nm ++ [58])) = g' → ∃ i' : Nat, i' ≤ t.names.length ∧ Value.int .i64 f' = .int .i64 (fndN (t.names.map nameBs) got i') ∧ Value.bool g' = .bool (gosN (t.names.map nameBs) got (hd r) i') ∧ Value.int .i64 ((i : Int) + 1) = .int .i64 i' ∧ Hid (Fr Zero wo W)) := fun W f' g' hf q1 q2 => by
          obtain ⟨r1, r2⟩ := HSTEP.out f' g' q1 q2
          exact ⟨i + 1, by omega, by rw [r1], by rw [r2], by go_num, hf⟩
        clear hx
        generalize hF0 : fndN (t.names.map nameBs) got i = F0 at *
        generalize hG0 : gosN (t.names.map nameBs) got (hd r) i = G0 at *
        clear hF0 hG0
        by_cases hA : nm.length + 1 < got.length
        · have hAI : ((nm.length : Nat) : Int) + 1 < ((got.length : Nat) : Int) := by omega
          have HNP : Hid (ptN got (hd r) (nm ++ [58]) = false ∧ nm ++ [58] ≠ got) := by
            refine ⟨?_, fun e => ?_⟩
            · unfold ptN
              have : got.isPrefixOf (nm ++ [58]) = false := by
                rcases hq : got.isPrefixOf (nm ++ [58]) with _ | _
                · rfl
                · have := (List.isPrefixOf_iff_prefix.1 hq).length_le
                  simp at this
                  omega
              rw [this]
              rfl
            · have := congrArg List.length e
              simp at this
              omega
          go_wp2_with fail
          go_quiet (fail)
          go_wp2_with fail
          go_roundw
          case rel => exact HRL.out _ _ _ (HFz.out.trans (Fr.drewN _ _ _)) (if_neg HNP.out.2) (by rw [HNP.out.1, Bool.or_false])
          case measure => simp [intOf]; omega
        · have hAb : decide (((nm.length : Nat) : Int) + 1 < ((got.length : Nat) : Int)) = false := decide_eq_false (by omega)
          have hAb2 : decide (nm.length + 1 < got.length) = false := decide_eq_false (by omega)
          have hsl := prefix_slice (nm ++ [58]) got (by simp; omega)
          rw [← strEq] at hsl
          rcases hpre : got.isPrefixOf (nm ++ [58]) with _ | _
          · have HNP : Hid (ptN got (hd r) (nm ++ [58]) = false ∧ nm ++ [58] ≠ got) := by
              refine ⟨by unfold ptN; rw [hpre]; rfl, fun e => ?_⟩
              rw [e] at hpre
              have : got.isPrefixOf got = true := List.isPrefixOf_iff_prefix.2 (List.prefix_refl _)
              rw [this] at hpre
              simp at hpre
            rw [hpre] at hsl
            clear hpre
            go_wp2_with fail
            go_quiet (fail)
            go_wp2_with fail
            go_roundw
            case rel => exact HRL.out _ _ _ (HFz.out.trans (Fr.drewN _ _ _)) (if_neg HNP.out.2) (by rw [HNP.out.1, Bool.or_false])
            case measure => simp [intOf]; omega
          · rw [hpre] at hsl
            have HPRE := hide hpre
            clear hpre
            by_cases hL : nm.length + 1 = got.length
            · have HEQ : Hid (nm ++ [58] = got) := by
                obtain ⟨y, hy⟩ := List.isPrefixOf_iff_prefix.1 HPRE.out
                have := congrArg List.length hy
                simp at this
                have hy0 : y = [] := List.eq_nil_of_length_eq_zero (by omega)
                rw [hy0] at hy
                show _ = _
                simpa using hy.symm
              have HPT : Hid (ptN got (hd r) (nm ++ [58]) = false) := by
                show _ = _
                rw [HEQ.out]
                unfold ptN
                simp
              have hLI : ((nm.length : Nat) : Int) + 1 = ((got.length : Nat) : Int) := by omega
              go_wp2_with fail
              go_quiet (fail)
              go_wp2_with fail
              go_roundw
              case rel => exact HRL.out _ _ _ (HFz.out.trans (Fr.drewN _ _ _)) (if_pos HEQ.out) (by rw [HPT.out, Bool.or_false])
              case measure => simp [intOf]; omega
            · have hLb : ((((nm.length : Nat) : Int) + 1) == ((got.length : Nat) : Int)) = false := beq_eq_false_iff_ne.2 (by omega)
              have HNE : Hid (nm ++ [58] ≠ got) := fun e => by
                have := congrArg List.length e
                simp at this
                omega
              obtain ⟨c, hc⟩ : ∃ c, (nm ++ [58])[got.length]? = some c := ⟨(nm ++ [58])[got.length]'(by simp; omega), by simp⟩
              obtain ⟨hj, hgc⟩ := ba_get hc
              have hc8 := c.toNat_lt
              have HPT : Hid (ptN got (hd r) (nm ++ [58]) = decide (c.toNat = hd r)) := by
                show _ = _
                unfold ptN
                rw [HPRE.out, hc]
                simp
              have hjI : ((got.length : Nat) : Int) < ((nm.length : Nat) : Int) + 1 := by omega
              clear hc
              go_wp2_with fail
              go_quiet (fail)
              go_wp2_with fail
              have HB3 := hide (HB2.out.keep (Fr.drewN Zero wr nq) (fun h => h))
              have HF3 := hide (HFz.out.trans (Fr.drewN Zero wr nq))
              generalize wr.drewN nq = w3 at *
              refine (mNext_any HB3.out HS9.out).mono ?_
              rintro e w4 ⟨rfl, n4, e4⟩
              obtain rfl := e4.symm
              have HF4 := hide (HF3.out.trans (Fr.drewN Zero w3 n4))
              generalize w3.drewN n4 = w4 at *
              simp only [Bool.false_eq_true, if_false]
              cases G0 with
              | true =>
                go_wp2_with fail
                go_roundw
                case rel => exact HRL.out _ _ _ HF4.out (if_neg HNE.out) (by rw [Bool.true_or])
                case measure => simp [intOf]; omega
              | false =>
                have hcd : (((c.toNat : Nat) : Int) == ((hd r : Nat) : Int)) = decide (c.toNat = hd r) := by
                  rw [Bool.eq_iff_iff]
                  simp
                  omega
                by_cases hcc : c.toNat = hd r
                · rw [decide_eq_true hcc] at HPT
                  have hq : (((c.toNat : Nat) : Int) == ((hd r : Nat) : Int)) = true := beq_iff_eq.2 (by omega)
                  go_wp2_with fail
                  go_roundw
                  case rel =>
                    have := HRL.out _ _ _ HF4.out (if_neg HNE.out) (by rw [HPT.out, Bool.false_or])
                    first | exact this | simpa [hcc] using this
                  case measure => simp [intOf]; omega
                · rw [decide_eq_false hcc] at HPT
                  have hq : (((c.toNat : Nat) : Int) == ((hd r : Nat) : Int)) = false := beq_eq_false_iff_ne.2 (by omega)
                  go_wp2_with fail
                  go_roundw
                  case rel =>
                    have := HRL.out _ _ _ HF4.out (if_neg HNE.out) (by rw [HPT.out, Bool.false_or])
                    first | exact this | simpa [hcc] using this
                  case measure => simp [intOf]; omega
      · have hin : i = t.names.length := by omega
        subst hin
        have hI : ¬ (t.names.length : Int) < (t.names.length : Int) := by omega
        have hWL : (t.names.map nameBs).length = t.names.length := HWS.out
        have hBr : B ≤ wr.heap.size := Nat.le_trans (Nat.le_trans HM.out.hB HFr.out.fr.size) HFz.out.size
        have HFw := hide (HFr.out.trans (MFr.quiet HFz.out HB.out.lt))
        by_cases hf : 0 ≤ fndN (t.names.map nameBs) got t.names.length
        · obtain ⟨j, hj, hje, hjw⟩ := fndN_some _ hf
          have HRC : Hid (rCase (rText k) t l = ((rText k (t.sub j) r).1.map (fun v => (j, v)), (rText k (t.sub j) r).2)) := by
            show _ = _
            unfold rCase
            rw [HRO.out, rOne_yes (find_one HFR.out hjw)]
          rw [hje]
          have hjI : (0 : Int) ≤ (j : Int) := by omega
          have HPB : Hid ((j : Int) = ((UInt8.ofNat j).toNat : Int)) := by show _ = _; rw [toNat_ofNat (by omega)]
          clear hf hje hjw hfg
          go_wp2_with fail
          refine (mPut_any HM2.out hBr _ (UInt8.ofNat j) HPB.out (by omega)).mono ?_
          rintro e w5 ⟨hF5, hM5, rfl⟩
          have HT5 := hide (HT2.out.keepM HM2.out hF5)
          have HF5 := hide (HFw.out.trans hF5)
          have HM5 := hide hM5
          have d1 := HT5.out.at1n HLN.out
          have d2 := HT5.out.of j (by rw [HLN.out]; exact hj)
          have HD5 : Hid (DF w5 B db tab roots) := HM.out.df.keep (HM.out.ms.fromB HF5.out)
          have HI5 : Hid (MIn w5 B mb db s r (out ++ [UInt8.ofNat j]) tab roots) := ⟨HM5.out, HD5.out, HM.out.hs, HM.out.tl, Nat.le_trans HM.out.hB HF5.out.fr.size⟩
          have HIj := hide (HROW.out.sub j (by rw [← HW.out.2.1]; exact hj))
          have HWj := hide (HW.out.sub (i := j) (by rw [← HW.out.2.1]; exact hj))
          have hjL : (j : Int) < (t.names.length : Int) := by omega
          clear hF5 hM5 c2
          go_wp2_with fail
          refine (HVS.out w5 B mb db s r (out ++ [UInt8.ofNat j]) tab roots _ (t.sub j) HI5.out HIj.out HWj.out (by simp only [List.length_append, List.length_cons, List.length_nil]; omega)).mono ?_
          rintro e w6 ⟨hF6, r6, bad6, out6, hM6, rfl, hr6, hrl6, hg6, hb6⟩
          have HF6 := hide (HF5.out.trans hF6)
          have HM6 := hide hM6
          have HR6 := hide hr6
          have HG6 := hide hg6
          have HBD6 := hide hb6
          clear hF6 hM6 hr6 hg6 hb6
          go_wp2_with fail
          refine bodyPost_ret (v := .tuple #[]) (by simp [results, Tryz.results178, go_sem]) rfl ?_
          refine ⟨HF6, r6, bad6, out6, HM6, rfl, by rw [HRC.out]; exact HR6.out, by omega, fun h => ?_, fun h => ?_⟩
          · obtain ⟨v, q1, q2⟩ := HG6.out h
            exact ⟨(j, v), by rw [HRC.out]; simp [q1], by rw [q2]; simp⟩
          · obtain ⟨q1, q2⟩ := HBD6.out h
            refine ⟨?_, by simp only [List.length_append, List.length_cons, List.length_nil] at q2; omega⟩
            rcases q1 with q1 | q1
            · left; rw [HRC.out]; simp [q1]
            · exact .inr q1
        · obtain ⟨hfm, hno⟩ := fndN_none (ws := t.names.map nameBs) (got := got) t.names.length (by omega)
          have HNO := hide (find_no (ws := t.names.map nameBs) (got := got) (fun j hj => hno j (by omega)))
          rw [hfm]
          have b4 := HB2.out.at4
          have bf4 := HB2.out.free 4
          clear hf hfm hno hfg
          rcases hgo : gosN (t.names.map nameBs) got (hd r) t.names.length with _ | _
          · have HRC : Hid (rCase (rText k) t l = (none, r)) := by
              show _ = _
              unfold rCase
              rw [HRO.out, rOne_no HNO.out (by rw [hWL]; exact hgo)]
            obtain ⟨ov2, q1, q2, q3⟩ := HM2.out
            have HMK := hide (MS.seal q1 q2 q3 (q1.mark true) (Fr.setCell (One mb) _ _ _ rfl))
            clear q1 q2 q3 hgo
            go_wp2_with fail
            refine bodyPost_ret (v := .tuple #[]) (by simp [results, Tryz.results178, go_sem]) rfl ?_
            exact ⟨HFw.out.trans HMK.out.2, r, true, out, HMK.out.1, rfl, by rw [HRC.out], by omega, fun h => by simp at h, fun _ => ⟨.inl (by rw [HRC.out]), by omega⟩⟩
          · obtain ⟨b, r', rfl⟩ : ∃ b r', r = b :: r' := by
              rcases r with _ | ⟨b, r'⟩
              · have : hd [] = 0 := rfl
                rw [this, gosN_end HNP.out] at hgo
                simp at hgo
              · exact ⟨b, r', rfl⟩
            have HRG : Hid (rOne (t.names.map nameBs) [] l = rOne (t.names.map nameBs) (got ++ [b]) r') := HRO.out.trans (rOne_go HNO.out (by rw [hWL]; exact hgo))
            have b2 := HB2.out.at2
            have bf2 := HB2.out.free 2
            obtain ⟨hp, hp1, htl, _⟩ := HB2.out.next
            have hpe : ((pos s (b :: r') : Nat) : Int) + 1 = ((pos s r' : Nat) : Int) := by omega
            have HLR' : Hid (r'.length ≤ s.size) := by show _ ≤ _; have := HB2.out.len; simp at this; omega
            obtain ⟨ov2, q1, q2, q3⟩ := HM2.out
            have HMK := hide (MS.seal q1 q2 q3 (q1.move HLR'.out htl) (Fr.setCell (One mb) _ _ _ rfl))
            have HT6 := hide (HT2.out.keepM HM2.out HMK.out.2)
            have HN6 := hide (HN2.out.keepM HM2.out HMK.out.2)
            have HPL := hide HB.out.place
            obtain ⟨ov6, hb6⟩ := HMK.out.1.block
            have HPL6 := hide hb6.place
            clear q1 q2 q3 hgo htl hp1 hb6
            go_wp2_with fail
            refine ⟨⟨got ++ [b], r', by rw [HLR.out]; simp, HRG, HMK.out.1, HFw.out.trans HMK.out.2, HT6, HN6⟩, ?_⟩
            rw [HPL.out, HPL6.out]
            have := HB.out.len
            simp only [pos, List.length_cons] at this ⊢
            omega

end Go.Proofs.YtnhkalnihjkoeaaGreatDoor
