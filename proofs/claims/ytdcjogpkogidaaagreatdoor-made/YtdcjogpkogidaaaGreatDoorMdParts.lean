/- What parts does. What anyType does, by how much text is left. What line does. -/
import Derived.Deep.RegionLaw
import Derived.Test.YtdcjogpkogidaaaGreatDoorMdState
namespace Go.Proofs.YtdcjogpkogidaaaGreatDoor
open Go.RowKit

/-- X, and the array of a slice. -/
def XO (X : Nat → Prop) (v : Value) : Nat → Prop := fun k => X k ∨ v.ownBlock = some k

theorem Fr.past {X : Nat → Prop} {w w1 w2 : World} (h : Fr X w w1) (k : Fr (fun b => w.heap.size ≤ b) w1 w2) : Fr X w w2 :=
  ⟨k.os.trans h.os, k.tape.trans h.tape, k.output.trans h.output, Nat.le_trans h.size k.size, fun i hi hx => (k.block i (Nat.lt_of_lt_of_le hi h.size) (by intro h'; omega)).trans (h.block i hi hx)⟩

theorem own_type {w : World} {base : Nat} {e : TypeId} {size : Nat} {v : Value} {n : Nat} {xs : List Value} (h : w.ownsRow base e size v n xs) {g : Nat} (hg : v.ownBlock = some g) : ∃ cur, w.heap[g]? = some (.cells cur e (0, 0)) := by
  rcases h.2 with ⟨rfl, _⟩ | ⟨g', cap, cur, rfl, hb, hh, r⟩
  · simp [Value.ownBlock] at hg
  · simp [Value.ownBlock] at hg
    subst hg
    exact ⟨cur, hh⟩

theorem PS.grow {w w' : World} {X : Nat → Prop} {pb : Nat} {s : ByteArray} {n : Nat} {lv : Value} {lines : List (ByteArray × PT)} {bad deep : Option Nat} (h : PS w X pb s n lv lines bad deep) {v : Value} {base k size : Nat} {xs : List Value} (ho : w.ownsRow base 146 size v k xs)
    (hXr : ∀ g, v.ownBlock = some g → X g) (hl : ∀ g, lv.ownBlock = some g → v.ownBlock ≠ some g) (hg : w.grownBy w' v.ownBlock) : PS w' X pb s n lv lines bad deep := by
  cases hv : v.ownBlock with
  | none =>
    rw [hv] at hg
    obtain ⟨bn, td, rows, hP, hO, hlx, hL, hb, hd⟩ := h
    have hf : Fr Zero w w' := Fr.grown hg (fun k e => by cases e)
    exact ⟨bn, td, rows, hf.keep hP (fun h => h), ownsRow_keep hO hf (fun _ _ h => h), hlx, hL.keep hf.of0, hb.keep hP hf.of0, hd.keep hP hf.of0⟩
  | some g =>
    rw [hv] at hg
    obtain ⟨cur, hh⟩ := own_type ho hv
    have hf : Fr (One g) w w' := Fr.grown hg (fun k e _ => by cases e; rfl)
    exact PS.other h hh (hXr g hv) (fun g' hg' e => hl g' hg' (by rw [hv, e])) hf

theorem grow_step {w1 w2 : World} {X : Nat → Prop} {pb B : Nat} {s : ByteArray} {m : Nat} {lv pv v' : Value} {lines acc : List (ByteArray × PT)} {rows : List (ByteArray × Addr)} {bad deep : Option Nat} {nm : ByteArray} {a : Addr} {t : PT}
    (hO : w1.ownsRow 0 146 2 pv rows.length (rowCells rows)) (hpv : ∀ g, pv.ownBlock = some g → B ≤ g) (hXlt : ∀ b, X b → b < B) (hB : B ≤ w1.heap.size)
    (hL : LinesR w1 (XO X pv) rows acc) (hS : PS w1 (XO X pv) pb s m lv lines bad deep) (ht : TR w1 (XO X pv) a t) (hlv : ∀ g, lv.ownBlock = some g → X g)
    (hO2 : w2.ownsRow 0 146 2 v' (rows.length + 1) (rowCells rows ++ [.string nm, .pointer (some a)])) (hg : w1.grownBy w2 pv.ownBlock) (hv : ∃ g cap, v' = .slice (some ⟨g, 0, none⟩) (rows.length + 1) cap ∧ (pv.ownBlock = some g ∨ w1.heap.size ≤ g)) :
    LinesR w2 (XO X v') (rows ++ [(nm, a)]) (acc ++ [(nm, t)]) ∧ PS w2 (XO X v') pb s m lv lines bad deep ∧ w2.ownsRow 0 146 2 v' (rows ++ [(nm, a)]).length (rowCells (rows ++ [(nm, a)])) ∧ (∀ g, v'.ownBlock = some g → B ≤ g) ∧ Fr (fun k => B ≤ k) w1 w2 := by
  obtain ⟨g, cap, rfl, hgg⟩ := hv
  have hZ1 : ∀ b, b < w1.heap.size → (XO X pv b ∨ w1.heap.size ≤ b) → XO X pv b := fun b hb h => by
    rcases h with h | h
    · exact h
    · omega
  have hZ2 : ∀ b, b < w2.heap.size → XO X (.slice (some ⟨g, 0, none⟩) (rows.length + 1) cap) b → (XO X pv b ∨ w1.heap.size ≤ b) := fun b _ h => by
    rcases h with h | h
    · exact .inl (.inl h)
    · simp [Value.ownBlock] at h
      subst h
      rcases hgg with h | h
      · exact .inl (.inr h)
      · exact .inr h
  have hfZ : Fr (fun b => XO X pv b ∨ w1.heap.size ≤ b) w1 w2 := Fr.grown hg (fun k e _ => .inl (.inr e))
  have hne : ∀ g, lv.ownBlock = some g → pv.ownBlock ≠ some g := fun g' h1 h2 => by
    have := hXlt g' (hlv g' h1)
    have := hpv g' h2
    omega
  refine ⟨?_, ?_, ?_, ?_, ?_⟩
  · have hL' : LinesR w1 (XO X pv) (rows ++ [(nm, a)]) (acc ++ [(nm, t)]) := hL.snoc ht
    exact ((hL'.avoid hZ1).keep hfZ).avoid hZ2
  · have h1 : PS w1 (fun b => XO X pv b ∨ w1.heap.size ≤ b) pb s m lv lines bad deep := hS.avoid hZ1 (fun g' hg' => .inl (hS.lx g' hg'))
    have h2 := PS.grow h1 hO (fun g' hg' => .inl (.inr hg')) hne hg
    exact h2.avoid hZ2 (fun g' hg' => .inl (hlv g' hg'))
  · rw [rowCells_snoc, List.length_append]
    exact hO2
  · intro g' hg'
    simp [Value.ownBlock] at hg'
    subst hg'
    rcases hgg with h | h
    · exact hpv _ h
    · omega
  · exact Fr.grown hg (fun k e _ => hpv k e)

theorem Tryz.info67 : (Tryz.prog.info? 146).map (fun i => (i.zero, i.size, i.bytes)) = some (some (.agg #[.string ⟨#[]⟩, .pointer none]), 2, 24) := by kernel_rfl

theorem pParts_ge (rd : Nat → Option Nat → Res) (hrd : ∀ n bad, n ≤ (rd n bad).n) (s : ByteArray) (kind btw close : Nat) : ∀ (k : Nat) (acc : List (ByteArray × PT)) (n : Nat) (bad : Option Nat), n ≤ (pParts rd s kind btw close k acc n bad).n := by
  have hp : ∀ others n bad, n ≤ (pPart rd s others 58 n bad).n := by
    intro others n bad
    unfold pPart
    have hge := lettersTo_ge s 6 n
    split
    · exact hge
    · split
      · have := hrd (lettersTo s n 6 + 1) (nameBad s others n bad); omega
      · exact hge
  intro k
  induction k with
  | zero => intro acc n bad; exact Nat.le_refl _
  | succ k ih =>
    intro acc n bad
    have h1 := hp (acc.map (·.1)) n bad
    simp only [pParts]
    split
    · exact h1
    · split
      · show n ≤ _ + 1; omega
      · split
        · exact h1
        · exact Nat.le_trans h1 (Nat.le_trans (Nat.le_succ _) (ih _ _ _))
theorem pNamed_ge (s : ByteArray) (lines : List (ByteArray × PT)) (n : Nat) (bad : Option Nat) : n ≤ (pNamed s lines n bad).n := by
  have hge := lettersTo_ge s 6 n
  unfold pNamed
  split
  · exact Nat.le_refl _
  · split
    · exact hge
    · split
      · exact hge
      · exact hge
theorem pTyp_ge (s : ByteArray) (lines : List (ByteArray × PT)) : ∀ (f n : Nat) (bad : Option Nat), n ≤ (pTyp s lines f n bad).n := by
  intro f
  induction f with
  | zero => intro n bad; exact Nat.le_refl _
  | succ f ih =>
    intro n bad
    have h1 := ih (n + 1) bad
    simp only [pTyp]
    split
    · split
      · show n ≤ _; simp only [noRes]; omega
      · split
        · show n ≤ _ + 1; omega
        · show n ≤ _; simp only [noRes]; omega
    · split
      · split
        · show n ≤ _; simp only [noRes]; omega
        · exact Nat.le_trans (Nat.le_succ n) h1
      · split
        · have := pParts_ge (pTyp s lines f) ih s 9 44 125 6 [] (n + 1) bad; omega
        · split
          · have := pParts_ge (pTyp s lines f) ih s 10 124 62 6 [] (n + 1) bad; omega
          · exact pNamed_ge s lines n bad

/-- How many elements a slice has. -/
def lenV : Value → Nat
  | .slice _ n _ => n
  | _ => 0

theorem pPart_ge (s : ByteArray) (lines : List (ByteArray × PT)) (f : Nat) (others : List ByteArray) (sign n : Nat) (bad : Option Nat) : n ≤ (pPart (pTyp s lines f) s others sign n bad).n ∨ (pPart (pTyp s lines f) s others sign n bad).ok = false := by
  unfold pPart
  have hge := lettersTo_ge s 6 n
  split
  · exact .inl hge
  · split
    · have := pTyp_ge s lines f (lettersTo s n 6 + 1) (nameBad s others n bad)
      exact .inl (by omega)
    · exact .inl hge

set_option maxHeartbeats 8000000 in
theorem parts_any {w : World} {X : Nat → Prop} {pb : Nat} {s : ByteArray} {n f : Nat} {lv : Value} {lines : List (ByteArray × PT)} {bad deep : Option Nat} (hT : TypSaid s lines f) (hX : X pb) (h : PS w X pb s n lv lines bad deep) (hw : Words w) (hXlt : ∀ b, X b → b < w.heap.size) (hs : s.size ≤ maxLen)
    (hle : n ≤ s.size) (hf : s.size < n + f) (kind btw close : Nat) (hbt : btw < 256) (hcl : close < 256) (hd : ∀ n bad, (pTyp s lines f n bad).t.depth ≤ 1000000) :
    Calls Tryz.prog 219 #[.pointer (some ⟨pb, 0, none⟩), .int .i64 kind, .int .u8 btw, .int .u8 close] w fun e w' => TypPost w X pb s lv lines deep (pParts (pTyp s lines f) s kind btw close 6 [] n bad) e w' := by
  have hn1 := hide (h.not1 hw)
  have HLX := hide h.lx
  have HS := hide h
  have HW := hide hw
  have HX := hide hXlt
  have HT := hide hT
  have HD := hide hd
  clear h hw hXlt hT hd
  go_enter Tryz.func219, Tryz.ntmps219
  go_wp2_with fail
  go_loopw [10] (fun pv wr => ∃ (k m : Nat) (bad' : Option Nat) (acc : List (ByteArray × PT)) (rows : List (ByteArray × Addr)), k + 1 + acc.length = 6 ∧ lenV pv = acc.length ∧ n ≤ m ∧ m ≤ s.size ∧
      Hid (pParts (pTyp s lines f) s kind btw close 6 [] n bad = pParts (pTyp s lines f) s kind btw close (k + 1) acc m bad') ∧ Hid (wr.ownsRow 0 146 2 pv rows.length (rowCells rows)) ∧ Hid (∀ g, pv.ownBlock = some g → w.heap.size ≤ g) ∧
      Hid (LinesR wr (XO X pv) rows acc) ∧ Hid (PS wr (XO X pv) pb s m lv lines bad' deep) ∧ Hid (Words wr) ∧ Hid (Fr (One pb) w wr) ∧ Hid (∀ q ∈ acc, q.2.depth ≤ 1000000)) (fun pv _ => 6 - lenV pv)
  case atStart => exact ⟨5, n, bad, [], [], rfl, rfl, Nat.le_refl _, hle, rfl, World.ownsRow_nil _ _ _ _, fun g hg => by simp [Value.ownBlock] at hg, ⟨rfl, fun j p q hp => by simp at hp⟩, HS.out.avoid (fun b _ hb => by rcases hb with h | h; exact h; simp [Value.ownBlock] at h) (fun g hg => .inl (HLX g hg)), HW, Fr.refl _ _, fun q hq => by simp at hq⟩
  case round =>
    obtain ⟨k, m, bad', acc, rows, hk, hlen, hnm, hms, HP, HO, HPV, HL, HSr, HWr, HF, HDA⟩ := hrel
    have hrl : Hid (rows.length = acc.length) := HL.out.length
    have hX' : XO X u10 pb := .inl hX
    have HX' : Hid (∀ b, XO X u10 b → b < wr.heap.size) := fun b hb => by
      rcases hb with h | h
      · exact Nat.lt_of_lt_of_le (HX b h) HF.out.size
      · exact (HO.out.lt b h).2
    have HNE : Hid (∀ g, u10.ownBlock = some g → ¬ One pb g) := fun g hg e => by
      have e' : g = pb := e
      subst e'
      have := HPV g hg
      have := HX g hX
      omega
    have HLEN := hide hlen
    have hrn : rows.map (·.1) = acc.map (·.1) := HL.out.1
    have HRN := hide hrn
    clear hlen hrn
    go_wp2_with fail
    refine (part_at HT hX' HSr HWr HX' hs hms (by omega) u10 rows (by have := hrl.out; omega) HO HNE 58 58 (by omega) rfl).mono ?_
    rw [HRN.out]
    have HSTEP : Hid (pParts (pTyp s lines f) s kind btw close (k + 1) acc m bad' = 
        if (pPart (pTyp s lines f) s (acc.map (·.1)) 58 m bad').ok = false then noRes (pPart (pTyp s lines f) s (acc.map (·.1)) 58 m bad').n (pPart (pTyp s lines f) s (acc.map (·.1)) 58 m bad').bad else
        if byteAt s (pPart (pTyp s lines f) s (acc.map (·.1)) 58 m bad').n = close then ⟨true, compoundT kind (acc ++ [(nameAt s m, (pPart (pTyp s lines f) s (acc.map (·.1)) 58 m bad').t)]), (pPart (pTyp s lines f) s (acc.map (·.1)) 58 m bad').n + 1, (pPart (pTyp s lines f) s (acc.map (·.1)) 58 m bad').bad⟩ else
        if acc.length + 1 = 6 ∨ byteAt s (pPart (pTyp s lines f) s (acc.map (·.1)) 58 m bad').n ≠ btw then noRes (pPart (pTyp s lines f) s (acc.map (·.1)) 58 m bad').n (pPart (pTyp s lines f) s (acc.map (·.1)) 58 m bad').bad else
        pParts (pTyp s lines f) s kind btw close k (acc ++ [(nameAt s m, (pPart (pTyp s lines f) s (acc.map (·.1)) 58 m bad').t)]) ((pPart (pTyp s lines f) s (acc.map (·.1)) 58 m bad').n + 1) (pPart (pTyp s lines f) s (acc.map (·.1)) 58 m bad').bad) := rfl
    have hrd : (pPart (pTyp s lines f) s (acc.map (·.1)) 58 m bad').t.depth ≤ 1000000 := by
      unfold pPart
      split
      · exact Nat.zero_le _
      · split
        · exact HD _ _
        · exact Nat.zero_le _
    have hrge : m ≤ (pPart (pTyp s lines f) s (acc.map (·.1)) 58 m bad').n ∨ (pPart (pTyp s lines f) s (acc.map (·.1)) 58 m bad').ok = false := pPart_ge s lines f _ 58 m bad'
    generalize pPart (pTyp s lines f) s (acc.map (·.1)) 58 m bad' = r at *
    rintro e w1 ⟨hF1, hrs, ⟨bad1, hS1, hb1⟩, nm, a, rfl, hok⟩
    have HF1 := hide hF1
    have HS1 := hide hS1
    have HW1 := hide (HWr.out.keep hF1 hn1)
    clear hF1 hS1
    rcases hr : r.ok with _ | _
    · have HR : Hid (pParts (pTyp s lines f) s kind btw close 6 [] n bad = noRes r.n r.bad) := HP.out.trans (by rw [HSTEP.out, hr]; rfl)
      have HRO := hide hr
      clear hr hok hb1 HSTEP HP
      go_wp2_with fail
      go_ret2
      rw [HR.out]
      refine ⟨HF.out.trans (HF1.out.trans (Fr.alloc _ _ _)), hrs, ⟨bad1, (PS.keep0 hX' HS1 (Fr.alloc _ _ _)).avoid (fun b _ hb => .inl hb) HLX, fun h => by cases h⟩, none, rfl, fun h => by cases h⟩
    · obtain ⟨hnm2, a', rfl, hta⟩ := hok hr
      have hbb := hb1 hr
      subst hnm2
      subst hbb
      have hrge' : m ≤ r.n := by
        rcases hrge with h | h
        · exact h
        · rw [hr] at h; cases h
      have HSTEP2 : Hid (pParts (pTyp s lines f) s kind btw close 6 [] n bad = 
          if byteAt s r.n = close then ⟨true, compoundT kind (acc ++ [(nameAt s m, r.t)]), r.n + 1, r.bad⟩ else
          if acc.length + 1 = 6 ∨ byteAt s r.n ≠ btw then noRes r.n r.bad else
          pParts (pTyp s lines f) s kind btw close k (acc ++ [(nameAt s m, r.t)]) (r.n + 1) r.bad) := HP.out.trans (by rw [HSTEP.out, hr]; rfl)
      have HTA := hide hta
      clear hr hok hb1 hta hrge HSTEP HP
      generalize nameAt s m = nm at *
      obtain ⟨i0, hi, hz0, hz1, hz2⟩ := info_parts Tryz.info67
      go_wp2_with (at_builtin; refine wpList_append_mine _ rfl _ _ 142 rfl 0 146 i0 (.agg #[.string ⟨#[]⟩, .pointer none]) 2 24 Tryz.underlying142 hi hz0 hz1 hz2 rfl (by decide) u10 rows.length (rowCells rows) rfl ?o1 ⟨w1.heap.size + 1, 0, none⟩ 1 1 (by omega) [.string nm, .pointer (some a')] rfl rfl ?c1 ?c2 ?c3 ?c4 (Nat.zero_le _) ?_)
      case o1 => exact (ownsRow_keep HO.out HF1 HNE.out).alloc _ |>.alloc _
      case c1 =>
        intro j u hj
        match j, hj with
        | 0, hj => simp at hj; subst hj; simp [Addr.add]
        | 1, hj => simp at hj; subst hj; simp [Addr.add]
        | j + 2, hj => simp at hj
      case c2 => intro u hu; simp at hu; rcases hu with rfl | rfl <;> rfl
      case c3 => have := hrl.out; unfold maxLen; omega
      case c4 => have := hrl.out; omega
      intro v' w2 hO2 hg2 g cap hv' hgg
      have hFa : Fr (One pb) wr ((w1.alloc (.cells #[.string nm, .pointer (some a')] 146)).alloc (.cells #[.string nm, .pointer (some a')] 146)) := HF1.out.trans ((Fr.alloc _ _ _).trans (Fr.alloc _ _ _))
      have hFz : Fr Zero w1 ((w1.alloc (.cells #[.string nm, .pointer (some a')] 146)).alloc (.cells #[.string nm, .pointer (some a')] 146)) := (Fr.alloc _ _ _).trans (Fr.alloc _ _ _)
      have hFG := grow_step (B := w.heap.size) (ownsRow_keep HO.out hFa HNE.out) HPV HX (Nat.le_trans HF.out.size hFa.size) (HL.out.keep (hFa.one hX')) (PS.keep0 hX' HS1 hFz) (HTA.out.keep hFz.of0) HLX hO2 hg2 ⟨g, cap, hv', by simpa using hgg⟩
      obtain ⟨hL2, hS2, hO3, hpv2, hF2⟩ := hFG
      have HF2 := hide ((HF.out.trans hFa).past hF2)
      have HW2 := hide (HW.out.keep HF2.out hn1)
      have HL2 := hide hL2
      have HS2 := hide hS2
      have HO3 := hide hO3
      have HPV2 := hide hpv2
      subst hv'
      clear hO2 hg2 hgg hFa hFz hL2 hS2 hO3 hpv2 hF2 HF1 HS1 HW1 HO HL HSr HWr HF HPV HTA hi hz0 hz1 hz2 HNE HX'
      have hX2 : XO X (.slice (some ⟨g, 0, none⟩) (rows.length + 1) cap) pb := .inl hX
      have HDA2 : Hid (∀ q ∈ acc ++ [(nm, r.t)], q.2.depth ≤ 1000000) := fun q hq => by
        rcases List.mem_append.1 hq with h | h
        · exact HDA q h
        · simp at h; subst h; exact hrd
      by_cases hc : byteAt s r.n = close
      · have HR : Hid (pParts (pTyp s lines f) s kind btw close 6 [] n bad = ⟨true, compoundT kind (acc ++ [(nm, r.t)]), r.n + 1, r.bad⟩) := HSTEP2.out.trans (by rw [if_pos hc])
        have hcI : Hid ((byteAt s r.n : Int) = close) := by simp [Hid, hc]
        have hr1 : r.n + 1 ≤ s.size := byteAt_in (by omega)
        clear hc HSTEP2
        go_wp2_with fail
        refine (psAccept_yes hX2 HS2 hs close hcI (by omega)).mono ?_
        rintro e w3 ⟨rfl, hF3, hS3⟩
        have HF3 := hide hF3
        have HS3 := hide hS3
        clear hF3 hS3
        go_wp2_with fail
        refine (compound_any kind 0 (.slice (some ⟨g, 0, none⟩) (rows.length + 1) cap) (rows ++ [(nm, a')]) (acc ++ [(nm, r.t)]) X _ (by have := hrl.out; simp; omega) (by simp) HDA2 ((HL2.out.keep (HF3.out.one hX2)).avoid (fun b _ hb => .inl hb)) (ownsRow_keep HO3.out HF3 ?_) ?_ ?_).mono ?_
        · intro g' hg' e
          have e' : g' = pb := e
          subst e'
          have := HPV2 g' hg'
          have := HX g' hX
          omega
        · intro g' hg' hx
          have := HPV2 g' hg'
          have := HX g' hx
          omega
        · intro b hb
          have := HX b hb
          have := HF2.out.size
          have := HF3.out.size
          omega
        rintro e w4 ⟨hF4, a4, rfl, ht4⟩
        have HF4 := hide hF4
        have HT4 := hide ht4
        clear hF4 ht4
        go_wp2_with fail
        go_ret2
        rw [HR.out]
        exact ⟨HF2.out.trans (HF3.out.trans HF4.out.of0), hr1, ⟨r.bad, (PS.keep0 hX2 HS3 HF4).avoid (fun b _ hb => .inl hb) HLX, fun _ => rfl⟩, some a4, rfl, fun _ => ⟨a4, rfl, HT4⟩⟩
      · have hcI : Hid ((byteAt s r.n : Int) ≠ close) := fun e => hc (by omega)
        have HSTEP3 : Hid (pParts (pTyp s lines f) s kind btw close 6 [] n bad = 
            if acc.length + 1 = 6 ∨ byteAt s r.n ≠ btw then noRes r.n r.bad else
            pParts (pTyp s lines f) s kind btw close k (acc ++ [(nm, r.t)]) (r.n + 1) r.bad) := HSTEP2.out.trans (by rw [if_neg hc])
        clear hc HSTEP2
        go_wp2_with fail
        refine (psAccept_no hX2 HS2 hs hrs close hcI).mono ?_
        rintro e w3 ⟨rfl, hF3, hS3⟩
        have HF3 := hide hF3
        have HS3 := hide hS3
        clear hF3 hS3
        by_cases h6 : acc.length + 1 = 6
        · have HR : Hid (pParts (pTyp s lines f) s kind btw close 6 [] n bad = noRes r.n r.bad) := HSTEP3.out.trans (by rw [if_pos (.inl h6)])
          have hq : ((rows.length : Int) + 1 == 6) = true := beq_iff_eq.2 (by have := hrl.out; omega)
          clear h6 HSTEP3
          go_wp2_with fail
          go_ret2
          rw [HR.out]
          exact ⟨HF2.out.trans HF3.out, hrs, ⟨r.bad, HS3.out.avoid (fun b _ hb => .inl hb) HLX, fun h => by cases h⟩, none, rfl, fun h => by cases h⟩
        · have hq : ((rows.length : Int) + 1 == 6) = false := beq_eq_false_iff_ne.2 (by have := hrl.out; omega)
          by_cases hb : byteAt s r.n = btw
          · have HR : Hid (pParts (pTyp s lines f) s kind btw close 6 [] n bad = pParts (pTyp s lines f) s kind btw close k (acc ++ [(nm, r.t)]) (r.n + 1) r.bad) := HSTEP3.out.trans (by rw [if_neg (by omega)])
            have hbI : Hid ((byteAt s r.n : Int) = btw) := by simp [Hid, hb]
            have hr1 : r.n + 1 ≤ s.size := byteAt_in (by omega)
            have hacc := h6
            clear hb HSTEP3 h6
            go_wp2_with fail
            refine (psAccept_yes hX2 HS3 hs btw hbI (by omega)).mono ?_
            rintro e w4 ⟨rfl, hF4, hS4⟩
            have HF4 := hide hF4
            have HS4 := hide hS4
            clear hF4 hS4
            go_wp2_with fail
            go_roundw
            case rel =>
              have hF24 : Fr (One pb) w2 w4 := HF3.out.trans HF4.out
              refine ⟨k - 1, r.n + 1, r.bad, acc ++ [(nm, r.t)], rows ++ [(nm, a')], by simp; omega, by have := hrl.out; simp [lenV]; omega, by omega, hr1, ?_, ownsRow_keep HO3.out hF24 (fun g' hg' e => ?_), HPV2, HL2.out.keep (hF24.one hX2), HS4, HW2.out.keep hF24 hn1, HF2.out.trans hF24, HDA2⟩
              · rw [HR.out, show k - 1 + 1 = k by omega]; rfl
              · have e' : g' = pb := e
                subst e'
                have := HPV2 g' hg'
                have := HX g' hX
                omega
            case measure =>
              show 6 - (rows.length + 1) < 6 - lenV u10
              rw [HLEN.out]
              have := hrl.out
              omega
          · have HR : Hid (pParts (pTyp s lines f) s kind btw close 6 [] n bad = noRes r.n r.bad) := HSTEP3.out.trans (by rw [if_pos (.inr hb)])
            have hbI : Hid ((byteAt s r.n : Int) ≠ btw) := fun e => hb (by omega)
            clear hb HSTEP3 h6
            go_wp2_with fail
            refine (psAccept_no hX2 HS3 hs hrs btw hbI).mono ?_
            rintro e w4 ⟨rfl, hF4, hS4⟩
            have HF4 := hide hF4
            have HS4 := hide hS4
            clear hF4 hS4
            go_wp2_with fail
            go_ret2
            rw [HR.out]
            exact ⟨HF2.out.trans (HF3.out.trans HF4.out), hrs, ⟨r.bad, HS4.out.avoid (fun b _ hb => .inl hb) HLX, fun h => by cases h⟩, none, rfl, fun h => by cases h⟩

end Go.Proofs.YtdcjogpkogidaaaGreatDoor

namespace Go.Proofs.YtdcjogpkogidaaaGreatDoor
open Go.RowKit

theorem around_at {w : World} {X : Nat → Prop} {pb : Nat} {s : ByteArray} {n f : Nat} {lv : Value} {lines : List (ByteArray × PT)} {bad deep : Option Nat} (hT : TypSaid s lines f) (hX : X pb) (h : PS w X pb s n lv lines bad deep) (hw : Words w) (hXlt : ∀ b, X b → b < w.heap.size)
    (hle : n ≤ s.size) (hf : s.size < n + f) (kI : Int) (kind : Nat) (he : kI = (kind : Int)) (hd : (pTyp s lines f n bad).t.depth ≤ 1000000) :
    Calls Tryz.prog 218 #[.pointer (some ⟨pb, 0, none⟩), .int .i64 kI] w fun e w' => TypPost w X pb s lv lines deep (aroundR kind (pTyp s lines f n bad)) e w' := by
  subst he
  exact around_any hT hX h hw hXlt hle hf kind hd

theorem parts_at {w : World} {X : Nat → Prop} {pb : Nat} {s : ByteArray} {n f : Nat} {lv : Value} {lines : List (ByteArray × PT)} {bad deep : Option Nat} (hT : TypSaid s lines f) (hX : X pb) (h : PS w X pb s n lv lines bad deep) (hw : Words w) (hXlt : ∀ b, X b → b < w.heap.size) (hs : s.size ≤ maxLen)
    (hle : n ≤ s.size) (hf : s.size < n + f) (kI bI cI : Int) (kind btw close : Nat) (hk : kI = (kind : Int)) (hb : bI = (btw : Int)) (hc : cI = (close : Int)) (hbt : btw < 256) (hcl : close < 256) (hd : ∀ n bad, (pTyp s lines f n bad).t.depth ≤ 1000000) :
    Calls Tryz.prog 219 #[.pointer (some ⟨pb, 0, none⟩), .int .i64 kI, .int .u8 bI, .int .u8 cI] w fun e w' => TypPost w X pb s lv lines deep (pParts (pTyp s lines f) s kind btw close 6 [] n bad) e w' := by
  subst hk hb hc
  exact parts_any hT hX h hw hXlt hs hle hf kind btw close hbt hcl hd

theorem TypPost.after {w w0 : World} {X : Nat → Prop} {pb : Nat} {s : ByteArray} {lv : Value} {lines : List (ByteArray × PT)} {deep : Option Nat} {r : Res} {e : Ending} {w' : World} (h : TypPost w0 X pb s lv lines deep r e w') (hf : Fr (One pb) w w0) : TypPost w X pb s lv lines deep r e w' :=
  ⟨hf.trans h.1, h.2⟩

set_option maxHeartbeats 8000000 in
theorem typ_step {s : ByteArray} {f : Nat} {lines : List (ByteArray × PT)} (hT : TypSaid s lines f) (hs : s.size ≤ maxLen) (hd : ∀ n bad, (pTyp s lines f n bad).t.depth ≤ 1000000) (hll : lines.length ≤ 1000) : TypSaid s lines (f + 1) := by
  intro w X pb n lv bad deep h hw hX hXlt hle hfu
  have hn1 := hide (h.not1 hw)
  have HS := hide h
  have HW := hide hw
  have HX := hide hXlt
  have HT := hide hT
  have HD := hide hd
  clear h hw hXlt hT hd
  by_cases c1 : byteAt s n = 91
  · have HR : Hid (pTyp s lines (f + 1) n bad = if (pTyp s lines f (n + 1) bad).ok = false then noRes (pTyp s lines f (n + 1) bad).n (pTyp s lines f (n + 1) bad).bad else
        if byteAt s (pTyp s lines f (n + 1) bad).n = 93 then ⟨true, compoundT 7 [(⟨#[]⟩, (pTyp s lines f (n + 1) bad).t)], (pTyp s lines f (n + 1) bad).n + 1, (pTyp s lines f (n + 1) bad).bad⟩ else noRes (pTyp s lines f (n + 1) bad).n (pTyp s lines f (n + 1) bad).bad) := by
      show pTyp s lines (f + 1) n bad = _
      simp only [pTyp]
      rw [if_pos c1]
    have h1 : Hid ((byteAt s n : Int) = 91) := by show (byteAt s n : Int) = 91; omega
    have hn : n + 1 ≤ s.size := byteAt_in (by omega)
    clear c1
    go_enter Tryz.func195, Tryz.ntmps195
    go_wp2_with fail
    refine (psAccept_yes hX HS hs 91 h1 (by omega)).mono ?_
    rintro e w1 ⟨rfl, hF1, hS1⟩
    have HF1 := hide hF1
    have HS1 := hide hS1
    have HW1 := hide (HW.out.keep hF1 hn1)
    clear hF1 hS1
    go_wp2_with fail
    refine (around_at HT hX HS1 HW1 (fun b hb => Nat.lt_of_lt_of_le (HX b hb) HF1.out.size) hn (by omega) 7 7 rfl (HD _ _)).mono ?_
    generalize pTyp s lines f (n + 1) bad = r at *
    rintro e w2 ⟨hF2, hrn, ⟨bad2, hS2, hb2⟩, a, rfl, hok⟩
    have HF2 := hide (HF1.out.trans hF2)
    have HS2 := hide hS2
    have HB2 := hide hb2
    have HOK := hide hok
    have HRN := hide hrn
    clear hF2 hS2 hb2 hok hrn
    rcases hr : r.ok with _ | _
    · have ea : aroundR 7 r = noRes r.n r.bad := by simp [aroundR, hr]
      rw [ea] at HS2 HRN
      rw [ea]
      have HR2 : Hid (pTyp s lines (f + 1) n bad = noRes r.n r.bad) := HR.out.trans (by rw [hr]; rfl)
      clear hr ea HB2 HOK HR
      go_wp2_with fail
      go_ret2
      rw [HR2.out]
      exact ⟨HF2, HRN, ⟨bad2, HS2, fun h => by cases h⟩, a, rfl, fun h => by cases h⟩
    · have ea : aroundR 7 r = ⟨true, compoundT 7 [(⟨#[]⟩, r.t)], r.n, r.bad⟩ := by simp [aroundR, hr]
      rw [ea] at HS2 HRN HB2 HOK
      rw [ea]
      have HR2 : Hid (pTyp s lines (f + 1) n bad = if byteAt s r.n = 93 then ⟨true, compoundT 7 [(⟨#[]⟩, r.t)], r.n + 1, r.bad⟩ else noRes r.n r.bad) := HR.out.trans (by rw [hr]; rfl)
      obtain ⟨a', rfl, ht⟩ := HOK.out rfl
      have hbb : bad2 = r.bad := HB2.out rfl
      subst hbb
      have HTR := hide ht
      clear hr ea HB2 HOK HR ht
      by_cases hc : byteAt s r.n = 93
      · have HR3 : Hid (pTyp s lines (f + 1) n bad = ⟨true, compoundT 7 [(⟨#[]⟩, r.t)], r.n + 1, r.bad⟩) := HR2.out.trans (by rw [if_pos hc])
        have h3 : Hid ((byteAt s r.n : Int) = 93) := by show (byteAt s r.n : Int) = 93; omega
        have hn3 : r.n + 1 ≤ s.size := byteAt_in (by omega)
        clear hc HR2
        go_wp2_with fail
        refine (psAccept_yes hX HS2 hs 93 h3 (by omega)).mono ?_
        rintro e w3 ⟨rfl, hF3, hS3⟩
        have HF3 := hide hF3
        have HS3 := hide hS3
        clear hF3 hS3
        go_wp2_with fail
        go_ret2
        rw [HR3.out]
        exact ⟨HF2.out.trans HF3.out, hn3, ⟨r.bad, HS3, fun _ => rfl⟩, some a', rfl, fun _ => ⟨a', rfl, HTR.out.keep (HF3.out.one hX)⟩⟩
      · have HR3 : Hid (pTyp s lines (f + 1) n bad = noRes r.n r.bad) := HR2.out.trans (by rw [if_neg hc])
        have h3 : Hid ((byteAt s r.n : Int) ≠ 93) := fun e => hc (by omega)
        clear hc HR2
        go_wp2_with fail
        refine (psAccept_no hX HS2 hs HRN 93 h3).mono ?_
        rintro e w3 ⟨rfl, hF3, hS3⟩
        have HF3 := hide hF3
        have HS3 := hide hS3
        clear hF3 hS3
        go_wp2_with fail
        go_ret2
        rw [HR3.out]
        exact ⟨HF2.out.trans HF3.out, HRN, ⟨r.bad, HS3, fun h => by cases h⟩, some a', rfl, fun h => by cases h⟩
  · have n1 : Hid ((byteAt s n : Int) ≠ 91) := fun e => c1 (by omega)
    by_cases c2 : byteAt s n = 63
    · have HR : Hid (pTyp s lines (f + 1) n bad = aroundR 8 (pTyp s lines f (n + 1) bad)) := by
        show pTyp s lines (f + 1) n bad = _
        simp only [pTyp, aroundR]
        rw [if_neg c1, if_pos c2]
      have h1 : Hid ((byteAt s n : Int) = 63) := by show (byteAt s n : Int) = 63; omega
      have hn : n + 1 ≤ s.size := byteAt_in (by omega)
      clear c1 c2
      go_enter Tryz.func195, Tryz.ntmps195
      go_wp2_with fail
      refine (psAccept_no hX HS hs hle 91 n1).mono ?_
      rintro e w1 ⟨rfl, hF1, hS1⟩
      have HF1 := hide hF1
      have HS1 := hide hS1
      clear hF1 hS1
      go_wp2_with fail
      refine (psAccept_yes hX HS1 hs 63 h1 (by omega)).mono ?_
      rintro e w2 ⟨rfl, hF2, hS2⟩
      have HF2 := hide (HF1.out.trans hF2)
      have HS2 := hide hS2
      have HW2 := hide (HW.out.keep HF2.out hn1)
      clear hF2 hS2
      go_wp2_with fail
      refine (around_at HT hX HS2 HW2 (fun b hb => Nat.lt_of_lt_of_le (HX b hb) HF2.out.size) hn (by omega) 8 8 rfl (HD _ _)).mono ?_
      generalize aroundR 8 (pTyp s lines f (n + 1) bad) = r at *
      intro e w3 hP
      obtain ⟨a, rfl, hok⟩ := hP.2.2.2
      have HPO := hide (hP.after HF2.out)
      clear hP hok
      go_wp2_with fail
      go_ret2
      rw [HR.out]
      exact HPO
    · have n2 : Hid ((byteAt s n : Int) ≠ 63) := fun e => c2 (by omega)
      by_cases c3 : byteAt s n = 123
      · have HR : Hid (pTyp s lines (f + 1) n bad = pParts (pTyp s lines f) s 9 44 125 6 [] (n + 1) bad) := by
          show pTyp s lines (f + 1) n bad = _
          simp only [pTyp]
          rw [if_neg c1, if_neg c2, if_pos c3]
        have h1 : Hid ((byteAt s n : Int) = 123) := by show (byteAt s n : Int) = 123; omega
        have hn : n + 1 ≤ s.size := byteAt_in (by omega)
        clear c1 c2 c3
        go_enter Tryz.func195, Tryz.ntmps195
        go_wp2_with fail
        refine (psAccept_no hX HS hs hle 91 n1).mono ?_
        rintro e w1 ⟨rfl, hF1, hS1⟩
        have HF1 := hide hF1
        have HS1 := hide hS1
        clear hF1 hS1
        go_wp2_with fail
        refine (psAccept_no hX HS1 hs hle 63 n2).mono ?_
        rintro e w2 ⟨rfl, hF2, hS2⟩
        have HF2 := hide (HF1.out.trans hF2)
        have HS2 := hide hS2
        clear hF2 hS2
        go_wp2_with fail
        refine (psAccept_yes hX HS2 hs 123 h1 (by omega)).mono ?_
        rintro e w3 ⟨rfl, hF3, hS3⟩
        have HF3 := hide (HF2.out.trans hF3)
        have HS3 := hide hS3
        have HW3 := hide (HW.out.keep HF3.out hn1)
        clear hF3 hS3
        go_wp2_with fail
        refine (parts_at HT hX HS3 HW3 (fun b hb => Nat.lt_of_lt_of_le (HX b hb) HF3.out.size) hs hn (by omega) 9 44 125 9 44 125 rfl rfl rfl (by omega) (by omega) HD).mono ?_
        generalize pParts (pTyp s lines f) s 9 44 125 6 [] (n + 1) bad = r at *
        intro e w4 hP
        obtain ⟨a, rfl, hok⟩ := hP.2.2.2
        have HPO := hide (hP.after HF3.out)
        clear hP hok
        go_wp2_with fail
        go_ret2
        rw [HR.out]
        exact HPO
      · have n3 : Hid ((byteAt s n : Int) ≠ 123) := fun e => c3 (by omega)
        by_cases c4 : byteAt s n = 60
        · have HR : Hid (pTyp s lines (f + 1) n bad = pParts (pTyp s lines f) s 10 124 62 6 [] (n + 1) bad) := by
            show pTyp s lines (f + 1) n bad = _
            simp only [pTyp]
            rw [if_neg c1, if_neg c2, if_neg c3, if_pos c4]
          have h1 : Hid ((byteAt s n : Int) = 60) := by show (byteAt s n : Int) = 60; omega
          have hn : n + 1 ≤ s.size := byteAt_in (by omega)
          clear c1 c2 c3 c4
          go_enter Tryz.func195, Tryz.ntmps195
          go_wp2_with fail
          refine (psAccept_no hX HS hs hle 91 n1).mono ?_
          rintro e w1 ⟨rfl, hF1, hS1⟩
          have HF1 := hide hF1
          have HS1 := hide hS1
          clear hF1 hS1
          go_wp2_with fail
          refine (psAccept_no hX HS1 hs hle 63 n2).mono ?_
          rintro e w2 ⟨rfl, hF2, hS2⟩
          have HF2 := hide (HF1.out.trans hF2)
          have HS2 := hide hS2
          clear hF2 hS2
          go_wp2_with fail
          refine (psAccept_no hX HS2 hs hle 123 n3).mono ?_
          rintro e w3 ⟨rfl, hF3, hS3⟩
          have HF3 := hide (HF2.out.trans hF3)
          have HS3 := hide hS3
          clear hF3 hS3
          go_wp2_with fail
          refine (psAccept_yes hX HS3 hs 60 h1 (by omega)).mono ?_
          rintro e w5 ⟨rfl, hF5, hS5⟩
          have HF5 := hide (HF3.out.trans hF5)
          have HS5 := hide hS5
          have HW5 := hide (HW.out.keep HF5.out hn1)
          clear hF5 hS5
          go_wp2_with fail
          refine (parts_at HT hX HS5 HW5 (fun b hb => Nat.lt_of_lt_of_le (HX b hb) HF5.out.size) hs hn (by omega) 10 124 62 10 124 62 rfl rfl rfl (by omega) (by omega) HD).mono ?_
          generalize pParts (pTyp s lines f) s 10 124 62 6 [] (n + 1) bad = r at *
          intro e w4 hP
          obtain ⟨a, rfl, hok⟩ := hP.2.2.2
          have HPO := hide (hP.after HF5.out)
          clear hP hok
          go_wp2_with fail
          go_ret2
          rw [HR.out]
          exact HPO
        · have n4 : Hid ((byteAt s n : Int) ≠ 60) := fun e => c4 (by omega)
          have HR : Hid (pTyp s lines (f + 1) n bad = pNamed s lines n bad) := by
            show pTyp s lines (f + 1) n bad = _
            simp only [pTyp]
            rw [if_neg c1, if_neg c2, if_neg c3, if_neg c4]
          clear c1 c2 c3 c4
          go_enter Tryz.func195, Tryz.ntmps195
          go_wp2_with fail
          refine (psAccept_no hX HS hs hle 91 n1).mono ?_
          rintro e w1 ⟨rfl, hF1, hS1⟩
          have HF1 := hide hF1
          have HS1 := hide hS1
          clear hF1 hS1
          go_wp2_with fail
          refine (psAccept_no hX HS1 hs hle 63 n2).mono ?_
          rintro e w2 ⟨rfl, hF2, hS2⟩
          have HF2 := hide (HF1.out.trans hF2)
          have HS2 := hide hS2
          clear hF2 hS2
          go_wp2_with fail
          refine (psAccept_no hX HS2 hs hle 123 n3).mono ?_
          rintro e w3 ⟨rfl, hF3, hS3⟩
          have HF3 := hide (HF2.out.trans hF3)
          have HS3 := hide hS3
          clear hF3 hS3
          go_wp2_with fail
          refine (psAccept_no hX HS3 hs hle 60 n4).mono ?_
          rintro e w5 ⟨rfl, hF5, hS5⟩
          have HF5 := hide (HF3.out.trans hF5)
          have HS5 := hide hS5
          have HW5 := hide (HW.out.keep HF5.out hn1)
          clear hF5 hS5
          go_wp2_with fail
          refine (namedType_any hX HS5 HW5 (fun b hb => Nat.lt_of_lt_of_le (HX b hb) HF5.out.size) hs hle hll).mono ?_
          generalize pNamed s lines n bad = r at *
          intro e w4 hP
          obtain ⟨a, rfl, hok⟩ := hP.2.2.2
          have HPO := hide (hP.after HF5.out)
          clear hP hok
          go_wp2_with fail
          go_ret2
          rw [HR.out]
          exact HPO

theorem pParts_depth (rd : Nat → Option Nat → Res) (D : Nat) (hrd : ∀ n bad, (rd n bad).t.depth ≤ D) (s : ByteArray) (kind btw close : Nat) : ∀ (k : Nat) (acc : List (ByteArray × PT)) (n : Nat) (bad : Option Nat), (∀ q ∈ acc, q.2.depth ≤ D) → (pParts rd s kind btw close k acc n bad).t.depth ≤ D + 1 := by
  intro k
  induction k with
  | zero => intro acc n bad _; exact Nat.zero_le _
  | succ k ih =>
    intro acc n bad hacc
    have hp : (pPart rd s (acc.map (·.1)) 58 n bad).t.depth ≤ D := by
      unfold pPart
      split
      · exact Nat.zero_le _
      · split
        · exact hrd _ _
        · exact Nat.zero_le _
    have hacc2 : ∀ q ∈ acc ++ [(nameAt s n, (pPart rd s (acc.map (·.1)) 58 n bad).t)], q.2.depth ≤ D := by
      intro q hq
      rcases List.mem_append.1 hq with h | h
      · exact hacc q h
      · simp at h; subst h; exact hp
    simp only [pParts]
    split
    · exact Nat.zero_le _
    · split
      · show maxDepth _ + 1 ≤ D + 1
        have := maxDepth_le _ D hacc2
        omega
      · split
        · exact Nat.zero_le _
        · exact ih _ _ _ hacc2

theorem lineOf_mem {nm : ByteArray} {t : PT} : ∀ {lines : List (ByteArray × PT)}, lineOf nm lines = some t → ∃ q ∈ lines, q.2 = t := by
  intro lines
  induction lines with
  | nil => intro h; cases h
  | cons p r ih =>
    intro h
    rw [lineOf] at h
    split at h
    · exact ⟨p, by simp, by simpa using h⟩
    · obtain ⟨q, hq, e⟩ := ih h
      exact ⟨q, by simp [hq], e⟩

theorem pTyp_depth (s : ByteArray) (lines : List (ByteArray × PT)) (D : Nat) (hD : ∀ q ∈ lines, q.2.depth ≤ D) : ∀ (f n : Nat) (bad : Option Nat), (pTyp s lines f n bad).t.depth ≤ D + 1 + f := by
  intro f
  induction f with
  | zero => intro n bad; exact Nat.zero_le _
  | succ f ih =>
    intro n bad
    have h1 := ih (n + 1) bad
    simp only [pTyp]
    split
    · split
      · exact Nat.zero_le _
      · split
        · show maxDepth _ + 1 ≤ _
          have := maxDepth_le [((⟨#[]⟩ : ByteArray), (pTyp s lines f (n + 1) bad).t)] (D + 1 + f) (fun q hq => by simp at hq; subst hq; exact h1)
          omega
        · exact Nat.zero_le _
    · split
      · split
        · exact Nat.zero_le _
        · show maxDepth _ + 1 ≤ _
          have := maxDepth_le [((⟨#[]⟩ : ByteArray), (pTyp s lines f (n + 1) bad).t)] (D + 1 + f) (fun q hq => by simp at hq; subst hq; exact h1)
          omega
      · split
        · have := pParts_depth (pTyp s lines f) (D + 1 + f) ih s 9 44 125 6 [] (n + 1) bad (fun q hq => by simp at hq); omega
        · split
          · have := pParts_depth (pTyp s lines f) (D + 1 + f) ih s 10 124 62 6 [] (n + 1) bad (fun q hq => by simp at hq); omega
          · unfold pNamed
            split
            · exact Nat.zero_le _
            · split
              · show 1 ≤ _; omega
              · split
                · rename_i t ht
                  obtain ⟨q, hq, e⟩ := lineOf_mem ht
                  have := hD q hq
                  rw [e] at this
                  show t.depth ≤ _
                  omega
                · exact Nat.zero_le _

theorem typ_all {s : ByteArray} {lines : List (ByteArray × PT)} (hs : s.size ≤ maxLen) (hD : ∀ q ∈ lines, q.2.depth ≤ 500000) (hll : lines.length ≤ 1000) : ∀ f, f ≤ 1000 → TypSaid s lines f := by
  intro f
  induction f with
  | zero =>
    intro _ w X pb n lv bad deep h hw hX hXlt hle hfu
    omega
  | succ f ih =>
    intro hf
    exact typ_step (ih (by omega)) hs (fun n bad => by have := pTyp_depth s lines 500000 hD f n bad; omega) hll

end Go.Proofs.YtdcjogpkogidaaaGreatDoor

namespace Go.Proofs.YtdcjogpkogidaaaGreatDoor
open Go.RowKit

theorem step_append_mine {P : Program} {ops : Array Oper} {o : Oper} {a : Act} {w : World} {K : Act → World → Prop} {Q : Exit → Act → World → Prop} {E : Prop}
    (hg : o.guard = none) (s x : Operand) (t : TypeId) (hop : o.op = Op.call { callee := Callee.builtin Builtin.append, args := #[s, x], argTypes := #[t, t] })
    (base : Nat) (e : TypeId) (i : TypeInfo) (z : Value) (size bytes : Nat) (ht : P.underlying t = some (.slice e)) (hi : P.info? e = some i) (hz : i.zero = some z)
    (hsize : i.size = size) (hby : i.bytes = bytes) (hzs : z.cells.size = size) (hsz : 0 < size)
    (v : Value) (n : Nat) (xs : List Value) (hs : a.eval s = v) (hown : w.ownsRow base e size v n xs)
    (ad : Addr) (m c : Nat) (hm : 0 < m) (news : List Value) (hx : a.eval x = .slice (some ad) m c) (hl : news.length = m * size) (hnews : ∀ j u, news[j]? = some u → w.cell? (ad.add j) = some u) (h1 : ∀ u ∈ news, u.oneCell' = true)
    (h63 : n + m ≤ maxLen) (hbytes : (n + m) * bytes ≤ 140737488355328) (hbase : base ≤ w.heap.size)
    (hK : ∀ v' w', w'.ownsRow base e size v' (n + m) (xs ++ news) → w.grownBy w' v.ownBlock → (∃ g cap, v' = .slice (some ⟨g, 0, none⟩) (n + m) cap ∧ (v.ownBlock = some g ∨ w.heap.size ≤ g)) → K (a.put o.dst v') w') :
    if Region.wanted o (yielded ops a.tmps) = true then Oper.wp P o a w K Q else E := by
  have hw : Region.wanted o (yielded ops a.tmps) = true := by simp [Region.wanted, hg]
  rw [if_pos hw]
  obtain ⟨v', w', hrun, r1, r2, r3⟩ := run_append_mine (P := P) w base t o.type e i z size bytes ht hi hz hsize hby hzs hsz v n xs hown ad m c hm news hl hnews h1 h63 hbytes hbase
  unfold Oper.wp
  simp [execOp, hop, resolve, invoke, builtin, hs, hx, hrun, Result.andThen]
  exact hK v' w' r1 r2 r3

theorem ownsRow_heap {w w' : World} {base : Nat} {e : TypeId} {size : Nat} {v : Value} {n : Nat} {xs : List Value} {o : Obj} (h : w.ownsRow base e size v n xs) (he : w'.heap = (w.alloc o).heap) : w'.ownsRow base e size v n xs := by
  refine ⟨h.1, ?_⟩
  rcases (h.alloc o).2 with h' | ⟨g, cap, cur, hv, hb, hg, r⟩
  · exact .inl h'
  · exact .inr ⟨g, cap, cur, hv, hb, by rw [he]; exact hg, r⟩

theorem news_heap {w w' : World} {x y : Value} {t : TypeId} (he : w'.heap = (w.alloc (.cells #[x, y] t)).heap) : ∀ (j : Nat) (u : Value), [x, y][j]? = some u → w'.cell? ((⟨w.heap.size, 0, none⟩ : Addr).add j) = some u := by
  have h : w'.heap[w.heap.size]? = some (.cells #[x, y] t (0, 0)) := by rw [he]; exact heap_new_at rfl _
  intro j u hj
  match j, hj with
  | 0, hj => simp at hj; subst hj; simp [Addr.add, World.cell?, h]
  | 1, hj => simp at hj; subst hj; simp [Addr.add, World.cell?, h]
  | j + 2, hj => simp at hj

theorem after_append {W wq w' : World} {o : Obj} {pb : Nat} {s : ByteArray} {n : Nat} {lv bn td : Value} (he : W.heap = (wq.alloc o).heap) (hP : PB wq pb s n lv bn td) (hg : W.grownBy w' lv.ownBlock) (hne : ∀ g, lv.ownBlock = some g → g ≠ pb) : PB w' pb s n lv bn td := by
  have h1 : W.heap[pb]? = some (.cells #[.int .i64 n, .string s, lv, bn, td] 144 (0, 0)) := by rw [he]; exact hP.alloc o
  exact (hg.block pb (lt_of_heap h1) (fun e => hne pb e.symm rfl)).trans h1

/-- The append at the end of line, and the store behind it. -/
theorem line_end {W wq w' : World} {B pb : Nat} {s : ByteArray} {n : Nat} {lv v' : Value} {lines : List (ByteArray × PT)} {rows : List (ByteArray × Addr)} {bad deep : Option Nat} {nm : ByteArray} {a : Addr} {t : PT} {o : Obj} (he : W.heap = (wq.alloc o).heap) (hos : W.os = wq.os) (htp : W.tape = wq.tape) (hou : W.output = wq.output)
    (hO : wq.ownsRow 0 146 2 lv rows.length (rowCells rows)) (hL : LinesR wq (XO (One pb) lv) rows lines) (hS : PS wq (XO (One pb) lv) pb s n lv lines bad deep) (ht : TR wq (XO (One pb) lv) a t)
    (hlv : ∀ g, lv.ownBlock = some g → B ≤ g ∧ g ≠ pb) (hpb : B ≤ pb) (_hB : B ≤ wq.heap.size)
    (hO2 : w'.ownsRow 0 146 2 v' (rows.length + 1) (rowCells rows ++ [.string nm, .pointer (some a)])) (hg : W.grownBy w' lv.ownBlock) (hv : ∃ g cap, v' = .slice (some ⟨g, 0, none⟩) (rows.length + 1) cap ∧ (lv.ownBlock = some g ∨ W.heap.size ≤ g)) :
    PS (w'.setCell ⟨pb, 2, none⟩ v') (XO (One pb) v') pb s n v' (lines ++ [(nm, t)]) bad deep ∧ (∀ g, v'.ownBlock = some g → B ≤ g ∧ g ≠ pb) ∧ Fr (fun k => B ≤ k) wq (w'.setCell ⟨pb, 2, none⟩ v') := by
  have hF0 : Fr Zero wq W := ⟨hos, htp, hou, by rw [he]; simp, fun k hk _ => by rw [he]; exact Below.heap_alloc _ _ _ hk⟩
  have hX : XO (One pb) lv pb := .inl rfl
  have hS1 := PS.keep0 hX hS hF0
  have hL1 := hL.keep (hF0.of0 (X := XO (One pb) lv))
  have ht1 := ht.keep (hF0.of0 (X := XO (One pb) lv))
  have hO1 := ownsRow_keep hO hF0 (fun _ _ h => h)
  obtain ⟨g, cap, rfl, hgg⟩ := hv
  have hpW : pb < W.heap.size := by
    obtain ⟨bn, td, _, hP, _⟩ := hS1
    exact lt_of_heap hP
  have hgp : g ≠ pb := by
    rcases hgg with h | h
    · exact (hlv g h).2
    · omega
  have hgB : B ≤ g := by
    rcases hgg with h | h
    · exact (hlv g h).1
    · have := hF0.size; omega
  have hZ1 : ∀ b, b < W.heap.size → (XO (One pb) lv b ∨ W.heap.size ≤ b) → XO (One pb) lv b := fun b hb h => by
    rcases h with h | h
    · exact h
    · omega
  have hZ2 : ∀ b, b < w'.heap.size → XO (One pb) (.slice (some ⟨g, 0, none⟩) (rows.length + 1) cap) b → (XO (One pb) lv b ∨ W.heap.size ≤ b) := fun b _ h => by
    rcases h with h | h
    · exact .inl (.inl h)
    · simp [Value.ownBlock] at h
      subst h
      rcases hgg with h | h
      · exact .inl (.inr h)
      · exact .inr h
  have hfZ : Fr (fun b => XO (One pb) lv b ∨ W.heap.size ≤ b) W w' := Fr.grown hg (fun k e _ => .inl (.inr e))
  have hL2 : LinesR w' (XO (One pb) (.slice (some ⟨g, 0, none⟩) (rows.length + 1) cap)) (rows ++ [(nm, a)]) (lines ++ [(nm, t)]) := (((hL1.snoc ht1).avoid hZ1).keep hfZ).avoid hZ2
  have hfL : Fr (fun k => lv.ownBlock = some k) W w' := Fr.grown hg (fun k e _ => e)
  have hfS : Fr (One pb) w' (w'.setCell ⟨pb, 2, none⟩ (.slice (some ⟨g, 0, none⟩) (rows.length + 1) cap)) := Fr.setCell _ _ _ _ rfl
  obtain ⟨bn, td, rows1, hP, hOl, hlx, _, hb, hd⟩ := hS1
  have hPw : PB w' pb s n lv bn td := hfL.keep hP (fun e => (hlv pb e).2 rfl)
  have hRef : ∀ errno v r, RefV W errno v r → RefV w' errno v r := by
    intro errno v r hr
    cases r with
    | none => exact hr
    | some m =>
      obtain ⟨b, hv, hb⟩ := hr
      refine ⟨b, hv, hfL.keep hb (fun e => ?_)⟩
      obtain ⟨cur, hh⟩ := own_type hO1 e
      rw [hb] at hh
      simp at hh
  refine ⟨⟨bn, td, rows ++ [(nm, a)], hPw.set2 _, ?_, fun g' hg' => .inr hg', hL2.keep (hfS.one (.inl rfl)), (hRef _ _ _ hb).keep hPw hfS, (hRef _ _ _ hd).keep hPw hfS⟩, ?_, ?_⟩
  · rw [rowCells_snoc, List.length_append]
    exact ownsRow_keep hO2 hfS (fun g' hg' e => by simp [Value.ownBlock] at hg'; subst hg'; exact hgp e)
  · intro g' hg'
    simp [Value.ownBlock] at hg'
    subst hg'
    exact ⟨hgB, hgp⟩
  · exact (hF0.of0 (X := fun k => B ≤ k)).trans ((hfL.mono (fun k _ e => (hlv k e).1)).trans (hfS.mono (fun k _ e => by have e' : k = pb := e; omega)))

/-- A line, read: the part, and how deep. -/
def lineR (s : ByteArray) (lines : List (ByteArray × PT)) (n : Nat) (bad : Option Nat) : Res := pPart (pTyp s lines (s.size + 1)) s (lines.map (·.1)) 61 n bad
def lineDeep (r : Res) (n : Nat) (deep : Option Nat) : Option Nat := if 12 < r.t.depth then orElse deep n else deep

/-- What line leaves: the parser stands behind it; if it is one, it is among the lines. -/
def LinePost (w : World) (B pb : Nat) (s : ByteArray) (n : Nat) (lines : List (ByteArray × PT)) (deep : Option Nat) (r : Res) (e : Ending) (w' : World) : Prop :=
  Fr (fun k => B ≤ k) w w' ∧ r.n ≤ s.size ∧ e = .returned (.bool r.ok) ∧
    (r.ok = false → ∃ lv X bad' deep', PS w' X pb s r.n lv lines bad' deep') ∧
    (r.ok = true → ∃ lv, PS w' (XO (One pb) lv) pb s r.n lv (lines ++ [(nameAt s n, r.t)]) r.bad (lineDeep r n deep) ∧ ∀ g, lv.ownBlock = some g → B ≤ g ∧ g ≠ pb)

set_option maxHeartbeats 8000000 in
theorem line_any {w : World} {B pb : Nat} {s : ByteArray} {n : Nat} {lv : Value} {lines : List (ByteArray × PT)} {bad deep : Option Nat} (h : PS w (XO (One pb) lv) pb s n lv lines bad deep) (hpb : B ≤ pb) (hlv : ∀ g, lv.ownBlock = some g → B ≤ g ∧ g ≠ pb) (hw : Words w) (hs : s.size ≤ 400) (hle : n ≤ s.size)
    (hD : ∀ q ∈ lines, q.2.depth ≤ 500000) (hll : lines.length ≤ 1000) :
    Calls Tryz.prog 105 #[.pointer (some ⟨pb, 0, none⟩)] w fun e w' => LinePost w B pb s n lines deep (lineR s lines n bad) e w' := by
  have hsm : s.size ≤ maxLen := by unfold maxLen; omega
  have h0 := h.at0
  have hn1 := hide (h.not1 hw)
  have HS := hide h
  have HW := hide hw
  have HLV := hide hlv
  obtain ⟨bn, td, rows, hP, hO, hlx, hL, hbn, htd⟩ := h
  have c2 := hP.at2
  have hpl := lt_of_heap hP
  have HO := hide hO
  have hrl : rows.length = lines.length := hL.length
  have HRN := hide hL.1
  have HNE := hide (owned_ne hP hO)
  have HT := hide (typ_all hsm hD hll (s.size + 1) (by omega))
  have hXlt : Hid (∀ b, XO (One pb) lv b → b < w.heap.size) := fun b hb => by
    rcases hb with h | h
    · have h' : b = pb := h
      omega
    · exact (hO.lt b h).2
  have hX : XO (One pb) lv pb := .inl rfl
  have hrd : Hid ((lineR s lines n bad).t.depth ≤ 1000000) := by
    show (lineR s lines n bad).t.depth ≤ 1000000
    unfold lineR pPart
    split
    · exact Nat.zero_le _
    · split
      · have := pTyp_depth s lines 500000 hD (s.size + 1) (lettersTo s n 6 + 1) (nameBad s (lines.map (·.1)) n bad); omega
      · exact Nat.zero_le _
  have HRL := hide hrl
  clear hw hlv hP hO hlx hL hbn htd hD hrl
  go_enter Tryz.func105, Tryz.ntmps105
  go_wp2_with fail
  refine (at_any pb n _ h0).mono ?_
  rintro e w0 ⟨rfl, e0⟩
  obtain rfl := e0.symm
  clear h0
  go_wp2_with fail
  refine (part_at HT hX HS HW hXlt hsm hle (by omega) lv rows (by have := HRL.out; omega) HO HNE 61 61 (by omega) rfl).mono ?_
  rw [HRN.out]
  rw [show pPart (pTyp s lines (s.size + 1)) s (lines.map (·.1)) 61 n bad = lineR s lines n bad from rfl]
  generalize hre : lineR s lines n bad = r at *
  have HRE := hide hre
  clear hre
  rintro e w1 ⟨hF1, hrs, ⟨bad1, hS1, hb1⟩, nm, a, rfl, hok⟩
  have HF1 := hide hF1
  have HS1 := hide hS1
  clear hF1 hS1 c2
  rcases hr : r.ok with _ | _
  · have HR := hide hr
    clear hr hok hb1
    go_wp2_with fail
    go_ret
    rw [HRE.out]
    refine ⟨(HF1.out.mono (fun k _ e => by have e' : k = pb := e; omega)).trans (Fr.alloc _ _ _), hrs, by rw [HR.out]; rfl, fun _ => ⟨lv, _, bad1, deep, PS.keep0 hX HS1 (Fr.alloc _ _ _)⟩, fun h => by rw [HR.out] at h; cases h⟩
  · obtain ⟨hnm, a', rfl, ht⟩ := hok hr
    have hbb := hb1 hr
    subst hnm
    subst hbb
    obtain ⟨b, hb, hbl, hbx, hdc⟩ := ht.depth
    subst hb
    have HTR := hide ht
    have HR := hide hr
    clear hr hok hb1 ht
    generalize hnm : nameAt s n = nm at *
    have HNM := hide hnm
    clear hnm
    have hbw : w1.cell? ⟨b, 2, none⟩ = some (.int .i64 r.t.depth) := hdc
    have hlbp : w1.heap.size ≠ pb := by
      have := HF1.out.size
      omega
    by_cases h12 : 12 < r.t.depth
    · have HDP : Hid (lineDeep r n deep = orElse deep n) := by show lineDeep r n deep = _; unfold lineDeep; rw [if_pos h12]
      go_wp2_with fail
      refine (psRefuseDepth hX (PS.keep0 hX HS1 (Fr.alloc _ _ _)) n).mono ?_
      rintro e wq ⟨rfl, hF2, hS2⟩
      have HSq := hide hS2
      have HFz := hide hF2
      have HTq := hide ((HTR.out.keep ((Fr.alloc _ _ _))).keep (hF2.one hX))
      have HFq : Hid (Fr (fun k => B ≤ k) w wq) := (HF1.out.trans ((Fr.alloc _ _ _).trans hF2)).mono (fun k _ e => by have e' : k = pb := e; omega)
      have hBq : Hid (B ≤ wq.heap.size) := by show B ≤ wq.heap.size; have := HFq.out.size; omega
      have hlb : wq.heap[w1.heap.size]? = some (.cells #[.string nm, .pointer (some ⟨b, 0, none⟩)] 146 (0, 0)) := hF2.keep (heap_new_at rfl _) hlbp
      have l0 : wq.cell? ⟨w1.heap.size, 0, none⟩ = some (.string nm) := by rw [cell_of_heap hlb]; rfl
      have l1 : wq.cell? ⟨w1.heap.size, 1, none⟩ = some (.pointer (some ⟨b, 0, none⟩)) := by rw [cell_of_heap hlb]; rfl
      have hwq := True.intro
      clear hF2 hS2 hlb h12 hdc hbw hbl hbx
      go_wp2_with fail
      have HWQ := hide hwq
      clear hwq
      obtain ⟨bq, tq, rq, hPq, hOq, _, hLq, _, _⟩ := HSq.out
      have k2 := hPq.at2
      have kf := hPq.free 2
      have hpq := lt_of_heap hPq
      have k2a := (hPq.alloc (.cells #[.string nm, .pointer (some ⟨b, 0, none⟩)] 146)).at2
      have hrq : rq.length ≤ 1000 := by rw [hLq.length]; exact hll
      have HPq := hide hPq
      have HOq := hide hOq
      have HLq := hide hLq
      have HNEq : Hid (∀ g, lv.ownBlock = some g → g ≠ pb) := fun g hg => (HLV.out g hg).2
      clear hPq hOq hLq
      obtain ⟨i0, hi, hz0, hz1, hz2⟩ := info_parts Tryz.info67
      have m1 : Hid (rq.length + 1 ≤ maxLen) := by show rq.length + 1 ≤ maxLen; unfold maxLen; omega
      have m2 : Hid ((rq.length + 1) * 24 ≤ 140737488355328) := by show (rq.length + 1) * 24 ≤ 140737488355328; omega
      have m3 : Hid (∀ u ∈ [Value.string nm, Value.pointer (some ⟨b, 0, none⟩)], u.oneCell' = true) := by intro u hu; simp at hu; rcases hu with rfl | rfl <;> rfl
      go_region_law (refine step_append_mine rfl (.tmp 35) (.tmp 37) 142 rfl 0 146 i0 (.agg #[.string ⟨#[]⟩, .pointer none]) 2 24 Tryz.underlying142 hi hz0 hz1 hz2 rfl (by decide) lv rq.length (rowCells rq) (by simp [Act.eval]) (by exact ownsRow_heap (o := .cells #[.string nm, .pointer (some ⟨b, 0, none⟩)] 146) HOq.out (by rfl)) ⟨wq.heap.size, 0, none⟩ 1 1 (by omega) [.string nm, .pointer (some ⟨b, 0, none⟩)] (by simp [Act.eval]) rfl (by exact news_heap (w := wq) (t := 146) (by rfl)) m3.out m1.out m2.out (Nat.zero_le _) ?_; intro v' w' hO2 hg2 hv2; obtain ⟨gn, capn, rfl, hgn⟩ := hv2; have hPw := after_append (o := .cells #[.string nm, .pointer (some ⟨b, 0, none⟩)] 146) (by rfl) HPq.out hg2 HNEq.out; have k2' := hPw.at2; have kf' := hPw.free 2; have HE := hide (line_end (o := .cells #[.string nm, .pointer (some ⟨b, 0, none⟩)] 146) (by rfl) (by rfl) (by rfl) (by rfl) HOq.out HLq.out HSq.out HTq.out HLV.out hpb hBq.out hO2 hg2 ⟨gn, capn, rfl, hgn⟩); clear hO2 hg2 hgn hPw)
      all_goals
        go_wp2_with fail
        go_ret
        rw [HRE.out]
        refine ⟨HFq.out.trans HE.out.2.2, hrs, (by rw [HR.out]; rfl), (fun h => by rw [HR.out] at h; cases h), fun _ => ⟨_, ?_, HE.out.2.1⟩⟩
        rw [HNM.out, HDP.out]
        exact HE.out.1
    · have HDP : Hid (lineDeep r n deep = deep) := by show lineDeep r n deep = _; unfold lineDeep; rw [if_neg h12]
      have HSq := hide (PS.keep0 hX HS1 (Fr.alloc _ _ (.cells #[.string nm, .pointer (some ⟨b, 0, none⟩)] 146)))
      have HTq := hide (HTR.out.keep (Fr.alloc _ _ (.cells #[.string nm, .pointer (some ⟨b, 0, none⟩)] 146)))
      have HFq : Hid (Fr (fun k => B ≤ k) w (w1.alloc (.cells #[.string nm, .pointer (some ⟨b, 0, none⟩)] 146))) := (HF1.out.trans (Fr.alloc _ _ _)).mono (fun k _ e => by have e' : k = pb := e; omega)
      have hBq : Hid (B ≤ (w1.alloc (.cells #[.string nm, .pointer (some ⟨b, 0, none⟩)] 146)).heap.size) := by
        show B ≤ _
        have := HFq.out.size
        omega
      have hlb : (w1.alloc (.cells #[.string nm, .pointer (some ⟨b, 0, none⟩)] 146)).heap[w1.heap.size]? = some (.cells #[.string nm, .pointer (some ⟨b, 0, none⟩)] 146 (0, 0)) := heap_new_at rfl _
      have l0 : (w1.alloc (.cells #[.string nm, .pointer (some ⟨b, 0, none⟩)] 146)).cell? ⟨w1.heap.size, 0, none⟩ = some (.string nm) := by rw [cell_of_heap hlb]; rfl
      have l1 : (w1.alloc (.cells #[.string nm, .pointer (some ⟨b, 0, none⟩)] 146)).cell? ⟨w1.heap.size, 1, none⟩ = some (.pointer (some ⟨b, 0, none⟩)) := by rw [cell_of_heap hlb]; rfl
      clear hlb
      have HL0 := hide l0
      have HL1 := hide l1
      clear l0 l1
      go_wp2_with fail
      have l0 := HL0.out
      have l1 := HL1.out
      clear HL0 HL1
      generalize hwq : w1.alloc (.cells #[.string nm, .pointer (some ⟨b, 0, none⟩)] 146) = wq at *
      clear hbw hdc hbl hbx h12
      have HWQ := hide hwq
      clear hwq
      obtain ⟨bq, tq, rq, hPq, hOq, _, hLq, _, _⟩ := HSq.out
      have k2 := hPq.at2
      have kf := hPq.free 2
      have hpq := lt_of_heap hPq
      have k2a := (hPq.alloc (.cells #[.string nm, .pointer (some ⟨b, 0, none⟩)] 146)).at2
      have hrq : rq.length ≤ 1000 := by rw [hLq.length]; exact hll
      have HPq := hide hPq
      have HOq := hide hOq
      have HLq := hide hLq
      have HNEq : Hid (∀ g, lv.ownBlock = some g → g ≠ pb) := fun g hg => (HLV.out g hg).2
      clear hPq hOq hLq
      obtain ⟨i0, hi, hz0, hz1, hz2⟩ := info_parts Tryz.info67
      have m1 : Hid (rq.length + 1 ≤ maxLen) := by show rq.length + 1 ≤ maxLen; unfold maxLen; omega
      have m2 : Hid ((rq.length + 1) * 24 ≤ 140737488355328) := by show (rq.length + 1) * 24 ≤ 140737488355328; omega
      have m3 : Hid (∀ u ∈ [Value.string nm, Value.pointer (some ⟨b, 0, none⟩)], u.oneCell' = true) := by intro u hu; simp at hu; rcases hu with rfl | rfl <;> rfl
      go_region_law (refine step_append_mine rfl (.tmp 35) (.tmp 37) 142 rfl 0 146 i0 (.agg #[.string ⟨#[]⟩, .pointer none]) 2 24 Tryz.underlying142 hi hz0 hz1 hz2 rfl (by decide) lv rq.length (rowCells rq) (by simp [Act.eval]) (by exact ownsRow_heap (o := .cells #[.string nm, .pointer (some ⟨b, 0, none⟩)] 146) HOq.out (by rfl)) ⟨wq.heap.size, 0, none⟩ 1 1 (by omega) [.string nm, .pointer (some ⟨b, 0, none⟩)] (by simp [Act.eval]) rfl (by exact news_heap (w := wq) (t := 146) (by rfl)) m3.out m1.out m2.out (Nat.zero_le _) ?_; intro v' w' hO2 hg2 hv2; obtain ⟨gn, capn, rfl, hgn⟩ := hv2; have hPw := after_append (o := .cells #[.string nm, .pointer (some ⟨b, 0, none⟩)] 146) (by rfl) HPq.out hg2 HNEq.out; have k2' := hPw.at2; have kf' := hPw.free 2; have HE := hide (line_end (o := .cells #[.string nm, .pointer (some ⟨b, 0, none⟩)] 146) (by rfl) (by rfl) (by rfl) (by rfl) HOq.out HLq.out HSq.out HTq.out HLV.out hpb hBq.out hO2 hg2 ⟨gn, capn, rfl, hgn⟩); clear hO2 hg2 hgn hPw)
      all_goals
        go_wp2_with fail
        go_ret
        rw [HRE.out]
        refine ⟨HFq.out.trans HE.out.2.2, hrs, (by rw [HR.out]; rfl), (fun h => by rw [HR.out] at h; cases h), fun _ => ⟨_, ?_, HE.out.2.1⟩⟩
        rw [HNM.out, HDP.out]
        exact HE.out.1

end Go.Proofs.YtdcjogpkogidaaaGreatDoor
