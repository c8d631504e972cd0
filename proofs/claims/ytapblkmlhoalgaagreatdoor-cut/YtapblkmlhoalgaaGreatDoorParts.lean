/- What parts does. -/
import Derived.Test.YtapblkmlhoalgaaGreatDoorPart
namespace Go.Proofs.YtapblkmlhoalgaaGreatDoor
open Go.RowKit

/-- X, and the array of a slice. -/
def XO (X : Nat → Prop) (v : Value) : Nat → Prop := fun k => X k ∨ v.ownBlock = some k

theorem Fr.past {X : Nat → Prop} {w w1 w2 : World} (h : Fr X w w1) (k : Fr (fun b => w.heap.size ≤ b) w1 w2) : Fr X w w2 :=
  ⟨k.os.trans h.os, k.tape.trans h.tape, k.output.trans h.output, Nat.le_trans h.size k.size, fun i hi hx => (k.block i (Nat.lt_of_lt_of_le hi h.size) (by intro h'; omega)).trans (h.block i hi hx)⟩

theorem own_type {w : World} {base : Nat} {e : TypeId} {size : Nat} {v : Value} {n : Nat} {xs : List Value} (h : w.ownsRow base e size v n xs) {g : Nat} (hg : v.ownBlock = some g) : ∃ cur, w.heap[g]? = some (.cells cur e (0, 0)) := by
  rcases h.2 with ⟨rfl, _⟩ | ⟨g', cap, cur, rfl, hb, hh, r⟩
  · simp [Value.ownBlock] at hg
  · simp [Value.ownBlock] at hg
    subst hg
    exact ⟨cur, hh⟩

theorem PS.grow {w w' : World} {X : Nat → Prop} {pb : Nat} {s : ByteArray} {n : Nat} {lv : Value} {lines : List (ByteArray × PT)} {bad deep : Option Nat} (h : PS w X pb s n lv lines bad deep) {v : Value} {base k size : Nat} {xs : List Value} (ho : w.ownsRow base 180 size v k xs)
    (hXr : ∀ g, v.ownBlock = some g → X g) (hl : ∀ g, lv.ownBlock = some g → v.ownBlock ≠ some g) (hg : w.grownBy w' v.ownBlock) : PS w' X pb s n lv lines bad deep := by
  cases hv : v.ownBlock with
  | none =>
    rw [hv] at hg
    obtain ⟨bn, td, rows, hP, hO, hlx, hL, hb, hd⟩ := h
    have hf : Fr Zero w w' := Fr.grown hg (fun k e => by cases e)
    exact ⟨bn, td, rows, hf.keep hP (fun h => h), ownsRow_keep hO hf (fun _ _ h => h), hlx, hL.keep hf.of0, hb.keep hP hf.of0, hd.keep hP hf.of0⟩
  | some g =>
    rw [hv] at hg
    obtain ⟨cur, hh⟩ := own_type ho hv
    have hf : Fr (One g) w w' := Fr.grown hg (fun k e _ => by cases e; rfl)
    exact PS.other h hh (hXr g hv) (fun g' hg' e => hl g' hg' (by rw [hv, e])) hf

theorem grow_step {w1 w2 : World} {X : Nat → Prop} {pb B : Nat} {s : ByteArray} {m : Nat} {lv pv v' : Value} {lines acc : List (ByteArray × PT)} {rows : List (ByteArray × Addr)} {bad deep : Option Nat} {nm : ByteArray} {a : Addr} {t : PT}
    (hO : w1.ownsRow 0 180 2 pv rows.length (rowCells rows)) (hpv : ∀ g, pv.ownBlock = some g → B ≤ g) (hXlt : ∀ b, X b → b < B) (hB : B ≤ w1.heap.size)
    (hL : LinesR w1 (XO X pv) rows acc) (hS : PS w1 (XO X pv) pb s m lv lines bad deep) (ht : TR w1 (XO X pv) a t) (hlv : ∀ g, lv.ownBlock = some g → X g)
    (hO2 : w2.ownsRow 0 180 2 v' (rows.length + 1) (rowCells rows ++ [.string nm, .pointer (some a)])) (hg : w1.grownBy w2 pv.ownBlock) (hv : ∃ g cap, v' = .slice (some ⟨g, 0, none⟩) (rows.length + 1) cap ∧ (pv.ownBlock = some g ∨ w1.heap.size ≤ g)) :
    LinesR w2 (XO X v') (rows ++ [(nm, a)]) (acc ++ [(nm, t)]) ∧ PS w2 (XO X v') pb s m lv lines bad deep ∧ w2.ownsRow 0 180 2 v' (rows ++ [(nm, a)]).length (rowCells (rows ++ [(nm, a)])) ∧ (∀ g, v'.ownBlock = some g → B ≤ g) ∧ Fr (fun k => B ≤ k) w1 w2 := by
  obtain ⟨g, cap, rfl, hgg⟩ := hv
  have hZ1 : ∀ b, b < w1.heap.size → (XO X pv b ∨ w1.heap.size ≤ b) → XO X pv b := fun b hb h => by
    rcases h with h | h
    · exact h
    · omega
  have hZ2 : ∀ b, b < w2.heap.size → XO X (.slice (some ⟨g, 0, none⟩) (rows.length + 1) cap) b → (XO X pv b ∨ w1.heap.size ≤ b) := fun b _ h => by
    rcases h with h | h
    · exact .inl (.inl h)
    · simp [Value.ownBlock] at h
      subst h
      rcases hgg with h | h
      · exact .inl (.inr h)
      · exact .inr h
  have hfZ : Fr (fun b => XO X pv b ∨ w1.heap.size ≤ b) w1 w2 := Fr.grown hg (fun k e _ => .inl (.inr e))
  have hne : ∀ g, lv.ownBlock = some g → pv.ownBlock ≠ some g := fun g' h1 h2 => by
    have := hXlt g' (hlv g' h1)
    have := hpv g' h2
    omega
  refine ⟨?_, ?_, ?_, ?_, ?_⟩
  · have hL' : LinesR w1 (XO X pv) (rows ++ [(nm, a)]) (acc ++ [(nm, t)]) := hL.snoc ht
    exact ((hL'.avoid hZ1).keep hfZ).avoid hZ2
  · have h1 : PS w1 (fun b => XO X pv b ∨ w1.heap.size ≤ b) pb s m lv lines bad deep := hS.avoid hZ1 (fun g' hg' => .inl (hS.lx g' hg'))
    have h2 := PS.grow h1 hO (fun g' hg' => .inl (.inr hg')) hne hg
    exact h2.avoid hZ2 (fun g' hg' => .inl (hlv g' hg'))
  · rw [rowCells_snoc, List.length_append]
    exact hO2
  · intro g' hg'
    simp [Value.ownBlock] at hg'
    subst hg'
    rcases hgg with h | h
    · exact hpv _ h
    · omega
  · exact Fr.grown hg (fun k e _ => hpv k e)

theorem Tryz.info67 : (Tryz.prog.info? 180).map (fun i => (i.zero, i.size, i.bytes)) = some (some (.agg #[.string ⟨#[]⟩, .pointer none]), 2, 24) := by kernel_rfl

theorem pParts_ge (rd : Nat → Option Nat → Res) (hrd : ∀ n bad, n ≤ (rd n bad).n) (s : ByteArray) (kind btw close : Nat) : ∀ (k : Nat) (acc : List (ByteArray × PT)) (n : Nat) (bad : Option Nat), n ≤ (pParts rd s kind btw close k acc n bad).n := by
  have hp : ∀ others n bad, n ≤ (pPart rd s others 58 n bad).n := by
    intro others n bad
    unfold pPart
    have hge := lettersTo_ge s 6 n
    split
    · exact hge
    · split
      · have := hrd (lettersTo s n 6 + 1) (nameBad s others n bad); omega
      · exact hge
  intro k
  induction k with
  | zero => intro acc n bad; exact Nat.le_refl _
  | succ k ih =>
    intro acc n bad
    have h1 := hp (acc.map (·.1)) n bad
    simp only [pParts]
    split
    · exact h1
    · split
      · show n ≤ _ + 1; omega
      · split
        · exact h1
        · exact Nat.le_trans h1 (Nat.le_trans (Nat.le_succ _) (ih _ _ _))
theorem pNamed_ge (s : ByteArray) (lines : List (ByteArray × PT)) (n : Nat) (bad : Option Nat) : n ≤ (pNamed s lines n bad).n := by
  have hge := lettersTo_ge s 6 n
  unfold pNamed
  split
  · exact Nat.le_refl _
  · split
    · exact hge
    · split
      · exact hge
      · exact hge
theorem pTyp_ge (s : ByteArray) (lines : List (ByteArray × PT)) : ∀ (f n : Nat) (bad : Option Nat), n ≤ (pTyp s lines f n bad).n := by
  intro f
  induction f with
  | zero => intro n bad; exact Nat.le_refl _
  | succ f ih =>
    intro n bad
    have h1 := ih (n + 1) bad
    simp only [pTyp]
    split
    · split
      · show n ≤ _; simp only [noRes]; omega
      · split
        · show n ≤ _ + 1; omega
        · show n ≤ _; simp only [noRes]; omega
    · split
      · split
        · show n ≤ _; simp only [noRes]; omega
        · exact Nat.le_trans (Nat.le_succ n) h1
      · split
        · have := pParts_ge (pTyp s lines f) ih s 9 44 125 6 [] (n + 1) bad; omega
        · split
          · have := pParts_ge (pTyp s lines f) ih s 10 124 62 6 [] (n + 1) bad; omega
          · exact pNamed_ge s lines n bad

/-- How many elements a slice has. -/
def lenV : Value → Nat
  | .slice _ n _ => n
  | _ => 0

theorem pPart_ge (s : ByteArray) (lines : List (ByteArray × PT)) (f : Nat) (others : List ByteArray) (sign n : Nat) (bad : Option Nat) : n ≤ (pPart (pTyp s lines f) s others sign n bad).n ∨ (pPart (pTyp s lines f) s others sign n bad).ok = false := by
  unfold pPart
  have hge := lettersTo_ge s 6 n
  split
  · exact .inl hge
  · split
    · have := pTyp_ge s lines f (lettersTo s n 6 + 1) (nameBad s others n bad)
      exact .inl (by omega)
    · exact .inl hge

set_option maxHeartbeats 8000000 in
theorem parts_any {w : World} {X : Nat → Prop} {pb : Nat} {s : ByteArray} {n f : Nat} {lv : Value} {lines : List (ByteArray × PT)} {bad deep : Option Nat} (hT : TypSaid s lines f) (hX : X pb) (h : PS w X pb s n lv lines bad deep) (hw : Words w) (hXlt : ∀ b, X b → b < w.heap.size) (hs : s.size ≤ maxLen)
    (hle : n ≤ s.size) (hf : s.size < n + f) (kind btw close : Nat) (hbt : btw < 256) (hcl : close < 256) (hd : ∀ n bad, (pTyp s lines f n bad).t.depth ≤ 1000000) :
    Calls Tryz.prog 257 #[.pointer (some ⟨pb, 0, none⟩), .int .i64 kind, .int .u8 btw, .int .u8 close] w fun e w' => TypPost w X pb s lv lines deep (pParts (pTyp s lines f) s kind btw close 6 [] n bad) e w' := by
  have hn1 := hide (h.not1 hw)
  have HLX := hide h.lx
  have HS := hide h
  have HW := hide hw
  have HX := hide hXlt
  have HT := hide hT
  have HD := hide hd
  clear h hw hXlt hT hd
  go_enter Tryz.func257, Tryz.ntmps257
  go_wp2_with fail
  go_loopw [10] (fun pv wr => ∃ (k m : Nat) (bad' : Option Nat) (acc : List (ByteArray × PT)) (rows : List (ByteArray × Addr)), k + 1 + acc.length = 6 ∧ lenV pv = acc.length ∧ n ≤ m ∧ m ≤ s.size ∧
      Hid (pParts (pTyp s lines f) s kind btw close 6 [] n bad = pParts (pTyp s lines f) s kind btw close (k + 1) acc m bad') ∧ Hid (wr.ownsRow 0 180 2 pv rows.length (rowCells rows)) ∧ Hid (∀ g, pv.ownBlock = some g → w.heap.size ≤ g) ∧
      Hid (LinesR wr (XO X pv) rows acc) ∧ Hid (PS wr (XO X pv) pb s m lv lines bad' deep) ∧ Hid (Words wr) ∧ Hid (Fr (One pb) w wr) ∧ Hid (∀ q ∈ acc, q.2.depth ≤ 1000000)) (fun pv _ => 6 - lenV pv)
  case atStart => exact ⟨5, n, bad, [], [], rfl, rfl, Nat.le_refl _, hle, rfl, World.ownsRow_nil _ _ _ _, fun g hg => by simp [Value.ownBlock] at hg, ⟨rfl, fun j p q hp => by simp at hp⟩, HS.out.avoid (fun b _ hb => by rcases hb with h | h; exact h; simp [Value.ownBlock] at h) (fun g hg => .inl (HLX g hg)), HW, Fr.refl _ _, fun q hq => by simp at hq⟩
  case round =>
    obtain ⟨k, m, bad', acc, rows, hk, hlen, hnm, hms, HP, HO, HPV, HL, HSr, HWr, HF, HDA⟩ := hrel
    have hrl : Hid (rows.length = acc.length) := HL.out.length
    have hX' : XO X u10 pb := .inl hX
    have HX' : Hid (∀ b, XO X u10 b → b < wr.heap.size) := fun b hb => by
      rcases hb with h | h
      · exact Nat.lt_of_lt_of_le (HX b h) HF.out.size
      · exact (HO.out.lt b h).2
    have HNE : Hid (∀ g, u10.ownBlock = some g → ¬ One pb g) := fun g hg e => by
      have e' : g = pb := e
      subst e'
      have := HPV g hg
      have := HX g hX
      omega
    have HLEN := hide hlen
    have hrn : rows.map (·.1) = acc.map (·.1) := HL.out.1
    have HRN := hide hrn
    clear hlen hrn
    go_wp2_with fail
    refine (part_at HT hX' HSr HWr HX' hs hms (by omega) u10 rows (by have := hrl.out; omega) HO HNE 58 58 (by omega) rfl).mono ?_
    rw [HRN.out]
    have HSTEP : Hid (pParts (pTyp s lines f) s kind btw close (k + 1) acc m bad' = 
        if (pPart (pTyp s lines f) s (acc.map (·.1)) 58 m bad').ok = false then noRes (pPart (pTyp s lines f) s (acc.map (·.1)) 58 m bad').n (pPart (pTyp s lines f) s (acc.map (·.1)) 58 m bad').bad else
        if byteAt s (pPart (pTyp s lines f) s (acc.map (·.1)) 58 m bad').n = close then ⟨true, compoundT kind (acc ++ [(nameAt s m, (pPart (pTyp s lines f) s (acc.map (·.1)) 58 m bad').t)]), (pPart (pTyp s lines f) s (acc.map (·.1)) 58 m bad').n + 1, (pPart (pTyp s lines f) s (acc.map (·.1)) 58 m bad').bad⟩ else
        if acc.length + 1 = 6 ∨ byteAt s (pPart (pTyp s lines f) s (acc.map (·.1)) 58 m bad').n ≠ btw then noRes (pPart (pTyp s lines f) s (acc.map (·.1)) 58 m bad').n (pPart (pTyp s lines f) s (acc.map (·.1)) 58 m bad').bad else
        pParts (pTyp s lines f) s kind btw close k (acc ++ [(nameAt s m, (pPart (pTyp s lines f) s (acc.map (·.1)) 58 m bad').t)]) ((pPart (pTyp s lines f) s (acc.map (·.1)) 58 m bad').n + 1) (pPart (pTyp s lines f) s (acc.map (·.1)) 58 m bad').bad) := rfl
    have hrd : (pPart (pTyp s lines f) s (acc.map (·.1)) 58 m bad').t.depth ≤ 1000000 := by
      unfold pPart
      split
      · exact Nat.zero_le _
      · split
        · exact HD _ _
        · exact Nat.zero_le _
    have hrge : m ≤ (pPart (pTyp s lines f) s (acc.map (·.1)) 58 m bad').n ∨ (pPart (pTyp s lines f) s (acc.map (·.1)) 58 m bad').ok = false := pPart_ge s lines f _ 58 m bad'
    generalize pPart (pTyp s lines f) s (acc.map (·.1)) 58 m bad' = r at *
    rintro e w1 ⟨hF1, hrs, ⟨bad1, hS1, hb1⟩, nm, a, rfl, hok⟩
    have HF1 := hide hF1
    have HS1 := hide hS1
    have HW1 := hide (HWr.out.keep hF1 hn1)
    clear hF1 hS1
    rcases hr : r.ok with _ | _
    · have HR : Hid (pParts (pTyp s lines f) s kind btw close 6 [] n bad = noRes r.n r.bad) := HP.out.trans (by rw [HSTEP.out, hr]; rfl)
      have HRO := hide hr
      clear hr hok hb1 HSTEP HP
      go_wp2_with fail
      go_ret2
      rw [HR.out]
      refine ⟨HF.out.trans (HF1.out.trans (Fr.alloc _ _ _)), hrs, ⟨bad1, (PS.keep0 hX' HS1 (Fr.alloc _ _ _)).avoid (fun b _ hb => .inl hb) HLX, fun h => by cases h⟩, none, rfl, fun h => by cases h⟩
    · obtain ⟨hnm2, a', rfl, hta⟩ := hok hr
      have hbb := hb1 hr
      subst hnm2
      subst hbb
      have hrge' : m ≤ r.n := by
        rcases hrge with h | h
        · exact h
        · rw [hr] at h; cases h
      have HSTEP2 : Hid (pParts (pTyp s lines f) s kind btw close 6 [] n bad = 
          if byteAt s r.n = close then ⟨true, compoundT kind (acc ++ [(nameAt s m, r.t)]), r.n + 1, r.bad⟩ else
          if acc.length + 1 = 6 ∨ byteAt s r.n ≠ btw then noRes r.n r.bad else
          pParts (pTyp s lines f) s kind btw close k (acc ++ [(nameAt s m, r.t)]) (r.n + 1) r.bad) := HP.out.trans (by rw [HSTEP.out, hr]; rfl)
      have HTA := hide hta
      clear hr hok hb1 hta hrge HSTEP HP
      generalize nameAt s m = nm at *
      obtain ⟨i0, hi, hz0, hz1, hz2⟩ := info_parts Tryz.info67
      go_wp2_with (at_builtin; refine wpList_append_mine _ rfl _ _ 176 rfl 0 180 i0 (.agg #[.string ⟨#[]⟩, .pointer none]) 2 24 Tryz.underlying176 hi hz0 hz1 hz2 rfl (by decide) u10 rows.length (rowCells rows) rfl ?o1 ⟨w1.heap.size + 1, 0, none⟩ 1 1 (by omega) [.string nm, .pointer (some a')] rfl rfl ?c1 ?c2 ?c3 ?c4 (Nat.zero_le _) ?_)
      case o1 => exact (ownsRow_keep HO.out HF1 HNE.out).alloc _ |>.alloc _
      case c1 =>
        intro j u hj
        match j, hj with
        | 0, hj => simp at hj; subst hj; simp [Addr.add]
        | 1, hj => simp at hj; subst hj; simp [Addr.add]
        | j + 2, hj => simp at hj
      case c2 => intro u hu; simp at hu; rcases hu with rfl | rfl <;> rfl
      case c3 => have := hrl.out; unfold maxLen; omega
      case c4 => have := hrl.out; omega
      intro v' w2 hO2 hg2 g cap hv' hgg
      have hFa : Fr (One pb) wr ((w1.alloc (.cells #[.string nm, .pointer (some a')] 180)).alloc (.cells #[.string nm, .pointer (some a')] 180)) := HF1.out.trans ((Fr.alloc _ _ _).trans (Fr.alloc _ _ _))
      have hFz : Fr Zero w1 ((w1.alloc (.cells #[.string nm, .pointer (some a')] 180)).alloc (.cells #[.string nm, .pointer (some a')] 180)) := (Fr.alloc _ _ _).trans (Fr.alloc _ _ _)
      have hFG := grow_step (B := w.heap.size) (ownsRow_keep HO.out hFa HNE.out) HPV HX (Nat.le_trans HF.out.size hFa.size) (HL.out.keep (hFa.one hX')) (PS.keep0 hX' HS1 hFz) (HTA.out.keep hFz.of0) HLX hO2 hg2 ⟨g, cap, hv', by simpa using hgg⟩
      obtain ⟨hL2, hS2, hO3, hpv2, hF2⟩ := hFG
      have HF2 := hide ((HF.out.trans hFa).past hF2)
      have HW2 := hide (HW.out.keep HF2.out hn1)
      have HL2 := hide hL2
      have HS2 := hide hS2
      have HO3 := hide hO3
      have HPV2 := hide hpv2
      subst hv'
      clear hO2 hg2 hgg hFa hFz hL2 hS2 hO3 hpv2 hF2 HF1 HS1 HW1 HO HL HSr HWr HF HPV HTA hi hz0 hz1 hz2 HNE HX'
      have hX2 : XO X (.slice (some ⟨g, 0, none⟩) (rows.length + 1) cap) pb := .inl hX
      have HDA2 : Hid (∀ q ∈ acc ++ [(nm, r.t)], q.2.depth ≤ 1000000) := fun q hq => by
        rcases List.mem_append.1 hq with h | h
        · exact HDA q h
        · simp at h; subst h; exact hrd
      by_cases hc : byteAt s r.n = close
      · have HR : Hid (pParts (pTyp s lines f) s kind btw close 6 [] n bad = ⟨true, compoundT kind (acc ++ [(nm, r.t)]), r.n + 1, r.bad⟩) := HSTEP2.out.trans (by rw [if_pos hc])
        have hcI : Hid ((byteAt s r.n : Int) = close) := by simp [Hid, hc]
        have hr1 : r.n + 1 ≤ s.size := byteAt_in (by omega)
        clear hc HSTEP2
        go_wp2_with fail
        refine (psAccept_yes hX2 HS2 hs close hcI (by omega)).mono ?_
        rintro e w3 ⟨rfl, hF3, hS3⟩
        have HF3 := hide hF3
        have HS3 := hide hS3
        clear hF3 hS3
        go_wp2_with fail
        refine (compound_any kind 0 (.slice (some ⟨g, 0, none⟩) (rows.length + 1) cap) (rows ++ [(nm, a')]) (acc ++ [(nm, r.t)]) X _ (by have := hrl.out; simp; omega) (by simp) HDA2 ((HL2.out.keep (HF3.out.one hX2)).avoid (fun b _ hb => .inl hb)) (ownsRow_keep HO3.out HF3 ?_) ?_ ?_).mono ?_
        · intro g' hg' e
          have e' : g' = pb := e
          subst e'
          have := HPV2 g' hg'
          have := HX g' hX
          omega
        · intro g' hg' hx
          have := HPV2 g' hg'
          have := HX g' hx
          omega
        · intro b hb
          have := HX b hb
          have := HF2.out.size
          have := HF3.out.size
          omega
        rintro e w4 ⟨hF4, a4, rfl, ht4⟩
        have HF4 := hide hF4
        have HT4 := hide ht4
        clear hF4 ht4
        go_wp2_with fail
        go_ret2
        rw [HR.out]
        exact ⟨HF2.out.trans (HF3.out.trans HF4.out.of0), hr1, ⟨r.bad, (PS.keep0 hX2 HS3 HF4).avoid (fun b _ hb => .inl hb) HLX, fun _ => rfl⟩, some a4, rfl, fun _ => ⟨a4, rfl, HT4⟩⟩
      · have hcI : Hid ((byteAt s r.n : Int) ≠ close) := fun e => hc (by omega)
        have HSTEP3 : Hid (pParts (pTyp s lines f) s kind btw close 6 [] n bad = 
            if acc.length + 1 = 6 ∨ byteAt s r.n ≠ btw then noRes r.n r.bad else
            pParts (pTyp s lines f) s kind btw close k (acc ++ [(nm, r.t)]) (r.n + 1) r.bad) := HSTEP2.out.trans (by rw [if_neg hc])
        clear hc HSTEP2
        go_wp2_with fail
        refine (psAccept_no hX2 HS2 hs hrs close hcI).mono ?_
        rintro e w3 ⟨rfl, hF3, hS3⟩
        have HF3 := hide hF3
        have HS3 := hide hS3
        clear hF3 hS3
        by_cases h6 : acc.length + 1 = 6
        · have HR : Hid (pParts (pTyp s lines f) s kind btw close 6 [] n bad = noRes r.n r.bad) := HSTEP3.out.trans (by rw [if_pos (.inl h6)])
          have hq : ((rows.length : Int) + 1 == 6) = true := beq_iff_eq.2 (by have := hrl.out; omega)
          clear h6 HSTEP3
          go_wp2_with fail
          go_ret2
          rw [HR.out]
          exact ⟨HF2.out.trans HF3.out, hrs, ⟨r.bad, HS3.out.avoid (fun b _ hb => .inl hb) HLX, fun h => by cases h⟩, none, rfl, fun h => by cases h⟩
        · have hq : ((rows.length : Int) + 1 == 6) = false := beq_eq_false_iff_ne.2 (by have := hrl.out; omega)
          by_cases hb : byteAt s r.n = btw
          · have HR : Hid (pParts (pTyp s lines f) s kind btw close 6 [] n bad = pParts (pTyp s lines f) s kind btw close k (acc ++ [(nm, r.t)]) (r.n + 1) r.bad) := HSTEP3.out.trans (by rw [if_neg (by omega)])
            have hbI : Hid ((byteAt s r.n : Int) = btw) := by simp [Hid, hb]
            have hr1 : r.n + 1 ≤ s.size := byteAt_in (by omega)
            have hacc := h6
            clear hb HSTEP3 h6
            go_wp2_with fail
            refine (psAccept_yes hX2 HS3 hs btw hbI (by omega)).mono ?_
            rintro e w4 ⟨rfl, hF4, hS4⟩
            have HF4 := hide hF4
            have HS4 := hide hS4
            clear hF4 hS4
            go_wp2_with fail
            go_roundw
            case rel =>
              have hF24 : Fr (One pb) w2 w4 := HF3.out.trans HF4.out
              refine ⟨k - 1, r.n + 1, r.bad, acc ++ [(nm, r.t)], rows ++ [(nm, a')], by simp; omega, by have := hrl.out; simp [lenV]; omega, by omega, hr1, ?_, ownsRow_keep HO3.out hF24 (fun g' hg' e => ?_), HPV2, HL2.out.keep (hF24.one hX2), HS4, HW2.out.keep hF24 hn1, HF2.out.trans hF24, HDA2⟩
              · rw [HR.out, show k - 1 + 1 = k by omega]; rfl
              · have e' : g' = pb := e
                subst e'
                have := HPV2 g' hg'
                have := HX g' hX
                omega
            case measure =>
              show 6 - (rows.length + 1) < 6 - lenV u10
              rw [HLEN.out]
              have := hrl.out
              omega
          · have HR : Hid (pParts (pTyp s lines f) s kind btw close 6 [] n bad = noRes r.n r.bad) := HSTEP3.out.trans (by rw [if_pos (.inr hb)])
            have hbI : Hid ((byteAt s r.n : Int) ≠ btw) := fun e => hb (by omega)
            clear hb HSTEP3 h6
            go_wp2_with fail
            refine (psAccept_no hX2 HS3 hs hrs btw hbI).mono ?_
            rintro e w4 ⟨rfl, hF4, hS4⟩
            have HF4 := hide hF4
            have HS4 := hide hS4
            clear hF4 hS4
            go_wp2_with fail
            go_ret2
            rw [HR.out]
            exact ⟨HF2.out.trans (HF3.out.trans HF4.out), hrs, ⟨r.bad, HS4.out.avoid (fun b _ hb => .inl hb) HLX, fun h => by cases h⟩, none, rfl, fun h => by cases h⟩

end Go.Proofs.YtapblkmlhoalgaaGreatDoor
