/- The two readers' pure functions, held against each other: types. -/
import Derived.Test.YtapblkmlhoalgaaDoorPure2
namespace Go.Proofs.YtapblkmlhoalgaaDoor

theorem dMax_congr {vs vs' : List (Nat × Option Nat)} {l : List Nat} (h : ∀ y ∈ l, vAt vs' y = vAt vs y) : dMax vs' l = dMax vs l := by
  unfold dMax
  have : ∀ (m : List Nat) (c : Nat), (∀ y ∈ m, vAt vs' y = vAt vs y) → m.foldl (fun c y => max c (vAt vs' y).1) c = m.foldl (fun c y => max c (vAt vs y).1) c := by
    intro m
    induction m with
    | nil => intro c _; rfl
    | cons y m ih => intro c hm; simp only [List.foldl_cons]; rw [hm y (by simp)]; exact ih _ (fun z hz => hm z (by simp [hz]))
  exact this l 0 h
theorem dMax_snoc (vs : List (Nat × Option Nat)) (l : List Nat) (x : Nat) : dMax vs (l ++ [x]) = max (dMax vs l) (vAt vs x).1 := by
  simp [dMax, List.foldl_append]

theorem bad_eq (b0 W V : Option Nat) (n : Nat) (c : Bool) : orO (if c = true then orElse (orO b0 W) n else orO b0 W) V = orO b0 (orO W (if c = true then some n else V)) := by
  cases b0 <;> cases W <;> cases c <;> simp [orO, orElse]

def PartsJ (s : ByteArray) (lines : List (ByteArray × PT)) (f g kind btw close : Nat) (tab0 : List RT) (lo : Nat) (b0 : Option Nat) (k : Nat) : Prop :=
  ∀ (acc : List (ByteArray × PT)) (n : Nat) (bad : Option Nat) (t : RT) (tab : List RT), k + acc.length = 6 → acc.length ≠ 6 → n + 1 ≤ s.size → s.size < n + 2 + f → s.size < n + 2 + g →
      t.kind = kind → t.names = acc.map (·.1) → t.of.length = acc.length → t.ats.length = acc.length → (∃ new, tab = tab0 ++ new) → RowsOK lo tab → (∀ y ∈ t.of, lo ≤ y ∧ y < tab.length) → maxDepth acc = dMax (vList lines tab tab.length) t.of → bad = orO b0 (wLoop (vList lines tab tab.length) t t.of.length 0) →
      J s lines tab0 lo b0 (pParts (pTyp s lines f) s kind btw close k acc (n + 1) bad) (rAdd (rMust s close (rLoop (rTyp s g) s btw k t ⟨n, false, tab⟩).2) (rLoop (rTyp s g) s btw k t ⟨n, false, tab⟩).1)

theorem parts_step {s : ByteArray} {lines : List (ByteArray × PT)} {f g : Nat} (hT : TypJ s lines f g) (kind btw close : Nat) (hkd : kind ≠ 11) (hbt : btw < 97 ∨ 122 < btw) (hcl : close < 97 ∨ 122 < close) (hb256 : btw < 256) (hc256 : close < 256) (hbc : btw ≠ close) (tab0 : List RT) (lo : Nat) (hlo : lo ≤ tab0.length) (b0 : Option Nat) (k : Nat) (hrec : PartsJ s lines f g kind btw close tab0 lo b0 k) : PartsJ s lines f g kind btw close tab0 lo b0 (k + 1) := by
  intro acc n bad t tab h6 hne6 hn hf hg hk hnm hol hal hext hok hof hmd hbd
  have hP := part_joint hT (n + 1) bad tab lo (acc.map (·.1)) 58 (by omega) (by obtain ⟨new, rfl⟩ := hext; simp; omega) hok hn (by omega) (by omega)
  have eP : pParts (pTyp s lines f) s kind btw close (k + 1) acc (n + 1) bad = if (pPart (pTyp s lines f) s (acc.map (·.1)) 58 (n + 1) bad).ok = false then noRes (pPart (pTyp s lines f) s (acc.map (·.1)) 58 (n + 1) bad).n (pPart (pTyp s lines f) s (acc.map (·.1)) 58 (n + 1) bad).bad else
      if byteAt s (pPart (pTyp s lines f) s (acc.map (·.1)) 58 (n + 1) bad).n = close then ⟨true, compoundT kind (acc ++ [(nameAt s (n + 1), (pPart (pTyp s lines f) s (acc.map (·.1)) 58 (n + 1) bad).t)]), (pPart (pTyp s lines f) s (acc.map (·.1)) 58 (n + 1) bad).n + 1, (pPart (pTyp s lines f) s (acc.map (·.1)) 58 (n + 1) bad).bad⟩ else
      if acc.length + 1 = 6 ∨ byteAt s (pPart (pTyp s lines f) s (acc.map (·.1)) 58 (n + 1) bad).n ≠ btw then noRes (pPart (pTyp s lines f) s (acc.map (·.1)) 58 (n + 1) bad).n (pPart (pTyp s lines f) s (acc.map (·.1)) 58 (n + 1) bad).bad else
      pParts (pTyp s lines f) s kind btw close k (acc ++ [(nameAt s (n + 1), (pPart (pTyp s lines f) s (acc.map (·.1)) 58 (n + 1) bad).t)]) ((pPart (pTyp s lines f) s (acc.map (·.1)) 58 (n + 1) bad).n + 1) (pPart (pTyp s lines f) s (acc.map (·.1)) 58 (n + 1) bad).bad := rfl
  have eR : rLoop (rTyp s g) s btw (k + 1) t ⟨n, false, tab⟩ = if rIs s (rTyp s g (rMust s 58 ⟨wordN s (n + 1) false, nameB s (n + 1) false, tab⟩)).1.n (rTyp s g (rMust s 58 ⟨wordN s (n + 1) false, nameB s (n + 1) false, tab⟩)).1.bad btw = true ∧ t.of.length + 1 ≠ 6 then
      rLoop (rTyp s g) s btw k ⟨t.kind, t.of ++ [(rTyp s g (rMust s 58 ⟨wordN s (n + 1) false, nameB s (n + 1) false, tab⟩)).2], t.names ++ [wordS s (n + 1) false], t.ats ++ [n + 1]⟩ (rTyp s g (rMust s 58 ⟨wordN s (n + 1) false, nameB s (n + 1) false, tab⟩)).1
      else (⟨t.kind, t.of ++ [(rTyp s g (rMust s 58 ⟨wordN s (n + 1) false, nameB s (n + 1) false, tab⟩)).2], t.names ++ [wordS s (n + 1) false], t.ats ++ [n + 1]⟩, (rTyp s g (rMust s 58 ⟨wordN s (n + 1) false, nameB s (n + 1) false, tab⟩)).1) := rfl
  rw [eP, eR]
  have hpge : n + 1 ≤ (pPart (pTyp s lines f) s (acc.map (·.1)) 58 (n + 1) bad).n := pPart_ge2 _ (pTyp_ge s lines f) s _ 58 (n + 1) bad
  clear eP eR
  generalize pPart (pTyp s lines f) s (acc.map (·.1)) 58 (n + 1) bad = p at *
  generalize rTyp s g (rMust s 58 ⟨wordN s (n + 1) false, nameB s (n + 1) false, tab⟩) = r at *
  obtain ⟨r1, x⟩ := r
  obtain ⟨rn, rb, rtab⟩ := r1
  obtain ⟨pok, pt, pn, pb⟩ := p
  simp only at hP hpge ⊢
  obtain ⟨hpn, hps, hcase⟩ := hP
  subst hpn
  rcases hcase with ⟨hok1, hbad1, hws, hgood⟩ | ⟨hbad1, hor⟩
  · subst hok1 hbad1
    obtain ⟨⟨new1, htab1⟩, hrows, hx1, hx2, hdep, hpb⟩ := hgood
    simp only at htab1 hrows hx1 hx2 hdep hpb
    subst htab1
    rw [hws]
    obtain ⟨new, rfl⟩ := hext
    have hvv : ∀ y, y < (tab0 ++ new).length → vAt (vList lines ((tab0 ++ new) ++ new1) ((tab0 ++ new) ++ new1).length) y = vAt (vList lines (tab0 ++ new) (tab0 ++ new).length) y := fun y hy => by
      rw [vAt_list lines _ y _ (by rw [List.length_append]; omega), vAt_list lines _ y _ hy, vOf_app lines _ _ y hy]
    have hvx : vAt (vList lines ((tab0 ++ new) ++ new1) ((tab0 ++ new) ++ new1).length) x = vOf lines ((tab0 ++ new) ++ new1) x := vAt_list lines _ x _ hx2
    have hmd' : maxDepth (acc ++ [(nameAt s (n + 1), pt)]) = dMax (vList lines ((tab0 ++ new) ++ new1) ((tab0 ++ new) ++ new1).length) (t.of ++ [x]) := by
      rw [maxDepth_snoc, dMax_snoc, hvx, ← hdep, hmd, dMax_congr (fun y hy => hvv y (hof y hy).2)]
    have hbd' : pb = orO b0 (wLoop (vList lines ((tab0 ++ new) ++ new1) ((tab0 ++ new) ++ new1).length) ⟨t.kind, t.of ++ [x], t.names ++ [nameAt s (n + 1)], t.ats ++ [n + 1]⟩ (t.of ++ [x]).length 0) := by
      rw [show (t.of ++ [x]).length = t.of.length + 1 by simp]
      rw [wLoop_snoc (by rw [hnm, List.length_map]; omega) (by omega) (fun y hy => hvv y (hof y hy).2) t.of.length 0 (by omega)]
      rw [hpb, hvx, ← bad_eq, hbd, hnm]
      rfl
    have hof' : ∀ y ∈ t.of ++ [x], lo ≤ y ∧ y < ((tab0 ++ new) ++ new1).length := fun y hy => by
      rcases List.mem_append.1 hy with h | h
      · have := hof y h; rw [List.length_append]; omega
      · simp at h; subst h
        have : lo ≤ (tab0 ++ new).length := by rw [List.length_append]; omega
        omega
    have hext' : ∃ z, (tab0 ++ new) ++ new1 = tab0 ++ z := ⟨new ++ new1, by simp⟩
    by_cases hc : byteAt s pn = close
    · rw [if_neg (by simp), if_pos hc, if_neg (by rw [rIs_false (by omega)]; simp)]
      simp only
      rw [rMust_yes _ hc]
      have hp1 : pn + 1 ≤ s.size := byteAt_in (by omega)
      refine ⟨rfl, hp1, .inl ⟨rfl, rfl, ?_⟩⟩
      refine good_add hlo hext' hrows (fun _ => ⟨hof', .inr ⟨?_, ?_⟩⟩) (fun h => absurd (hk.symm.trans h) hkd) ?_ ?_
      · simp only [List.length_append, List.length_cons, List.length_nil]; rw [hnm, List.length_map]; omega
      · simp only [List.length_append, List.length_cons, List.length_nil]; omega
      · show maxDepth (acc ++ [(nameAt s (n + 1), pt)]) + 1 = _
        unfold vRow
        rw [if_neg (by show ¬ t.kind = 11; rw [hk]; exact hkd), hmd']
      · show pb = _
        unfold vRow
        rw [if_neg (by show ¬ t.kind = 11; rw [hk]; exact hkd)]
        exact hbd'
    · rw [if_neg (by simp), if_neg hc]
      by_cases h6' : acc.length + 1 = 6 ∨ byteAt s pn ≠ btw
      · rw [if_pos h6', if_neg (by
          rintro ⟨h1, h2⟩
          rcases h6' with h | h
          · omega
          · rw [rIs_false h] at h1; cases h1)]
        simp only
        rw [rMust_no _ hc]
        exact ⟨rfl, hps, .inr ⟨rfl, .inl rfl⟩⟩
      · have hb : byteAt s pn = btw := by
          rcases Nat.decEq (byteAt s pn) btw with h | h
          · exact absurd (.inr h) h6'
          · exact h
        have hl6 : acc.length + 1 ≠ 6 := fun h => h6' (.inl h)
        rw [if_neg h6', if_pos ⟨rIs_true hb, by omega⟩]
        have hp1 : pn + 1 ≤ s.size := byteAt_in (by omega)
        exact hrec (acc ++ [(nameAt s (n + 1), pt)]) pn pb ⟨t.kind, t.of ++ [x], t.names ++ [nameAt s (n + 1)], t.ats ++ [n + 1]⟩ ((tab0 ++ new) ++ new1) (by simp only [List.length_append, List.length_cons, List.length_nil]; omega) (by simp only [List.length_append, List.length_cons, List.length_nil]; omega) hp1 (by omega) (by omega)
          hk (by simp [hnm]) (by simp only [List.length_append, List.length_cons, List.length_nil]; omega) (by simp only [List.length_append, List.length_cons, List.length_nil]; omega) hext' hrows hof' hmd' hbd'
  · subst hbad1
    rw [if_neg (c := rIs s pn true btw = true ∧ t.of.length + 1 ≠ 6) (by simp [rIs])]
    simp only
    rw [rMust_bad]
    rcases hor with h | h
    · subst h
      rw [if_pos rfl]
      exact ⟨rfl, hps, .inr ⟨rfl, .inl rfl⟩⟩
    · by_cases hpk : pok = false
      · rw [if_pos hpk]
        exact ⟨rfl, hps, .inr ⟨rfl, .inl rfl⟩⟩
      · rw [if_neg hpk, if_neg (letter_ne h hcl), if_pos (.inr (letter_ne h hbt))]
        exact ⟨rfl, hps, .inr ⟨rfl, .inl rfl⟩⟩

theorem parts_joint {s : ByteArray} {lines : List (ByteArray × PT)} {f g : Nat} (hT : TypJ s lines f g) (kind btw close : Nat) (hkd : kind ≠ 11) (hbt : btw < 97 ∨ 122 < btw) (hcl : close < 97 ∨ 122 < close) (hb256 : btw < 256) (hc256 : close < 256) (hbc : btw ≠ close) (tab0 : List RT) (lo : Nat) (hlo : lo ≤ tab0.length) (b0 : Option Nat) : ∀ k, PartsJ s lines f g kind btw close tab0 lo b0 k := by
  intro k
  induction k with
  | zero => intro acc n bad t tab h6 hne6; omega
  | succ k ih => exact parts_step hT kind btw close hkd hbt hcl hb256 hc256 hbc tab0 lo hlo b0 k ih

theorem named_joint {s : ByteArray} {lines : List (ByteArray × PT)} (n : Nat) (bad : Option Nat) (tab : List RT) (lo : Nat) (hlo : lo ≤ tab.length) (hok : RowsOK lo tab) (hn : n ≤ s.size) :
    J s lines tab lo bad (pNamed s lines n bad) (match wordIdx (wordS s n false) with
      | some k => rAdd ⟨wordN s n false, wordB s n false, tab⟩ ⟨k, [], [], []⟩
      | none => rAdd ⟨wordN s n false, wordB s n false, tab⟩ ⟨11, [], [wordS s n false], [n]⟩) := by
  have hge := lettersTo_ge s 6 n
  have hle := lettersTo_le s 6 n hn
  have eN : wordN s n false = lettersTo s n 6 := rfl
  rw [eN]
  by_cases htm : tooMany s n = true
  · have hB : wordB s n false = true := by simp [wordB, htm]
    have h6 : lettersTo s n 6 = n + 6 ∧ isLetter s (n + 6) = true := by unfold tooMany at htm; simpa using htm
    have hpn : (pNamed s lines n bad).n = lettersTo s n 6 := by
      unfold pNamed
      rw [if_neg (by omega)]
      split
      · rfl
      · split <;> rfl
    rw [hB]
    have hL : isLetter s (lettersTo s n 6) = true := by rw [h6.1]; exact h6.2
    split
    · exact ⟨hpn, by rw [hpn]; exact hle, .inr ⟨rfl, .inr (by rw [hpn]; exact hL)⟩⟩
    · exact ⟨hpn, by rw [hpn]; exact hle, .inr ⟨rfl, .inr (by rw [hpn]; exact hL)⟩⟩
  · have htm' : tooMany s n = false := by simpa using htm
    have hws : wordS s n false = nameAt s n := by simp [wordS, htm']
    rw [hws]
    by_cases hm : lettersTo s n 6 = n
    · have hB : wordB s n false = true := by simp [wordB, hm]
      have hp : pNamed s lines n bad = noRes n bad := by unfold pNamed; rw [if_pos hm]
      rw [hB, hp, hm]
      split
      · exact ⟨rfl, hn, .inr ⟨rfl, .inl rfl⟩⟩
      · exact ⟨rfl, hn, .inr ⟨rfl, .inl rfl⟩⟩
    · have hB : wordB s n false = false := by simp [wordB, htm', hm]
      rw [hB]
      rcases hk : wordIdx (nameAt s n) with _ | k
      · rcases hl : lineOf (nameAt s n) lines with _ | q
        · have hp : pNamed s lines n bad = ⟨true, PT.dummy, lettersTo s n 6, orElse bad n⟩ := by unfold pNamed; rw [if_neg hm, hk, hl]
          rw [hp]
          refine ⟨rfl, hle, .inl ⟨rfl, rfl, good_add hlo ⟨[], by simp⟩ hok (fun h => absurd rfl h) (fun _ => ⟨rfl, rfl, rfl⟩) ?_ ?_⟩⟩
          · simp [vRow, textAt, hl, PT.dummy]
          · simp [vRow, textAt, hl, numAt]
            cases bad <;> rfl
        · have hp : pNamed s lines n bad = ⟨true, q, lettersTo s n 6, bad⟩ := by unfold pNamed; rw [if_neg hm, hk, hl]
          rw [hp]
          refine ⟨rfl, hle, .inl ⟨rfl, rfl, good_add hlo ⟨[], by simp⟩ hok (fun h => absurd rfl h) (fun _ => ⟨rfl, rfl, rfl⟩) ?_ ?_⟩⟩
          · simp [vRow, textAt, hl]
          · simp [vRow, textAt, hl]
            cases bad <;> rfl
      · have h7 := (wordIdx_some hk).1
        have hp : pNamed s lines n bad = ⟨true, PT.word k, lettersTo s n 6, bad⟩ := by unfold pNamed; rw [if_neg hm, hk]
        rw [hp]
        have hk11 : ¬ k = 11 := by omega
        refine ⟨rfl, hle, .inl ⟨rfl, rfl, good_add hlo ⟨[], by simp⟩ hok (fun _ => ⟨fun y hy => by simp at hy, .inl rfl⟩) (fun h => absurd h hk11) ?_ ?_⟩⟩
        · simp [vRow, hk11, dMax, PT.word]
        · simp [vRow, hk11, wLoop]
          cases bad <;> rfl

theorem one_joint {lines : List (ByteArray × PT)} {tab : List RT} {x kd : Nat} {b0 pb : Option Nat} (hkd : ¬ kd = 11) (hx : x < tab.length) (hb : pb = orO b0 (vOf lines tab x).2) : pb = orO b0 (vRow lines (vList lines tab tab.length) ⟨kd, [x], [], []⟩).2 := by
  rw [hb]
  have e : (vRow lines (vList lines tab tab.length) ⟨kd, [x], [], []⟩).2 = (vOf lines tab x).2 := by
    unfold vRow
    rw [if_neg hkd]
    show wLoop _ ⟨kd, [x], [], []⟩ 1 0 = _
    simp only [wLoop, dup, numAt]
    simp
    rw [vAt_list lines tab x _ hx]
    cases (vOf lines tab x).2 <;> rfl
  rw [e]
theorem one_depth {lines : List (ByteArray × PT)} {tab : List RT} {x kd : Nat} {t : PT} (hkd : ¬ kd = 11) (hx : x < tab.length) (hd : t.depth = (vOf lines tab x).1) : (compoundT kd [(⟨#[]⟩, t)]).depth = (vRow lines (vList lines tab tab.length) ⟨kd, [x], [], []⟩).1 := by
  unfold vRow
  rw [if_neg hkd]
  show maxDepth [((⟨#[]⟩ : ByteArray), t)] + 1 = dMax _ [x] + 1
  simp [maxDepth, dMax]
  rw [vAt_list lines tab x _ hx, hd]

theorem typ_joint (s : ByteArray) (lines : List (ByteArray × PT)) : ∀ f g, TypJ s lines f g := by
  intro f
  induction f with
  | zero => intro g n bad tab lo hlo hok hn hf hg; omega
  | succ f ih =>
    intro g n bad tab lo hlo hok hn hf hg
    cases g with
    | zero => omega
    | succ g =>
      have ihg := ih g
      simp only [pTyp, rTyp, Bool.false_eq_true, ↓reduceIte]
      by_cases c1 : byteAt s n = 91
      · rw [if_pos c1, if_pos c1]
        have hn1 : n + 1 ≤ s.size := byteAt_in (by omega)
        have hJ := ihg (n + 1) bad tab lo hlo hok hn1 (by omega) (by omega)
        generalize pTyp s lines f (n + 1) bad = p at *
        generalize rTyp s g ⟨n + 1, false, tab⟩ = r at *
        obtain ⟨⟨rn, rb, rtab⟩, x⟩ := r
        obtain ⟨pok, pt, pn, pb⟩ := p
        obtain ⟨hpn, hps, hc⟩ := hJ
        simp only at hpn hps hc ⊢
        subst hpn
        rcases hc with ⟨rfl, rfl, ⟨⟨new, rfl⟩, hrows, hx1, hx2, hd, hb⟩⟩ | ⟨rfl, hor⟩
        · simp only at hrows hx1 hx2 hd hb
          rw [if_neg (by simp)]
          by_cases h93 : byteAt s pn = 93
          · rw [if_pos h93, rMust_yes _ h93]
            have hp1 : pn + 1 ≤ s.size := byteAt_in (by omega)
            exact ⟨rfl, hp1, .inl ⟨rfl, rfl, good_add hlo ⟨new, rfl⟩ hrows (fun _ => ⟨fun y hy => by simp at hy; subst hy; exact ⟨by omega, hx2⟩, .inl rfl⟩) (fun h => by cases h) (one_depth (by omega) hx2 hd) (one_joint (by omega) hx2 hb)⟩⟩
          · rw [if_neg h93, rMust_no _ h93]
            exact ⟨rfl, hps, .inr ⟨rfl, .inl rfl⟩⟩
        · rw [rMust_bad]
          by_cases hpk : pok = false
          · rw [if_pos hpk]
            exact ⟨rfl, hps, .inr ⟨rfl, .inl rfl⟩⟩
          · rcases hor with h | h
            · exact absurd h hpk
            · rw [if_neg hpk, if_neg (letter_ne h (by omega))]
              exact ⟨rfl, hps, .inr ⟨rfl, .inl rfl⟩⟩
      · rw [if_neg c1, if_neg c1]
        by_cases c2 : byteAt s n = 63
        · rw [if_pos c2, if_pos c2]
          have hn1 : n + 1 ≤ s.size := byteAt_in (by omega)
          have hJ := ihg (n + 1) bad tab lo hlo hok hn1 (by omega) (by omega)
          generalize pTyp s lines f (n + 1) bad = p at *
          generalize rTyp s g ⟨n + 1, false, tab⟩ = r at *
          obtain ⟨⟨rn, rb, rtab⟩, x⟩ := r
          obtain ⟨pok, pt, pn, pb⟩ := p
          obtain ⟨hpn, hps, hc⟩ := hJ
          simp only at hpn hps hc ⊢
          subst hpn
          rcases hc with ⟨rfl, rfl, ⟨⟨new, rfl⟩, hrows, hx1, hx2, hd, hb⟩⟩ | ⟨rfl, hor⟩
          · simp only at hrows hx1 hx2 hd hb
            rw [if_neg (by simp)]
            exact ⟨rfl, hps, .inl ⟨rfl, rfl, good_add hlo ⟨new, rfl⟩ hrows (fun _ => ⟨fun y hy => by simp at hy; subst hy; exact ⟨by omega, hx2⟩, .inl rfl⟩) (fun h => by cases h) (one_depth (by omega) hx2 hd) (one_joint (by omega) hx2 hb)⟩⟩
          · by_cases hpk : pok = false
            · rw [if_pos hpk]
              exact ⟨rfl, hps, .inr ⟨rfl, .inl rfl⟩⟩
            · rcases hor with h | h
              · exact absurd h hpk
              · rw [if_neg hpk]
                exact ⟨rfl, hps, .inr ⟨rfl, .inr h⟩⟩
        · rw [if_neg c2, if_neg c2]
          by_cases c3 : byteAt s n = 123
          · rw [if_pos c3, if_pos c3]
            have hn1 : n + 1 ≤ s.size := byteAt_in (by omega)
            exact parts_joint ihg 9 44 125 (by omega) (by omega) (by omega) (by omega) (by omega) (by omega) tab lo hlo bad 6 [] n bad ⟨9, [], [], []⟩ tab rfl (by simp) hn1 (by omega) (by omega) rfl rfl rfl rfl ⟨[], by simp⟩ hok (fun y hy => by simp at hy) rfl (by cases bad <;> rfl)
          · rw [if_neg c3, if_neg c3]
            by_cases c4 : byteAt s n = 60
            · rw [if_pos c4, if_pos c4]
              have hn1 : n + 1 ≤ s.size := byteAt_in (by omega)
              exact parts_joint ihg 10 124 62 (by omega) (by omega) (by omega) (by omega) (by omega) (by omega) tab lo hlo bad 6 [] n bad ⟨10, [], [], []⟩ tab rfl (by simp) hn1 (by omega) (by omega) rfl rfl rfl rfl ⟨[], by simp⟩ hok (fun y hy => by simp at hy) rfl (by cases bad <;> rfl)
            · rw [if_neg c4, if_neg c4]
              exact named_joint n bad tab lo hlo hok hn

end Go.Proofs.YtapblkmlhoalgaaDoor
