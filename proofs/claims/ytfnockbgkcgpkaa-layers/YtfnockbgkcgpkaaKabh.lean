import Derived.Test.YtfnockbgkcgpkaaKabf
import Derived.Test.YtfnockbgkcgpkaaKabg
set_option linter.all false
namespace Go.Proofs.Ytfnockbgkcgpkaa
open Go.RowKit Go.Proofs.Panes
set_option maxRecDepth 100000

/-- A client is right. -/
structure ClOk (c : Cfg) (l : List Srf) (j : Nat) (k : Cli) : Prop where
  own : vall (hav l j c.surfaces.toNat) k.q.flatten = some k.own
  tr : ∀ tr ∈ k.q, (1 ≤ tr.length ∧ tr.length ≤ 20) ∧ 1 ≤ costOf tr ∧ costOf tr ≤ c.most
  cr : 0 ≤ k.cr ∧ k.cr ≤ c.most
  ql : (k.q.length : Int) ≤ c.queue
structure CfgB (c : Cfg) : Prop where
  w : 1 ≤ c.w ∧ c.w ≤ 16
  h : 1 ≤ c.h ∧ c.h ≤ 16
  clients : 1 ≤ c.clients ∧ c.clients ≤ 4
  queue : 1 ≤ c.queue ∧ c.queue ≤ 8
  most : 1 ≤ c.most ∧ c.most ≤ 300
  quantum : c.most ≤ c.quantum ∧ c.quantum ≤ 600
  surfaces : 1 ≤ c.surfaces ∧ c.surfaces ≤ 4
  behind : 1 ≤ c.behind ∧ c.behind ≤ 4294967295
theorem cfgB {c : Cfg} (h : okCfg c = true) : CfgB c := by
  simp only [okCfg, Bool.and_eq_true, inB_iff] at h
  obtain ⟨⟨⟨⟨⟨⟨⟨a, b⟩, c⟩, d⟩, e⟩, f⟩, g⟩, i⟩ := h
  exact ⟨a, b, c, d, e, f, g, i⟩
theorem CfgB.ks {c : Cfg} (h : CfgB c) : c.clients.toNat * c.surfaces.toNat ≤ 16 := Nat.mul_le_mul (show c.clients.toNat ≤ 4 by have := h.clients; omega) (show c.surfaces.toNat ≤ 4 by have := h.surfaces; omega)
/-- A screen is right; not more than D operations have been done. -/
structure ScrOk (D : Nat) (s : Scrn) : Prop where
  cfg : okCfg s.c = true
  len : s.ks.length = s.c.clients.toNat
  W : s.f.W = s.c.w.toNat
  H : s.f.H = s.c.h.toNat
  st : StOk s.c.clients.toNat s.c.surfaces.toNat D (s.l, s.f)
  cl : ∀ (j : Nat) (k : Cli), s.ks[j]? = some (some k) → ClOk s.c s.l j k
  no : ∀ j : Nat, s.ks[j]? = some none → ∀ x ∈ s.l, x.cl ≠ (j : Int)

theorem takeN_spec : ∀ (l : List (List Opn)) (cr M : Int), 0 ≤ cr → (∀ x ∈ l, 0 ≤ costOf x ∧ costOf x ≤ M) → 0 ≤ (takeN cr l).2 ∧ (takeN cr l).2 ≤ cr ∧ ((takeN cr l).1 < l.length → (takeN cr l).2 < M) ∧ (M ≤ cr → l ≠ [] → 1 ≤ (takeN cr l).1)
  | [], cr, M, h, _ => ⟨h, Int.le_refl _, fun hh => by simp [takeN] at hh, fun _ hh => absurd rfl hh⟩
  | o :: l, cr, M, h, hm => by
    have ho := hm o (by simp)
    unfold takeN
    split
    · rename_i hle
      obtain ⟨a, b, c, _⟩ := takeN_spec l (cr - costOf o) M (by omega) (fun x hx => hm x (by simp [hx]))
      exact ⟨a, by simp only; omega, fun hh => c (by simp only [List.length_cons] at hh; omega), fun _ _ => by simp⟩
    · rename_i hle
      exact ⟨h, Int.le_refl _, fun _ => by simp only; omega, fun hh => by omega⟩
theorem hav_go (l : List Srf) (j S : Nat) : hav (l.map goS) j S = hav l j S := by
  unfold hav
  refine List.map_congr_left fun n _ => ?_
  rw [Bool.eq_iff_iff, any_isK, any_isK]
  have e : (l.map goS).map skey = l.map skey := by rw [List.map_map]; exact List.map_congr_left fun s _ => goS_key s
  rw [e]
theorem hav_none {K S : Nat} {B : Int} {l : List Srf} (h : ScOk K S B l) {j : Nat} : (∀ x ∈ l, x.cl ≠ (j : Int)) ↔ hav l j S = List.replicate S false := by
  constructor
  · intro hn
    apply List.ext_getElem?
    intro n
    by_cases hlt : n < S
    · rw [hav_at hlt, List.getElem?_replicate, if_pos hlt]
      congr 1
      rw [List.any_eq_false]
      intro x hx he
      have := isK_iff.1 he
      simp only [skey, Prod.mk.injEq] at this
      exact hn x hx this.1
    · rw [List.getElem?_eq_none (by rw [hav_len]; omega), List.getElem?_eq_none (by simp; omega)]
  · intro he x hx e
    have hk := h.ky x hx
    have h1 : (hav l j S)[x.num.toNat]? = some (l.any (isK (j : Int) ((x.num.toNat : Nat) : Int))) := hav_at (by omega)
    rw [he, List.getElem?_replicate, if_pos (by omega)] at h1
    have h2 : l.any (isK (j : Int) ((x.num.toNat : Nat) : Int)) = true := any_isK.2 (List.mem_map.2 ⟨x, hx, by simp only [skey, Prod.mk.injEq]; omega⟩)
    rw [h2] at h1
    simp at h1

section
variable {D : Nat} {s : Scrn}
theorem flat_rc {K S : Nat} {B : Int} {l : List Srf} (h : ScOk K S B l) (hB : B ≤ 100000000000000) : ∀ r ∈ l.flatMap slDmg, RcOk r := by
  intro r hr
  obtain ⟨x, hx, hr⟩ := List.mem_flatMap.1 hr
  exact (dmgL_ok (ch := goB x) ((h.sf x hx).rc hB) ((h.sf x hx).go.rc hB)).1 r hr
theorem tk3_st (h : ScrOk D s) : StOk s.c.clients.toNat s.c.surfaces.toNat D ((tk3 s).l, (tk3 s).f) := ⟨h.st.sc.go, h.st.fr.flip.dam (damL_s _ _)⟩
/-- The clients one by one. -/
structure AdmI (D : Nat) (s : Scrn) (j : Nat) : Prop where
  st : StOk s.c.clients.toNat s.c.surfaces.toNat (D + 160 * j) (scAdmI s.c.quantum s.ks ((tk3 s).l, (tk3 s).f) j)
  old : ∀ (i : Nat) (k : Cli), j ≤ i → s.ks[i]? = some (some k) → vall (hav (scAdmI s.c.quantum s.ks ((tk3 s).l, (tk3 s).f) j).1 i s.c.surfaces.toNat) k.q.flatten = some k.own
  new : ∀ (i : Nat) (k : Cli), i < j → s.ks[i]? = some (some k) → vall (hav (scAdmI s.c.quantum s.ks ((tk3 s).l, (tk3 s).f) j).1 i s.c.surfaces.toNat) (admitC k s.c.quantum).2.q.flatten = some k.own
  no : ∀ i : Nat, s.ks[i]? = some none → hav (scAdmI s.c.quantum s.ks ((tk3 s).l, (tk3 s).f) j).1 i s.c.surfaces.toNat = List.replicate s.c.surfaces.toNat false
theorem admI_zero (h : ScrOk D s) : AdmI D s 0 := by
  refine ⟨tk3_st h, fun i k _ hk => ?_, fun i k hi => by omega, fun i hi => ?_⟩
  · show vall (hav (s.l.map goS) i _) _ = _
    rw [hav_go]; exact (h.cl i k hk).own
  · show hav (s.l.map goS) i _ = _
    rw [hav_go]; exact (hav_none h.st.sc).1 (h.no i hi)
theorem admI_step (h : ScrOk D s) (hD : D + 640 ≤ 900000000) {j : Nat} (hj : j < s.ks.length) (hI : AdmI D s j) : AdmI D s (j + 1) ∧ ∀ (k : Cli) (m : Nat) (tr : List Opn), s.ks[j]? = some (some k) → (admitC k s.c.quantum).1[m]? = some tr → DoFine j ((doAll j (scAdmI s.c.quantum s.ks ((tk3 s).l, (tk3 s).f) j) ((admitC k s.c.quantum).1.take m)).1, { (doAll j (scAdmI s.c.quantum s.ks ((tk3 s).l, (tk3 s).f) j) ((admitC k s.c.quantum).1.take m)).2 with due := true }) tr := by
  have hc := cfgB h.cfg
  have hKS := hc.ks
  have hlen := h.len
  have hK : s.c.clients.toNat ≤ 4 := by have := hc.clients; omega
  cases hk : s.ks[j]? with
  | none => rw [List.getElem?_eq_getElem hj] at hk; cases hk
  | some x =>
    cases x with
    | none =>
      have e : scAdmI s.c.quantum s.ks ((tk3 s).l, (tk3 s).f) (j + 1) = scAdmI s.c.quantum s.ks ((tk3 s).l, (tk3 s).f) j := by simp [scAdmI, hk]
      refine ⟨⟨by rw [e]; exact hI.st.mono (by omega), fun i k hi hik => by rw [e]; exact hI.old i k (by omega) hik, fun i k hi hik => ?_, fun i hi => by rw [e]; exact hI.no i hi⟩, fun k m tr hk' => by cases hk'⟩
      rw [e]
      by_cases hij : i = j
      · subst hij; rw [hk] at hik; cases hik
      · exact hI.new i k (by omega) hik
    | some k =>
      have hcl := h.cl j k hk
      have e : scAdmI s.c.quantum s.ks ((tk3 s).l, (tk3 s).f) (j + 1) = doAll j (scAdmI s.c.quantum s.ks ((tk3 s).l, (tk3 s).f) j) (admitC k s.c.quantum).1 := by simp [scAdmI, hk]
      have hv := hI.old j k (Nat.le_refl _) hk
      obtain ⟨n, hn⟩ : ∃ n, n = (takeN (k.cr + s.c.quantum) k.q).1 := ⟨_, rfl⟩
      have e1 : (admitC k s.c.quantum).1 = k.q.take n := by rw [hn]; rfl
      have e2 : (admitC k s.c.quantum).2.q = k.q.drop n := by rw [hn]; rfl
      have hsplit : k.q.flatten = (k.q.take n).flatten ++ (k.q.drop n).flatten := by rw [← List.flatten_append, List.take_append_drop]
      rw [hsplit, vall_append] at hv
      cases hy : vall (hav (scAdmI s.c.quantum s.ks ((tk3 s).l, (tk3 s).f) j).1 j s.c.surfaces.toNat) (k.q.take n).flatten with
      | none => rw [hy] at hv; cases hv
      | some y =>
        rw [hy] at hv
        have hv2 : vall y (k.q.drop n).flatten = some k.own := hv
        have hql : k.q.length ≤ 8 := by have := hcl.ql; have := hc.queue; omega
        have htl : (k.q.take n).length ≤ 8 := by rw [List.length_take]; omega
        obtain ⟨g1, g2, g3, g4⟩ := trs_ok (j := j) (K := s.c.clients.toNat) (S := s.c.surfaces.toNat) (by omega) (by omega) (k.q.take n) (D + 160 * j) _ y hI.st (fun tr htr => (hcl.tr tr (List.mem_of_mem_take htr)).1.2) (by omega) hy
        rw [← e1] at g1 g2 g3 g4
        rw [← e] at g2 g3 g4
        refine ⟨⟨?_, fun i k' hi hik => ?_, fun i k' hi hik => ?_, fun i hi => ?_⟩, fun k' m tr hk' hm => ?_⟩
        · refine g2.mono ?_
          rw [e1]; omega
        · rw [g4 i (by omega)]; exact hI.old i k' (by omega) hik
        · by_cases hij : i = j
          · subst hij
            rw [hk] at hik
            simp only [Option.some.injEq] at hik
            subst hik
            rw [g3, e2]; exact hv2
          · rw [g4 i hij]; exact hI.new i k' (by omega) hik
        · have hij : i ≠ j := fun e => by subst e; rw [hk] at hi; cases hi
          rw [g4 i hij]; exact hI.no i hi
        · simp only [Option.some.injEq] at hk'
          subst hk'
          exact g1 m tr hm
theorem admI_all (h : ScrOk D s) (hD : D + 640 ≤ 900000000) : ∀ j, j ≤ s.ks.length → AdmI D s j
  | 0, _ => admI_zero h
  | j + 1, hj => (admI_step h hD (by omega) (admI_all h hD j (by omega))).1
theorem admitC_cr {c : Cfg} (hc : CfgB c) {l : List Srf} {j : Nat} {k : Cli} (h : ClOk c l j k) : (0 ≤ (admitC k c.quantum).2.cr ∧ (admitC k c.quantum).2.cr ≤ c.most) ∧ (k.q ≠ [] → 1 ≤ (admitC k c.quantum).1.length) := by
  have h1 := h.cr
  have h2 := hc.quantum
  have h3 := hc.most
  obtain ⟨a, b, d, e⟩ := takeN_spec k.q (k.cr + c.quantum) c.most (by omega) (fun x hx => by have := (h.tr x hx).2; omega)
  refine ⟨?_, fun hn => ?_⟩
  · unfold admitC
    simp only
    split
    · omega
    · have := d (by omega); omega
  · have h4 := e (by omega) hn
    have h5 := takeN_le k.q (k.cr + c.quantum)
    unfold admitC
    simp only [List.length_take]
    omega
theorem tick_fine (h : ScrOk D s) (hD : D + 640 ≤ 900000000) (ht : 0 ≤ s.t ∧ s.t ≤ 1000000000000000000) : TickFine s := by
  have hc := cfgB h.cfg
  have hKS := hc.ks
  have hlen := h.len
  have hq := hc.quantum
  have hmo := hc.most
  have hK : s.c.clients.toNat ≤ 4 := by have := hc.clients; omega
  have hl := h.st.sc.len
  simp only at hl
  have hI := admI_all h hD s.ks.length (Nat.le_refl _)
  have hwh := tk4_wh s
  have hB : (100 : Int) + 80 * ((D + 160 * s.ks.length : Nat) : Int) ≤ 100000000000000 := by omega
  have hB0 : (100 : Int) + 80 * (D : Int) ≤ 100000000000000 := by omega
  have hl4 := hI.st.sc.len
  refine ⟨ht, by omega, fun x hx => (h.st.sc.sf x hx).sl hB0, flat_rc h.st.sc hB0, h.st.fr.W, h.st.fr.H, ⟨?_, ?_, fun j k hk => ?_, fun j k m tr hk hm => ?_, ?_, ?_⟩, hI.st.fr.fr, fun x hx => (hI.st.sc.sf x hx).ok hB, Nat.le_trans hl4 (by omega), fun g hg => ?_⟩
  · show s.ks.length ≤ 4; omega
  · show 0 ≤ s.c.quantum ∧ s.c.quantum ≤ 1000000; omega
  · have := h.cl j k hk
    have h1 := this.cr
    have h2 := this.ql
    have h3 := hc.queue
    exact ⟨by omega, by omega, fun x hx => by have := this.tr x hx; omega⟩
  · have hjl : j < s.ks.length := (List.getElem?_eq_some_iff.1 hk).1
    exact (admI_step h hD hjl (admI_all h hD j (by omega))).2 k m tr hk hm
  · exact (tk3_st h).fr.W
  · exact (tk3_st h).fr.H
  · have hf := (hI.st.fr.begin (s.t + 1) (picS (tk4 s).l s.c.behind)).fm g hg
    have hwh2 := hI.st.fr.wh
    have e := beginF_wh (scAdmI s.c.quantum s.ks ((tk3 s).l, (tk3 s).f) s.ks.length).2 (s.t + 1) (picS (tk4 s).l s.c.behind)
    refine ⟨?_, hf.2.2.2.1⟩
    have h5 := hf.2.2.1
    rw [e.1, e.2] at h5
    exact Nat.le_trans h5 (Nat.le_trans hwh2 (by omega))
theorem ksI_full (q : Int) (ks : List (Option Cli)) : ksI q ks ks.length = ks.map (admK q) := by simp [ksI]
/-- The screen is right behind a tick. -/
theorem tick_ok (h : ScrOk D s) (hD : D + 640 ≤ 900000000) (b : Nat) : ScrOk (D + 640) (tickS s b) := by
  have hc := cfgB h.cfg
  have hlen := h.len
  have hK : s.c.clients.toNat ≤ 4 := by have := hc.clients; omega
  have hI := admI_all h hD s.ks.length (Nat.le_refl _)
  have hwh := tk5_wh s
  have hks : (tickS s b).ks = s.ks.map (admK s.c.quantum) := ksI_full s.c.quantum s.ks
  have hpw : (paintF (tk5 s).f b).W = (tk5 s).f.W ∧ (paintF (tk5 s).f b).H = (tk5 s).f.H := by
    unfold paintF
    split <;> exact ⟨rfl, rfl⟩
  refine ⟨h.cfg, by rw [hks, List.length_map]; exact hlen, ?_, ?_, ⟨(hI.st.mono (by omega)).sc, ?_⟩, fun j k hk => ?_, fun j hj => ?_⟩
  · show (paintF (tk5 s).f b).W = _; rw [hpw.1, hwh.1]; exact h.W
  · show (paintF (tk5 s).f b).H = _; rw [hpw.2, hwh.2]; exact h.H
  · exact ((hI.st.fr.mono (by omega)).begin _ _).paint b
  · rw [hks, List.getElem?_map] at hk
    cases hk0 : s.ks[j]? with
    | none => rw [hk0] at hk; cases hk
    | some x =>
      rw [hk0] at hk
      cases x with
      | none => simp [admK] at hk
      | some k0 =>
        simp [admK] at hk
        subst hk
        have hjl : j < s.ks.length := (List.getElem?_eq_some_iff.1 hk0).1
        have h0 := h.cl j k0 hk0
        refine ⟨hI.new j k0 hjl hk0, fun tr htr => h0.tr tr ?_, (admitC_cr hc h0).1, ?_⟩
        · exact List.mem_of_mem_drop htr
        · have := h0.ql
          show (((k0.q.drop _).length : Nat) : Int) ≤ s.c.queue
          rw [List.length_drop]; omega
  · rw [hks, List.getElem?_map] at hj
    cases hk0 : s.ks[j]? with
    | none => rw [hk0] at hj; cases hj
    | some x =>
      rw [hk0] at hj
      cases x with
      | some k0 => simp [admK] at hj
      | none =>
        have := hI.no j hk0
        exact (hav_none (hI.st.mono (Nat.le_refl _)).sc).2 this
end
end Go.Proofs.Ytfnockbgkcgpkaa
set_option linter.all false
namespace Go.Proofs.Ytfnockbgkcgpkaa
open Go.RowKit Go.Proofs.Panes
set_option maxRecDepth 100000

theorem vstep_strip (will : List Bool) (o : Opn) : vstep will (stripO o) = vstep will o := by
  unfold stripO
  split
  · rfl
  · rename_i h
    unfold vstep okArgs
    simp only [h, if_false]
theorem vall_strip : ∀ (ops : List Opn) (will : List Bool), vall will (ops.map stripO) = vall will ops
  | [], _ => rfl
  | o :: l, will => by
    show (vstep will (stripO o)).bind (fun x => vall x (l.map stripO)) = (vstep will o).bind (fun x => vall x l)
    rw [vstep_strip]
    cases vstep will o with
    | none => rfl
    | some y => exact vall_strip l y
section
variable {D : Nat} {s : Scrn}
theorem new_ok {c : Cfg} (h : okCfg c = true) : ScrOk 0 (newS c) := by
  have hc := cfgB h
  refine ⟨h, by simp [newS], rfl, rfl, ⟨⟨by simp [newS], fun x hx => by simp [newS] at hx, fun x hx => by simp [newS] at hx⟩, ⟨?_, ?_, by simp [newS, newF], fun i hi => by simp [newS, newF], fun i hi => by simp [newS, newF], fun g hg => by simp [newS, newF] at hg, by simp [newS, newF]⟩⟩, fun j k hk => ?_, fun j hj x hx => by simp [newS] at hx⟩
  · have := hc.w; simp only [newS, newF]; omega
  · have := hc.h; simp only [newS, newF]; omega
  · simp only [newS] at hk
    rw [List.getElem?_replicate] at hk
    split at hk <;> simp at hk
theorem conn_ok (h : ScrOk D s) {k : Nat} (hk : s.ks[k]? = some none) : ScrOk D { s with ks := s.ks.set k (some (newC s.c)) } := by
  have hkl := (List.getElem?_eq_some_iff.1 hk).1
  have hc := cfgB h.cfg
  refine ⟨h.cfg, by simp only [List.length_set]; exact h.len, h.W, h.H, h.st, fun j c hj => ?_, fun j hj => ?_⟩
  · by_cases e : j = k
    · subst e
      simp only at hj
      rw [List.getElem?_set_self hkl] at hj
      simp only [Option.some.injEq] at hj
      subst hj
      refine ⟨?_, fun tr htr => by simp [newC] at htr, ?_, ?_⟩
      · show some (hav s.l j s.c.surfaces.toNat) = some (List.replicate s.c.surfaces.toNat false)
        rw [(hav_none h.st.sc).1 (h.no j hk)]
      · have := hc.most; simp only [newC]; omega
      · have := hc.queue; simp [newC]; omega
    · simp only at hj
      rw [List.getElem?_set_ne (Ne.symm e)] at hj
      exact h.cl j c hj
  · by_cases e : j = k
    · subst e
      simp only at hj
      rw [List.getElem?_set_self hkl] at hj
      simp at hj
    · simp only at hj
      rw [List.getElem?_set_ne (Ne.symm e)] at hj
      exact h.no j hj
theorem hav_filter (l : List Srf) {i k S : Nat} (hi : i ≠ k) : hav (l.filter fun x => !(x.cl == (k : Int))) i S = hav l i S := by
  unfold hav
  refine List.map_congr_left fun n _ => ?_
  rw [Bool.eq_iff_iff, List.any_eq_true, List.any_eq_true]
  constructor
  · rintro ⟨x, hx, he⟩
    exact ⟨x, (List.mem_filter.1 hx).1, he⟩
  · rintro ⟨x, hx, he⟩
    refine ⟨x, List.mem_filter.2 ⟨hx, ?_⟩, he⟩
    have := isK_iff.1 he
    simp only [skey, Prod.mk.injEq] at this
    have : ¬ x.cl = (k : Int) := by omega
    simpa using this
theorem disc_fine (h : ScrOk D s) (hD : D ≤ 900000000) (k : Nat) : DiscFine s k := by
  have hc := cfgB h.cfg
  have hKS := hc.ks
  have hl := h.st.sc.len
  simp only at hl
  have hfl : (s.l.filter fun x => x.cl == (k : Int)).length ≤ s.l.length := List.length_filter_le _ _
  have hlen : ((s.l.filter fun x => x.cl == (k : Int)).flatMap lvDmg).length ≤ 2 * (s.l.filter fun x => x.cl == (k : Int)).length := by
    generalize s.l.filter _ = m
    induction m with
    | nil => simp
    | cons a m ih =>
      have h2 : (lvDmg a).length ≤ 2 := by unfold lvDmg dmgL; split <;> (try split) <;> simp
      simp only [List.flatMap_cons, List.length_append, List.length_cons]
      omega
  have hs := damL_s ((s.l.filter fun x => x.cl == (k : Int)).flatMap lvDmg) s.f
  have hB : (100 : Int) + 80 * (D : Int) ≤ 100000000000000 := by omega
  refine ⟨by omega, h.st.fr.W, h.st.fr.H, fun r hr => ?_, by omega, ?_, fun g hg => ?_⟩
  · obtain ⟨x, hx, hr⟩ := List.mem_flatMap.1 hr
    exact (dmgL_ok (ch := true) ((h.st.sc.sf x (List.mem_filter.1 hx).1).rc hB) zrc_ok).1 r hr
  · rw [hs.marks]; have := h.st.fr.mks; simp only at this; omega
  · rw [hs.frame] at hg
    have := (h.st.fr.fm g hg).2.2.2.2; omega
theorem disc_ok (h : ScrOk D s) {k : Nat} {cl : Cli} (hk : s.ks[k]? = some (some cl)) : ScrOk D (discS s k) := by
  have hkl := (List.getElem?_eq_some_iff.1 hk).1
  have hs := damL_s ((s.l.filter fun x => x.cl == (k : Int)).flatMap lvDmg) s.f
  have hsub : (s.l.filter fun x => !(x.cl == (k : Int))).Sublist s.l := List.filter_sublist
  refine ⟨h.cfg, by simp only [discS, List.length_set]; exact h.len, ?_, ?_, ⟨h.st.sc.sub hsub, (h.st.fr.dam hs).forget _⟩, fun j c hj => ?_, fun j hj => ?_⟩
  · show (damL s.f _).W = _; rw [hs.W]; exact h.W
  · show (damL s.f _).H = _; rw [hs.H]; exact h.H
  · by_cases e : j = k
    · subst e
      simp only [discS] at hj
      rw [List.getElem?_set_self hkl] at hj
      simp at hj
    · simp only [discS] at hj
      rw [List.getElem?_set_ne (Ne.symm e)] at hj
      have h0 := h.cl j c hj
      exact ⟨by show vall (hav (s.l.filter _) j _) _ = _; rw [hav_filter _ e]; exact h0.own, h0.tr, h0.cr, h0.ql⟩
  · by_cases e : j = k
    · subst e
      intro x hx
      have := (List.mem_filter.1 hx).2
      simpa using this
    · simp only [discS] at hj
      rw [List.getElem?_set_ne (Ne.symm e)] at hj
      intro x hx
      exact h.no j hj x (List.mem_filter.1 hx).1
theorem sub_parts {c : Cfg} {k : Cli} {ops : List Opn} (h : subCode c k ops = 0) : (1 ≤ ops.length ∧ ops.length ≤ 20) ∧ (∃ x, vall k.own ops = some x) ∧ costOf ops ≤ c.most ∧ (k.q.length : Int) < c.queue := by
  unfold subCode at h
  split at h
  · simp at h
  · rename_i hin
    have hin' : inB (ops.length : Int) 1 20 = true := by simpa using hin
    rw [inB_iff] at hin'
    cases hv : vall k.own ops with
    | none => rw [hv] at h; simp at h
    | some x =>
      rw [hv] at h
      simp only at h
      split at h
      · simp at h
      · split at h
        · simp at h
        · exact ⟨by omega, ⟨x, rfl⟩, by omega, by omega⟩
theorem sub_cost {k : Cli} {ops : List Opn} {x : List Bool} (hv : vall k.own ops = some x) (hl : 1 ≤ ops.length) : 1 ≤ costOf ops := by
  have := sum_bd ops (vall_small ops _ _ hv)
  unfold costOf
  omega
theorem sub_ok (h : ScrOk D s) {k : Nat} {cl : Cli} {ops : List Opn} (hk : s.ks[k]? = some (some cl)) (hs : subCode s.c cl ops = 0) : ScrOk D { s with ks := s.ks.set k (some (subC cl ops)) } := by
  have hkl := (List.getElem?_eq_some_iff.1 hk).1
  obtain ⟨h1, ⟨x, hx⟩, h3, h4⟩ := sub_parts hs
  refine ⟨h.cfg, by simp only [List.length_set]; exact h.len, h.W, h.H, h.st, fun j c hj => ?_, fun j hj => ?_⟩
  · by_cases e : j = k
    · subst e
      simp only at hj
      rw [List.getElem?_set_self hkl] at hj
      simp only [Option.some.injEq] at hj
      subst hj
      have h0 := h.cl j cl hk
      refine ⟨?_, fun tr htr => ?_, h0.cr, ?_⟩
      · show vall _ (cl.q ++ [ops.map stripO]).flatten = some ((vall cl.own ops).getD cl.own)
        rw [List.flatten_append, vall_append, h0.own, hx]
        show vall cl.own [ops.map stripO].flatten = some x
        simp only [List.flatten_cons, List.flatten_nil, List.append_nil]
        rw [vall_strip]; exact hx
      · rcases List.mem_append.1 htr with q | q
        · exact h0.tr tr q
        · simp at q
          subst q
          rw [List.length_map, costOf_strip]
          exact ⟨h1, sub_cost hx h1.1, h3⟩
      · show (((cl.q ++ [ops.map stripO]).length : Nat) : Int) ≤ s.c.queue
        rw [List.length_append, List.length_singleton]; omega
    · simp only at hj
      rw [List.getElem?_set_ne (Ne.symm e)] at hj
      exact h.cl j c hj
  · by_cases e : j = k
    · subst e
      simp only at hj
      rw [List.getElem?_set_self hkl] at hj
      simp at hj
    · simp only at hj
      rw [List.getElem?_set_ne (Ne.symm e)] at hj
      exact h.no j hj
end
end Go.Proofs.Ytfnockbgkcgpkaa
