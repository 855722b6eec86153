import Derived.Test.YtfnockbgkcgpkaaGreatRefF
set_option linter.all false
namespace Go.Proofs.YtfnockbgkcgpkaaGreat
open Go.RowKit Go.Proofs.Panes
attribute [local go_sem ↓] Go.wp_at_zero Go.wp_at_succ
set_option maxRecDepth 100000

theorem info_bool : (Tryz.prog.info? 4).map (fun i => (i.zero, i.size, i.bytes)) = some (some (.bool false), 1, 1) := by kernel_rfl

theorem made_bools (n : Nat) : (madeCells (Value.bool false).cells (n * 1)).toList = List.replicate n (Value.bool false) := by
  rw [Nat.mul_one]; exact toList_madeCells_one _ n
theorem set_row (F : Int → Bool) {xs : List Int} {m : Nat} {x : Int} (hx : xs[m]? = some x) : ((xs.take m).map F ++ List.replicate (xs.length - m) false).set m (F x) = (xs.take (m + 1)).map F ++ List.replicate (xs.length - (m + 1)) false := by
  have hm := (List.getElem?_eq_some_iff.1 hx).1
  have hl : ((xs.take m).map F).length = m := by rw [List.length_map, List.length_take]; omega
  rw [List.set_append_right _ _ (by omega), hl, Nat.sub_self, take_snocI hx, List.map_append, List.append_assoc, show xs.length - m = (xs.length - (m + 1)) + 1 by omega, List.replicate_succ]
  rfl
theorem row_at (F : Int → Bool) {xs : List Int} {m : Nat} {x : Int} (hx : xs[m]? = some x) : ((xs.take m).map F ++ List.replicate (xs.length - m) false)[m]? = some false := by
  have hm := (List.getElem?_eq_some_iff.1 hx).1
  have hl : ((xs.take m).map F).length = m := by rw [List.length_map, List.length_take]; omega
  rw [List.getElem?_append_right (by omega), hl, Nat.sub_self, show xs.length - m = (xs.length - (m + 1)) + 1 by omega, List.replicate_succ]
  rfl
theorem row_len (F : Int → Bool) {xs : List Int} {m : Nat} (hm : m ≤ xs.length) : ((xs.take m).map F ++ List.replicate (xs.length - m) false).length = xs.length := by
  rw [List.length_append, List.length_map, List.length_take, List.length_replicate]; omega

/-- How far Together has come, at the row of number n. -/
def TG (way : Int) (a b : List Rc) (xs ys : List Int) (base : Nat) (wr : World) (n : Nat) (f : Int → Bool) (top : Int) (out : List Rc) (vb vt : Value) : Prop :=
  (n = 0 ∧ out = []) ∨
  (0 < n ∧ n < ys.length ∧ OwnB wr base vb (xs.map f) ∧ vt = .int .i64 top ∧ LastNo f xs ∧ (-1000 ≤ top ∧ top ≤ 2000) ∧ ∀ y, ys[n]? = some y → CI (Grid.M fun px py => wayB way (covA a px py) (covA b px py)) y (out ++ laidF f top (y - top) none xs) out.length) ∨
  (0 < n ∧ n = ys.length ∧ Right out ∧ ∀ px py, covL out px py ↔ wayB way (covA a px py) (covA b px py) = true)

set_option maxHeartbeats 8000000 in
theorem together_any (way : Int) (va vb : Value) (a b : List Rc) (w : World) (hA : Rd w va a) (hB : Rd w vb b) (na : a.length ≤ 40) (nb : b.length ≤ 40) (ma : ∀ r ∈ a, May r) (mb : ∀ r ∈ b, May r) :
    Calls Tryz.prog 69 #[.int .i64 way, va, vb] w fun e w' => ∃ v' R, e = .returned v' ∧ Own w' w.heap.size v' R ∧ Right R ∧ (∀ px py, covL R px py ↔ wayB way (covA a px py) (covA b px py) = true) ∧ R.length ≤ 100000 ∧ Below w.heap.size w w' := by
  have HA := hide hA
  have HB := hide hB
  have HMA := hide ma
  have HMB := hide mb
  obtain ⟨ao, ca, rfl, _, _, a3⟩ := hA
  obtain ⟨bo, cb, rfl, _, _, b3⟩ := hB
  have HCA := hide a3
  have HCB := hide b3
  have hws : IntKind.i64.wrap ((a.length : Int) + (b.length : Int)) = (a.length : Int) + (b.length : Int) := by rw [IntKind.wrap_i64]; omega
  clear a3 b3 ma mb
  go_enter Tryz.func69, Tryz.ntmps69
  go_wp2
  go_loopw [7, 8, 9] (fun vx vy i wr => ∃ (k : Nat) (xs ys : List Int), k ≤ a.length + b.length ∧ i = .int .i64 k ∧ OwnI wr w.heap.size vx xs ∧ OwnI wr w.heap.size vy ys ∧ Edged ((a ++ b).take k) xs ys ∧ Below w.heap.size w wr) (fun _ _ i _ => a.length + b.length - (intOf i).toNat)
  case atStart => exact ⟨0, [], [], Nat.zero_le _, rfl, World.ownsRow_nil _ _ _ _, World.ownsRow_nil _ _ _ _, Edged.nil, Below.refl _ _⟩
  case round =>
    obtain ⟨k, xs, ys, hk, rfl, hX, hY, hE, hbel⟩ := hrel
    have hsz := hbel.size
    have hlx := hE.lx
    have hly := hE.ly
    have hlk : ((a ++ b).take k).length = k := by rw [List.length_take, List.length_append]; omega
    rw [hlk] at hlx hly
    have HX := hide hX
    have HY := hide hY
    have HE := hide hE
    have Hb := hide hbel
    have HLk := hide hlk
    clear hE hlk
    by_cases hlt : k < a.length + b.length
    · have i0 : (0 : Int) ≤ (k : Int) := by omega
      have i1 : (k : Int) < (a.length : Int) + (b.length : Int) := by omega
      by_cases hka : k < a.length
      · obtain ⟨b1, off, rfl, hb1, hc1⟩ := (unhide HCA) (by intro e; subst e; simp at hka)
        obtain ⟨r, hr⟩ : ∃ r, a[k]? = some r := ⟨a[k], by simp [hka]⟩
        have HR : Hid ((a ++ b)[k]? = some r) := by show _ = _; rw [List.getElem?_append_left hka]; exact hr
        have hmr := (unhide HMA) r (List.mem_of_getElem? hr)
        unfold May at hmr
        obtain ⟨m1, m2, m3, m4⟩ := hmr
        obtain ⟨c1, c2, c3, c4⟩ := (hc1 k r hr).below hbel hb1
        have i2 : (k : Int) < (a.length : Int) := by omega
        have lt1 : b1 < wr.heap.size := by omega
        clear hX hY hbel hc1 hr
        have hw1 : IntKind.i64.wrap (r.x + r.w) = r.x + r.w := by rw [IntKind.wrap_i64]; omega
        have hw2 : IntKind.i64.wrap (r.y + r.h) = r.y + r.h := by rw [IntKind.wrap_i64]; omega
        go_wp2_with fail
        refine (add_any w.heap.size _ xs r.x _ (ownI_alloc (unhide HX) _) (unhide HE).x.up (by omega) (by simp; omega)).mono ?_
        rintro e w1 ⟨v1, x1, rfl, o1, a1, b1'⟩
        have d1 : w1.cell? ⟨wr.heap.size, 0, none⟩ = some (.int .i64 r.x) := (b1'.cell (p := ⟨wr.heap.size, 0, none⟩) (by simp)).trans (by go_simp)
        have d2 : w1.cell? ⟨wr.heap.size, 1, none⟩ = some (.int .i64 r.y) := (b1'.cell (p := ⟨wr.heap.size, 1, none⟩) (by simp)).trans (by go_simp)
        have d3 : w1.cell? ⟨wr.heap.size, 2, none⟩ = some (.int .i64 r.w) := (b1'.cell (p := ⟨wr.heap.size, 2, none⟩) (by simp)).trans (by go_simp)
        have d4 : w1.cell? ⟨wr.heap.size, 3, none⟩ = some (.int .i64 r.h) := (b1'.cell (p := ⟨wr.heap.size, 3, none⟩) (by simp)).trans (by go_simp)
        have z1 : wr.heap.size + 1 ≤ w1.heap.size := by have := b1'.size; simpa using this
        have O1 := hide o1
        have A1 := hide a1
        have L1 := a1.len
        have Y1 := hide (ownI_kept (ownI_alloc (unhide HY) _) b1')
        have B1 := hide (((unhide Hb).alloc hsz _).trans (b1'.mono (by simp; omega)))
        clear o1 a1 b1'
        go_wp2_with fail
        refine (add_any w.heap.size _ x1 (r.x + r.w) _ (unhide O1) (unhide A1).up (by omega) (by omega)).mono ?_
        rintro e w2 ⟨v2, x2, rfl, o2, a2, b2'⟩
        have f2 : w2.cell? ⟨wr.heap.size, 1, none⟩ = some (.int .i64 r.y) := (b2'.cell (p := ⟨wr.heap.size, 1, none⟩) (by simp; omega)).trans d2
        have f4 : w2.cell? ⟨wr.heap.size, 3, none⟩ = some (.int .i64 r.h) := (b2'.cell (p := ⟨wr.heap.size, 3, none⟩) (by simp; omega)).trans d4
        have z2 := b2'.size
        have O2 := hide o2
        have A2 := hide a2
        have Y2 := hide (ownI_kept (unhide Y1) b2')
        have B2 := hide ((unhide B1).trans (b2'.mono (by omega)))
        clear o2 a2 b2' d1 d2 d3 d4
        go_wp2_with fail
        refine (add_any w.heap.size _ ys r.y _ (unhide Y2) (unhide HE).y.up (by omega) (by omega)).mono ?_
        rintro e w3 ⟨v3, y1, rfl, o3, a3, b3'⟩
        have g2 : w3.cell? ⟨wr.heap.size, 1, none⟩ = some (.int .i64 r.y) := (b3'.cell (p := ⟨wr.heap.size, 1, none⟩) (by simp; omega)).trans f2
        have g4 : w3.cell? ⟨wr.heap.size, 3, none⟩ = some (.int .i64 r.h) := (b3'.cell (p := ⟨wr.heap.size, 3, none⟩) (by simp; omega)).trans f4
        have z3 := b3'.size
        have O3 := hide o3
        have A3 := hide a3
        have L3 := a3.len
        have X3 := hide (ownI_kept (unhide O2) b3')
        have B3 := hide ((unhide B2).trans (b3'.mono (by omega)))
        clear o3 a3 b3' f2 f4
        go_wp2_with fail
        refine (add_any w.heap.size _ y1 (r.y + r.h) _ (unhide O3) (unhide A3).up (by omega) (by omega)).mono ?_
        rintro e w4 ⟨v4, y2, rfl, o4, a4, b4'⟩
        have O4 := hide o4
        have A4 := hide a4
        have X4 := hide (ownI_kept (unhide X3) b4')
        have B4 := hide ((unhide B3).trans (b4'.mono (by omega)))
        clear o4 a4 b4' g2 g4
        go_wp2
        go_roundw
        case rel => exact ⟨k + 1, x2, y2, by omega, by go_num, unhide X4, unhide O4, by rw [List.take_add_one, unhide HR]; exact (unhide HE).snoc (unhide A1) (unhide A2) (unhide A3) (unhide A4), unhide B4⟩
        case measure => simp [intOf]; omega
      · obtain ⟨b1, off, rfl, hb1, hc1⟩ := (unhide HCB) (by intro e; subst e; simp at hlt; omega)
        obtain ⟨q, hq⟩ : ∃ q, k = a.length + q := ⟨k - a.length, by omega⟩
        have hqb : q < b.length := by omega
        obtain ⟨r, hr⟩ : ∃ r, b[q]? = some r := ⟨b[q], by simp [hqb]⟩
        have HR : Hid ((a ++ b)[k]? = some r) := by show _ = _; rw [List.getElem?_append_right (by omega), show k - a.length = q by omega]; exact hr
        have hmr := (unhide HMB) r (List.mem_of_getElem? hr)
        unfold May at hmr
        obtain ⟨m1, m2, m3, m4⟩ := hmr
        obtain ⟨c1, c2, c3, c4⟩ := (hc1 q r hr).below hbel hb1
        have i2 : ¬ (k : Int) < (a.length : Int) := by omega
        have i3 : (k : Int) - (a.length : Int) = (q : Int) := by omega
        have hw0 : IntKind.i64.wrap ((k : Int) - (a.length : Int)) = (q : Int) := by rw [IntKind.wrap_i64]; omega
        have i4 : (0 : Int) ≤ (q : Int) := by omega
        have i5 : (q : Int) < (b.length : Int) := by omega
        have lt1 : b1 < wr.heap.size := by omega
        clear hX hY hbel hc1 hr hq
        have hw1 : IntKind.i64.wrap (r.x + r.w) = r.x + r.w := by rw [IntKind.wrap_i64]; omega
        have hw2 : IntKind.i64.wrap (r.y + r.h) = r.y + r.h := by rw [IntKind.wrap_i64]; omega
        go_wp2_with fail
        refine (add_any w.heap.size _ xs r.x _ (ownI_alloc (unhide HX) _) (unhide HE).x.up (by omega) (by simp; omega)).mono ?_
        rintro e w1 ⟨v1, x1, rfl, o1, a1, b1'⟩
        have d1 : w1.cell? ⟨wr.heap.size, 0, none⟩ = some (.int .i64 r.x) := (b1'.cell (p := ⟨wr.heap.size, 0, none⟩) (by simp)).trans (by go_simp)
        have d2 : w1.cell? ⟨wr.heap.size, 1, none⟩ = some (.int .i64 r.y) := (b1'.cell (p := ⟨wr.heap.size, 1, none⟩) (by simp)).trans (by go_simp)
        have d3 : w1.cell? ⟨wr.heap.size, 2, none⟩ = some (.int .i64 r.w) := (b1'.cell (p := ⟨wr.heap.size, 2, none⟩) (by simp)).trans (by go_simp)
        have d4 : w1.cell? ⟨wr.heap.size, 3, none⟩ = some (.int .i64 r.h) := (b1'.cell (p := ⟨wr.heap.size, 3, none⟩) (by simp)).trans (by go_simp)
        have z1 : wr.heap.size + 1 ≤ w1.heap.size := by have := b1'.size; simpa using this
        have O1 := hide o1
        have A1 := hide a1
        have L1 := a1.len
        have Y1 := hide (ownI_kept (ownI_alloc (unhide HY) _) b1')
        have B1 := hide (((unhide Hb).alloc hsz _).trans (b1'.mono (by simp; omega)))
        clear o1 a1 b1'
        go_wp2_with fail
        refine (add_any w.heap.size _ x1 (r.x + r.w) _ (unhide O1) (unhide A1).up (by omega) (by omega)).mono ?_
        rintro e w2 ⟨v2, x2, rfl, o2, a2, b2'⟩
        have f2 : w2.cell? ⟨wr.heap.size, 1, none⟩ = some (.int .i64 r.y) := (b2'.cell (p := ⟨wr.heap.size, 1, none⟩) (by simp; omega)).trans d2
        have f4 : w2.cell? ⟨wr.heap.size, 3, none⟩ = some (.int .i64 r.h) := (b2'.cell (p := ⟨wr.heap.size, 3, none⟩) (by simp; omega)).trans d4
        have z2 := b2'.size
        have O2 := hide o2
        have A2 := hide a2
        have Y2 := hide (ownI_kept (unhide Y1) b2')
        have B2 := hide ((unhide B1).trans (b2'.mono (by omega)))
        clear o2 a2 b2' d1 d2 d3 d4
        go_wp2_with fail
        refine (add_any w.heap.size _ ys r.y _ (unhide Y2) (unhide HE).y.up (by omega) (by omega)).mono ?_
        rintro e w3 ⟨v3, y1, rfl, o3, a3, b3'⟩
        have g2 : w3.cell? ⟨wr.heap.size, 1, none⟩ = some (.int .i64 r.y) := (b3'.cell (p := ⟨wr.heap.size, 1, none⟩) (by simp; omega)).trans f2
        have g4 : w3.cell? ⟨wr.heap.size, 3, none⟩ = some (.int .i64 r.h) := (b3'.cell (p := ⟨wr.heap.size, 3, none⟩) (by simp; omega)).trans f4
        have z3 := b3'.size
        have O3 := hide o3
        have A3 := hide a3
        have L3 := a3.len
        have X3 := hide (ownI_kept (unhide O2) b3')
        have B3 := hide ((unhide B2).trans (b3'.mono (by omega)))
        clear o3 a3 b3' f2 f4
        go_wp2_with fail
        refine (add_any w.heap.size _ y1 (r.y + r.h) _ (unhide O3) (unhide A3).up (by omega) (by omega)).mono ?_
        rintro e w4 ⟨v4, y2, rfl, o4, a4, b4'⟩
        have O4 := hide o4
        have A4 := hide a4
        have X4 := hide (ownI_kept (unhide X3) b4')
        have B4 := hide ((unhide B3).trans (b4'.mono (by omega)))
        clear o4 a4 b4' g2 g4
        go_wp2
        go_roundw
        case rel => exact ⟨k + 1, x2, y2, by omega, by go_num, unhide X4, unhide O4, by rw [List.take_add_one, unhide HR]; exact (unhide HE).snoc (unhide A1) (unhide A2) (unhide A3) (unhide A4), unhide B4⟩
        case measure => simp [intOf]; omega
    · have hkl : k = a.length + b.length := by omega
      have hE2 : Edged (a ++ b) xs ys := by have := unhide HE; rwa [hkl, List.take_of_length_le (by rw [List.length_append]; omega)] at this
      have HG := hide (hE2.grid (op := wayB way) (wayB_none way) (fun r hr => (List.mem_append.1 hr).elim ((unhide HMA) r) ((unhide HMB) r)))
      have HPos : Hid (ys ≠ [] → 0 < xs.length) := fun hne => by
        obtain ⟨y, hy⟩ := List.exists_mem_of_ne_nil ys hne
        obtain ⟨r, hr, _⟩ := (hE2.y.mem y).1 hy
        exact List.length_pos_of_mem ((hE2.x.mem r.x).2 ⟨r, hr, .inl rfl⟩)
      have lx : xs.length ≤ 160 := by have := hE2.lx; rw [List.length_append] at this; omega
      have ly : ys.length ≤ 160 := by have := hE2.ly; rw [List.length_append] at this; omega
      obtain ⟨wl, hwl⟩ : ∃ wl : World, wl = wr := ⟨_, rfl⟩
      subst hwl
      have CX : Hid (xs ≠ [] → ∃ g, g < wl.heap.size ∧ (∃ cap, u7 = .slice (some ⟨g, 0, none⟩) xs.length cap) ∧ ∀ j x, xs[j]? = some x → wl.cell? ⟨g, j, none⟩ = some (.int .i64 x)) := fun hne => by
        obtain ⟨g, cap, rfl, _, hg⟩ := ownI_some hX hne
        exact ⟨g, hg, ⟨cap, rfl⟩, fun j x hx => ownI_at hX hx⟩
      have CY : Hid (ys ≠ [] → ∃ g, g < wl.heap.size ∧ (∃ cap, u8 = .slice (some ⟨g, 0, none⟩) ys.length cap) ∧ ∀ j x, ys[j]? = some x → wl.cell? ⟨g, j, none⟩ = some (.int .i64 x)) := fun hne => by
        obtain ⟨g, cap, rfl, _, hg⟩ := ownI_some hY hne
        exact ⟨g, hg, ⟨cap, rfl⟩, fun j x hx => ownI_at hY hx⟩
      obtain ⟨xo, xc, ex, _⟩ := ownI_slice hX
      obtain ⟨yo, yc, ey, _⟩ := ownI_slice hY
      subst ex
      subst ey
      have hA2 := hide ((unhide HA).below hbel)
      have hB2 := hide ((unhide HB).below hbel)
      clear hE2 hX hY hbel HA HB HCA HCB HE hlx hly HLk
      obtain ⟨i0, hi, hz0, hz1, hz2⟩ := info_parts info_bool
      have HK := hide hkl
      have i9 : ¬ (k : Int) < (a.length : Int) + (b.length : Int) := by omega
      clear hkl
      go_wp2
      clear hk hlt i9
      go_loopw [11, 12, 13, 14] (fun vo vb vt j wr => ∃ (n : Nat) (f : Int → Bool) (top : Int) (out : List Rc), n ≤ ys.length ∧ j = .int .i64 n ∧ Own wr wl.heap.size vo out ∧ out.length ≤ n * 160 ∧ Below wl.heap.size wl wr ∧
        TG way a b xs ys wl.heap.size wr n f top out vb vt) (fun _ _ _ j _ => ys.length - (intOf j).toNat)
      case atStart => exact ⟨0, fun _ => false, 0, [], Nat.zero_le _, rfl, own_nil _, Nat.zero_le _, Below.refl _ _, .inl ⟨rfl, rfl⟩⟩
      case round =>
        obtain ⟨n, f, top, out, hn, rfl, hO, hol, hbel, hT⟩ := hrel
        have hsz2 := hbel.size
        obtain ⟨wo, hwo⟩ : ∃ wo : World, wo = wr := ⟨_, rfl⟩
        subst hwo
        have HO := hide hO
        have HT := hide hT
        have Hb2 := hide hbel
        obtain ⟨oo, oc, eo, _⟩ := own_slice hO
        subst eo
        clear hO hT
        by_cases hlt : n < ys.length
        · have hyne : ys ≠ [] := by intro e; rw [e] at hlt; simp at hlt
          have hxp := (unhide HPos) hyne
          obtain ⟨g1, hg1, ⟨c1, e1⟩, hc1⟩ := (unhide CX) (by intro e; rw [e] at hxp; simp at hxp)
          obtain ⟨g2, hg2, ⟨c2, e2⟩, hc2⟩ := (unhide CY) hyne
          simp only [Value.slice.injEq] at e1 e2
          obtain ⟨rfl, _, rfl⟩ := e1
          obtain ⟨rfl, _, rfl⟩ := e2
          obtain ⟨t, ht⟩ : ∃ t, ys[n]? = some t := ⟨ys[n], by simp [hlt]⟩
          have ht1 := (unhide HG).byy t (List.mem_of_getElem? ht)
          have HTt := hide ht
          have CXl := hide hc1
          have CYt := hide (hc2 n t ht)
          have j0 : (0 : Int) ≤ (n : Int) := by omega
          have j1 : (n : Int) < (ys.length : Int) := by omega
          have hwn : IntKind.i64.wrap ((n : Int) + 1) = (n : Int) + 1 := by rw [IntKind.wrap_i64]; omega
          clear hc1 hc2 ht hbel
          go_wp2_with (at_make; refine wpList_make_full _ rfl _ _ 116 rfl wl.heap.size 4 i0 (.bool false) 1 Tryz.underlying116 hi hz0 hz1 .i64 .i64 _ _ xs.length rfl rfl rfl rfl (by rw [hz2]; omega) (by unfold maxLen; omega) hsz2 ?_; intro w1 hown hgrow)
          have OR : Hid (OwnB w1 wl.heap.size (.slice (some ⟨wo.heap.size, 0, none⟩) xs.length xs.length) (List.replicate xs.length false)) := by
            show w1.ownsRow _ _ _ _ _ _
            rw [List.length_replicate, List.map_replicate]
            have e : (madeCells (Value.bool false).cells (xs.length * 1)).toList = List.replicate xs.length (Value.bool false) := made_bools _
            rw [e] at hown; exact hown
          have G1 : Hid (Below wo.heap.size wo w1) := below_of_grown hgrow
          clear hown hgrow
          have HFA : Hid (∀ px py W, Below wl.heap.size wl W → Calls Tryz.prog 106 #[.slice ao a.length ca, .int .i64 px, .int .i64 py] W fun e w' => e = .returned (.bool (covA a px py)) ∧ Below W.heap.size W w') := fun px py W h => isCovered_any _ a px py W ((unhide hA2).below h) (by omega) (unhide HMA)
          have HFB : Hid (∀ px py W, Below wl.heap.size wl W → Calls Tryz.prog 106 #[.slice bo b.length cb, .int .i64 px, .int .i64 py] W fun e w' => e = .returned (.bool (covA b px py)) ∧ Below W.heap.size W w') := fun px py W h => isCovered_any _ b px py W ((unhide hB2).below h) (by omega) (unhide HMB)
          by_cases hlast : n + 1 < ys.length
          · have j2 : (n : Int) + 1 < (ys.length : Int) := by omega
            go_loopw [16] (fun i wr => ∃ m : Nat, m ≤ xs.length ∧ i = .int .i64 m ∧ OwnB wr wl.heap.size (.slice (some ⟨wo.heap.size, 0, none⟩) xs.length xs.length) ((xs.take m).map (fun x => wayB way (covA a x t) (covA b x t)) ++ List.replicate (xs.length - m) false) ∧ Below wo.heap.size wo wr) (fun i _ => xs.length - (intOf i).toNat)
            case atStart => exact ⟨0, Nat.zero_le _, rfl, by simpa using unhide OR, unhide G1⟩
            case round =>
              obtain ⟨m, hm, rfl, hRow, hbel3⟩ := hrel
              have hsz3 := hbel3.size
              by_cases hltm : m < xs.length
              · obtain ⟨x, hx⟩ : ∃ x, xs[m]? = some x := ⟨xs[m], by simp [hltm]⟩
                have cx := (hbel3.cell (p := ⟨g1, m, none⟩) (by simp; omega)).trans (((unhide Hb2).cell (p := ⟨g1, m, none⟩) hg1).trans ((unhide CXl) m x hx))
                have cy := (hbel3.cell (p := ⟨g2, n, none⟩) (by simp; omega)).trans (((unhide Hb2).cell (p := ⟨g2, n, none⟩) hg2).trans (unhide CYt))
                have k0 : (0 : Int) ≤ (m : Int) := by omega
                have k1 : (m : Int) < (xs.length : Int) := by omega
                have lt1 : g1 < wr.heap.size := by omega
                have lt2 : g2 < wr.heap.size := by omega
                have Hb3 := hide hbel3
                have HRow := hide hRow
                have HXm := hide hx
                clear hbel3 hRow hx
                go_wp2_with fail
                go_region_held3 (fun w' => w'.cell? ⟨g1, m, none⟩ = some (.int .i64 x) ∧ w'.cell? ⟨g2, n, none⟩ = some (.int .i64 t))
                  (first
                    | go_keep
                    | (go_split_ands
                       refine ⟨?_, ?_⟩
                       · (rw [hbF.cell (p := ⟨g1, _, none⟩) lt1]; assumption)
                       · (rw [hbF.cell (p := ⟨g2, _, none⟩) lt2]; assumption)))
                  ((go_at_call 106; refine ((unhide HFA) x t _ (by repeat (first | exact (unhide Hb2).trans ((unhide Hb3).mono hsz2) | refine Below.drew ?_ | refine below_drewN ?_ _))).mono ?_; rintro e y1 ⟨rfl, hbF⟩))
                have B1 := hide (show Below wo.heap.size wo y1 from ((unhide Hb3).drew).trans (hbF.mono hsz3))
                have R1 := hide (ownB_kept (w := wr.drew) (unhide HRow) hbF)
                have zy1 : wr.heap.size ≤ y1.heap.size := hbF.size
                have cx1 : y1.cell? ⟨g1, m, none⟩ = some (.int .i64 x) := (hbF.cell (p := ⟨g1, m, none⟩) lt1).trans cx
                have cy1 : y1.cell? ⟨g2, n, none⟩ = some (.int .i64 t) := (hbF.cell (p := ⟨g2, n, none⟩) lt2).trans cy
                have lt3 : g1 < y1.heap.size := by omega
                have lt4 : g2 < y1.heap.size := by omega
                clear hbF
                go_wp2_with fail
                go_region_held3 (fun w' => w'.cell? ⟨g1, m, none⟩ = some (.int .i64 x) ∧ w'.cell? ⟨g2, n, none⟩ = some (.int .i64 t))
                  (first
                    | go_keep
                    | (go_split_ands
                       refine ⟨?_, ?_⟩
                       · (rw [hbF.cell (p := ⟨g1, _, none⟩) lt3]; assumption)
                       · (rw [hbF.cell (p := ⟨g2, _, none⟩) lt4]; assumption)))
                  ((go_at_call 106; refine ((unhide HFB) x t _ (by repeat (first | exact (unhide Hb2).trans ((unhide B1).mono hsz2) | refine Below.drew ?_ | refine below_drewN ?_ _))).mono ?_; rintro e y2 ⟨rfl, hbF⟩))
                have B2 := hide (show Below wo.heap.size wo y2 from ((unhide B1).drew).trans (hbF.mono (by have := (unhide B1).size; exact this)))
                have R2 := hide (ownB_kept (w := y1.drew) (unhide R1) hbF)
                have hcr := ownB_at (unhide R2) (row_at (fun x => wayB way (covA a x t) (covA b x t)) (unhide HXm))
                have hfz : y2.frozen? ⟨wo.heap.size, m, none⟩ = false := by
                  have h := unhide R2
                  unfold OwnB at h
                  rw [row_len (fun x => wayB way (covA a x t) (covA b x t)) hm] at h
                  exact World.ownsRow.frozenAt h m
                have HS : Hid (OwnB (y2.setCell ⟨wo.heap.size, m, none⟩ (.bool (wayB way (covA a x t) (covA b x t)))) wl.heap.size (.slice (some ⟨wo.heap.size, 0, none⟩) xs.length xs.length) ((xs.take (m + 1)).map (fun x => wayB way (covA a x t) (covA b x t)) ++ List.replicate (xs.length - (m + 1)) false) ∧ y2.grownBy (y2.setCell ⟨wo.heap.size, m, none⟩ (.bool (wayB way (covA a x t) (covA b x t)))) (some wo.heap.size)) := by
                  have h := unhide R2
                  unfold OwnB at h
                  rw [row_len (fun x => wayB way (covA a x t) (covA b x t)) hm] at h
                  have := World.ownsRow.stored h m (.bool (wayB way (covA a x t) (covA b x t)))
                  refine ⟨?_, this.2⟩
                  unfold OwnB
                  rw [row_len (fun x => wayB way (covA a x t) (covA b x t)) (by omega), ← set_row (fun x => wayB way (covA a x t) (covA b x t)) (unhide HXm), List.map_set]
                  exact this.1
                have zy2 : wo.heap.size ≤ y2.heap.size := (unhide B2).size
                clear hbF
                go_wp2_with (go_at_call 107; refine (counts_any way _ _ _).mono ?_; rintro e w' ⟨rfl, rfl⟩)
                go_roundw
                case rel => exact ⟨m + 1, by omega, by go_num, (unhide HS).1, (unhide B2).grown (unhide HS).2 zy2 (fun q hq => by injection hq with hq; omega)⟩
                case measure => simp [intOf]; omega
              · have hml : m = xs.length := by omega
                have HRw : Hid (OwnB wr wl.heap.size (.slice (some ⟨wo.heap.size, 0, none⟩) xs.length xs.length) (xs.map (fun x => wayB way (covA a x t) (covA b x t)))) := by
                  have h := hRow
                  rw [hml, List.take_length, Nat.sub_self, List.replicate_zero, List.append_nil] at h
                  exact h
                have Hb3 := hide hbel3
                have OO := hide (Own.kept (unhide HO) hbel3)
                have Hb4 := hide ((unhide Hb2).trans (hbel3.mono hsz2))
                have cy := (hbel3.cell (p := ⟨g2, n, none⟩) (by simp; omega)).trans (((unhide Hb2).cell (p := ⟨g2, n, none⟩) hg2).trans (unhide CYt))
                have HX4 := hide (ownI_kept (unhide HX) (unhide Hb4))
                have k1 : ¬ (m : Int) < (xs.length : Int) := by omega
                obtain ⟨u, hu⟩ : ∃ u, ys[n + 1]? = some u := ⟨ys[n + 1], by simp [hlast]⟩
                have HU := hide hu
                clear hRow hbel3 hu
                rcases unhide HT with ⟨hn0, ho0⟩ | ⟨hn0, hn1, hBd, ht0, hL, htp, hCI⟩ | ⟨_, hne, _⟩
                · have d0 : ¬ (0 : Int) < (n : Int) := by omega
                  have HN0 := hide hn0
                  have HO0 := hide ho0
                  clear hn0 ho0
                  go_wp2
                  go_roundw
                  case rel =>
                    refine ⟨n + 1, (fun x => wayB way (covA a x t) (covA b x t)), t, out, by omega, by go_num, unhide OO, by omega, unhide Hb4, .inr (.inl ⟨by omega, by omega, unhide HRw, rfl, ((unhide HG).steps t).last (unhide HG).upx, ht1, fun y hy => ?_⟩)⟩
                    have e := unhide HO0
                    have e0 := unhide HN0
                    subst e e0
                    have hy' := unhide HU
                    rw [hy'] at hy
                    injection hy with hy
                    subst hy
                    exact (unhide HG).first (unhide HTt) (unhide HU)
                  case measure => simp [intOf]; omega
                · have d0 : (0 : Int) < (n : Int) := by omega
                  have BD := hide (ownB_kept hBd (unhide Hb3))
                  have HL := hide hL
                  have HC := hide (hCI t (unhide HTt))
                  subst ht0
                  have hws2 : IntKind.i64.wrap (t - top) = t - top := by rw [IntKind.wrap_i64]; omega
                  have HSm := hide (sameB_any _ _ (.slice (some ⟨wo.heap.size, 0, none⟩) xs.length xs.length) _ (xs.map (fun x => wayB way (covA a x t) (covA b x t))) (xs.map f) wr (unhide HRw) (unhide BD) (by rw [List.length_map]; omega) (by simp))
                  clear hBd hL hCI
                  by_cases hal : xs.map (fun x => wayB way (covA a x t) (covA b x t)) = xs.map f
                  · rw [decide_eq_true hal] at HSm
                    have HAl := hide (List.map_inj_left.1 hal)
                    clear hal
                    go_wp2_with fail
                    refine (unhide HSm).mono ?_
                    rintro e w5 ⟨rfl, h5⟩
                    have B5 := hide h5
                    have z5 := h5.size
                    clear h5
                    go_wp2
                    go_roundw
                    case rel =>
                      refine ⟨n + 1, f, top, out, by omega, by go_num, Own.kept (unhide OO) (unhide B5), by omega, (unhide Hb4).trans ((unhide B5).mono (by omega)), .inr (.inl ⟨by omega, by omega, ownB_kept (unhide BD) (unhide B5), rfl, unhide HL, htp, fun y hy => ?_⟩)⟩
                      have hy' := unhide HU
                      rw [hy'] at hy
                      injection hy with hy
                      subst hy
                      exact (unhide HG).on (unhide HTt) (unhide HU) (unhide HC) (unhide HL) (fun x hx => ((unhide HAl) x hx).symm)
                    case measure => simp [intOf]; omega
                  · rw [decide_eq_false hal] at HSm
                    have HAl : Hid (∃ x ∈ xs, f x ≠ wayB way (covA a x t) (covA b x t)) := Classical.byContradiction fun h => hal (List.map_inj_left.2 fun x hx => Classical.byContradiction fun h' => h ⟨x, hx, fun e => h' e.symm⟩)
                    clear hal
                    go_wp2_with fail
                    refine (unhide HSm).mono ?_
                    rintro e w5 ⟨rfl, h5⟩
                    have B5 := hide h5
                    have z5 := h5.size
                    have cy5 := (h5.cell (p := ⟨g2, n, none⟩) (by simp; omega)).trans cy
                    clear h5
                    go_wp2_with fail
                    refine (laid_any f w.heap.size wl.heap.size _ _ xs top (t - top) w5 (ownI_kept (unhide HX4) (unhide B5)) (ownB_kept (unhide BD) (unhide B5)) (by omega) (unhide HG).bx).mono ?_
                    rintro e w6 ⟨v6, rfl, o6, b6⟩
                    have O6 := hide o6
                    have OO6 := hide (Own.kept (Own.kept (unhide OO) (unhide B5)) b6)
                    have R6 := hide (ownB_kept (ownB_kept (unhide HRw) (unhide B5)) b6)
                    have B6 := hide (((unhide Hb4).trans ((unhide B5).mono (by omega))).trans (b6.mono (by omega)))
                    have z6 := b6.size
                    have HLn : Hid ((laidF f top (t - top) none xs).length ≤ 160) := Nat.le_trans (laidF_len f top (t - top) none xs) lx
                    clear o6 b6 cy5
                    go_wp2_with (at_builtin; refine append_rects rfl _ _ rfl wl.heap.size _ _ _ out (laidF f top (t - top) none xs) rfl (unhide OO6) rfl (unhide O6) (by have := unhide HLn; omega) (by omega) ?_; intro v7 w7 hown hgrow; have O7 := hide hown; have G7 := hide hgrow; have B7 := hide ((unhide B6).grown hgrow (by omega) (Own.row_ge (unhide OO6))); have cy7 := ((unhide B7).cell (p := ⟨g2, n, none⟩) hg2).trans (unhide CYt); clear hown hgrow)
                    go_roundw
                    case rel =>
                      refine ⟨n + 1, (fun x => wayB way (covA a x t) (covA b x t)), t, out ++ laidF f top (t - top) none xs, by omega, by go_num, unhide O7, by have := unhide HLn; rw [List.length_append]; omega, unhide B7, .inr (.inl ⟨by omega, by omega, World.ownsRow.kept (unhide R6) (unhide G7) (.inr fun e => ?_), rfl, ((unhide HG).steps t).last (unhide HG).upx, ht1, fun y hy => ?_⟩)⟩
                      · have := (World.ownsRow.lt (unhide HO) wo.heap.size e.symm).2; omega
                      · have hy' := unhide HU
                        rw [hy'] at hy
                        injection hy with hy
                        subst hy
                        exact (unhide HG).more (unhide HTt) (unhide HU) (unhide HC) (unhide HL) (unhide HAl)
                    case measure => simp [intOf]; omega
                · omega
          · have j2 : ¬ (n : Int) + 1 < (ys.length : Int) := by omega
            have j3 : (0 : Int) < (xs.length : Int) := by omega
            go_loopw [16] (fun i wr => i = .int .i64 0 ∧ OwnB wr wl.heap.size (.slice (some ⟨wo.heap.size, 0, none⟩) xs.length xs.length) (xs.map fun _ => false) ∧ Below wo.heap.size wo wr) (fun i _ => xs.length - (intOf i).toNat)
            case atStart => exact ⟨rfl, by rw [show (xs.map fun _ => false) = List.replicate xs.length false from List.map_const']; exact unhide OR, unhide G1⟩
            case round =>
              obtain ⟨rfl, hRow, hbel3⟩ := hrel
              have hsz3 := hbel3.size
              have HRw := hide hRow
              have Hb3 := hide hbel3
              have OO := hide (Own.kept (unhide HO) hbel3)
              have Hb4 := hide ((unhide Hb2).trans (hbel3.mono hsz2))
              have cy := (hbel3.cell (p := ⟨g2, n, none⟩) (by simp; omega)).trans (((unhide Hb2).cell (p := ⟨g2, n, none⟩) hg2).trans (unhide CYt))
              have HX4 := hide (ownI_kept (unhide HX) (unhide Hb4))
              clear hRow hbel3
              rcases unhide HT with ⟨hn0, ho0⟩ | ⟨hn0, hn1, hBd, ht0, hL, htp, hCI⟩ | ⟨_, hne, _⟩
              · have d0 : ¬ (0 : Int) < (n : Int) := by omega
                have HN0 := hide hn0
                have HO0 := hide ho0
                clear hn0 ho0
                go_wp2
                go_roundw
                case rel =>
                  refine ⟨n + 1, f, top, out, by omega, by go_num, unhide OO, by omega, unhide Hb4, .inr (.inr ⟨by omega, by omega, ?_⟩)⟩
                  have e := unhide HO0
                  have e0 := unhide HN0
                  subst e e0
                  refine ⟨⟨fun r hr => by simp at hr, List.Pairwise.nil, fun r hr => by simp at hr⟩, fun px py => ⟨fun c => absurd c (covL_nil px py), fun c => ?_⟩⟩
                  exfalso
                  by_cases hpy : py < t
                  · have := (unhide HG).before t (unhide HTt) px py hpy; rw [this] at c; cases c
                  · have := (unhide HG).behind 0 t (unhide HTt) (by omega) px py (by omega); rw [this] at c; cases c
                case measure => simp [intOf]; omega
              · have d0 : (0 : Int) < (n : Int) := by omega
                have BD := hide (ownB_kept hBd (unhide Hb3))
                have HL := hide hL
                have HC := hide (hCI t (unhide HTt))
                subst ht0
                have hws2 : IntKind.i64.wrap (t - top) = t - top := by rw [IntKind.wrap_i64]; omega
                have HSm := hide (sameB_any _ _ (.slice (some ⟨wo.heap.size, 0, none⟩) xs.length xs.length) _ (xs.map fun _ => false) (xs.map f) wr (unhide HRw) (unhide BD) (by rw [List.length_map]; omega) (by simp))
                clear hBd hL hCI
                by_cases hal : (xs.map fun _ => false) = xs.map f
                · rw [decide_eq_true hal] at HSm
                  have HAl := hide (List.map_inj_left.1 hal)
                  clear hal
                  go_wp2_with fail
                  refine (unhide HSm).mono ?_
                  rintro e w5 ⟨rfl, h5⟩
                  have B5 := hide h5
                  have z5 := h5.size
                  clear h5
                  go_wp2
                  go_roundw
                  case rel =>
                    refine ⟨n + 1, f, top, out, by omega, by go_num, Own.kept (unhide OO) (unhide B5), by omega, (unhide Hb4).trans ((unhide B5).mono (by omega)), .inr (.inr ⟨by omega, by omega, ?_⟩)⟩
                    have hC := unhide HC
                    rw [laidF_congr top (t - top) none xs (g := fun _ => false) (fun x hx => ((unhide HAl) x hx).symm), laidF_no, List.append_nil] at hC
                    exact (unhide HG).done (unhide HTt) (by omega) hC
                  case measure => simp [intOf]; omega
                · rw [decide_eq_false hal] at HSm
                  clear hal
                  go_wp2_with fail
                  refine (unhide HSm).mono ?_
                  rintro e w5 ⟨rfl, h5⟩
                  have B5 := hide h5
                  have z5 := h5.size
                  have cy5 := (h5.cell (p := ⟨g2, n, none⟩) (by simp; omega)).trans cy
                  clear h5
                  go_wp2_with fail
                  refine (laid_any f w.heap.size wl.heap.size _ _ xs top (t - top) w5 (ownI_kept (unhide HX4) (unhide B5)) (ownB_kept (unhide BD) (unhide B5)) (by omega) (unhide HG).bx).mono ?_
                  rintro e w6 ⟨v6, rfl, o6, b6⟩
                  have O6 := hide o6
                  have OO6 := hide (Own.kept (Own.kept (unhide OO) (unhide B5)) b6)
                  have B6 := hide (((unhide Hb4).trans ((unhide B5).mono (by omega))).trans (b6.mono (by omega)))
                  have z6 := b6.size
                  have HLn : Hid ((laidF f top (t - top) none xs).length ≤ 160) := Nat.le_trans (laidF_len f top (t - top) none xs) lx
                  clear o6 b6 cy5
                  go_wp2_with (at_builtin; refine append_rects rfl _ _ rfl wl.heap.size _ _ _ out (laidF f top (t - top) none xs) rfl (unhide OO6) rfl (unhide O6) (by have := unhide HLn; omega) (by omega) ?_; intro v7 w7 hown hgrow; have O7 := hide hown; have G7 := hide hgrow; have B7 := hide ((unhide B6).grown hgrow (by omega) (Own.row_ge (unhide OO6))); have cy7 := ((unhide B7).cell (p := ⟨g2, n, none⟩) hg2).trans (unhide CYt); clear hown hgrow)
                  go_roundw
                  case rel => exact ⟨n + 1, f, t, out ++ laidF f top (t - top) none xs, by omega, by go_num, unhide O7, by have := unhide HLn; rw [List.length_append]; omega, unhide B7, .inr (.inr ⟨by omega, by omega, (unhide HG).done (unhide HTt) (by omega) (unhide HC)⟩)⟩
                  case measure => simp [intOf]; omega
              · omega
        · have hnl : n = ys.length := by omega
          have HF : Hid (Right out ∧ ∀ px py, covL out px py ↔ wayB way (covA a px py) (covA b px py) = true) := by
            rcases unhide HT with ⟨hn0, ho0⟩ | ⟨_, hn1, _⟩ | ⟨_, _, h1, h2⟩
            · have he : ys = [] := List.length_eq_zero_iff.1 (by omega)
              subst ho0
              refine ⟨⟨fun r hr => by simp at hr, List.Pairwise.nil, fun r hr => by simp at hr⟩, fun px py => ⟨fun c => absurd c (covL_nil px py), fun c => ?_⟩⟩
              have := (unhide HG).empty he px py
              rw [this] at c; cases c
            · omega
            · exact ⟨h1, h2⟩
          have j1 : ¬ (n : Int) < (ys.length : Int) := by omega
          clear hbel
          go_wp2
          go_ret
          exact ⟨_, rfl, out, (unhide HO).mono (by omega), (unhide HF).1, (unhide HF).2, by omega, (unhide Hb).trans ((unhide Hb2).mono (by omega))⟩
end Go.Proofs.YtfnockbgkcgpkaaGreat
