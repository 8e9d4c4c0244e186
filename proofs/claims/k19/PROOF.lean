import PyProof.Rows.All
import Wide.All
import OpenK.AllK
import Wide.FinOn
import HandS.ForMost
import HandS.Wide
import PySem.Challenge.RW_windpoints_k19_rows_of_winders
import HandS.IsInst
import HandS.Style
import HandS.Defaults
import HandS.MakeKwOnly
import HandS.Zip
import HandS.Walk
set_option Elab.async false
set_option linter.all false
set_option maxRecDepth 100000
namespace Wp
open PySem L2

/-! ### heaps that stay but for the draws -/
def Gx (a : Addr) (H H' : Hp) : Prop := ∀ b o, b ≠ a → H b = some o → H' b = some o
theorem Gx.refl (a : Addr) (H : Hp) : Gx a H H := fun _ _ _ h => h
theorem Gx.trans {a : Addr} {H H1 H2 : Hp} (x : Gx a H H1) (y : Gx a H1 H2) : Gx a H H2 := fun b o n h => y b o n (x b o n h)
theorem Gx.new {a p : Addr} {H : Hp} {o : HO} (h : H p = none) : Gx a H (upd H p o) := fun b u _ e => by
  rw [upd_ne (ne_of_none e h)]
  exact e
theorem Gx.grow {a p : Addr} {H H' : Hp} {o : HO} (g : Gx a H H') (h : H p = none) : Gx a H (upd H' p o) := fun b u n e => by
  rw [upd_ne (ne_of_none e h)]
  exact g b u n e
/-- the draws at a, at most n of them taken -/
def Dr (H : Hp) (a : Addr) (n : Nat) : Prop := ∃ (x c : Int) (b : Bool), H a = some (.lst [.int x, .int c, .bl b]) ∧ 0 ≤ x ∧ 0 ≤ c ∧ c ≤ (n : Int)
theorem Dr.mono {H : Hp} {a : Addr} {n m : Nat} (d : Dr H a n) (h : n ≤ m) : Dr H a m := by
  obtain ⟨x, c, b, e, h0, h1, h2⟩ := d
  exact ⟨x, c, b, e, h0, h1, by omega⟩
theorem Dr.ne {H : Hp} {a p : Addr} {n : Nat} (d : Dr H a n) (h : H p = none) : p ≠ a := by
  obtain ⟨x, c, b, e, _⟩ := d
  exact fun z => by rw [z, e] at h; cases h
theorem Dr.upd {H : Hp} {a p : Addr} {n : Nat} {o : HO} (d : Dr H a n) (h : p ≠ a) : Dr (upd H p o) a n := by
  obtain ⟨x, c, b, e, q⟩ := d
  exact ⟨x, c, b, by rw [upd_ne (Ne.symm h)]; exact e, q⟩
def big : Nat := 1000000000000

/-! ### types: what is known of a value, whatever the draws do -/
structure Ty (a : Addr) where
  p : V → Hp → Prop
  st : ∀ v H H', Gx a H H' → p v H → p v H'
def tyI (a : Addr) (f : Int → Prop) : Ty a := ⟨fun v _ => ∃ i, v = .int i ∧ f i, fun _ _ _ _ h => h⟩
def tyB (a : Addr) : Ty a := ⟨fun v _ => ∃ b, v = .bl b, fun _ _ _ _ h => h⟩
def tyS (a : Addr) (f : Str → Prop) : Ty a := ⟨fun v _ => ∃ z, v = .str z ∧ f z, fun _ _ _ _ h => h⟩
def tyIs (a : Addr) (x : V) : Ty a := ⟨fun v _ => v = x, fun _ _ _ _ h => h⟩
/-- a list of so many things of a type -/
def tyL (a : Addr) (k : Nat) (R : Ty a) : Ty a := ⟨fun v H => ∃ p xs, v = .ref p ∧ p ≠ a ∧ H p = some (.lst xs) ∧ xs.length = k ∧ ∀ x ∈ xs, R.p x H,
  fun v H H' g h => by
    obtain ⟨p, xs, e, n, q, l, t⟩ := h
    exact ⟨p, xs, e, n, g p _ n q, l, fun x hx => R.st x H H' g (t x hx)⟩⟩
/-- a tuple of so many things of a type -/
def tyU (a : Addr) (f : Nat → Prop) (R : Ty a) : Ty a := ⟨fun v H => ∃ p xs, v = .ref p ∧ p ≠ a ∧ H p = some (.tup xs) ∧ f xs.length ∧ ∀ x ∈ xs, R.p x H,
  fun v H H' g h => by
    obtain ⟨p, xs, e, n, q, l, t⟩ := h
    exact ⟨p, xs, e, n, g p _ n q, l, fun x hx => R.st x H H' g (t x hx)⟩⟩
/-- things of types, one by one -/
inductive TAll (a : Addr) (H : Hp) : List (Ty a) → List V → Prop
  | nil : TAll a H [] []
  | cons {P : Ty a} {Ps : List (Ty a)} {v : V} {vs : List V} : P.p v H → TAll a H Ps vs → TAll a H (P :: Ps) (v :: vs)
theorem TAll.st {a : Addr} {H H' : Hp} {Ps : List (Ty a)} {vs : List V} (h : TAll a H Ps vs) (g : Gx a H H') : TAll a H' Ps vs := by
  induction h with
  | nil => exact .nil
  | cons p _ ih => exact .cons (Ty.st _ _ _ _ g p) ih
theorem TAll.len {a : Addr} {H : Hp} {Ps : List (Ty a)} {vs : List V} (h : TAll a H Ps vs) : vs.length = Ps.length := by
  induction h with
  | nil => rfl
  | cons _ _ ih => rw [List.length_cons, List.length_cons, ih]
theorem TAll.rep {a : Addr} {H : Hp} {R : Ty a} : ∀ {k : Nat} {vs : List V}, TAll a H (List.replicate k R) vs → ∀ x ∈ vs, R.p x H
  | 0, _, h, x, hx => by
    cases h
    cases hx
  | k + 1, _, h, x, hx => by
    cases h with
    | cons p r =>
      rcases List.mem_cons.mp hx with e | e
      · rw [e]; exact p
      · exact TAll.rep r x e
/-- the slots and their types -/
structure Cty (a : Addr) (G : List (Option (Ty a))) (σ : L2.St) (H : Hp) : Prop where
  len : σ.length = G.length
  at_ : ∀ (i : Nat) (P : Ty a), G[i]? = some (some P) → ∃ v, σ[i]? = some (some v) ∧ P.p v H
theorem Cty.st {a : Addr} {G : List (Option (Ty a))} {σ : L2.St} {H H' : Hp} (c : Cty a G σ H) (g : Gx a H H') : Cty a G σ H' := ⟨c.len, fun i P h => by
  obtain ⟨v, e, p⟩ := c.at_ i P h
  exact ⟨v, e, P.st v H H' g p⟩⟩
theorem Cty.set {a : Addr} {G : List (Option (Ty a))} {σ : L2.St} {H : Hp} {i : Nat} {P : Ty a} {v : V} (c : Cty a G σ H) (h : P.p v H) : Cty a (G.set i (some P)) (σ.set i (some v)) H := ⟨by rw [List.length_set, List.length_set, c.len], fun j R e => by
  by_cases hij : i = j
  · subst hij
    by_cases hl : i < G.length
    · rw [List.getElem?_set_self hl] at e
      cases e
      exact ⟨v, List.getElem?_set_self (by rw [c.len]; exact hl), h⟩
    · rw [List.getElem?_eq_none_iff.mpr (by rw [List.length_set]; omega)] at e
      cases e
  · rw [List.getElem?_set_ne hij] at e
    obtain ⟨u, q, p⟩ := c.at_ j R e
    exact ⟨u, by rw [List.getElem?_set_ne hij]; exact q, p⟩⟩
theorem Cty.wipe {a : Addr} {G : List (Option (Ty a))} {σ : L2.St} {H : Hp} (c : Cty a G σ H) : ∀ (vs : List Nat), (∀ j ∈ vs, ∀ P, G[j]? ≠ some (some P)) → Cty a G (wipe σ vs) H
  | [], _ => c
  | j :: vs, h => by
    have ih := c.wipe vs fun k hk => h k (List.mem_cons_of_mem _ hk)
    refine ⟨by rw [wipe_length]; exact c.len, fun i P e => ?_⟩
    obtain ⟨v, q, p⟩ := ih.at_ i P e
    have hij : j ≠ i := fun z => h j List.mem_cons_self P (by rw [z]; exact e)
    exact ⟨v, by unfold L2.wipe; rw [List.getElem?_set_ne hij]; exact q, p⟩
theorem ctx_start {a : Addr} {H : Hp} {N : List Str} {Ps : List (Ty a)} {vs : List V} (h : TAll a H Ps vs) (hl : Ps.length ≤ N.length) : Cty a (Ps.map some ++ List.replicate (N.length - Ps.length) none) (L2.start N vs) H := by
  have e := h.len
  refine ⟨?_, fun i P q => ?_⟩
  · unfold L2.start
    rw [List.length_append, List.length_append, List.length_map, List.length_map, List.length_replicate, List.length_replicate, e]
  · have hi : i < Ps.length := by
      by_cases hi : i < Ps.length
      · exact hi
      · rw [List.getElem?_append_right (by rw [List.length_map]; omega), List.getElem?_replicate] at q
        split at q <;> cases q
    rw [List.getElem?_append_left (by rw [List.length_map]; exact hi), List.getElem?_map] at q
    have key : ∀ {Ps : List (Ty a)} {vs : List V}, TAll a H Ps vs → ∀ (i : Nat) (P : Ty a), (Ps[i]?).map some = some (some P) → ∃ v, vs[i]? = some v ∧ P.p v H := by
      intro Ps vs h
      induction h with
      | nil => intro i P q; simp at q
      | cons p _ ih =>
        intro i P q
        cases i with
        | zero =>
          simp at q
          subst q
          exact ⟨_, rfl, p⟩
        | succ i => exact ih i P (by simpa using q)
    obtain ⟨v, ev, p⟩ := key h i P q
    refine ⟨v, ?_, p⟩
    unfold L2.start
    rw [List.getElem?_append_left (by rw [List.length_map, e]; exact hi), List.getElem?_map, ev] <;> rfl

/-! ### judgements -/
section
variable {a : Addr} {G : List (Option (Ty a))}
/-- te takes at most m draws and comes to a P -/
def GE (a : Addr) (m : Nat) (G : List (Option (Ty a))) (te : TE) (P : Ty a) : Prop :=
  ∀ (n : Nat) (σ : L2.St) (H : Hp), n + m ≤ big → Cty a G σ H → Dr H a n → ∀ Q : VK, (∀ v H', Gx a H H' → Dr H' a (n + m) → P.p v H' → Q v H') → te σ H Q
def GT (a : Addr) (m : Nat) (G : List (Option (Ty a))) (tt : TT) : Prop :=
  ∀ (n : Nat) (σ : L2.St) (H : Hp), n + m ≤ big → Cty a G σ H → Dr H a n → ∀ Q : Bool → Hp → Prop, (∀ b H', Gx a H H' → Dr H' a (n + m) → Q b H') → tt σ H Q
def GA (a : Addr) (m : Nat) (G : List (Option (Ty a))) (ta : TA) (Ps : List (Ty a)) : Prop :=
  ∀ (n : Nat) (σ : L2.St) (H : Hp), n + m ≤ big → Cty a G σ H → Dr H a n → ∀ Q : List V → Hp → Prop, (∀ vs H', Gx a H H' → Dr H' a (n + m) → TAll a H' Ps vs → Q vs H') → ta σ H Q
/-- a statement: it returns an R, or goes on with the slots of G' (none: it never does) -/
def CtyO (a : Addr) : Option (List (Option (Ty a))) → L2.St → Hp → Prop
  | none, _, _ => False
  | some G, σ, H => Cty a G σ H
def GS (a : Addr) (m : Nat) (G : List (Option (Ty a))) (ts : TS) (G' : Option (List (Option (Ty a)))) (R : Ty a) : Prop :=
  ∀ (n : Nat) (σ : L2.St) (H : Hp) (D : Ends), n + m ≤ big → Cty a G σ H → Dr H a n → (∀ v H', Gx a H H' → Dr H' a (n + m) → R.p v H' → D.rt v H') → (∀ σ' H', Gx a H H' → Dr H' a (n + m) → CtyO a G' σ' H' → D.nx σ' H') → ts D σ H

theorem g_var {i : Nat} {P : Ty a} (h : G[i]? = some (some P)) : GE a 0 G (tVar i) P := fun n σ H _ c d Q q => by
  obtain ⟨v, e, p⟩ := c.at_ i P h
  exact ⟨v, e, q v H (Gx.refl a H) d p⟩
theorem g_c (v : V) : GE a 0 G (tC v) (tyIs a v) := fun n σ H _ c d Q q => q v H (Gx.refl a H) d rfl
theorem GE.sub {m : Nat} {te : TE} {P R : Ty a} (h : GE a m G te P) (w : ∀ v H, P.p v H → R.p v H) : GE a m G te R := fun n σ H hb c d Q q => h n σ H hb c d Q fun v H' g d' p => q v H' g d' (w v H' p)
theorem GE.up {m m' : Nat} {te : TE} {P : Ty a} (h : GE a m G te P) (w : m ≤ m') : GE a m' G te P := fun n σ H hb c d Q q => h n σ H (by omega) c d Q fun v H' g d' p => q v H' g (d'.mono (by omega)) p
theorem g_op {m1 m2 : Nat} {r : R2} {ta tb : TE} {P Q R : Ty a} (ha : GE a m1 G ta P) (hb : GE a m2 G tb Q) (hr : ∀ x y H, P.p x H → Q.p y H → ∀ n, Dr H a n → ∀ K : VK, (∀ v H', Gx a H H' → Dr H' a n → R.p v H' → K v H') → r x y H K) : GE a (m1 + m2) G (tOp r ta tb) R :=
  fun n σ H hn c d K q => ha n σ H (by omega) c d _ fun x H1 g1 d1 p1 => hb (n + m1) σ H1 (by omega) (c.st g1) d1 _ fun y H2 g2 d2 p2 =>
    hr x y H2 (P.st x H1 H2 g2 p1) p2 _ d2 K fun v H3 g3 d3 p3 => q v H3 ((g1.trans g2).trans g3) (d3.mono (by omega)) p3
/-- ints -/
theorem g_I0 {m1 m2 : Nat} {ta tb : TE} {f : Int → Int → Int} {p q r : Int → Prop} (ha : GE a m1 G ta (tyI a p)) (hb : GE a m2 G tb (tyI a q)) (hr : ∀ i j, p i → q j → r (f i j)) : GE a (m1 + m2) G (tOp (rI0 fun i j => .int (f i j)) ta tb) (tyI a r) :=
  g_op ha hb fun x y H hx hy n d K k => by
    obtain ⟨i, rfl, pi⟩ := hx
    obtain ⟨j, rfl, pj⟩ := hy
    exact ⟨i, j, rfl, rfl, k _ H (Gx.refl a H) d ⟨_, rfl, hr i j pi pj⟩⟩
theorem g_I {m1 m2 : Nat} {ta tb : TE} {C : Int → Int → Prop} {f : Int → Int → Int} {p q r : Int → Prop} (ha : GE a m1 G ta (tyI a p)) (hb : GE a m2 G tb (tyI a q)) (hc : ∀ i j, p i → q j → C i j) (hr : ∀ i j, p i → q j → r (f i j)) : GE a (m1 + m2) G (tOp (rI C fun i j => .int (f i j)) ta tb) (tyI a r) :=
  g_op ha hb fun x y H hx hy n d K k => by
    obtain ⟨i, rfl, pi⟩ := hx
    obtain ⟨j, rfl, pj⟩ := hy
    exact ⟨i, j, rfl, rfl, hc i j pi pj, k _ H (Gx.refl a H) d ⟨_, rfl, hr i j pi pj⟩⟩
theorem g_int (i : Int) : GE a 0 G (tC (.int i)) (tyI a fun j => j = i) := fun n σ H _ c d Q q => q _ H (Gx.refl a H) d ⟨i, rfl, rfl⟩
theorem g_str (z : Str) : GE a 0 G (tC (.str z)) (tyS a fun y => y = z) := fun n σ H _ c d Q q => q _ H (Gx.refl a H) d ⟨z, rfl, rfl⟩
/-- e % k, k written -/
theorem g_mod {m1 : Nat} {ta : TE} {k : Int} {p : Int → Prop} (ha : GE a m1 G ta (tyI a p)) (hk : 0 < k) : GE a (m1 + 0) G (tOp (rI (fun _ j => 0 < j) fun i j => .int (i % j)) ta (tC (.int k))) (tyI a fun i => 0 ≤ i ∧ i < k) :=
  g_I ha (g_int k) (fun i j _ e => by rw [e]; exact hk) fun i j _ e => by rw [e]; exact ⟨Int.emod_nonneg _ (by omega), Int.emod_lt_of_pos _ hk⟩
theorem g_div {m1 : Nat} {ta : TE} {k : Int} {p r : Int → Prop} (ha : GE a m1 G ta (tyI a p)) (hk : 0 < k ∧ k < 1073741824) (hr : ∀ i, p i → r (i / k)) : GE a (m1 + 0) G (tOp (rI CDiv fun i j => .int (i / j)) ta (tC (.int k))) (tyI a r) :=
  g_I ha (g_int k) (fun i j _ e => by rw [e]; exact hk) fun i j pi e => by rw [e]; exact hr i pi
/-- tests -/
theorem g_cmpI {m1 m2 : Nat} {ta tb : TE} {f : Int → Int → Bool} {p q : Int → Prop} (ha : GE a m1 G ta (tyI a p)) (hb : GE a m2 G tb (tyI a q)) : GT a (m1 + m2) G (tTest (tOp (rI0 fun i j => .bl (f i j)) ta tb)) :=
  fun n σ H hn c d K k => ha n σ H (by omega) c d _ fun x H1 g1 d1 p1 => hb (n + m1) σ H1 (by omega) (c.st g1) d1 _ fun y H2 g2 d2 p2 => by
    obtain ⟨i, rfl, pi⟩ := p1
    obtain ⟨j, rfl, pj⟩ := p2
    exact ⟨i, j, rfl, rfl, _, rfl, k _ H2 (g1.trans g2) (d2.mono (by omega))⟩
theorem g_eqI {m1 m2 : Nat} {ta tb : TE} {p q : Int → Prop} (ha : GE a m1 G ta (tyI a p)) (hb : GE a m2 G tb (tyI a q)) : GE a (m1 + m2) G (tOp rEq ta tb) (tyB a) :=
  g_op ha hb fun x y H hx hy n d K k => by
    obtain ⟨i, rfl, _⟩ := hx
    obtain ⟨j, rfl, _⟩ := hy
    exact ⟨rfl, k _ H (Gx.refl a H) d ⟨_, rfl⟩⟩
theorem g_test {m : Nat} {te : TE} (h : GE a m G te (tyB a)) : GT a m G (tTest te) := fun n σ H hn c d K k => h n σ H hn c d _ fun v H' g d' p => by
  obtain ⟨b, rfl⟩ := p
  exact ⟨b, rfl, k b H' g d'⟩
theorem g_andT {m1 m2 : Nat} {t u : TT} (h1 : GT a m1 G t) (h2 : GT a m2 G u) : GT a (m1 + m2) G (tAnd t u) := fun n σ H hn c d K k => h1 n σ H (by omega) c d _ fun b H1 g1 d1 => by
  cases b with
  | true =>
    show u σ H1 K
    exact h2 (n + m1) σ H1 (by omega) (c.st g1) d1 K fun b H2 g2 d2 => k b H2 (g1.trans g2) (d2.mono (by omega))
  | false =>
    show K false H1
    exact k false H1 g1 (d1.mono (by omega))
theorem g_andV {m1 m2 : Nat} {ta tb : TE} (h1 : GE a m1 G ta (tyB a)) (h2 : GE a m2 G tb (tyB a)) : GE a (m1 + m2) G (tAndV ta tb) (tyB a) := fun n σ H hn c d K k => h1 n σ H (by omega) c d _ fun v H1 g1 d1 p => by
  obtain ⟨b, rfl⟩ := p
  refine ⟨b, rfl, ?_⟩
  cases b with
  | true =>
    show tb σ H1 K
    exact h2 (n + m1) σ H1 (by omega) (c.st g1) d1 K fun b H2 g2 d2 p2 => k b H2 (g1.trans g2) (d2.mono (by omega)) p2
  | false =>
    show K (.bl false) H1
    exact k _ H1 g1 (d1.mono (by omega)) ⟨_, rfl⟩
/-- arguments -/
theorem ga_nil : GA a 0 G tNil [] := fun n σ H _ c d Q q => q [] H (Gx.refl a H) d .nil
theorem ga_cons {m1 m2 : Nat} {te : TE} {ta : TA} {P : Ty a} {Ps : List (Ty a)} (h : GE a m1 G te P) (hr : GA a m2 G ta Ps) : GA a (m1 + m2) G (tCons te ta) (P :: Ps) := fun n σ H hn c d Q q =>
  h n σ H (by omega) c d _ fun v H1 g1 d1 p => hr (n + m1) σ H1 (by omega) (c.st g1) d1 _ fun vs H2 g2 d2 ps => q (v :: vs) H2 (g1.trans g2) (d2.mono (by omega)) (.cons (P.st v H1 H2 g2 p) ps)
/-- (e, ..): R is what a new tuple of these is -/
theorem g_tup {m : Nat} {ta : TA} {Ps : List (Ty a)} {R : Ty a} (h : GA a m G ta Ps) (hR : ∀ vs H p, p ≠ a → H p = some (.tup vs) → TAll a H Ps vs → R.p (.ref p) H) (hl : Ps.length ≤ 1000 := by simp) : GE a m G (tTup ta) R := fun n σ H hn c d Q q =>
  h n σ H hn c d _ fun vs H1 g1 d1 ps => ⟨by rw [ps.len]; exact Nat.le_of_lt (small1000 hl), fun p hp => q _ _ (g1.trans (Gx.new hp)) (d1.upd (d1.ne hp)) (hR vs _ p (d1.ne hp) upd_same (ps.st (Gx.new hp)))⟩
theorem g_lst {m : Nat} {ta : TA} {k : Nat} {R : Ty a} (h : GA a m G ta (List.replicate k R)) (hl : k ≤ 1000) : GE a m G (tLst ta) (tyL a k R) := fun n σ H hn c d Q q =>
  h n σ H hn c d _ fun vs H1 g1 d1 ps => ⟨by rw [ps.len, List.length_replicate]; exact Nat.le_of_lt (small1000 hl), fun p hp => q _ _ (g1.trans (Gx.new hp)) (d1.upd (d1.ne hp)) ⟨p, vs, rfl, d1.ne hp, upd_same, by rw [ps.len, List.length_replicate], fun x hx => R.st x H1 _ (Gx.new hp) (ps.rep x hx)⟩⟩
/-- xs + ys of lists -/
theorem g_cat {m1 m2 k l : Nat} {ta tb : TE} {R : Ty a} (ha : GE a m1 G ta (tyL a k R)) (hb : GE a m2 G tb (tyL a l R)) (hl : k + l ≤ 1000) : GE a (m1 + m2) G (tOp rCat ta tb) (tyL a (k + l) R) :=
  g_op ha hb fun x y H hx hy n d K q => by
    obtain ⟨p, xs, rfl, np, hp, lp, tp⟩ := hx
    obtain ⟨s, ys, rfl, ns, hs, ls, ts⟩ := hy
    refine ⟨p, s, xs, ys, rfl, rfl, hp, hs, by rw [lp, ls]; exact Nat.le_of_lt (small1000 hl), fun t ht => q _ _ (Gx.new ht) (d.upd (d.ne ht)) ⟨t, xs ++ ys, rfl, d.ne ht, upd_same, by rw [List.length_append, lp, ls], fun x hx => R.st x H _ (Gx.new ht) ?_⟩⟩
    rcases List.mem_append.mp hx with z | z
    · exact tp x z
    · exact ts x z
theorem at_in {xs : List V} {i : Int} (h0 : 0 ≤ i) (h1 : i < (xs.length : Int)) : ∃ v, atI xs i = some v ∧ v ∈ xs := by
  have hi : i.toNat < xs.length := by omega
  refine ⟨xs[i.toNat], at_of (j := i.toNat) (by omega) (List.getElem?_eq_getElem hi), List.getElem_mem hi⟩
/-- xs[i] -/
theorem g_ixL {K : PySem.W.Frag} {m1 m2 k : Nat} {ta tb : TE} {R : Ty a} {p : Int → Prop} (ha : GE a m1 G ta (tyL a k R)) (hb : GE a m2 G tb (tyI a p)) (hp : ∀ i, p i → 0 ≤ i ∧ i < (k : Int)) : GE a (m1 + m2) G (tOp (rIxL K) ta tb) R :=
  g_op ha hb fun x y H hx hy n d Kk q => by
    obtain ⟨s, xs, rfl, np, hs, ls, ts⟩ := hx
    obtain ⟨i, rfl, pi⟩ := hy
    have hi := hp i pi
    obtain ⟨v, ev, mv⟩ := at_in (xs := xs) (i := i) hi.1 (by rw [ls]; exact hi.2)
    exact ⟨s, xs, i, v, rfl, rfl, SqL.of hs, ev, q v H (Gx.refl a H) d (ts v mv)⟩
/-- 'abc'[i] -/
theorem g_ixS {m2 : Nat} {tb : TE} {z : Str} {p : Int → Prop} {f : Str → Prop} (hb : GE a m2 G tb (tyI a p)) (hz : z.length ≤ 1000) (hp : ∀ i, p i → 0 ≤ i ∧ i < (z.cps.toList.length : Int)) (hf : ∀ c ∈ z.cps.toList, f ⟨#[c]⟩) : GE a (0 + m2) G (tOp rIxS (tC (.str z)) tb) (tyS a f) :=
  g_op (g_str z) hb fun x y H hx hy n d Kk q => by
    obtain ⟨z', hx1, hx2⟩ := hx
    rw [hx2] at hx1
    subst hx1
    obtain ⟨i, rfl, pi⟩ := hy
    have hi := hp i pi
    have hj : i.toNat < (z.cps.toList).length := by omega
    refine ⟨z, i, z.cps.toList[i.toNat], rfl, rfl, Nat.le_of_lt (small1000 hz), ?_, q _ H (Gx.refl a H) d ⟨_, rfl, hf _ (List.getElem_mem hj)⟩⟩
    have e : i = ((i.toNat : Nat) : Int) := by omega
    have h2 := atI_nat (List.getElem?_eq_getElem hj)
    rw [← e] at h2
    exact h2
/-- s + t of texts -/
theorem g_addS {m1 m2 : Nat} {ta tb : TE} {p q r : Str → Prop} (ha : GE a m1 G ta (tyS a p)) (hb : GE a m2 G tb (tyS a q)) (hl : ∀ i j, p i → q j → i.length + j.length ≤ 1000) (hr : ∀ i j, p i → q j → r (i ++ j)) : GE a (m1 + m2) G (tOp (fun x y H Q => ∃ i j, x = .str i ∧ y = .str j ∧ i.length + j.length ≤ sizeLine ∧ Q (.str (i ++ j)) H) ta tb) (tyS a r) :=
  g_op ha hb fun x y H hx hy n d K k => by
    obtain ⟨i, rfl, pi⟩ := hx
    obtain ⟨j, rfl, pj⟩ := hy
    exact ⟨i, j, rfl, rfl, Nat.le_of_lt (small1000 (hl i j pi pj)), k _ H (Gx.refl a H) d ⟨_, rfl, hr i j pi pj⟩⟩
/-- str(i) -/
theorem g_strI {m1 : Nat} {ta : TE} {p : Int → Prop} {r : Str → Prop} (ha : GE a m1 G ta (tyI a p)) (hb : ∀ i, p i → i.natAbs.log2 < 1920) (hr : ∀ i : Int, p i → r (toString i)) : GE a (m1 + 0) G (tCB (fun xs H Q => ∃ i : Int, xs = [.int i] ∧ i.natAbs.log2 < 1920 ∧ Q (.str (toString i)) H) (tCons ta tNil)) (tyS a r) := fun n σ H hn c d K k =>
  ha n σ H (by omega) c d _ fun v H1 g1 d1 p1 => by
    obtain ⟨i, rfl, pi⟩ := p1
    exact ⟨i, rfl, hb i pi, k _ H1 g1 d1 ⟨_, rfl, hr i pi⟩⟩
/-- int(b) -/
theorem g_intB {m1 : Nat} {ta : TE} (ha : GE a m1 G ta (tyB a)) : GE a (m1 + 0) G (tCB (fun xs H Q => (∃ i, xs = [V.int i] ∧ Q (.int i) H) ∨ ∃ k, xs = [V.bl k] ∧ Q (.int (if k then 1 else 0)) H) (tCons ta tNil)) (tyI a fun i => 0 ≤ i ∧ i < 2) := fun n σ H hn c d K k =>
  ha n σ H (by omega) c d _ fun v H1 g1 d1 p1 => by
    obtain ⟨b, rfl⟩ := p1
    refine .inr ⟨b, rfl, k _ H1 g1 d1 ⟨_, rfl, ?_⟩⟩
    cases b <;> decide
/-- tuple(xs) of a list -/
theorem g_tupOf {K : PySem.W.Frag} {m1 k : Nat} {ta : TE} {f : Nat → Prop} {R : Ty a} (ha : GE a m1 G ta (tyL a k R)) (hf : f k) : GE a (m1 + 0) G (tCB (fun xs H Q => ∃ p ys, xs = [V.ref p] ∧ ((SqL K H p ys ∧ ∀ l, H l = none → Q (.ref l) (upd H l (.tup ys))) ∨ (SqT K H p ys ∧ Q (.ref p) H))) (tCons ta tNil)) (tyU a f R) := fun n σ H hn c d Q q =>
  ha n σ H (by omega) c d _ fun v H1 g1 d1 p1 => by
    obtain ⟨s, xs, rfl, np, hs, ls, ts⟩ := p1
    exact ⟨s, xs, rfl, .inl ⟨SqL.of hs, fun l hl => q _ _ (g1.trans (Gx.new hl)) (d1.upd (d1.ne hl)) ⟨l, xs, rfl, d1.ne hl, upd_same, by rw [ls]; exact hf, fun x hx => R.st x H1 _ (Gx.new hl) (ts x hx)⟩⟩⟩
/-- the promise of a def that draws -/
def spG (m : Nat) (Ps : (a : Addr) → List (Ty a)) (R : (a : Addr) → Ty a) : Sp := fun vs H Q _ => ∃ (a : Addr) (n : Nat), n + m ≤ big ∧ Dr H a n ∧ TAll a H (Ps a) vs ∧ ∀ v H', Gx a H H' → Dr H' a (n + m) → (R a).p v H' → Q v H'
theorem g_call {m m1 : Nat} {Ps : (a : Addr) → List (Ty a)} {R : (a : Addr) → Ty a} {E : XK} {ta : TA} (h : GA a m1 G ta (Ps a)) : GE a (m1 + m) G (tCall (spG m Ps R) [] E ta) (R a) := fun n σ H hn c d Q q =>
  h n σ H (by omega) c d _ fun vs H1 g1 d1 ps => ⟨a, n + m1, by omega, d1, by rw [List.append_nil]; exact ps, fun v H2 g2 d2 p2 => q v H2 (g1.trans g2) (d2.mono (by omega)) p2⟩
/-- tuples stay, whatever else changes -/
def Tp (H H' : Hp) : Prop := ∀ b xs, H b = some (.tup xs) → H' b = some (.tup xs)
theorem Gx.tp {a : Addr} {H H' : Hp} {n : Nat} (d : Dr H a n) (g : Gx a H H') : Tp H H' := fun b xs h => g b _ (fun z => by
  obtain ⟨x, c, k, e, _⟩ := d
  rw [z, e] at h
  cases h) h
theorem wipe_one (σ : L2.St) (j : Nat) (x : V) : wipe ((wipe σ [j]).set j (some x)) [j] = wipe σ [j] := by
  show ((σ.set j none).set j (some x)).set j none = σ.set j none
  rw [List.set_set, List.set_set]
/-- a list of things of a type, by how many they may be -/
def tyLp (a : Addr) (p : Int → Prop) (R : Ty a) : Ty a := ⟨fun v H => ∃ k : Nat, p (k : Int) ∧ (tyL a k R).p v H, fun v H H' g ⟨k, pk, q⟩ => ⟨k, pk, (tyL a k R).st v H H' g q⟩⟩
/-- [e for x in range(k)] -/
theorem g_lcR {m1 m2 : Nat} {ta : TA} {te : TE} {j : Nat} {p : Int → Prop} {R : Ty a} {K : Nat} (h : GA a m1 G ta [tyI a p]) (hk : ∀ i, p i → 0 ≤ i ∧ i ≤ (K : Int)) (hK : K ≤ 1000) (hv : ∀ P, G[j]? ≠ some (some P)) (hT : ∀ v H H', Tp H H' → R.p v H → R.p v H') (he : GE a m2 G te R) :
    GE a (m1 + K * m2) G (tLc (iRng1 ta) (gName j) tYes te [j]) (tyLp a p R) := fun n σ H hn c d Q q =>
  h n σ H (by omega) c d _ fun ws H1 g1 d1 ps => by
    cases ps with
    | cons p1 r =>
      cases r
      obtain ⟨i, rfl, pi⟩ := p1
      have hi := hk i pi
      refine ⟨i, rfl, by omega, by omega, fun D hD => ?_⟩
      have nD : D ≠ a := d1.ne hD
      refine lc_range (lo := 0) (n := i.toNat) (fun t H' => Gx a H1 H' ∧ Dr H' a (n + m1 + t * m2) ∧ ∃ xs, H' D = some (.lst xs) ∧ xs.length = t ∧ ∀ x ∈ xs, R.p x H') ?_ ?_ ?_
      · exact ⟨Gx.new hD, (d1.upd nD).mono (by omega), [], upd_same, rfl, fun x hx => by cases hx⟩
      · rintro t H' ht ⟨g', d', xs, hxs, lxs, txs⟩
        have hm : (t + 1) * m2 ≤ K * m2 := Nat.mul_le_mul_right m2 (by omega)
        have hm' : (t + 1) * m2 = t * m2 + m2 := Nat.succ_mul t m2
        have cw : Cty a G ((wipe σ [j]).set j (some (.int ((0 : Int) + (t : Int))))) H' := by
          have c1 := (c.st (g1.trans g')).wipe [j] (fun i hi P => by rw [List.mem_singleton.mp hi]; exact hv P)
          refine ⟨by rw [List.length_set]; exact c1.len, fun i P e => ?_⟩
          obtain ⟨v, e1, p1⟩ := c1.at_ i P e
          have hij : j ≠ i := fun z => hv P (by rw [z]; exact e)
          exact ⟨v, by rw [List.getElem?_set_ne hij]; exact e1, p1⟩
        refine ⟨wipe_one σ j _, ?_⟩
        refine he (n + m1 + t * m2) ((wipe σ [j]).set j (some (.int ((0 : Int) + (t : Int))))) H' (by omega) cw d' _ fun v H2 g2 d2 p2 => ?_
        have hx2 : H2 D = some (.lst xs) := g2 D _ nD hxs
        have kt : Tp H2 (upd H2 D (.lst (xs ++ [v]))) := fun b ys hb => by
          rw [upd_ne (ne_of hb hx2 (by intro z; cases z))]
          exact hb
        refine ⟨xs, hx2, by rw [lxs]; exact small1000 (by omega), ?_, ?_, xs ++ [v], upd_same, by rw [List.length_append, lxs] <;> rfl, ?_⟩
        · exact (g'.trans g2).grow hD
        · exact (d2.upd nD).mono (by omega)
        · intro x hx
          rcases List.mem_append.mp hx with z | z
          · exact hT x _ _ kt (R.st x H' H2 g2 (txs x z))
          · rw [List.mem_singleton.mp z]
            exact hT v _ _ kt p2
      · rintro H' ⟨g', d', xs, hxs, lxs, txs⟩
        have hm : i.toNat * m2 ≤ K * m2 := Nat.mul_le_mul_right m2 (by omega)
        exact q _ H' (g1.trans g') (d'.mono (by omega)) ⟨i.toNat, by rw [show ((i.toNat : Nat) : Int) = i by omega]; exact pi, D, xs, rfl, nD, hxs, lxs, txs⟩
theorem g_tupOfp {K : PySem.W.Frag} {m1 : Nat} {ta : TE} {p : Int → Prop} {R : Ty a} (ha : GE a m1 G ta (tyLp a p R)) : GE a (m1 + 0) G (tCB (fun xs H Q => ∃ p ys, xs = [V.ref p] ∧ ((SqL K H p ys ∧ ∀ l, H l = none → Q (.ref l) (upd H l (.tup ys))) ∨ (SqT K H p ys ∧ Q (.ref p) H))) (tCons ta tNil)) (tyU a (fun k => p (k : Int)) R) := fun n σ H hn c d Q q =>
  ha n σ H (by omega) c d _ fun v H1 g1 d1 p1 => by
    obtain ⟨k, pk, s, xs, rfl, np, hs, ls, ts⟩ := p1
    exact ⟨s, xs, rfl, .inl ⟨SqL.of hs, fun l hl => q _ _ (g1.trans (Gx.new hl)) (d1.upd (d1.ne hl)) ⟨l, xs, rfl, d1.ne hl, upd_same, by rw [ls]; exact pk, fun x hx => R.st x H1 _ (Gx.new hl) (ts x hx)⟩⟩⟩
/-! ### statements -/
theorem gs_par {m i j : Nat} {ta : TA} {P Q R : Ty a} (h : GA a m G ta [P, Q]) : GS a m G (tPar i j ta) (some ((G.set i (some P)).set j (some Q))) R := fun n σ H D hn c d _ k => h n σ H hn c d _ fun vs H' g d' ps => by
  cases ps with
  | cons p r =>
    cases r with
    | cons q r =>
      cases r
      exact ⟨_, _, rfl, k _ H' g d' (((c.st g).set p).set q)⟩
/-- by what a slot may be -/
theorem gs_split {m i : Nat} {t : TS} {P P1 P2 R : Ty a} {G' : Option (List (Option (Ty a)))} (h : G[i]? = some (some P)) (w : ∀ v H, P.p v H → P1.p v H ∨ P2.p v H) (h1 : GS a m (G.set i (some P1)) t G' R) (h2 : GS a m (G.set i (some P2)) t G' R) : GS a m G t G' R := fun n σ H D hn c d k1 k2 => by
  obtain ⟨v, e, p⟩ := c.at_ i P h
  have e2 : σ.set i (some v) = σ := by
    obtain ⟨hi, e1⟩ := List.getElem?_eq_some_iff.mp e
    rw [← e1]
    exact List.set_getElem_self hi
  rcases w v H p with p1 | p2
  · have c1 := c.set (i := i) p1
    rw [e2] at c1
    exact h1 n σ H D hn c1 d k1 k2
  · have c1 := c.set (i := i) p2
    rw [e2] at c1
    exact h2 n σ H D hn c1 d k1 k2
theorem gs_ret {m : Nat} {te : TE} {R : Ty a} (h : GE a m G te R) : GS a m G (tRet te) none R := fun n σ H D hn c d k _ => h n σ H hn c d _ fun v H' g d' p => k v H' g d' p
theorem gs_set {m i : Nat} {te : TE} {P R : Ty a} (h : GE a m G te P) : GS a m G (tAsg te (gName i)) (some (G.set i (some P))) R := fun n σ H D hn c d _ k => h n σ H hn c d _ fun v H' g d' p => k _ H' g d' ((c.st g).set p)
theorem gs_next {R : Ty a} : GS a 0 G tNext (some G) R := fun n σ H D hn c d _ k => k σ H (Gx.refl a H) d c
theorem gs_seq {m1 m2 : Nat} {t u : TS} {G1 : List (Option (Ty a))} {G2 : Option (List (Option (Ty a)))} {R : Ty a} (h1 : GS a m1 G t (some G1) R) (h2 : GS a m2 G1 u G2 R) : GS a (m1 + m2) G (tSeq t u) G2 R := fun n σ H D hn c d k1 k2 =>
  h1 n σ H _ (by omega) c d (fun v H' g d' p => k1 v H' g (d'.mono (by omega)) p) fun σ' H' g d' c' => h2 (n + m1) σ' H' D (by omega) c' d' (fun v H2 g2 d2 p => k1 v H2 (g.trans g2) (d2.mono (by omega)) p) fun σ2 H2 g2 d2 c2 => k2 σ2 H2 (g.trans g2) (d2.mono (by omega)) c2
/-- if t: suite that returns; then the rest -/
theorem gs_ifr {m1 m2 m3 : Nat} {t : TT} {u r : TS} {G2 : Option (List (Option (Ty a)))} {R : Ty a} (h1 : GT a m1 G t) (h2 : GS a m2 G u none R) (h3 : GS a m3 G r G2 R) : GS a (m1 + (max m2 m3)) G (tSeq (tIfS t u tNext) r) G2 R := fun n σ H D hn c d k1 k2 =>
  h1 n σ H (by omega) c d _ fun b H1 g1 d1 => by
    cases b with
    | true =>
      show u { D with nx := r D } σ H1
      exact h2 (n + m1) σ H1 _ (by omega) (c.st g1) d1 (fun v H2 g2 d2 p => k1 v H2 (g1.trans g2) (d2.mono (by omega)) p) fun σ2 H2 g2 d2 c2 => c2.elim
    | false =>
      show r D σ H1
      exact h3 (n + m1) σ H1 D (by omega) (c.st g1) d1 (fun v H2 g2 d2 p => k1 v H2 (g1.trans g2) (d2.mono (by omega)) p) fun σ2 H2 g2 d2 c2 => k2 σ2 H2 (g1.trans g2) (d2.mono (by omega)) c2
/-- if t: x = e, in both ways the slots are of G1 -/
theorem gs_ifs {m1 m2 : Nat} {t : TT} {u : TS} {R : Ty a} (h1 : GT a m1 G t) (h2 : GS a m2 G u (some G) R) : GS a (m1 + m2) G (tIfS t u tNext) (some G) R := fun n σ H D hn c d k1 k2 =>
  h1 n σ H (by omega) c d _ fun b H1 g1 d1 => by
    cases b with
    | true =>
      show u D σ H1
      exact h2 (n + m1) σ H1 _ (by omega) (c.st g1) d1 (fun v H2 g2 d2 p => k1 v H2 (g1.trans g2) (d2.mono (by omega)) p) fun σ2 H2 g2 d2 c2 => k2 σ2 H2 (g1.trans g2) (d2.mono (by omega)) c2
    | false =>
      show D.nx σ H1
      exact k2 σ H1 g1 (d1.mono (by omega)) (c.st g1)
theorem GS.up {m m' : Nat} {t : TS} {G' : Option (List (Option (Ty a)))} {R : Ty a} (h : GS a m G t G' R) (w : m ≤ m') : GS a m' G t G' R := fun n σ H D hn c d k1 k2 => h n σ H D (by omega) c d (fun v H' g d' p => k1 v H' g (d'.mono (by omega)) p) fun σ' H' g d' c' => k2 σ' H' g (d'.mono (by omega)) c'
end
/-- a def that draws: from its body -/
theorem fun_G {P : Program} {w : World} {K : PySem.W.Frag} {mg : Str → Option Value} {base : Heap} {x qual : Str} {st : Stmt} {f : Addr} {fd : FuncData} {N ps : List Str} {k m : Nat} {Ps : (a : Addr) → List (Ty a)} {R : (a : Addr) → Ty a}
    (F : Fun K x qual st f fd) (S : FnScope N ps (defScope st)) (hl : ∀ a, (Ps a).length = ps.length) (hN : ps.length ≤ N.length)
    (hb : ∀ (cdv : Value) (A : Around) (outer : List Env) (s : Shared) (H : Hp) (E : XK), Room k (A.deeper (PyProof.Rows.envOfC qual (defScope st) s.heap.objs.size f cdv)) →
      ∃ t, PSs (cxOf CX0 P w K mg base N qual (defScope st) f cdv A outer s H E).nox (defBody st) t ∧ ∀ a, GS a m ((Ps a).map some ++ List.replicate (N.length - (Ps a).length) none) t none (R a)) :
    FnOk P w K mg base CX0 (k + 1) f fd ps (spG m Ps R) := by
  refine F.ok S (fun vs H Q E h => ?_) (fun cdv A outer s H vs Q E hr h => ?_)
  · obtain ⟨a, n, _, _, ps', _⟩ := h
    rw [ps'.len, hl a]
  · obtain ⟨a, n, hn, d, ps', q⟩ := h
    obtain ⟨t, ht, g⟩ := hb cdv A outer s H E hr
    exact ⟨t, ht, g a n _ H _ hn (ctx_start ps' (by rw [hl a]; exact hN)) d q fun σ' H' _ _ c => c.elim⟩
end Wp
set_option Elab.async false
set_option linter.all false
set_option maxRecDepth 100000
namespace Wp
open PySem L2

/-! ### data made of tuples: what stands at a value, the draws' place left out -/
mutual
inductive Dq (a : Addr) (H : Hp) : V → PyData → Prop
  | non : Dq a H .non .none
  | bl (b : Bool) : Dq a H (.bl b) (.bool b)
  | int (i : Int) : Dq a H (.int i) (.int i)
  | str (z : Str) : Dq a H (.str z) (.str z)
  | tup {p : Addr} {xs : List V} {ds : List PyData} : p ≠ a → H p = some (.tup xs) → DqL a H xs ds → Dq a H (.ref p) (.tuple ds)
inductive DqL (a : Addr) (H : Hp) : List V → List PyData → Prop
  | nil : DqL a H [] []
  | cons {v : V} {vs : List V} {d : PyData} {ds : List PyData} : Dq a H v d → DqL a H vs ds → DqL a H (v :: vs) (d :: ds)
end
mutual
theorem Dq.st {a : Addr} {H H' : Hp} (k : ∀ p xs, p ≠ a → H p = some (.tup xs) → H' p = some (.tup xs)) : ∀ {v : V} {d : PyData}, Dq a H v d → Dq a H' v d
  | _, _, .non => .non
  | _, _, .bl b => .bl b
  | _, _, .int i => .int i
  | _, _, .str z => .str z
  | _, _, .tup n h t => .tup n (k _ _ n h) (DqL.st k t)
theorem DqL.st {a : Addr} {H H' : Hp} (k : ∀ p xs, p ≠ a → H p = some (.tup xs) → H' p = some (.tup xs)) : ∀ {vs : List V} {ds : List PyData}, DqL a H vs ds → DqL a H' vs ds
  | _, _, .nil => .nil
  | _, _, .cons h t => .cons (Dq.st k h) (DqL.st k t)
end
theorem Dq.gx {a : Addr} {H H' : Hp} {v : V} {d : PyData} (h : Dq a H v d) (g : Gx a H H') : Dq a H' v d := h.st fun p xs n e => g p _ n e
theorem Dq.tp {a : Addr} {H H' : Hp} {v : V} {d : PyData} (h : Dq a H v d) (g : Tp H H') : Dq a H' v d := h.st fun p xs _ e => g p xs e
mutual
theorem Dq.dp {K : PySem.W.Frag} {a : Addr} {H : Hp} : ∀ {v : V} {d : PyData}, Dq a H v d → Dp K H v d
  | _, _, .non => .non
  | _, _, .bl b => .bl b
  | _, _, .int i => .int i
  | _, _, .str z => .str z
  | _, _, .tup _ h t => .tup (.inl (.inl h)) (DqL.dp t)
theorem DqL.dp {K : PySem.W.Frag} {a : Addr} {H : Hp} : ∀ {vs : List V} {ds : List PyData}, DqL a H vs ds → DpAll K H vs ds
  | _, _, .nil => .nil
  | _, _, .cons h t => .cons (Dq.dp h) (DqL.dp t)
end
theorem dql_all {a : Addr} {H : Hp} {f : PyData → Prop} : ∀ {xs : List V}, (∀ x ∈ xs, ∃ d, Dq a H x d ∧ f d) → ∃ ds, DqL a H xs ds ∧ ds.length = xs.length ∧ ∀ d ∈ ds, f d
  | [], _ => ⟨[], .nil, rfl, fun _ h => by cases h⟩
  | x :: xs, h => by
    obtain ⟨d, q, t⟩ := h x List.mem_cons_self
    obtain ⟨ds, qs, l, ts⟩ := dql_all (xs := xs) fun y hy => h y (List.mem_cons_of_mem _ hy)
    refine ⟨d :: ds, .cons q qs, by rw [List.length_cons, List.length_cons, l], fun e he => ?_⟩
    rcases List.mem_cons.mp he with z | z
    · rw [z]; exact t
    · exact ts e z

/-! ### terms, by their depth -/
def newNames : List Str := ["x0", "x1", "x2"]
def termNames : List Str := ["input", "loose", "b9", "x0", "x1", "x2", "fx0", "fx1", "fx2"]
def kindNames : List Str := ["any", "point", "part", "cell", "fun"]
def termTags : List Str := ["m", "n"]
def termTexts : List Str := ["a", "b", "c", "i", "o"]
def opMany (w : Str) : Option Nat :=
  if w ∈ (["plus", "minus", "times", "less", "same", "joined", "pair"] : List Str) then some 2 else if w ∈ (["first", "rest", "kind", "written"] : List Str) then some 1 else none
inductive Tm : Nat → PyData → Prop
  | num {n : Nat} (i : Int) : Tm n (.tuple [.str "num", .int i])
  | text {n : Nat} {z : Str} : z ∈ termTexts → Tm n (.tuple [.str "text", .str z])
  | yes {n : Nat} : Tm n (.tuple [.str "yes"])
  | no {n : Nat} : Tm n (.tuple [.str "no"])
  | none {n : Nat} : Tm n (.tuple [.str "none"])
  | name {n : Nat} {z : Str} : z ∈ termNames → Tm n (.tuple [.str "name", .str z])
  | func {n : Nat} {xs : List Str} {e : PyData} : (∀ x ∈ xs, x ∈ termNames) → xs.Nodup → xs.length ≤ 6 → Tm n e → Tm (n + 1) (.tuple [.str "fun", .tuple (xs.map .str), e])
  | recu {n : Nat} {f : Str} {xs : List Str} {e : PyData} : f ∈ termNames → (∀ x ∈ xs, x ∈ termNames) → (f :: xs).Nodup → xs.length ≤ 6 → Tm n e → Tm (n + 1) (.tuple [.str "rec", .str f, .tuple (xs.map .str), e])
  | call {n : Nat} {f : PyData} {ds : List PyData} : Tm n f → (∀ d ∈ ds, Tm n d) → ds.length ≤ 6 → Tm (n + 1) (.tuple [.str "call", f, .tuple ds])
  | lett {n : Nat} {z : Str} {d e : PyData} : z ∈ termNames → Tm n d → Tm n e → Tm (n + 1) (.tuple [.str "let", .str z, d, e])
  | iff {n : Nat} {c d e : PyData} : Tm n c → Tm n d → Tm n e → Tm (n + 1) (.tuple [.str "if", c, d, e])
  | doo {n : Nat} {ds : List PyData} : (∀ d ∈ ds, Tm n d) → 1 ≤ ds.length → ds.length ≤ 12 → Tm (n + 1) (.tuple [.str "do", .tuple ds])
  | op {n k : Nat} {w : Str} {ds : List PyData} : opMany w = some k → (∀ d ∈ ds, Tm n d) → ds.length = k → Tm (n + 1) (.tuple [.str "op", .str w, .tuple ds])
  | cell {n : Nat} {d : PyData} : Tm n d → Tm (n + 1) (.tuple [.str "cell", d])
  | get {n : Nat} {d : PyData} : Tm n d → Tm (n + 1) (.tuple [.str "get", d])
  | sett {n : Nat} {d e : PyData} : Tm n d → Tm n e → Tm (n + 1) (.tuple [.str "set", d, e])
  | say {n : Nat} {d : PyData} : Tm n d → Tm (n + 1) (.tuple [.str "say", d])
  | fault {n : Nat} {d : PyData} : Tm n d → Tm (n + 1) (.tuple [.str "fault", d])
  | guard {n : Nat} {z : Str} {d e : PyData} : Tm n d → z ∈ termNames → Tm n e → Tm (n + 1) (.tuple [.str "guard", d, .str z, e])
  | wind {n : Nat} {c d e : PyData} : Tm n c → Tm n d → Tm n e → Tm (n + 1) (.tuple [.str "wind", c, d, e])
  | catc {n : Nat} {z : Str} {d : PyData} : z ∈ termNames → Tm n d → Tm (n + 1) (.tuple [.str "catch", .str z, d])
  | go {n : Nat} {d e : PyData} : Tm n d → Tm n e → Tm (n + 1) (.tuple [.str "go", d, e])
  | mark {n : Nat} {z : Str} {d : PyData} : z ∈ termTags → Tm n d → Tm (n + 1) (.tuple [.str "mark", .str z, d])
  | take {n : Nat} {z y : Str} {d : PyData} : z ∈ termTags → y ∈ termNames → Tm n d → Tm (n + 1) (.tuple [.str "take", .str z, .str y, d])
  | use {n : Nat} {d e : PyData} : Tm n d → Tm n e → Tm (n + 1) (.tuple [.str "use", d, e])
theorem Tm.up {n : Nat} {d : PyData} (h : Tm n d) : Tm (n + 1) d := by
  induction h with
  | num i => exact .num i
  | text h => exact .text h
  | yes => exact .yes
  | no => exact .no
  | none => exact .none
  | name h => exact .name h
  | func h1 h2 h3 _ i1 => exact .func h1 h2 h3 i1
  | recu h0 h1 h2 h3 _ i1 => exact .recu h0 h1 h2 h3 i1
  | call _ _ h3 i1 i2 => exact .call i1 i2 h3
  | lett h _ _ i1 i2 => exact .lett h i1 i2
  | iff _ _ _ i1 i2 i3 => exact .iff i1 i2 i3
  | doo _ h1 h2 i1 => exact .doo i1 h1 h2
  | op h0 _ h1 i1 => exact .op h0 i1 h1
  | cell _ i1 => exact .cell i1
  | get _ i1 => exact .get i1
  | sett _ _ i1 i2 => exact .sett i1 i2
  | say _ i1 => exact .say i1
  | fault _ i1 => exact .fault i1
  | guard _ h _ i1 i2 => exact .guard i1 h i2
  | wind _ _ _ i1 i2 i3 => exact .wind i1 i2 i3
  | catc h _ i1 => exact .catc h i1
  | go _ _ i1 i2 => exact .go i1 i2
  | mark h _ i1 => exact .mark h i1
  | take h h1 _ i1 => exact .take h h1 i1
  | use _ _ i1 i2 => exact .use i1 i2
theorem Tm.le {n m : Nat} {d : PyData} (h : Tm n d) (l : n ≤ m) : Tm m d := by
  induction l with
  | refl => exact h
  | step _ ih => exact ih.up

/-! ### types of the drawn terms -/
def tyT (a : Addr) (n : Nat) : Ty a := ⟨fun v H => ∃ d, Dq a H v d ∧ Tm n d, fun v H H' g h => by
  obtain ⟨d, q, t⟩ := h
  exact ⟨d, q.gx g, t⟩⟩
theorem tyT_tp {a : Addr} {n : Nat} : ∀ v H H', Tp H H' → (tyT a n).p v H → (tyT a n).p v H' := fun v H H' g h => by
  obtain ⟨d, q, t⟩ := h
  exact ⟨d, q.tp g, t⟩
theorem tyT_le {a : Addr} {n m : Nat} (l : n ≤ m) : ∀ v H, (tyT a n).p v H → (tyT a m).p v H := fun v H h => by
  obtain ⟨d, q, t⟩ := h
  exact ⟨d, q, t.le l⟩
/-- a row of names: a name, its kind -/
def RowAt (a : Addr) (H : Hp) (r : V) : Prop := ∃ (q : Addr) (x k : Str), r = .ref q ∧ q ≠ a ∧ H q = some (.tup [.str x, .str k]) ∧ x ∈ termNames ∧ k ∈ kindNames
theorem RowAt.st {a : Addr} {H H' : Hp} {r : V} (h : RowAt a H r) (k : ∀ p xs, p ≠ a → H p = some (.tup xs) → H' p = some (.tup xs)) : RowAt a H' r := by
  obtain ⟨q, x, z, e, n, t, l⟩ := h
  exact ⟨q, x, z, e, n, k _ _ n t, l⟩
def tyNs (a : Addr) (L : Nat) : Ty a := ⟨fun v H => ∃ p rs, v = .ref p ∧ p ≠ a ∧ H p = some (.lst rs) ∧ rs.length ≤ L ∧ ∀ r ∈ rs, RowAt a H r, fun v H H' g h => by
  obtain ⟨p, rs, e, n, q, l, t⟩ := h
  exact ⟨p, rs, e, n, g p _ n q, l, fun r hr => (t r hr).st fun p xs n e => g p _ n e⟩⟩
theorem ns_dp {K : PySem.W.Frag} {a : Addr} {H : Hp} : ∀ {rs : List V}, (∀ r ∈ rs, RowAt a H r) → ∃ ds, DpAll K H rs ds ∧ PyData.canLayAll0 ds = true ∧ PyData.depthAll ds ≤ 1 ∧ ds.length = rs.length
  | [], _ => ⟨[], .nil, by simp [PyData.canLayAll0], by simp [PyData.depthAll], rfl⟩
  | r :: rs, h => by
    obtain ⟨ds, q, c, d, l⟩ := ns_dp (K := K) (rs := rs) fun y hy => h y (List.mem_cons_of_mem _ hy)
    obtain ⟨p, x, k, rfl, np, hp, hx, hk⟩ := h r List.mem_cons_self
    have sx : ∀ x ∈ termNames, PyData.strOk x = true := by decide +kernel
    have sk : ∀ x ∈ kindNames, PyData.strOk x = true := by decide +kernel
    refine ⟨.tuple [.str x, .str k] :: ds, .cons (.tup (.inl (.inl hp)) (.cons (.str _) (.cons (.str _) .nil))) q, ?_, ?_, by rw [List.length_cons, List.length_cons, l]⟩
    · simp [PyData.canLayAll0, PyData.canLay0, sx x hx, sk k hk, c]
    · simp only [PyData.depthAll, PyData.depth]
      omega
theorem shaped_list {ds : List PyData} (c : PyData.canLayAll0 ds = true) (d : PyData.depthAll ds ≤ 60) : SeqAt.shaped (.list ds) = true := by
  unfold SeqAt.shaped
  rw [Bool.and_eq_true]
  refine ⟨by simp only [PyData.canLay0]; exact c, decide_eq_true ?_⟩
  simp only [PyData.depth]
  omega
theorem all0 {a : Addr} {H : Hp} {vs : List V} (h : TAll a H [] vs) : vs = [] := by cases h; rfl
theorem all1 {a : Addr} {H : Hp} {P : Ty a} {vs : List V} (h : TAll a H [P] vs) : ∃ x, vs = [x] ∧ P.p x H := by
  cases h with
  | cons p r => cases r; exact ⟨_, rfl, p⟩
theorem all2 {a : Addr} {H : Hp} {P Q : Ty a} {vs : List V} (h : TAll a H [P, Q] vs) : ∃ x y, vs = [x, y] ∧ P.p x H ∧ Q.p y H := by
  cases h with
  | cons p r =>
    obtain ⟨y, rfl, q⟩ := all1 r
    exact ⟨_, _, rfl, p, q⟩
theorem all3 {a : Addr} {H : Hp} {P Q R : Ty a} {vs : List V} (h : TAll a H [P, Q, R] vs) : ∃ x y z, vs = [x, y, z] ∧ P.p x H ∧ Q.p y H ∧ R.p z H := by
  cases h with
  | cons p r =>
    obtain ⟨y, z, rfl, q⟩ := all2 r
    exact ⟨_, _, _, rfl, p, q⟩
theorem all4 {a : Addr} {H : Hp} {P Q R S : Ty a} {vs : List V} (h : TAll a H [P, Q, R, S] vs) : ∃ x y z w, vs = [x, y, z, w] ∧ P.p x H ∧ Q.p y H ∧ R.p z H ∧ S.p w H := by
  cases h with
  | cons p r =>
    obtain ⟨y, z, w, rfl, q⟩ := all3 r
    exact ⟨_, _, _, _, rfl, p, q⟩
/-- what a written text, a name, a tag is -/
abbrev tyW (a : Addr) (z : Str) : Ty a := tyS a fun y => y = z
abbrev tyNm (a : Addr) : Ty a := tyS a fun y => y ∈ termNames
abbrev tyNew (a : Addr) : Ty a := tyS a fun y => y ∈ newNames
theorem new_term {z : Str} (h : z ∈ newNames) : z ∈ termNames := by
  unfold newNames at h
  unfold termNames
  simp only [List.mem_cons, List.not_mem_nil, or_false] at h ⊢
  rcases h with h | h | h <;> simp [h]
section
variable {a : Addr} {n : Nat} {vs : List V} {H : Hp} {p : Addr}
theorem mk_num {f : Int → Prop} (np : p ≠ a) (hp : H p = some (.tup vs)) (h : TAll a H [tyW a "num", tyI a f] vs) : (tyT a n).p (.ref p) H := by
  obtain ⟨_, _, rfl, ⟨_, rfl, rfl⟩, ⟨i, rfl, _⟩⟩ := all2 h
  exact ⟨_, .tup np hp (.cons (.str _) (.cons (.int _) .nil)), .num i⟩
theorem mk_text (np : p ≠ a) (hp : H p = some (.tup vs)) (h : TAll a H [tyW a "text", tyS a fun z => z ∈ termTexts] vs) : (tyT a n).p (.ref p) H := by
  obtain ⟨_, _, rfl, ⟨_, rfl, rfl⟩, ⟨z, rfl, hz⟩⟩ := all2 h
  exact ⟨_, .tup np hp (.cons (.str _) (.cons (.str _) .nil)), .text hz⟩
theorem mk_yes (np : p ≠ a) (hp : H p = some (.tup vs)) (h : TAll a H [tyW a "yes"] vs) : (tyT a n).p (.ref p) H := by
  obtain ⟨_, rfl, ⟨_, rfl, rfl⟩⟩ := all1 h
  exact ⟨_, .tup np hp (.cons (.str _) .nil), .yes⟩
theorem mk_no (np : p ≠ a) (hp : H p = some (.tup vs)) (h : TAll a H [tyW a "no"] vs) : (tyT a n).p (.ref p) H := by
  obtain ⟨_, rfl, ⟨_, rfl, rfl⟩⟩ := all1 h
  exact ⟨_, .tup np hp (.cons (.str _) .nil), .no⟩
theorem mk_none (np : p ≠ a) (hp : H p = some (.tup vs)) (h : TAll a H [tyW a "none"] vs) : (tyT a n).p (.ref p) H := by
  obtain ⟨_, rfl, ⟨_, rfl, rfl⟩⟩ := all1 h
  exact ⟨_, .tup np hp (.cons (.str _) .nil), .none⟩
theorem mk_name {f : Str → Prop} (hf : ∀ z, f z → z ∈ termNames) (np : p ≠ a) (hp : H p = some (.tup vs)) (h : TAll a H [tyW a "name", tyS a f] vs) : (tyT a n).p (.ref p) H := by
  obtain ⟨_, _, rfl, ⟨_, rfl, rfl⟩, ⟨z, rfl, hz⟩⟩ := all2 h
  exact ⟨_, .tup np hp (.cons (.str _) (.cons (.str _) .nil)), .name (hf z hz)⟩
/-- one part behind the word -/
theorem mk_1 {w : Str} (hw : ∀ d, Tm n d → Tm (n + 1) (.tuple [.str w, d])) (np : p ≠ a) (hp : H p = some (.tup vs)) (h : TAll a H [tyW a w, tyT a n] vs) : (tyT a (n + 1)).p (.ref p) H := by
  obtain ⟨_, _, rfl, ⟨_, rfl, rfl⟩, ⟨d, q, t⟩⟩ := all2 h
  exact ⟨_, .tup np hp (.cons (.str _) (.cons q .nil)), hw d t⟩
theorem mk_2 {w : Str} (hw : ∀ d e, Tm n d → Tm n e → Tm (n + 1) (.tuple [.str w, d, e])) (np : p ≠ a) (hp : H p = some (.tup vs)) (h : TAll a H [tyW a w, tyT a n, tyT a n] vs) : (tyT a (n + 1)).p (.ref p) H := by
  obtain ⟨_, _, _, rfl, ⟨_, rfl, rfl⟩, ⟨d, q, t⟩, ⟨e, q2, t2⟩⟩ := all3 h
  exact ⟨_, .tup np hp (.cons (.str _) (.cons q (.cons q2 .nil))), hw d e t t2⟩
theorem mk_3 {w : Str} (hw : ∀ c d e, Tm n c → Tm n d → Tm n e → Tm (n + 1) (.tuple [.str w, c, d, e])) (np : p ≠ a) (hp : H p = some (.tup vs)) (h : TAll a H [tyW a w, tyT a n, tyT a n, tyT a n] vs) : (tyT a (n + 1)).p (.ref p) H := by
  obtain ⟨_, _, _, _, rfl, ⟨_, rfl, rfl⟩, ⟨c, q0, t0⟩, ⟨d, q, t⟩, ⟨e, q2, t2⟩⟩ := all4 h
  exact ⟨_, .tup np hp (.cons (.str _) (.cons q0 (.cons q (.cons q2 .nil)))), hw c d e t0 t t2⟩
/-- a text, then a part -/
theorem mk_s1 {w : Str} {f : Str → Prop} (hw : ∀ z d, f z → Tm n d → Tm (n + 1) (.tuple [.str w, .str z, d])) (np : p ≠ a) (hp : H p = some (.tup vs)) (h : TAll a H [tyW a w, tyS a f, tyT a n] vs) : (tyT a (n + 1)).p (.ref p) H := by
  obtain ⟨_, _, _, rfl, ⟨_, rfl, rfl⟩, ⟨z, rfl, hz⟩, ⟨d, q, t⟩⟩ := all3 h
  exact ⟨_, .tup np hp (.cons (.str _) (.cons (.str _) (.cons q .nil))), hw z d hz t⟩
theorem mk_ss1 {w : Str} {f g : Str → Prop} (hw : ∀ z y d, f z → g y → Tm n d → Tm (n + 1) (.tuple [.str w, .str z, .str y, d])) (np : p ≠ a) (hp : H p = some (.tup vs)) (h : TAll a H [tyW a w, tyS a f, tyS a g, tyT a n] vs) : (tyT a (n + 1)).p (.ref p) H := by
  obtain ⟨_, _, _, _, rfl, ⟨_, rfl, rfl⟩, ⟨z, rfl, hz⟩, ⟨y, rfl, hy⟩, ⟨d, q, t⟩⟩ := all4 h
  exact ⟨_, .tup np hp (.cons (.str _) (.cons (.str _) (.cons (.str _) (.cons q .nil)))), hw z y d hz hy t⟩
theorem mk_s2 {w : Str} {f : Str → Prop} (hw : ∀ z d e, f z → Tm n d → Tm n e → Tm (n + 1) (.tuple [.str w, .str z, d, e])) (np : p ≠ a) (hp : H p = some (.tup vs)) (h : TAll a H [tyW a w, tyS a f, tyT a n, tyT a n] vs) : (tyT a (n + 1)).p (.ref p) H := by
  obtain ⟨_, _, _, _, rfl, ⟨_, rfl, rfl⟩, ⟨z, rfl, hz⟩, ⟨d, q, t⟩, ⟨e, q2, t2⟩⟩ := all4 h
  exact ⟨_, .tup np hp (.cons (.str _) (.cons (.str _) (.cons q (.cons q2 .nil)))), hw z d e hz t t2⟩
theorem mk_1s1 {w : Str} {f : Str → Prop} (hw : ∀ z d e, f z → Tm n d → Tm n e → Tm (n + 1) (.tuple [.str w, d, .str z, e])) (np : p ≠ a) (hp : H p = some (.tup vs)) (h : TAll a H [tyW a w, tyT a n, tyS a f, tyT a n] vs) : (tyT a (n + 1)).p (.ref p) H := by
  obtain ⟨_, _, _, _, rfl, ⟨_, rfl, rfl⟩, ⟨d, q, t⟩, ⟨z, rfl, hz⟩, ⟨e, q2, t2⟩⟩ := all4 h
  exact ⟨_, .tup np hp (.cons (.str _) (.cons q (.cons (.str _) (.cons q2 .nil)))), hw z d e hz t t2⟩
/-- a tuple of parts -/
theorem tup_of {f : Nat → Prop} {v : V} (h : (tyU a f (tyT a n)).p v H) : ∃ ds, Dq a H v (.tuple ds) ∧ f ds.length ∧ ∀ d ∈ ds, Tm n d := by
  obtain ⟨q, xs, rfl, nq, hq, l, t⟩ := h
  obtain ⟨ds, qs, ld, ts⟩ := dql_all (f := Tm n) t
  exact ⟨ds, .tup nq hq qs, by rw [ld]; exact l, ts⟩
theorem mk_call {f : Nat → Prop} (hf : ∀ k, f k → k ≤ 6) (np : p ≠ a) (hp : H p = some (.tup vs)) (h : TAll a H [tyW a "call", tyT a n, tyU a f (tyT a n)] vs) : (tyT a (n + 1)).p (.ref p) H := by
  obtain ⟨_, _, _, rfl, ⟨_, rfl, rfl⟩, ⟨d, q, t⟩, hu⟩ := all3 h
  obtain ⟨ds, qu, l, ts⟩ := tup_of hu
  exact ⟨_, .tup np hp (.cons (.str _) (.cons q (.cons qu .nil))), .call t ts (hf _ l)⟩
theorem mk_do {f : Nat → Prop} (hf : ∀ k, f k → 1 ≤ k ∧ k ≤ 12) (np : p ≠ a) (hp : H p = some (.tup vs)) (h : TAll a H [tyW a "do", tyU a f (tyT a n)] vs) : (tyT a (n + 1)).p (.ref p) H := by
  obtain ⟨_, _, rfl, ⟨_, rfl, rfl⟩, hu⟩ := all2 h
  obtain ⟨ds, qu, l, ts⟩ := tup_of hu
  exact ⟨_, .tup np hp (.cons (.str _) (.cons qu .nil)), .doo ts (hf _ l).1 (hf _ l).2⟩
theorem mk_op {g : Str → Prop} {f : Nat → Prop} {k : Nat} (hg : ∀ z, g z → opMany z = some k) (hf : ∀ j, f j → j = k) (np : p ≠ a) (hp : H p = some (.tup vs)) (h : TAll a H [tyW a "op", tyS a g, tyU a f (tyT a n)] vs) : (tyT a (n + 1)).p (.ref p) H := by
  obtain ⟨_, _, _, rfl, ⟨_, rfl, rfl⟩, ⟨z, rfl, hz⟩, hu⟩ := all3 h
  obtain ⟨ds, qu, l, ts⟩ := tup_of hu
  exact ⟨_, .tup np hp (.cons (.str _) (.cons (.str _) (.cons qu .nil))), .op (hg z hz) ts (hf _ l)⟩
/-- a tuple of one, two parts made on the way -/
theorem mk_u1 {R : Ty a} (np : p ≠ a) (hp : H p = some (.tup vs)) (h : TAll a H [R] vs) : (tyU a (fun k => k = 1) R).p (.ref p) H := by
  obtain ⟨x, rfl, q⟩ := all1 h
  exact ⟨p, _, rfl, np, hp, rfl, fun y hy => by rw [List.mem_singleton.mp hy]; exact q⟩
theorem mk_u2 {R : Ty a} (np : p ≠ a) (hp : H p = some (.tup vs)) (h : TAll a H [R, R] vs) : (tyU a (fun k => k = 2) R).p (.ref p) H := by
  obtain ⟨x, y, rfl, q, r⟩ := all2 h
  refine ⟨p, _, rfl, np, hp, rfl, fun z hz => ?_⟩
  rcases List.mem_cons.mp hz with e | e
  · rw [e]; exact q
  · rw [List.mem_singleton.mp e]; exact r
theorem mk_u0 {R : Ty a} (np : p ≠ a) (hp : H p = some (.tup vs)) (h : TAll a H [] vs) : (tyU a (fun k => k = 0) R).p (.ref p) H := by
  cases all0 h
  exact ⟨p, _, rfl, np, hp, rfl, fun y hy => by cases hy⟩
end

/-! ### a def of the module, by its promise -/
def Has (P : Program) (w : World) (K : PySem.W.Frag) (mg : Str → Option Value) (base : Heap) (x : Str) (ps : List Str) (k : Nat) (sp : Sp) : Prop :=
  ∃ (f : Addr) (fd : FuncData), FnOk P w K mg base CX0 k f fd ps sp ∧ mg x = some (.ref f) ∧ PySem.W.keepIn K (.ref f) = true ∧ Binds K fd ps []
theorem pe_has {X : Cx} {x : Str} {ps : List Str} {k : Nat} {sp : Sp} {e : Expr} {es : List Expr} {t : TA} {p pos : Pos} (h : Has X.prog X.w X.K X.mg X.base x ps k sp) (hr : Room k X.A) (ha : PA X (e :: es) t) (hg : Gl X x := by rfl)
    (hdb : (x == ("__debug__" : Str)) = false := by decide) (he : starEach (e :: es) X.env = (false, eval e X.env) :: starEach es X.env := by rfl) (hpl : (backTo pos (starEach es X.env)).any (·.1) = false := by rfl) :
    PE X (.Call (.Name x p) (e :: es) [] pos) (tCall sp [] E0 t) := by
  obtain ⟨f, fd, F, m, kp, b⟩ := h
  exact pe_call F hr hg m kp b .nil pass0 ha hdb he hpl
end Wp
set_option Elab.async false
set_option linter.all false
set_option maxRecDepth 100000
namespace Wp
open PySem L2
def top (i : Nat) : Stmt := PySem.Challenge.pw_windpoints_k19_rows_of_winders.main.body.getD i (.Pass ⟨0, 0, 0, 0⟩)
-- _law_next: slots _law_draws_here 0, _law_k 1, _law_number 2
abbrev s_law_next : Stmt := top 9
theorem sc_law_next : FnScope ["_law_draws_here", "_law_k", "_law_number"] ["_law_draws_here"] (defScope s_law_next) := ⟨rfl, rfl, rfl, by decide +kernel, rfl, by decide +kernel, by decide +kernel⟩
abbrev sl_law_next : List Str := ["_law_draws_here", "_law_k", "_law_number"]
section
variable {P : Program} {w : World} {K : PySem.W.Frag} {mg : Str → Option Value} {base : Heap} {f : Addr} {fd : FuncData}
abbrev spNext : Sp := spG 1 (fun a => [tyIs a (.ref a)]) (fun a => tyI a fun i => 0 ≤ i ∧ i < 2147483648)
theorem ok_next (F : Fun K "_law_next" "_law_next" s_law_next f fd) : FnOk P w K mg base CX0 1 f fd ["_law_draws_here"] spNext := by
  refine F.ok sc_law_next (fun vs H Q E h => ?_) (fun cdv A outer s H vs Q E hr h => ?_)
  · obtain ⟨a, n, _, _, ps, _⟩ := h
    exact ps.len
  obtain ⟨a, n, hn, ⟨x, c, b, e, h0, h1, h2⟩, ps, q⟩ := h
  obtain ⟨_, rfl, rfl⟩ := all1 ps
  have hb : n + 1 ≤ 1000000000000 := hn
  refine ⟨_, (pss_cons (ps_asg (pe_op op_add (pe_ix ix_list (pv 0) pe_int (fun _ _ => rfl)) pe_int) (pg_sub (pv 0) pe_int set_list))
  (pss_cons (ps_set (i := 1) sc_law_next.nd rfl (.inl rfl) (pe_ix ix_list (pv 0) pe_int (fun _ _ => rfl)))
  (pss_cons (ps_if (pt_val (pe_ix ix_list (pv 0) pe_int (fun _ _ => rfl))) (pss_cons (ps_set (i := 2) sc_law_next.nd rfl (.inl rfl) (pe_op op_mod (pe_ix ix_list (pv 0) pe_int (fun _ _ => rfl)) (pe_op op_pow pe_int pe_int)))
  (pss_cons (ps_asg (pe_op op_fdiv (pe_ix ix_list (pv 0) pe_int (fun _ _ => rfl)) (pe_op op_pow pe_int pe_int)) (pg_sub (pv 0) pe_int set_list))
  (pss_one (ps_ret (pv 2))))) pss_nil)
  (pss_cons (ps_set (i := 2) sc_law_next.nd rfl (.inl rfl) (pe_op op_mod (pe_op op_mul (pe_op op_add (pe_op op_add (pe_op op_mod (pe_ix ix_list (pv 0) pe_int (fun _ _ => rfl)) pe_int) (pe_op op_mul (pe_op op_mul (pv 1) (pv 1)) pe_int)) (pv 1)) pe_int) pe_int))
  (pss_cons (ps_set (i := 2) sc_law_next.nd rfl (.inl rfl) (pe_op op_mod (pe_op op_mul (pv 2) (pv 2)) pe_int))
  (pss_one (ps_ret (pe_op op_fdiv (pe_op op_mod (pe_op op_mul (pv 2) (pe_op op_add (pv 2) pe_int)) pe_int) pe_int)))))))), ?_⟩
  refine ⟨_, rfl, a, _, _, _, rfl, rfl, SqL.of e, rfl, _, _, rfl, rfl, _, rfl, a, _, _, 1, rfl, rfl, e, rfl, ?_⟩
  have e1 : upd H a (.lst [.int x, .int (c + 1), .bl b]) a = some (.lst [.int x, .int (c + 1), .bl b]) := upd_same
  refine ⟨_, rfl, a, _, _, _, rfl, rfl, SqL.of e1, rfl, ?_⟩
  refine ⟨_, rfl, a, _, _, _, rfl, rfl, SqL.of e1, rfl, _, rfl, ?_⟩
  refine ite2 (fun hc => ?_) (fun hc => ?_)
  · refine ⟨_, rfl, a, _, _, _, rfl, rfl, SqL.of e1, rfl, 10, 6, rfl, rfl, ⟨by decide, by decide, by decide⟩, _, _, rfl, rfl, (by show (0 : Int) < 10 ^ 6; decide), ?_⟩
    refine ⟨_, rfl, a, _, _, _, rfl, rfl, SqL.of e1, rfl, 10, 6, rfl, rfl, ⟨by decide, by decide, by decide⟩, _, _, rfl, rfl, ⟨by show (0 : Int) < 10 ^ 6; decide, by show (10 : Int) ^ 6 < 1073741824; decide⟩, _, rfl, a, _, _, 0, rfl, rfl, e1, rfl, ?_⟩
    refine ⟨_, rfl, ?_⟩
    refine q _ _ (fun b' o nb hb' => ?_) ⟨x / 10 ^ 6, c + 1, b, upd_same, Int.ediv_nonneg h0 (by decide), by omega, by omega⟩ ⟨x % 10 ^ 6, rfl, Int.emod_nonneg _ (by decide), ?_⟩
    · rw [upd_ne nb, upd_ne nb]; exact hb'
    · have z : x % 10 ^ 6 < 10 ^ 6 := Int.emod_lt_of_pos _ (by decide)
      have z2 : (10 : Int) ^ 6 = 1000000 := by decide
      omega
  · have m1 : ∀ i : Int, 0 ≤ i % 2147483629 ∧ i % 2147483629 < 2147483629 := fun i => ⟨Int.emod_nonneg _ (by decide), Int.emod_lt_of_pos _ (by decide)⟩
    have m2 : ∀ i : Int, 0 ≤ i % 2147483587 ∧ i % 2147483587 < 2147483587 := fun i => ⟨Int.emod_nonneg _ (by decide), Int.emod_lt_of_pos _ (by decide)⟩
    have m3 : ∀ i : Int, 0 ≤ i % 2147483579 ∧ i % 2147483579 < 2147483579 := fun i => ⟨Int.emod_nonneg _ (by decide), Int.emod_lt_of_pos _ (by decide)⟩
    have lc : -(2 ^ 64) < c + 1 ∧ c + 1 < 2 ^ 64 := by omega
    refine ⟨_, rfl, a, _, _, _, rfl, rfl, SqL.of e1, rfl, _, _, rfl, rfl, (by show (0 : Int) < 1000003; decide), _, rfl, _, rfl, _, _, rfl, rfl, .inl lc, _, _, rfl, rfl, .inr ⟨by decide, by decide⟩, _, _, rfl, rfl, _, rfl, _, _, rfl, rfl, _, _, rfl, rfl, .inr ⟨by decide, by decide⟩, _, _, rfl, rfl, (by show (0 : Int) < 2147483629; decide), ?_⟩
    refine ⟨_, rfl, _, rfl, _, _, rfl, rfl, .inl ⟨?_, ?_⟩, _, _, rfl, rfl, (by show (0 : Int) < 2147483587; decide), ?_⟩
    · exact Int.lt_of_lt_of_le (by decide) (m1 _).1
    · exact Int.lt_trans (m1 _).2 (by decide)
    refine ⟨_, rfl, _, rfl, _, _, rfl, rfl, _, _, rfl, rfl, .inl ⟨?_, ?_⟩, _, _, rfl, rfl, (by show (0 : Int) < 2147483579; decide), _, _, rfl, rfl, ⟨by show (0 : Int) < 7; decide, by show (7 : Int) < 1073741824; decide⟩, ?_⟩
    · exact Int.lt_of_lt_of_le (by decide) (m2 _).1
    · exact Int.lt_trans (m2 _).2 (by decide)
    refine q _ _ (fun b' o nb hb' => ?_) ⟨x, c + 1, b, upd_same, h0, by omega, by omega⟩ ⟨_, rfl, Int.ediv_nonneg (m3 _).1 (by decide), ?_⟩
    · rw [upd_ne nb]; exact hb'
    · have z := m3 ((((((x % 1000003 + (c + 1) * (c + 1) * 7919 + (c + 1)) * 48271 % 2147483629) * ((x % 1000003 + (c + 1) * (c + 1) * 7919 + (c + 1)) * 48271 % 2147483629)) % 2147483587) * ((((x % 1000003 + (c + 1) * (c + 1) * 7919 + (c + 1)) * 48271 % 2147483629) * ((x % 1000003 + (c + 1) * (c + 1) * 7919 + (c + 1)) * 48271 % 2147483629)) % 2147483587 + 2)))
      generalize hy : (((((x % 1000003 + (c + 1) * (c + 1) * 7919 + (c + 1)) * 48271 % 2147483629) * ((x % 1000003 + (c + 1) * (c + 1) * 7919 + (c + 1)) * 48271 % 2147483629)) % 2147483587) * ((((x % 1000003 + (c + 1) * (c + 1) * 7919 + (c + 1)) * 48271 % 2147483629) * ((x % 1000003 + (c + 1) * (c + 1) * 7919 + (c + 1)) * 48271 % 2147483629)) % 2147483587 + 2)) % 2147483579 = y at z ⊢
      omega
end
end Wp
set_option Elab.async false
set_option linter.all false
set_option maxRecDepth 100000
namespace Wp
open PySem PySem.Spec PyProof.Rows L2
theorem same_gx {a : Addr} {H H' : Hp} (s : Same H H') : Gx a H H' := fun b o _ h => s b o h
theorem same_new {H : Hp} {p : Addr} {o : HO} (h : H p = none) : Same H (upd H p o) := fun b u q => by rw [upd_ne (ne_of_none q h)]; exact q
theorem same_grow {H H' : Hp} {p : Addr} {o : HO} (s : Same H H') (h : H p = none) : Same H (upd H' p o) := fun b u q => by rw [upd_ne (ne_of_none q h)]; exact s b u q
theorem same_dr {a : Addr} {H H' : Hp} {n : Nat} (s : Same H H') (d : Dr H a n) : Dr H' a n := by
  obtain ⟨x, c, b, e, q⟩ := d
  exact ⟨x, c, b, s _ _ e, q⟩
section
variable {X : Cx}
theorem op_powW : OpR X (binaryOp .Pow) (rI (fun i j => 0 ≤ j ∧ (Builtin.Int.intBits i : Int) * j ≤ 2 ^ 27) fun i j => .int (i ^ j.toNat)) := opI fun _ _ _ _ _ _ _ hc q => pow_int hc.1 hc.2 q
end
-- _law_draws: slots _law_cell 0
abbrev s_law_draws : Stmt := top 8
theorem sc_law_draws : FnScope ["_law_cell"] ["_law_cell"] (defScope s_law_draws) := ⟨rfl, rfl, rfl, by decide +kernel, rfl, by decide +kernel, by decide +kernel⟩
abbrev sl_law_draws : List Str := ["_law_cell"]
def spDraws : Sp := fun vs H Q _ => ∃ c : Int, vs = [.int c] ∧ ∀ p H', Same H H' → H p = none → Dr H' p 0 → Q (.ref p) H'
section
variable {P : Program} {w : World} {K : PySem.W.Frag} {mg : Str → Option Value} {base : Heap} {f : Addr} {fd : FuncData}
theorem ok_draws (F : Fun K "_law_draws" "_law_draws" s_law_draws f fd) : FnOk P w K mg base CX0 1 f fd ["_law_cell"] spDraws := by
  refine F.ok sc_law_draws (fun vs H Q E h => ?_) (fun cdv A outer s H vs Q E hr h => ?_)
  · obtain ⟨c, rfl, _⟩ := h
    rfl
  obtain ⟨c, rfl, q⟩ := h
  refine ⟨_, (pss_one (ps_ret (pe_lst (pa_cons (pe_op op_mod (pv 0) (pe_op op_powW (pe_op op_powW (pe_op op_powW pe_int pe_int) pe_int) pe_int)) (pa_cons pe_int (pa_cons (pe_cmpR op_ge (pv 0) (pe_op op_powW pe_int pe_int) (nomark _)) pa_nil)))))), ?_⟩
  refine ⟨_, rfl, 10, 60, rfl, rfl, ⟨by decide, by decide +kernel⟩, _, _, rfl, rfl, ⟨by decide, by decide +kernel⟩, _, _, rfl, rfl, ⟨by decide, by decide +kernel⟩, _, _, rfl, rfl, ?_, ?_⟩
  · show (0 : Int) < ((10 ^ 60) ^ 60) ^ 4
    exact Int.pow_pos (Int.pow_pos (Int.pow_pos (by decide)))
  refine ⟨_, rfl, 10, 18, rfl, rfl, ⟨by decide, by decide +kernel⟩, _, _, rfl, rfl, (by show 3 ≤ sizeLine; decide), fun p hp => q p _ (same_new hp) hp ⟨_, _, _, upd_same, Int.emod_nonneg _ ?_, by decide, by decide⟩⟩
  exact Int.ne_of_gt (Int.pow_pos (Int.pow_pos (Int.pow_pos (by decide))))
end
end Wp
set_option Elab.async false
set_option linter.all false
set_option maxRecDepth 100000
namespace Wp
open PySem PySem.Spec PyProof.Rows L2
-- _law_due: slots _law_a_row 0, _law_inside 1, _law_thing 2
abbrev s_law_due : Stmt := top 14
theorem sc_law_due : FnScope ["_law_a_row", "_law_inside", "_law_thing"] ["_law_a_row"] (defScope s_law_due) := ⟨rfl, rfl, rfl, by decide +kernel, rfl, by decide +kernel, by decide +kernel⟩
abbrev sl_law_due : List Str := ["_law_a_row", "_law_inside", "_law_thing"]
theorem ite_t {c : Bool} {A B : Prop} (h : c = true) (k : A) : if c = true then A else B := by rw [if_pos h]; exact k
theorem ite_f {c : Bool} {A B : Prop} (h : c = false) (k : B) : if c = true then A else B := by rw [if_neg (by rw [h]; decide)]; exact k
/-! ### things of a row -/
/-- numbers, truths, texts, None -/
inductive FlV : V → Prop
  | non : FlV .non
  | bl (b : Bool) : FlV (.bl b)
  | int (i : Int) : FlV (.int i)
  | str (z : Str) (h : (PyData.str z).canLay0 = true) : FlV (.str z)
def dV : V → PyData
  | .int i => .int i
  | .bl b => .bool b
  | .str z => .str z
  | _ => .none
inductive Th (H : Hp) : V → PyData → Prop
  | two {p : Addr} {w : Str} {x : V} : H p = some (.tup [.str w, x]) → (PyData.str w).canLay0 = true → FlV x → Th H (.ref p) (.tuple [.str w, dV x])
  | tup {p : Addr} {xs : List V} : H p = some (.tup xs) → xs.length ≠ 2 → (∀ x ∈ xs, FlV x) → Th H (.ref p) (.tuple (xs.map dV))
  | lst {p : Addr} {xs : List V} : H p = some (.lst xs) → (∀ x ∈ xs, FlV x) → Th H (.ref p) (.list (xs.map dV))
  | non : Th H .non .none
  | str (z : Str) : (PyData.str z).canLay0 = true → Th H (.str z) (.str z)
inductive Ths (H : Hp) : List V → List PyData → Prop
  | nil : Ths H [] []
  | cons {x : V} {d : PyData} {xs : List V} {ds : List PyData} : Th H x d → Ths H xs ds → Ths H (x :: xs) (d :: ds)
theorem Th.same {H H' : Hp} {x : V} {d : PyData} (h : Th H x d) (s : Same H H') : Th H' x d := by
  cases h with
  | two h l f => exact .two (s _ _ h) l f
  | tup h n f => exact .tup (s _ _ h) n f
  | lst h f => exact .lst (s _ _ h) f
  | non => exact .non
  | str z h => exact .str z h
theorem Ths.same {H H' : Hp} (s : Same H H') : ∀ {xs : List V} {ds : List PyData}, Ths H xs ds → Ths H' xs ds
  | _, _, .nil => .nil
  | _, _, .cons h t => .cons (h.same s) (t.same s)
theorem Ths.at_ {H : Hp} : ∀ {xs : List V} {ds : List PyData} {i : Nat} {x : V}, Ths H xs ds → xs[i]? = some x → ∃ d, Th H x d ∧ ds.drop i = d :: ds.drop (i + 1)
  | _, _, 0, _, .cons h _, e => by
    cases e
    exact ⟨_, h, rfl⟩
  | _, _, i + 1, _, .cons _ t, e => by
    obtain ⟨d, h, k⟩ := t.at_ (i := i) e
    exact ⟨d, h, k⟩
  | _, _, _, _, .nil, e => by cases e
theorem Ths.len {H : Hp} : ∀ {xs : List V} {ds : List PyData}, Ths H xs ds → ds.length = xs.length
  | _, _, .nil => rfl
  | _, _, .cons _ t => by rw [List.length_cons, List.length_cons, t.len]
/-! ### what is in -/
def go2 : PyData → PyData → Option (Bool × Int)
  | .str w, .int n => if w = "in" then some (true, n) else if w = "out" then some (false, n) else none
  | _, _ => none
def goD : PyData → Option (Bool × Int)
  | .tuple [a, b] => go2 a b
  | _ => none
def dueD : List PyData → List Int → Option (List Int)
  | [], ns => some ns
  | d :: ds, ns => match goD d with
    | some (true, n) => if n ∈ ns then none else dueD ds (ns ++ [n])
    | some (false, n) => if ns.getLast? = some n then dueD ds ns.dropLast else none
    | none => none
def DueK (o : Option (List Int)) (H : Hp) (Q : VK) : Prop := match o with
  | none => ∀ H', Same H H' → Q .non H'
  | some ns => ∀ p H', Same H H' → H p = none → H' p = some (.lst (ns.map V.int)) → Q (.ref p) H'
theorem inV_strs {k : Str} : ∀ {ks : List Str}, inV (.str k) (ks.map V.str) = decide (k ∈ ks)
  | [] => by simp [inV]
  | z :: ks => by
    have ih := inV_strs (k := k) (ks := ks)
    unfold inV at ih ⊢
    rw [List.map_cons, List.any_cons, ih]
    by_cases h : z = k
    · subst h
      simp [eqV]
    · have h' : ¬ k = z := fun e => h e.symm
      simp [eqV, h, h']
theorem inV_ints {k : Int} : ∀ {ks : List Int}, inV (.int k) (ks.map V.int) = decide (k ∈ ks)
  | [] => by simp [inV]
  | z :: ks => by
    have ih := inV_ints (k := k) (ks := ks)
    unfold inV at ih ⊢
    rw [List.map_cons, List.any_cons, ih]
    by_cases h : z = k
    · subst h
      simp [eqV]
    · have h' : ¬ k = z := fun e => h e.symm
      simp [eqV, h, h']
theorem flat_ints : ∀ ks : List Int, (ks.map V.int).all flatV = true
  | [] => rfl
  | z :: zs => by
    rw [List.map_cons, List.all_cons, flat_ints zs]
    rfl
theorem in_out (w : Str) : inV (.str w) [.str "in", .str "out"] = decide (w = "in" ∨ w = "out") := by
  have := inV_strs (k := w) (ks := ["in", "out"])
  simpa using this
theorem flat_dp {K : PySem.W.Frag} {H : Hp} : ∀ {xs : List V}, (∀ x ∈ xs, FlV x) → DpAll K H xs (xs.map dV)
  | [], _ => .nil
  | x :: xs, h => by
    refine .cons ?_ (flat_dp fun y hy => h y (List.mem_cons_of_mem _ hy))
    cases h x List.mem_cons_self with
    | non => exact .non
    | bl b => exact .bl b
    | int i => exact .int i
    | str z _ => exact .str z
theorem flat_can : ∀ {xs : List V}, (∀ x ∈ xs, FlV x) → PyData.canLayAll0 (xs.map dV) = true ∧ PyData.depthAll (xs.map dV) ≤ 1
  | [], _ => ⟨rfl, by decide⟩
  | x :: xs, h => by
    have ih := flat_can fun y hy => h y (List.mem_cons_of_mem _ hy)
    have one : (dV x).canLay0 = true ∧ (dV x).depth ≤ 1 := by
      cases h x List.mem_cons_self with
      | str z hz => exact ⟨hz, by simp [dV, PyData.depth]⟩
      | _ => exact ⟨rfl, by simp [dV, PyData.depth]⟩
    refine ⟨?_, ?_⟩
    · show ((dV x).canLay0 && PyData.canLayAll0 (xs.map dV)) = true
      rw [ih.1, one.1]; rfl
    · have := ih.2
      have := one.2
      simp only [List.map_cons, PyData.depthAll]
      omega
theorem flat_shaped {xs : List V} (h : ∀ x ∈ xs, FlV x) : SeqAt.shaped (.list (xs.map dV)) = true := by
  obtain ⟨a, b⟩ := flat_can h
  unfold SeqAt.shaped
  have e : (PyData.list (xs.map dV)).canLay0 = PyData.canLayAll0 (xs.map dV) := rfl
  have e2 : (PyData.list (xs.map dV)).depth = PyData.depthAll (xs.map dV) + 1 := rfl
  rw [e, a, e2]
  simp
  omega
theorem flv_ints (ns : List Int) : ∀ x ∈ ns.map V.int, FlV x := fun x hx => by
  obtain ⟨i, _, rfl⟩ := List.mem_map.mp hx
  exact .int i
theorem eqv_empty (ns : List Int) : PyData.eqv (.list ((ns.map V.int).map dV)) (.list []) = decide (ns = []) := by
  cases ns with
  | nil => rfl
  | cons n ns => rfl
theorem at_last (ns : List Int) (h : ns ≠ []) : ∃ m, ns.getLast? = some m ∧ atI (ns.map V.int) (-1) = some (.int m) ∧ (ns.map V.int)[(ns.map V.int).length - 1]? = some (.int m) := by
  have l0 : 0 < ns.length := List.length_pos_iff.mpr h
  refine ⟨ns.getLast h, List.getLast?_eq_some_getLast h, ?_, ?_⟩
  · unfold atI ixN
    rw [List.length_map, if_neg (by decide)]
    rw [if_pos (by omega)]
    show (ns.map V.int)[((ns.length : Int) + -1).toNat]? = _
    rw [show ((ns.length : Int) + -1).toNat = ns.length - 1 by omega, List.getElem?_map, ← List.getLast?_eq_getElem?, List.getLast?_eq_some_getLast h]
    rfl
  · rw [List.length_map, List.getElem?_map, ← List.getLast?_eq_getElem?, List.getLast?_eq_some_getLast h]
    rfl
def spDue : Sp := fun vs H Q _ => ∃ (r : Addr) (xs : List V) (ds : List PyData), vs = [.ref r] ∧ H r = some (.lst xs) ∧ xs.length ≤ 900 ∧ Ths H xs ds ∧ DueK (dueD ds []) H Q
section
variable {P : Program} {w : World} {K : PySem.W.Frag} {mg : Str → Option Value} {base : Heap} {f : Addr} {fd : FuncData}
theorem ok_due (F : Fun K "_law_due" "_law_due" s_law_due f fd) (m_isinstance : mg "isinstance" = none) (m_tuple : mg "tuple" = none) (m_int : mg "int" = none) (m_bool : mg "bool" = none) (m_len : mg "len" = none) : FnOk P w K mg base CX0 1 f fd ["_law_a_row"] spDue := by
  refine F.ok sc_law_due (fun vs H Q E h => ?_) (fun cdv A outer s H vs Q E hr h => ?_)
  · obtain ⟨r, xs, ds, rfl, _⟩ := h
    rfl
  obtain ⟨r, xs, ds, rfl, hx, lx, ht, q⟩ := h
  refine ⟨_, (pss_cons (ps_set (i := 1) sc_law_due.nd rfl (.inl rfl) (pe_lst pa_nil))
  (pss_cons (ps_for PassesOwn.never rfl (pi_list (pv 0)) (pg_name (i := 2) sc_law_due.nd rfl (.inl rfl)) (pss_cons (ps_if (PW.pt (pw_or (pt_not (pt_val (pe_callB call_isi rfl m_isinstance PyProof.Rows.Boot.isinstance (pa_cons (pv 2) (pa_cons (pe_bltn (v := .ty "tuple") rfl m_tuple PyProof.Rows.Boot.«tuple» rfl) pa_nil))))) (pw_or (pt_cmpR op_ne (pe_callB call_len_seq rfl m_len PySem.boot_len (pa_cons (pv 2) pa_nil)) pe_int (nomark _)) (pw_or1 (pt_cmpR op_notIn_seq (pe_ix ix_tup (pv 2) pe_int (fun _ _ => rfl)) (pe_lst (pa_cons pe_str (pa_cons pe_str pa_nil))) rfl))))) (pss_one (ps_ret pe_non)) pss_nil)
  (pss_cons (ps_if (PW.pt (pw_or (pt_not (pt_val (pe_callB call_isi rfl m_isinstance PyProof.Rows.Boot.isinstance (pa_cons (pe_ix ix_tup (pv 2) pe_int (fun _ _ => rfl)) (pa_cons (pe_bltn (v := .ty "int") rfl m_int PyProof.Rows.Boot.«int» rfl) pa_nil))))) (pw_or1 (pt_val (pe_callB call_isi rfl m_isinstance PyProof.Rows.Boot.isinstance (pa_cons (pe_ix ix_tup (pv 2) pe_int (fun _ _ => rfl)) (pa_cons (pe_bltn (v := .ty "bool") rfl m_bool PyProof.Rows.Boot.«bool» rfl) pa_nil))))))) (pss_one (ps_ret pe_non)) pss_nil)
  (pss_one (ps_if (pt_cmpR op_eq (pe_ix ix_tup (pv 2) pe_int (fun _ _ => rfl)) pe_str (nomark _)) (pss_cons (ps_if (pt_cmpR op_in_seq (pe_ix ix_tup (pv 2) pe_int (fun _ _ => rfl)) (pv 1) rfl) (pss_one (ps_ret pe_non)) pss_nil)
  (pss_one (ps_expr (pe_bm PySem.F.plainAttrs_list PySem.F.slot_list_append PySem.F.type_list_append mt_append (pv 1) (pa_cons (pe_ix ix_tup (pv 2) pe_int (fun _ _ => rfl)) pa_nil))))) (pss_cons (ps_if (PW.pt (pw_or (pt_cmpR (op_eqD hr.units) (pv 1) (pe_lst pa_nil) (nomark _)) (pw_or1 (pt_cmpR op_ne (pe_ix ix_list (pv 1) (pe_un un_neg pe_int) (fun _ _ => rfl)) (pe_ix ix_tup (pv 2) pe_int (fun _ _ => rfl)) (nomark _))))) (pss_one (ps_ret pe_non)) pss_nil)
  (pss_one (ps_expr (pe_bm0 PySem.F.plainAttrs_list PySem.F.slot_list_pop PySem.F.type_list_pop mt_pop (pv 1))))))))))
  (pss_one (ps_ret (pv 1))))), ?_⟩
  refine ⟨(by show 0 ≤ sizeLine; decide), fun p hp => ?_⟩
  refine ⟨_, rfl, r, rfl, ⟨_, SqL.of (same_new hp _ _ hx)⟩, for_list (xs := xs) (fun i σ H' => Same H H' ∧ ∃ (ns : List Int) (t2 : Option V), σ = [some (.ref r), some (.ref p), t2] ∧ H' p = some (.lst (ns.map V.int)) ∧ ns.length ≤ i ∧ dueD ds [] = dueD (ds.drop i) ns) ?_ ?_ ?_ ?_⟩
  · exact ⟨same_new hp, [], none, rfl, upd_same, Nat.le_refl _, rfl⟩
  · rintro i σ H' hi ⟨s', _⟩
    exact SqL.of (s' _ _ hx)
  · rintro i x σ H' hxi ⟨s', ns, t2, rfl, ep, ln, ed⟩
    have li : i < xs.length := (List.getElem?_eq_some_iff.mp hxi).1
    obtain ⟨d, hd, dd⟩ := ht.at_ hxi
    have hd := hd.same s'
    rw [dd, dueD] at ed
    have no : goD d = none → ∀ H2, Same H' H2 → Q .non H2 := fun g H2 s2 => by
      rw [g] at ed
      rw [ed] at q
      exact q H2 (s'.trans s2)
    cases hd with
    | non => exact ⟨_, rfl, _, _, _, _, false, rfl, .ty "tuple", .base .non, kit_ty (by decide +kernel), _, rfl, iteT (iteT (no rfl _ (Same.refl _)))⟩
    | str z hz => exact ⟨_, rfl, _, _, _, _, false, rfl, .ty "tuple", .base (.str z), kit_ty (by decide +kernel), _, rfl, iteT (iteT (no rfl _ (Same.refl _)))⟩
    | lst hl fl => exact ⟨_, rfl, _, _, _, _, false, rfl, .ty "tuple", .base (.lst hl), kit_ty (by decide +kernel), _, rfl, iteT (iteT (no rfl _ (Same.refl _)))⟩
    | @tup u us hl nl fl =>
      refine ⟨_, rfl, _, _, _, _, true, rfl, .ty "tuple", .base (.tup hl), kit_ty (by decide +kernel), _, rfl, iteF ?_⟩
      refine ⟨_, rfl, u, us, rfl, .inr (SqT.of hl), rfl, _, rfl, ite_t (by simp; omega) (iteT (no ?_ _ (Same.refl _)))⟩
      match us, nl with
      | [], _ => rfl
      | [_], _ => rfl
      | [_, _], nl => exact absurd rfl nl
      | _ :: _ :: _ :: _, _ => rfl
    | @two u w x hl hcw fl =>
      refine ⟨_, rfl, _, _, _, _, true, rfl, .ty "tuple", .base (.tup hl), kit_ty (by decide +kernel), _, rfl, iteF ?_⟩
      refine ⟨_, rfl, u, _, rfl, .inr (SqT.of hl), rfl, _, rfl, ite_f (by simp) ?_⟩
      refine ⟨_, rfl, u, _, _, _, rfl, rfl, SqT.of hl, rfl, (by show 2 ≤ sizeLine; decide), fun L hL => ?_⟩
      have sL : Same H' (upd H' L (.lst [.str "in", .str "out"])) := same_new hL
      generalize hH2 : upd H' L (.lst [.str "in", .str "out"]) = H2 at *
      refine ⟨L, _, rfl, .inl (SqL.of (by rw [← hH2]; exact upd_same)), rfl, rfl, _, rfl, ?_⟩
      show if (!inV (.str w) [.str "in", .str "out"]) = true then _ else _
      rw [in_out]
      by_cases hw : ¬ (w = "in" ∨ w = "out")
      · have gn : goD (.tuple [.str w, dV x]) = none := by
          show go2 (.str w) (dV x) = none
          have h1 : ¬ w = "in" := fun h => hw (.inl h)
          have h2 : ¬ w = "out" := fun h => hw (.inr h)
          cases fl <;> simp [go2, dV, h1, h2]
        refine ite_t (by simp [hw]) (no gn _ sL)
      have hw := Decidable.not_not.mp hw
      refine ite_f (by simp [hw]) ?_
      have hl2 := sL _ _ hl
      cases fl with
      | non => exact ⟨_, rfl, u, _, _, _, rfl, rfl, SqT.of hl2, rfl, _, _, _, _, false, rfl, .ty "int", .base .non, kit_ty (by decide +kernel), _, rfl, iteT (iteT (no rfl _ sL))⟩
      | str z hz => exact ⟨_, rfl, u, _, _, _, rfl, rfl, SqT.of hl2, rfl, _, _, _, _, false, rfl, .ty "int", .base (.str z), kit_ty (by decide +kernel), _, rfl, iteT (iteT (no rfl _ sL))⟩
      | bl b =>
        refine ⟨_, rfl, u, _, _, _, rfl, rfl, SqT.of hl2, rfl, _, _, _, _, true, rfl, .ty "int", .base (.bl b), kit_ty (by decide +kernel), _, rfl, iteF ?_⟩
        exact ⟨_, rfl, u, _, _, _, rfl, rfl, SqT.of hl2, rfl, _, _, _, _, true, rfl, .ty "bool", .base (.bl b), kit_ty (by decide +kernel), _, rfl, iteT (no rfl _ sL)⟩
      | int n =>
        refine ⟨_, rfl, u, _, _, _, rfl, rfl, SqT.of hl2, rfl, _, _, _, _, true, rfl, .ty "int", .base (.int n), kit_ty (by decide +kernel), _, rfl, iteF ?_⟩
        refine ⟨_, rfl, u, _, _, _, rfl, rfl, SqT.of hl2, rfl, _, _, _, _, false, rfl, .ty "bool", .base (.int n), kit_ty (by decide +kernel), _, rfl, iteF ?_⟩
        refine ⟨_, rfl, u, _, _, _, rfl, rfl, SqT.of hl2, rfl, rfl, _, rfl, ?_⟩
        have ep2 := sL _ _ ep
        have hpn : ∀ {o : HO}, Same H (upd H2 p o) := same_grow (s'.trans sL) hp
        by_cases hi : w = "in"
        · subst hi
          refine ite_t (by simp) ?_
          refine ⟨_, rfl, u, _, _, _, rfl, rfl, SqT.of hl2, rfl, _, rfl, p, _, rfl, .inl (SqL.of ep2), rfl, flat_ints ns, _, rfl, ?_⟩
          show if inV (.int n) (ns.map V.int) = true then _ else _
          rw [inV_ints]
          have ed : dueD ds [] = if n ∈ ns then none else dueD (ds.drop (i + 1)) (ns ++ [n]) := ed
          by_cases hm : n ∈ ns
          · refine ite_t (decide_eq_true hm) ?_
            rw [if_pos hm] at ed
            rw [ed] at q
            exact q _ (s'.trans sL)
          · refine ite_f (decide_eq_false hm) ?_
            rw [if_neg hm] at ed
            refine ⟨_, rfl, .inl ⟨rfl, _, SqL.of ep2⟩, _, rfl, u, _, _, _, rfl, rfl, SqT.of hl2, rfl, p, _, _, rfl, rfl, ep2, small1000 (by rw [List.length_map]; omega), hpn, ns ++ [n], _, rfl, ?_, ?_, ed⟩
            · rw [upd_same, List.map_append]
              rfl
            · rw [List.length_append]
              show ns.length + 1 ≤ _
              omega
        · refine ite_f (by simp [hi]) ?_
          have ho : w = "out" := hw.resolve_left hi
          subst ho
          have ed : dueD ds [] = if ns.getLast? = some n then dueD (ds.drop (i + 1)) ns.dropLast else none := ed
          refine ⟨_, rfl, (by show 0 ≤ sizeLine; decide), fun M hM => ?_⟩
          have s3 : Same H2 (upd H2 M (.lst [])) := same_new hM
          have s03 := s'.trans (sL.trans s3)
          refine ⟨_, _, .lst (SqL.of (s3 _ _ ep2)) (flat_dp (flv_ints ns)), .lst (SqL.of upd_same) .nil, flat_shaped (flv_ints ns), rfl, _, rfl, ?_⟩
          rw [eqv_empty]
          by_cases h0 : ns = []
          · refine ite_t (decide_eq_true h0) (iteT ?_)
            rw [h0, if_neg (by simp)] at ed
            rw [ed] at q
            exact q _ s03
          refine ite_f (decide_eq_false h0) ?_
          obtain ⟨m, g1, g2, g3⟩ := at_last ns h0
          refine ⟨_, rfl, _, rfl, p, _, _, _, rfl, rfl, SqL.of (s3 _ _ ep2), g2, _, rfl, u, _, _, _, rfl, rfl, SqT.of (s3 _ _ hl2), rfl, rfl, _, rfl, ?_⟩
          by_cases hm : m = n
          · subst hm
            refine ite_f (by simp) ?_
            rw [g1, if_pos rfl] at ed
            refine ⟨_, rfl, .inl ⟨rfl, _, SqL.of (s3 _ _ ep2)⟩, p, _, _, rfl, rfl, s3 _ _ ep2, g3, same_grow s03 hp, ns.dropLast, _, rfl, ?_, ?_, ed⟩
            · rw [upd_same, List.map_dropLast]
            · rw [List.length_dropLast]
              omega
          · refine ite_t (by simp [hm]) ?_
            rw [g1, if_neg (by simp [hm])] at ed
            rw [ed] at q
            exact q _ s03
  · rintro σ H' ⟨s', ns, t2, rfl, ep, ln, ed⟩
    refine ⟨_, rfl, ?_⟩
    rw [← ht.len, List.drop_length, dueD] at ed
    rw [ed] at q
    exact q p H' s' hp ep
end
end Wp
set_option Elab.async false
set_option linter.all false
set_option maxRecDepth 100000
namespace Wp
open PySem PySem.Spec PyProof.Rows L2
-- _law_ids: slots _law_draws_here 0, _law_some 1, _law_told 2, _law_k 3
abbrev s_law_ids : Stmt := top 10
theorem sc_law_ids : FnScope ["_law_draws_here", "_law_some", "_law_told", "_law_k"] ["_law_draws_here", "_law_some"] (defScope s_law_ids) := ⟨rfl, rfl, rfl, by decide +kernel, rfl, by decide +kernel, by decide +kernel⟩
abbrev sl_law_ids : List Str := ["_law_draws_here", "_law_some", "_law_told", "_law_k"]
-- _law_row: slots _law_draws_here 0, _law_told 1, _law_inside 2, _law_k 3, _law_pick 4, _law_free 5, _law_a_one 6
abbrev s_law_row : Stmt := top 12
theorem sc_law_row : FnScope ["_law_draws_here", "_law_told", "_law_inside", "_law_k", "_law_pick", "_law_free", "_law_a_one"] ["_law_draws_here"] (defScope s_law_row) := ⟨rfl, rfl, rfl, by decide +kernel, rfl, by decide +kernel, by decide +kernel⟩
abbrev sl_law_row : List Str := ["_law_draws_here", "_law_told", "_law_inside", "_law_k", "_law_pick", "_law_free", "_law_a_one"]
def spIds : Sp := fun vs H Q _ => ∃ (a s : Addr) (n : Nat) (ns : List Int), n + 7 ≤ big ∧ Dr H a n ∧ vs = [.ref a, .ref s] ∧ H s = some (.lst (ns.map V.int)) ∧ ns.length ≤ 10 ∧
  ∀ p H' (ms : List Int), Gx a H H' → H p = none → Dr H' a (n + 7) → H' p = some (.lst (ms.map V.int)) → ms.length ≤ 16 → Q (.ref p) H'
section
variable {P : Program} {w : World} {K : PySem.W.Frag} {mg : Str → Option Value} {base : Heap} {f : Addr} {fd : FuncData}
theorem ok_ids (F : Fun K "_law_ids" "_law_ids" s_law_ids f fd) (G_law_next : Has P w K mg base "_law_next" ["_law_draws_here"] 1 spNext) (m_list : mg "list" = none) (m_range : mg "range" = none) : FnOk P w K mg base CX0 2 f fd ["_law_draws_here", "_law_some"] spIds := by
  refine F.ok sc_law_ids (fun vs H Q E h => ?_) (fun cdv A outer s H vs Q E hr h => ?_)
  · obtain ⟨a, s, n, ns, _, _, rfl, _⟩ := h
    rfl
  obtain ⟨a, s0, n, ns, hn, dr, rfl, hs, ln, q⟩ := h
  refine ⟨_, (pss_cons (ps_set (i := 2) sc_law_ids.nd rfl (.inl rfl) (pe_callTy call_list_of rfl m_list PyProof.Rows.Boot.«list» (pa_cons (pv 1) pa_nil)))
  (pss_cons (ps_for PassesOwn.never rfl (pi_range1 rfl m_range (pa_cons (pe_op op_mod (pe_has G_law_next (hr.mono (by omega)) (pa_cons (pv 0) pa_nil)) pe_int) pa_nil)) (pg_name (i := 3) sc_law_ids.nd rfl (.inl rfl)) (pss_one (ps_expr (pe_bm PySem.F.plainAttrs_list PySem.F.slot_list_append PySem.F.type_list_append mt_append (pv 2) (pa_cons (pe_op op_add pe_int (pe_op op_mod (pe_has G_law_next (hr.mono (by omega)) (pa_cons (pv 0) pa_nil)) pe_int)) pa_nil)))))
  (pss_one (ps_ret (pv 2))))), ?_⟩
  refine ⟨_, rfl, s0, _, rfl, .inl (SqL.of hs), fun p hp => ?_⟩
  have np : p ≠ a := dr.ne hp
  have s1 : Same H (upd H p (.lst (ns.map V.int))) := same_new hp
  refine ⟨_, rfl, a, n, by omega, same_dr s1 dr, .cons rfl .nil, fun v1 H2 g2 d2 hv => ?_⟩
  obtain ⟨i, rfl, i0, _⟩ := hv
  have m7 : 0 ≤ i % 7 ∧ i % 7 < 7 := ⟨Int.emod_nonneg _ (by decide), Int.emod_lt_of_pos _ (by decide)⟩
  refine ⟨_, _, rfl, rfl, (show (0 : Int) < 7 by decide), ?_⟩
  refine ⟨_, rfl, by show -(2 ^ 62 : Int) ≤ i % 7; omega, by show i % 7 < 2 ^ 62; omega, for_range (n := (i % 7).toNat) (fun k σ H' => Gx a H H' ∧ Dr H' a (n + 1 + k) ∧ ∃ (ms : List Int) (t3 : Option V), σ = [some (.ref a), some (.ref s0), some (.ref p), t3] ∧ H' p = some (.lst (ms.map V.int)) ∧ ms.length = ns.length + k) ?_ ?_ ?_⟩
  · exact ⟨(same_gx s1).trans g2, d2, ns, none, rfl, g2 _ _ np upd_same, rfl⟩
  · rintro k σ H' hk ⟨g, d, ms, t3, rfl, ep, lm⟩
    refine ⟨_, rfl, .inl ⟨rfl, _, SqL.of ep⟩, _, rfl, a, n + 1 + k, by omega, d, .cons rfl .nil, fun v H3 g3 d3 hv => ?_⟩
    obtain ⟨j, rfl, _, _⟩ := hv
    refine ⟨_, _, rfl, rfl, (show (0 : Int) < 40 by decide), _, _, rfl, rfl, p, _, _, rfl, rfl, g3 _ _ np ep, small1000 (by rw [List.length_map]; omega), (g.trans g3).grow hp, d3.upd np, ms ++ [1 + j % 40], _, rfl, ?_, ?_⟩
    · rw [upd_same, List.map_append]
      rfl
    · rw [List.length_append]
      show ms.length + 1 = _
      omega
  · rintro σ H' ⟨g, d, ms, t3, rfl, ep, lm⟩
    exact ⟨_, rfl, q p H' ms g hp (d.mono (by omega)) ep (by omega)⟩
/-- a list without twins within another is no longer -/
theorem no_twins : ∀ {l ns : List Int}, l.Nodup → (∀ x ∈ l, x ∈ ns) → l.length ≤ ns.length
  | [], _, _, _ => Nat.zero_le _
  | x :: l, ns, hn, hs => by
    have hx := hs x List.mem_cons_self
    have h := no_twins (l := l) (ns := ns.erase x) (List.nodup_cons.mp hn).2 fun y hy => by
      have ne : y ≠ x := fun e => (List.nodup_cons.mp hn).1 (e ▸ hy)
      exact (List.mem_erase_of_ne ne).mpr (hs y (List.mem_cons_of_mem _ hy))
    rw [List.length_erase_of_mem hx] at h
    have : 0 < ns.length := List.length_pos_of_mem hx
    rw [List.length_cons]
    omega
def isGo (H : Hp) (x : V) : Prop := ∃ (u : Addr) (w : Str) (n : Int), x = .ref u ∧ H u = some (.tup [.str w, .int n]) ∧ (w = "in" ∨ w = "out")
theorem isGo.gx {H H' : Hp} {a : Addr} {n : Nat} {x : V} (h : isGo H x) (d : Dr H a n) (g : Gx a H H') : isGo H' x := by
  obtain ⟨u, w, n, rfl, e, hw⟩ := h
  refine ⟨u, w, n, rfl, g _ _ (fun z => ?_) e, hw⟩
  obtain ⟨x, c, b, e2, _⟩ := d
  rw [z, e2] at e
  cases e
theorem isGo.same {H H' : Hp} {x : V} (h : isGo H x) (s : Same H H') : isGo H' x := by
  obtain ⟨u, w, n, rfl, e, hw⟩ := h
  exact ⟨u, w, n, rfl, s _ _ e, hw⟩
/-- another object than a list changes nothing of a going -/
theorem isGo.upd {H : Hp} {x : V} {p : Addr} {xs : List V} {o : HO} (h : isGo H x) (e : H p = some (.lst xs)) : isGo (L2.upd H p o) x := by
  obtain ⟨u, w, n, rfl, k, hw⟩ := h
  refine ⟨u, w, n, rfl, ?_, hw⟩
  rw [upd_ne (fun z => ?_)]
  · exact k
  · rw [z, e] at k
    cases k
def spRow : Sp := fun vs H Q _ => ∃ (a : Addr) (n : Nat), n + 21 ≤ big ∧ Dr H a n ∧ vs = [.ref a] ∧
  ∀ p H' xs, Gx a H H' → H p = none → Dr H' a (n + 21) → H' p = some (.lst xs) → xs.length ≤ 20 → (∀ x ∈ xs, isGo H' x) → Q (.ref p) H'
theorem ok_row (F : Fun K "_law_row" "_law_row" s_law_row f fd) (G_law_next : Has P w K mg base "_law_next" ["_law_draws_here"] 1 spNext) (m_range : mg "range" = none) (m_len : mg "len" = none) : FnOk P w K mg base CX0 2 f fd ["_law_draws_here"] spRow := by
  refine F.ok sc_law_row (fun vs H Q E h => ?_) (fun cdv A outer s H vs Q E hr h => ?_)
  · obtain ⟨a, n, _, _, rfl, _⟩ := h
    rfl
  obtain ⟨a, n, hn, dr, rfl, q⟩ := h
  refine ⟨_, (pss_cons (ps_set (i := 1) sc_law_row.nd rfl (.inl rfl) (pe_lst pa_nil))
  (pss_cons (ps_set (i := 2) sc_law_row.nd rfl (.inr rfl) (pe_lst pa_nil))
  (pss_cons (ps_for PassesOwn.never rfl (pi_range1 rfl m_range (pa_cons (pe_op op_mod (pe_has G_law_next (hr.mono (by omega)) (pa_cons (pv 0) pa_nil)) pe_int) pa_nil)) (pg_name (i := 3) sc_law_row.nd rfl (.inl rfl)) (pss_cons (ps_set (i := 4) sc_law_row.nd rfl (.inl rfl) (pe_has G_law_next (hr.mono (by omega)) (pa_cons (pv 0) pa_nil)))
  (pss_one (ps_if (PW.pt (pw_and (pt_cmpR op_lt (pe_op op_mod (pv 4) pe_int) pe_int (nomark _)) (pw_and1 (pt_cmpR (op_neD hr.units) (pv 2) (pe_lst pa_nil) (nomark _))))) (pss_one (ps_expr (pe_bm PySem.F.plainAttrs_list PySem.F.slot_list_append PySem.F.type_list_append mt_append (pv 1) (pa_cons (pe_tup (pa_cons pe_str (pa_cons (pe_bm0 PySem.F.plainAttrs_list PySem.F.slot_list_pop PySem.F.type_list_pop mt_pop (pv 2)) pa_nil))) pa_nil)))) (pss_cons (ps_setLc (i := 5) (own := [("_law_a_one", 6)]) (g := gName 6) (tt := (tTest (tOp (rIn K true) (tVar 6) (tVar 2)))) (te := (tVar 6)) rfl sc_law_row.nd rfl rfl (sw_true rfl rfl rfl (by decide +kernel)) (pi_range2 rfl m_range (pa_cons pe_int (pa_cons pe_int pa_nil))) (blkOk_by (N := sl_law_row) (sc := defScope s_law_row) (by decide +kernel)) (fun _ _ _ _ _ => (pg_name (i := 6) sc_law_row.nd rfl (.inl rfl))) (fun _ _ _ _ _ => (pts_one (pt_cmpR op_notIn_seq (pv 6) (pv 2) rfl))) (fun _ _ _ _ _ => (pv 6)))
  (pss_cons (ps_expr (pe_bm PySem.F.plainAttrs_list PySem.F.slot_list_append PySem.F.type_list_append mt_append (pv 2) (pa_cons (pe_ix ix_list (pv 5) (pe_op op_mod (pe_op op_fdiv (pv 4) pe_int) (pe_callB call_len_seq rfl m_len PySem.boot_len (pa_cons (pv 5) pa_nil))) (fun _ _ => rfl)) pa_nil)))
  (pss_one (ps_expr (pe_bm PySem.F.plainAttrs_list PySem.F.slot_list_append PySem.F.type_list_append mt_append (pv 1) (pa_cons (pe_tup (pa_cons pe_str (pa_cons (pe_ix ix_list (pv 2) (pe_un un_neg pe_int) (fun _ _ => rfl)) pa_nil))) pa_nil))))))))))
  (pss_one (ps_ret (pv 1)))))), ?_⟩
  refine ⟨(by show 0 ≤ sizeLine; decide), fun p hp => ?_⟩
  have np : p ≠ a := dr.ne hp
  have s1 : Same H (upd H p (.lst [])) := same_new hp
  refine ⟨(by show 0 ≤ sizeLine; decide), fun r hr0 => ?_⟩
  have npr : p ≠ r := fun e => by
    rw [← e, upd_same] at hr0
    cases hr0
  have hr : H r = none := by
    rw [upd_ne (Ne.symm npr)] at hr0
    exact hr0
  have nr : r ≠ a := dr.ne hr
  have s2 : Same H (upd (upd H p (.lst [])) r (.lst [])) := same_grow s1 hr
  have e2p : upd (upd H p (.lst [])) r (.lst []) p = some (.lst []) := by rw [upd_ne npr, upd_same]
  have e2r : upd (upd H p (.lst [])) r (.lst []) r = some (.lst []) := upd_same
  generalize upd (upd H p (.lst [])) r (.lst []) = H2 at *
  refine ⟨_, rfl, a, n, by omega, same_dr s2 dr, .cons rfl .nil, fun v1 H3 g3 d3 hv => ?_⟩
  obtain ⟨i, rfl, i0, _⟩ := hv
  have m7 : 0 ≤ i % 21 ∧ i % 21 < 21 := ⟨Int.emod_nonneg _ (by decide), Int.emod_lt_of_pos _ (by decide)⟩
  refine ⟨_, _, rfl, rfl, (show (0 : Int) < 21 by decide), ?_⟩
  refine ⟨_, rfl, by show -(2 ^ 62 : Int) ≤ i % 21; omega, by show i % 21 < 2 ^ 62; omega, for_range (n := (i % 21).toNat) (fun k σ H' => Gx a H H' ∧ Dr H' a (n + 1 + k) ∧ ∃ (xs : List V) (ns : List Int) (t3 t4 t5 : Option V), σ = [some (.ref a), some (.ref p), some (.ref r), t3, t4, t5, none] ∧ H' p = some (.lst xs) ∧ H' r = some (.lst (ns.map V.int)) ∧ xs.length ≤ k ∧ ns.length ≤ k ∧ ∀ x ∈ xs, isGo H' x) ?_ ?_ ?_⟩
  · exact ⟨(same_gx s2).trans g3, d3, [], [], none, none, none, rfl, g3 _ _ np e2p, g3 _ _ nr e2r, Nat.zero_le _, Nat.zero_le _, fun _ h => nomatch h⟩
  · rintro k σ H' hk ⟨g, d, xs, ns, t3, t4, t5, rfl, ep, er, lx, ln, hx⟩
    refine ⟨_, rfl, a, n + 1 + k, by omega, d, .cons rfl .nil, fun v H4 g4 d4 hv => ?_⟩
    obtain ⟨j, rfl, j0, _⟩ := hv
    have ep4 := g4 _ _ np ep
    have er4 := g4 _ _ nr er
    have hx4 : ∀ x ∈ xs, isGo H4 x := fun x h => (hx x h).gx d g4
    have g04 := g.trans g4
    refine ⟨_, rfl, _, _, rfl, rfl, (show (0 : Int) < 5 by decide), _, _, rfl, rfl, _, rfl, ?_⟩
    by_cases hj : j % 5 < 2
    · refine ite_t (decide_eq_true hj) ⟨_, rfl, (by show 0 ≤ sizeLine; decide), fun M hM => ?_⟩
      have s5 : Same H4 (upd H4 M (.lst [])) := same_new hM
      refine ⟨_, _, .lst (SqL.of (s5 _ _ er4)) (flat_dp (flv_ints ns)), .lst (SqL.of upd_same) .nil, flat_shaped (flv_ints ns), rfl, _, rfl, ?_⟩
      rw [eqv_empty]
      have ep5 := s5 _ _ ep4
      have er5 := s5 _ _ er4
      have hx5 : ∀ x ∈ xs, isGo (upd H4 M (.lst [])) x := fun x h => (hx4 x h).same s5
      have g5 := g04.trans (same_gx (a := a) s5)
      have d5 := same_dr s5 d4
      generalize upd H4 M (.lst []) = HC at *
      by_cases h0 : ns = []
      · refine ite_f (by simp [h0]) ?_
        refine ⟨1, 30, rfl, ⟨by decide, by decide, by decide, by decide⟩, fun D hD => ?_⟩
        have nDr : D ≠ r := fun e => by rw [e, er5] at hD; cases hD
        have nDp : D ≠ p := fun e => by rw [e, ep5] at hD; cases hD
        have nDa : D ≠ a := d5.ne hD
        refine lc_range (n := 29) (fun t H' => Same HC H' ∧ ∃ fs : List Int, H' D = some (.lst (fs.map V.int)) ∧ fs.length ≤ t ∧ ∀ y : Nat, y < t → ¬ (1 + (y : Int)) ∈ ns → (1 + (y : Int)) ∈ fs) ?_ ?_ ?_
        · exact ⟨same_new hD, [], upd_same, Nat.zero_le _, fun y hy => absurd hy (Nat.not_lt_zero _)⟩
        · rintro t H6 ht ⟨s6, fs, e6, l6, h6⟩
          refine ⟨wipe_one _ 6 _, _, rfl, _, rfl, r, _, rfl, .inl (SqL.of (s6 _ _ er5)), rfl, flat_ints ns, _, rfl, ?_⟩
          show if (!inV (.int (1 + (t : Int))) (ns.map V.int)) = true then _ else _
          rw [inV_ints]
          by_cases hm : (1 + (t : Int)) ∈ ns
          · refine ite_f (by simp [hm]) ⟨s6, fs, e6, by omega, fun y hy hn => ?_⟩
            rcases Nat.lt_succ_iff_lt_or_eq.mp hy with h | h
            · exact h6 y h hn
            · rw [h] at hn
              exact absurd hm hn
          · refine ite_t (by simp [hm]) ⟨_, rfl, _, e6, small1000 (by rw [List.length_map]; omega), same_grow s6 hD, fs ++ [1 + (t : Int)], ?_, ?_, fun y hy hn => ?_⟩
            · rw [upd_same, List.map_append]
              rfl
            · rw [List.length_append]
              show fs.length + 1 ≤ _
              omega
            · rcases Nat.lt_succ_iff_lt_or_eq.mp hy with h | h
              · exact List.mem_append_left _ (h6 y h hn)
              · rw [h]
                exact List.mem_append_right _ List.mem_cons_self
        rintro H6 ⟨s6, fs, e6, l6, h6⟩
        have lf : 0 < fs.length := by
          cases fs with
          | cons x fs => exact Nat.succ_pos _
          | nil =>
            have := no_twins (l := (List.range 29).map fun y : Nat => (1 + (y : Int))) (ns := ns) (by decide) fun x hx => by
              obtain ⟨y, hy, rfl⟩ := List.mem_map.mp hx
              exact Decidable.byContradiction fun hn => nomatch h6 y (List.mem_range.mp hy) hn
            rw [List.length_map, List.length_range] at this
            omega
        have lfm : (fs.map V.int).length = fs.length := List.length_map _
        have k1 : 0 ≤ (j / 5) % (((fs.map V.int).length : Nat) : Int) := Int.emod_nonneg _ (by omega)
        have k2 : (j / 5) % (((fs.map V.int).length : Nat) : Int) < ((fs.map V.int).length : Nat) := Int.emod_lt_of_pos _ (by omega)
        obtain ⟨v, ev, mv⟩ := at_in (xs := fs.map V.int) k1 k2
        obtain ⟨m, _, rfl⟩ := List.mem_map.mp mv
        have ep6 := s6 _ _ ep5
        have er6 := s6 _ _ er5
        refine ⟨_, rfl, .inl ⟨rfl, _, SqL.of er6⟩, _, rfl, _, rfl, _, _, rfl, rfl, ⟨by show (0 : Int) < 5; decide, by show (5 : Int) < 1073741824; decide⟩, _, rfl, D, _, rfl, .inl (SqL.of e6), _, _, rfl, rfl, (by show (0 : Int) < ((fs.map V.int).length : Nat); omega), D, _, _, _, rfl, rfl, SqL.of e6, ev, r, _, _, rfl, rfl, er6, small1000 (by rw [List.length_map]; omega), ?_⟩
        have er7 : upd H6 r (.lst (ns.map V.int ++ [V.int m])) r = some (.lst ((ns ++ [m]).map V.int)) := by
          rw [upd_same, List.map_append]
          rfl
        have ep7 : upd H6 r (.lst (ns.map V.int ++ [V.int m])) p = some (.lst xs) := by
          rw [upd_ne npr]
          exact ep6
        have g7 : Gx a H (upd H6 r (.lst (ns.map V.int ++ [V.int m]))) := (g5.trans (same_gx s6)).grow hr
        have d7 : Dr (upd H6 r (.lst (ns.map V.int ++ [V.int m]))) a (n + 1 + k + 1) := (same_dr s6 d5).upd nr
        have hx7 : ∀ x ∈ xs, isGo (upd H6 r (.lst (ns.map V.int ++ [V.int m]))) x := fun x h => ((hx5 x h).same s6).upd er6
        generalize upd H6 r (.lst (ns.map V.int ++ [V.int m])) = H7 at *
        obtain ⟨m', _, q2, _⟩ := at_last (ns ++ [m]) (by simp)
        refine ⟨_, rfl, .inl ⟨rfl, _, SqL.of ep7⟩, _, rfl, _, rfl, r, _, _, _, rfl, rfl, SqL.of er7, q2, (by show 2 ≤ sizeLine; decide), fun T hT => ?_⟩
        have ep8 := same_new (o := .tup [.str "in", .int m']) hT _ _ ep7
        have nTp : p ≠ T := fun e => by rw [← e, ep7] at hT; cases hT
        have nTr : r ≠ T := fun e => by rw [← e, er7] at hT; cases hT
        refine ⟨p, _, _, rfl, rfl, ep8, small1000 (by omega), (g7.trans (Gx.new hT)).grow hp, (d7.upd (d7.ne hT)).upd np, xs ++ [.ref T], ns ++ [m], _, _, _, rfl, upd_same, ?_, ?_, ?_, ?_⟩
        · rw [upd_ne (Ne.symm npr), upd_ne nTr]
          exact er7
        · rw [List.length_append]
          show xs.length + 1 ≤ _
          omega
        · rw [List.length_append]
          show ns.length + 1 ≤ _
          omega
        · intro x h
          rcases List.mem_append.mp h with h | h
          · exact ((hx7 x h).same (same_new hT)).upd ep8
          · rw [List.mem_singleton.mp h]
            refine ⟨T, "in", m', rfl, ?_, .inl rfl⟩
            rw [upd_ne (Ne.symm nTp), upd_same]
      refine ite_t (by simp [h0]) ?_
      obtain ⟨m, _, _, q3⟩ := at_last ns h0
      refine ⟨_, rfl, .inl ⟨rfl, _, SqL.of ep5⟩, _, rfl, .inl ⟨rfl, _, SqL.of er5⟩, r, _, _, rfl, rfl, er5, q3, (by show 2 ≤ sizeLine; decide), fun T hT => ?_⟩
      have er7 : upd HC r (.lst (ns.map V.int).dropLast) r = some (.lst (ns.dropLast.map V.int)) := by rw [upd_same, List.map_dropLast]
      have ep7 : upd HC r (.lst (ns.map V.int).dropLast) p = some (.lst xs) := by
        rw [upd_ne npr]
        exact ep5
      have g7 : Gx a H (upd HC r (.lst (ns.map V.int).dropLast)) := g5.grow hr
      have d7 : Dr (upd HC r (.lst (ns.map V.int).dropLast)) a (n + 1 + k + 1) := d5.upd nr
      have hx7 : ∀ x ∈ xs, isGo (upd HC r (.lst (ns.map V.int).dropLast)) x := fun x h => (hx5 x h).upd er5
      generalize upd HC r (.lst (ns.map V.int).dropLast) = H7 at *
      have ep8 := same_new (o := .tup [.str "out", .int m]) hT _ _ ep7
      have nTp : p ≠ T := fun e => by rw [← e, ep7] at hT; cases hT
      have nTr : r ≠ T := fun e => by rw [← e, er7] at hT; cases hT
      refine ⟨p, _, _, rfl, rfl, ep8, small1000 (by omega), (g7.trans (Gx.new hT)).grow hp, (d7.upd (d7.ne hT)).upd np, xs ++ [.ref T], ns.dropLast, _, _, _, rfl, upd_same, ?_, ?_, ?_, ?_⟩
      · rw [upd_ne (Ne.symm npr), upd_ne nTr]
        exact er7
      · rw [List.length_append]
        show xs.length + 1 ≤ _
        omega
      · rw [List.length_dropLast]
        omega
      · intro x h
        rcases List.mem_append.mp h with h | h
        · exact ((hx7 x h).same (same_new hT)).upd ep8
        · rw [List.mem_singleton.mp h]
          refine ⟨T, "out", m, rfl, ?_, .inr rfl⟩
          rw [upd_ne (Ne.symm nTp), upd_same]
    · refine ite_f (decide_eq_false hj) (iteF ?_)
      have ep5 := ep4
      have er5 := er4
      have hx5 := hx4
      have g5 := g04
      have d5 := d4
      generalize H4 = HC at *
      refine ⟨1, 30, rfl, ⟨by decide, by decide, by decide, by decide⟩, fun D hD => ?_⟩
      have nDr : D ≠ r := fun e => by rw [e, er5] at hD; cases hD
      have nDp : D ≠ p := fun e => by rw [e, ep5] at hD; cases hD
      have nDa : D ≠ a := d5.ne hD
      refine lc_range (n := 29) (fun t H' => Same HC H' ∧ ∃ fs : List Int, H' D = some (.lst (fs.map V.int)) ∧ fs.length ≤ t ∧ ∀ y : Nat, y < t → ¬ (1 + (y : Int)) ∈ ns → (1 + (y : Int)) ∈ fs) ?_ ?_ ?_
      · exact ⟨same_new hD, [], upd_same, Nat.zero_le _, fun y hy => absurd hy (Nat.not_lt_zero _)⟩
      · rintro t H6 ht ⟨s6, fs, e6, l6, h6⟩
        refine ⟨wipe_one _ 6 _, _, rfl, _, rfl, r, _, rfl, .inl (SqL.of (s6 _ _ er5)), rfl, flat_ints ns, _, rfl, ?_⟩
        show if (!inV (.int (1 + (t : Int))) (ns.map V.int)) = true then _ else _
        rw [inV_ints]
        by_cases hm : (1 + (t : Int)) ∈ ns
        · refine ite_f (by simp [hm]) ⟨s6, fs, e6, by omega, fun y hy hn => ?_⟩
          rcases Nat.lt_succ_iff_lt_or_eq.mp hy with h | h
          · exact h6 y h hn
          · rw [h] at hn
            exact absurd hm hn
        · refine ite_t (by simp [hm]) ⟨_, rfl, _, e6, small1000 (by rw [List.length_map]; omega), same_grow s6 hD, fs ++ [1 + (t : Int)], ?_, ?_, fun y hy hn => ?_⟩
          · rw [upd_same, List.map_append]
            rfl
          · rw [List.length_append]
            show fs.length + 1 ≤ _
            omega
          · rcases Nat.lt_succ_iff_lt_or_eq.mp hy with h | h
            · exact List.mem_append_left _ (h6 y h hn)
            · rw [h]
              exact List.mem_append_right _ List.mem_cons_self
      rintro H6 ⟨s6, fs, e6, l6, h6⟩
      have lf : 0 < fs.length := by
        cases fs with
        | cons x fs => exact Nat.succ_pos _
        | nil =>
          have := no_twins (l := (List.range 29).map fun y : Nat => (1 + (y : Int))) (ns := ns) (by decide) fun x hx => by
            obtain ⟨y, hy, rfl⟩ := List.mem_map.mp hx
            exact Decidable.byContradiction fun hn => nomatch h6 y (List.mem_range.mp hy) hn
          rw [List.length_map, List.length_range] at this
          omega
      have lfm : (fs.map V.int).length = fs.length := List.length_map _
      have k1 : 0 ≤ (j / 5) % (((fs.map V.int).length : Nat) : Int) := Int.emod_nonneg _ (by omega)
      have k2 : (j / 5) % (((fs.map V.int).length : Nat) : Int) < ((fs.map V.int).length : Nat) := Int.emod_lt_of_pos _ (by omega)
      obtain ⟨v, ev, mv⟩ := at_in (xs := fs.map V.int) k1 k2
      obtain ⟨m, _, rfl⟩ := List.mem_map.mp mv
      have ep6 := s6 _ _ ep5
      have er6 := s6 _ _ er5
      refine ⟨_, rfl, .inl ⟨rfl, _, SqL.of er6⟩, _, rfl, _, rfl, _, _, rfl, rfl, ⟨by show (0 : Int) < 5; decide, by show (5 : Int) < 1073741824; decide⟩, _, rfl, D, _, rfl, .inl (SqL.of e6), _, _, rfl, rfl, (by show (0 : Int) < ((fs.map V.int).length : Nat); omega), D, _, _, _, rfl, rfl, SqL.of e6, ev, r, _, _, rfl, rfl, er6, small1000 (by rw [List.length_map]; omega), ?_⟩
      have er7 : upd H6 r (.lst (ns.map V.int ++ [V.int m])) r = some (.lst ((ns ++ [m]).map V.int)) := by
        rw [upd_same, List.map_append]
        rfl
      have ep7 : upd H6 r (.lst (ns.map V.int ++ [V.int m])) p = some (.lst xs) := by
        rw [upd_ne npr]
        exact ep6
      have g7 : Gx a H (upd H6 r (.lst (ns.map V.int ++ [V.int m]))) := (g5.trans (same_gx s6)).grow hr
      have d7 : Dr (upd H6 r (.lst (ns.map V.int ++ [V.int m]))) a (n + 1 + k + 1) := (same_dr s6 d5).upd nr
      have hx7 : ∀ x ∈ xs, isGo (upd H6 r (.lst (ns.map V.int ++ [V.int m]))) x := fun x h => ((hx5 x h).same s6).upd er6
      generalize upd H6 r (.lst (ns.map V.int ++ [V.int m])) = H7 at *
      obtain ⟨m', _, q2, _⟩ := at_last (ns ++ [m]) (by simp)
      refine ⟨_, rfl, .inl ⟨rfl, _, SqL.of ep7⟩, _, rfl, _, rfl, r, _, _, _, rfl, rfl, SqL.of er7, q2, (by show 2 ≤ sizeLine; decide), fun T hT => ?_⟩
      have ep8 := same_new (o := .tup [.str "in", .int m']) hT _ _ ep7
      have nTp : p ≠ T := fun e => by rw [← e, ep7] at hT; cases hT
      have nTr : r ≠ T := fun e => by rw [← e, er7] at hT; cases hT
      refine ⟨p, _, _, rfl, rfl, ep8, small1000 (by omega), (g7.trans (Gx.new hT)).grow hp, (d7.upd (d7.ne hT)).upd np, xs ++ [.ref T], ns ++ [m], _, _, _, rfl, upd_same, ?_, ?_, ?_, ?_⟩
      · rw [upd_ne (Ne.symm npr), upd_ne nTr]
        exact er7
      · rw [List.length_append]
        show xs.length + 1 ≤ _
        omega
      · rw [List.length_append]
        show ns.length + 1 ≤ _
        omega
      · intro x h
        rcases List.mem_append.mp h with h | h
        · exact ((hx7 x h).same (same_new hT)).upd ep8
        · rw [List.mem_singleton.mp h]
          refine ⟨T, "in", m', rfl, ?_, .inl rfl⟩
          rw [upd_ne (Ne.symm nTp), upd_same]
  · rintro σ H' ⟨g, d, xs, ns, t3, t4, t5, rfl, ep, er, lx, ln, hx⟩
    exact ⟨_, rfl, q p H' xs g hp (d.mono (by omega)) ep (by omega) hx⟩
end
end Wp
set_option Elab.async false
set_option linter.all false
set_option maxRecDepth 100000
namespace Wp
open PySem PySem.Spec PyProof.Rows L2
-- _law_bent: slots _law_draws_here 0, _law_a_row 1, _law_pick 2, _law_odd 3, _law_at 4
abbrev s_law_bent : Stmt := top 13
theorem sc_law_bent : FnScope ["_law_draws_here", "_law_a_row", "_law_pick", "_law_odd", "_law_at"] ["_law_draws_here", "_law_a_row"] (defScope s_law_bent) := ⟨rfl, rfl, rfl, by decide +kernel, rfl, by decide +kernel, by decide +kernel⟩
abbrev sl_law_bent : List Str := ["_law_draws_here", "_law_a_row", "_law_pick", "_law_odd", "_law_at"]
theorem isGo.th {H : Hp} {x : V} (h : isGo H x) : ∃ d, Th H x d := by
  obtain ⟨u, w, n, rfl, e, hw⟩ := h
  exact ⟨_, .two e (by rcases hw with rfl | rfl <;> decide +kernel) (.int n)⟩
theorem th_same {H H' : Hp} {xs : List V} (h : ∀ x ∈ xs, ∃ d, Th H x d) (s : Same H H') : ∀ x ∈ xs, ∃ d, Th H' x d := fun x hx => (h x hx).imp fun _ k => k.same s
theorem mem_cut {xs : List V} {i j : Option Int} {x : V} (h : x ∈ cutV xs i j) : x ∈ xs := by
  unfold cutV at h
  exact List.mem_of_mem_drop (List.mem_of_mem_take h)
theorem fresh_gx {a p : Addr} {H H' : Hp} {n : Nat} (g : Gx a H H') (d : Dr H' a n) (h : H' p = none) : H p = none := by
  have np := d.ne h
  cases e : H p with
  | none => rfl
  | some o =>
    rw [g _ _ np e] at h
    cases h
def spBent : Sp := fun vs H Q _ => ∃ (a r : Addr) (n : Nat) (xs : List V), n + 1 ≤ big ∧ Dr H a n ∧ vs = [.ref a, .ref r] ∧ r ≠ a ∧ H r = some (.lst xs) ∧ xs.length ≤ 20 ∧ (∀ x ∈ xs, isGo H x) ∧
  ∀ p H' ys, Gx a H H' → H p = none → Dr H' a (n + 1) → H' p = some (.lst ys) → ys.length ≤ 70 → (∀ x ∈ ys, ∃ d, Th H' x d) → Q (.ref p) H'
section
variable {P : Program} {w : World} {K : PySem.W.Frag} {mg : Str → Option Value} {base : Heap} {f : Addr} {fd : FuncData}
set_option maxHeartbeats 1000000 in
theorem ok_bent (F : Fun K "_law_bent" "_law_bent" s_law_bent f fd) (G_law_next : Has P w K mg base "_law_next" ["_law_draws_here"] 1 spNext) (m_len : mg "len" = none) : FnOk P w K mg base CX0 2 f fd ["_law_draws_here", "_law_a_row"] spBent := by
  refine F.ok sc_law_bent (fun vs H Q E h => ?_) (fun cdv A outer s H vs Q E hr h => ?_)
  · obtain ⟨a, r, n, xs, _, _, rfl, _⟩ := h
    rfl
  obtain ⟨a, r, n, xs, hn, dr, rfl, nr, er, lx, hx, q⟩ := h
  refine ⟨_, (pss_cons (ps_set (i := 2) sc_law_bent.nd rfl (.inl rfl) (pe_has G_law_next (hr.mono (by omega)) (pa_cons (pv 0) pa_nil)))
  (pss_cons (ps_set (i := 3) sc_law_bent.nd rfl (.inl rfl) (pe_lst (pa_cons (pe_tup (pa_cons pe_str (pa_cons pe_int pa_nil))) (pa_cons (pe_tup (pa_cons pe_str (pa_cons pe_int pa_nil))) (pa_cons (pe_tup (pa_cons pe_str (pa_cons pe_bl pa_nil))) (pa_cons (pe_tup (pa_cons pe_str (pa_cons pe_bl pa_nil))) (pa_cons (pe_tup (pa_cons pe_str (pa_cons pe_int pa_nil))) (pa_cons (pe_lst (pa_cons pe_str (pa_cons pe_int pa_nil))) (pa_cons (pe_tup (pa_cons pe_str pa_nil)) (pa_cons (pe_tup (pa_cons pe_str (pa_cons pe_int (pa_cons pe_int pa_nil)))) pa_nil))))))))))
  (pss_cons (ps_set (i := 3) sc_law_bent.nd rfl (.inl rfl) (pe_op op_cat (pv 3) (pe_lst (pa_cons pe_non (pa_cons pe_str (pa_cons (pe_tup (pa_cons pe_str (pa_cons pe_str pa_nil))) (pa_cons (pe_tup pa_nil) (pa_cons (pe_tup (pa_cons pe_str (pa_cons pe_non pa_nil))) (pa_cons (pe_tup (pa_cons pe_str (pa_cons (pe_un un_neg pe_int) pa_nil))) (pa_cons (pe_tup (pa_cons pe_str (pa_cons pe_int pa_nil))) pa_nil))))))))))
  (pss_cons (ps_set (i := 4) sc_law_bent.nd rfl (.inl rfl) (pe_op op_mod (pe_op op_fdiv (pv 2) pe_int) (pe_op op_add (pe_callB call_len_seq rfl m_len PySem.boot_len (pa_cons (pv 1) pa_nil)) pe_int)))
  (pss_cons (ps_if (pt_cmpR op_lt (pe_op op_mod (pv 2) pe_int) pe_int (nomark _)) (pss_one (ps_ret (pe_op op_cat (pe_op op_cat (pe_slice sl_list (pv 1) po_none (po_some (pv 4))) (pe_lst (pa_cons (pe_ix ix_list (pv 3) (pe_op op_mod (pe_op op_fdiv (pv 2) pe_int) pe_int) (fun _ _ => rfl)) pa_nil))) (pe_slice sl_list (pv 1) (po_some (pv 4)) po_none)))) pss_nil)
  (pss_cons (ps_if (pt_cmpR op_lt (pe_op op_mod (pv 2) pe_int) pe_int (nomark _)) (pss_one (ps_ret (pe_op op_cat (pe_slice sl_list (pv 1) po_none (po_some (pv 4))) (pe_slice sl_list (pv 1) (po_some (pe_op op_add (pv 4) pe_int)) po_none)))) pss_nil)
  (pss_cons (ps_if (pt_cmpR op_lt (pe_op op_mod (pv 2) pe_int) pe_int (nomark _)) (pss_one (ps_ret (pe_op op_cat (pe_op op_cat (pe_slice sl_list (pv 1) po_none (po_some (pv 4))) (pe_lst (pa_cons (pe_ix ix_list (pv 3) (pe_op op_mod (pe_op op_fdiv (pv 2) pe_int) pe_int) (fun _ _ => rfl)) pa_nil))) (pe_slice sl_list (pv 1) (po_some (pe_op op_add (pv 4) pe_int)) po_none)))) pss_nil)
  (pss_one (ps_ret (pe_op op_cat (pe_op op_cat (pe_slice sl_list (pv 1) po_none (po_some (pv 4))) (pe_revL (pe_slice sl_list (pv 1) (po_some (pv 4)) (po_some (pe_op op_add (pv 4) pe_int))))) (pe_slice sl_list (pv 1) (po_some (pe_op op_add (pv 4) pe_int)) po_none))))))))))), ?_⟩
  refine ⟨_, rfl, a, n, by omega, dr, .cons rfl .nil, fun v1 H1 g1 d1 hv => ?_⟩
  obtain ⟨i, rfl, i0, _⟩ := hv
  have er1 := g1 _ _ nr er
  have hx1 : ∀ x ∈ xs, ∃ d, Th H1 x d := fun x h => ((hx x h).gx dr g1).th
  refine ⟨(by show 2 ≤ sizeLine; decide), fun T1 hT1 => ?_⟩
  have s1 : Same H1 (upd H1 T1 (.tup [.str "in", .int 1])) := same_new hT1
  have e1 : upd H1 T1 (.tup [.str "in", .int 1]) T1 = some (.tup [.str "in", .int 1]) := upd_same
  generalize upd H1 T1 (.tup [.str "in", .int 1]) = A1 at *
  have t1 : ∃ d, Th A1 (.ref T1) d := ⟨_, .two e1 (by decide +kernel) (.int _)⟩
  refine ⟨(by show 2 ≤ sizeLine; decide), fun T2 hT2 => ?_⟩
  have s2 : Same A1 (upd A1 T2 (.tup [.str "out", .int 1])) := same_new hT2
  have e2 : upd A1 T2 (.tup [.str "out", .int 1]) T2 = some (.tup [.str "out", .int 1]) := upd_same
  generalize upd A1 T2 (.tup [.str "out", .int 1]) = A2 at *
  have t2 : ∃ d, Th A2 (.ref T2) d := ⟨_, .two e2 (by decide +kernel) (.int _)⟩
  refine ⟨(by show 2 ≤ sizeLine; decide), fun T3 hT3 => ?_⟩
  have s3 : Same A2 (upd A2 T3 (.tup [.str "in", .bl true])) := same_new hT3
  have e3 : upd A2 T3 (.tup [.str "in", .bl true]) T3 = some (.tup [.str "in", .bl true]) := upd_same
  generalize upd A2 T3 (.tup [.str "in", .bl true]) = A3 at *
  have t3 : ∃ d, Th A3 (.ref T3) d := ⟨_, .two e3 (by decide +kernel) (.bl _)⟩
  refine ⟨(by show 2 ≤ sizeLine; decide), fun T4 hT4 => ?_⟩
  have s4 : Same A3 (upd A3 T4 (.tup [.str "out", .bl false])) := same_new hT4
  have e4 : upd A3 T4 (.tup [.str "out", .bl false]) T4 = some (.tup [.str "out", .bl false]) := upd_same
  generalize upd A3 T4 (.tup [.str "out", .bl false]) = A4 at *
  have t4 : ∃ d, Th A4 (.ref T4) d := ⟨_, .two e4 (by decide +kernel) (.bl _)⟩
  refine ⟨(by show 2 ≤ sizeLine; decide), fun T5 hT5 => ?_⟩
  have s5 : Same A4 (upd A4 T5 (.tup [.str "on", .int 2])) := same_new hT5
  have e5 : upd A4 T5 (.tup [.str "on", .int 2]) T5 = some (.tup [.str "on", .int 2]) := upd_same
  generalize upd A4 T5 (.tup [.str "on", .int 2]) = A5 at *
  have t5 : ∃ d, Th A5 (.ref T5) d := ⟨_, .two e5 (by decide +kernel) (.int _)⟩
  refine ⟨(by show 2 ≤ sizeLine; decide), fun T6 hT6 => ?_⟩
  have s6 : Same A5 (upd A5 T6 (.lst [.str "in", .int 3])) := same_new hT6
  have e6 : upd A5 T6 (.lst [.str "in", .int 3]) T6 = some (.lst [.str "in", .int 3]) := upd_same
  generalize upd A5 T6 (.lst [.str "in", .int 3]) = A6 at *
  have t6 : ∃ d, Th A6 (.ref T6) d := ⟨_, .lst e6 (by simp; exact ⟨.str _ (by decide +kernel), .int _⟩)⟩
  refine ⟨(by show 1 ≤ sizeLine; decide), fun T7 hT7 => ?_⟩
  have s7 : Same A6 (upd A6 T7 (.tup [.str "in"])) := same_new hT7
  have e7 : upd A6 T7 (.tup [.str "in"]) T7 = some (.tup [.str "in"]) := upd_same
  generalize upd A6 T7 (.tup [.str "in"]) = A7 at *
  have t7 : ∃ d, Th A7 (.ref T7) d := ⟨_, .tup e7 (by decide) (by simp; exact .str _ (by decide +kernel))⟩
  refine ⟨(by show 3 ≤ sizeLine; decide), fun T8 hT8 => ?_⟩
  have s8 : Same A7 (upd A7 T8 (.tup [.str "in", .int 4, .int 4])) := same_new hT8
  have e8 : upd A7 T8 (.tup [.str "in", .int 4, .int 4]) T8 = some (.tup [.str "in", .int 4, .int 4]) := upd_same
  generalize upd A7 T8 (.tup [.str "in", .int 4, .int 4]) = A8 at *
  have t8 : ∃ d, Th A8 (.ref T8) d := ⟨_, .tup e8 (by decide) (by simp; exact ⟨.str _ (by decide +kernel), .int _⟩)⟩
  refine ⟨(by show 8 ≤ sizeLine; decide), fun B1 hB1 => ?_⟩
  have s9 : Same A8 (upd A8 B1 (.lst [.ref T1, .ref T2, .ref T3, .ref T4, .ref T5, .ref T6, .ref T7, .ref T8])) := same_new hB1
  have eB1 : upd A8 B1 (.lst [.ref T1, .ref T2, .ref T3, .ref T4, .ref T5, .ref T6, .ref T7, .ref T8]) B1 = some (.lst [.ref T1, .ref T2, .ref T3, .ref T4, .ref T5, .ref T6, .ref T7, .ref T8]) := upd_same
  generalize upd A8 B1 (.lst [.ref T1, .ref T2, .ref T3, .ref T4, .ref T5, .ref T6, .ref T7, .ref T8]) = A9 at *
  refine ⟨_, rfl, ?_⟩
  refine ⟨(by show 2 ≤ sizeLine; decide), fun T10 hT10 => ?_⟩
  have s10 : Same A9 (upd A9 T10 (.tup [.str "in", .str "5"])) := same_new hT10
  have e10 : upd A9 T10 (.tup [.str "in", .str "5"]) T10 = some (.tup [.str "in", .str "5"]) := upd_same
  generalize upd A9 T10 (.tup [.str "in", .str "5"]) = A10 at *
  have t10 : ∃ d, Th A10 (.ref T10) d := ⟨_, .two e10 (by decide +kernel) (.str _ (by decide +kernel))⟩
  refine ⟨(by show 0 ≤ sizeLine; decide), fun T11 hT11 => ?_⟩
  have s11 : Same A10 (upd A10 T11 (.tup [])) := same_new hT11
  have e11 : upd A10 T11 (.tup []) T11 = some (.tup []) := upd_same
  generalize upd A10 T11 (.tup []) = A11 at *
  have t11 : ∃ d, Th A11 (.ref T11) d := ⟨_, .tup e11 (by decide) (fun _ h => nomatch h)⟩
  refine ⟨(by show 2 ≤ sizeLine; decide), fun T12 hT12 => ?_⟩
  have s12 : Same A11 (upd A11 T12 (.tup [.str "out", .non])) := same_new hT12
  have e12 : upd A11 T12 (.tup [.str "out", .non]) T12 = some (.tup [.str "out", .non]) := upd_same
  generalize upd A11 T12 (.tup [.str "out", .non]) = A12 at *
  have t12 : ∃ d, Th A12 (.ref T12) d := ⟨_, .two e12 (by decide +kernel) .non⟩
  refine ⟨_, rfl, (by show 2 ≤ sizeLine; decide), fun T13 hT13 => ?_⟩
  have s13 : Same A12 (upd A12 T13 (.tup [.str "in", .int (-7)])) := same_new hT13
  have e13 : upd A12 T13 (.tup [.str "in", .int (-7)]) T13 = some (.tup [.str "in", .int (-7)]) := upd_same
  generalize upd A12 T13 (.tup [.str "in", .int (-7)]) = A13 at *
  have t13 : ∃ d, Th A13 (.ref T13) d := ⟨_, .two e13 (by decide +kernel) (.int _)⟩
  refine ⟨(by show 2 ≤ sizeLine; decide), fun T14 hT14 => ?_⟩
  have s14 : Same A13 (upd A13 T14 (.tup [.str "in", .int 0])) := same_new hT14
  have e14 : upd A13 T14 (.tup [.str "in", .int 0]) T14 = some (.tup [.str "in", .int 0]) := upd_same
  generalize upd A13 T14 (.tup [.str "in", .int 0]) = A14 at *
  have t14 : ∃ d, Th A14 (.ref T14) d := ⟨_, .two e14 (by decide +kernel) (.int _)⟩
  refine ⟨(by show 7 ≤ sizeLine; decide), fun B2 hB2 => ?_⟩
  have s15 : Same A14 (upd A14 B2 (.lst [.non, .str "in", .ref T10, .ref T11, .ref T12, .ref T13, .ref T14])) := same_new hB2
  have eB2 : upd A14 B2 (.lst [.non, .str "in", .ref T10, .ref T11, .ref T12, .ref T13, .ref T14]) B2 = some (.lst [.non, .str "in", .ref T10, .ref T11, .ref T12, .ref T13, .ref T14]) := upd_same
  generalize upd A14 B2 (.lst [.non, .str "in", .ref T10, .ref T11, .ref T12, .ref T13, .ref T14]) = A15 at *
  have z15 : Same A15 A15 := Same.refl _
  have z14 : Same A14 A15 := s15.trans z15
  have z13 : Same A13 A15 := s14.trans z14
  have z12 : Same A12 A15 := s13.trans z13
  have z11 : Same A11 A15 := s12.trans z12
  have z10 : Same A10 A15 := s11.trans z11
  have z9 : Same A9 A15 := s10.trans z10
  have z8 : Same A8 A15 := s9.trans z9
  have z7 : Same A7 A15 := s8.trans z8
  have z6 : Same A6 A15 := s7.trans z7
  have z5 : Same A5 A15 := s6.trans z6
  have z4 : Same A4 A15 := s5.trans z5
  have z3 : Same A3 A15 := s4.trans z4
  have z2 : Same A2 A15 := s3.trans z3
  have z1 : Same A1 A15 := s2.trans z2
  have z0 : Same H1 A15 := s1.trans z1
  have hodd : ∀ x ∈ [V.ref T1, V.ref T2, V.ref T3, V.ref T4, V.ref T5, V.ref T6, V.ref T7, V.ref T8] ++ [V.non, V.str "in", V.ref T10, V.ref T11, V.ref T12, V.ref T13, V.ref T14], ∃ d, Th A15 x d := by
    intro x hx
    simp only [List.cons_append, List.nil_append, List.mem_cons, List.not_mem_nil, or_false] at hx
    rcases hx with rfl | rfl | rfl | rfl | rfl | rfl | rfl | rfl | rfl | rfl | rfl | rfl | rfl | rfl | rfl
    · exact t1.imp fun _ h => h.same z1
    · exact t2.imp fun _ h => h.same z2
    · exact t3.imp fun _ h => h.same z3
    · exact t4.imp fun _ h => h.same z4
    · exact t5.imp fun _ h => h.same z5
    · exact t6.imp fun _ h => h.same z6
    · exact t7.imp fun _ h => h.same z7
    · exact t8.imp fun _ h => h.same z8
    · exact ⟨_, .non⟩
    · exact ⟨_, .str _ (by decide +kernel)⟩
    · exact t10.imp fun _ h => h.same z10
    · exact t11.imp fun _ h => h.same z11
    · exact t12.imp fun _ h => h.same z12
    · exact t13.imp fun _ h => h.same z13
    · exact t14.imp fun _ h => h.same z14
  refine ⟨B1, B2, _, _, rfl, rfl, z9 _ _ eB1, eB2, (by show 15 ≤ sizeLine; decide), fun O hO => ?_⟩
  have zO : Same A15 (upd A15 O (.lst ([V.ref T1, V.ref T2, V.ref T3, V.ref T4, V.ref T5, V.ref T6, V.ref T7, V.ref T8] ++ [V.non, V.str "in", V.ref T10, V.ref T11, V.ref T12, V.ref T13, V.ref T14]))) := same_new hO
  have eO : upd A15 O (.lst ([V.ref T1, V.ref T2, V.ref T3, V.ref T4, V.ref T5, V.ref T6, V.ref T7, V.ref T8] ++ [V.non, V.str "in", V.ref T10, V.ref T11, V.ref T12, V.ref T13, V.ref T14])) O = some (.lst ([V.ref T1, V.ref T2, V.ref T3, V.ref T4, V.ref T5, V.ref T6, V.ref T7, V.ref T8] ++ [V.non, V.str "in", V.ref T10, V.ref T11, V.ref T12, V.ref T13, V.ref T14])) := upd_same
  have hodd := th_same hodd zO
  have zH := z0.trans zO
  have lod : ([V.ref T1, V.ref T2, V.ref T3, V.ref T4, V.ref T5, V.ref T6, V.ref T7, V.ref T8] ++ [V.non, V.str "in", V.ref T10, V.ref T11, V.ref T12, V.ref T13, V.ref T14]).length = 15 := rfl
  generalize upd A15 O (.lst ([V.ref T1, V.ref T2, V.ref T3, V.ref T4, V.ref T5, V.ref T6, V.ref T7, V.ref T8] ++ [V.non, V.str "in", V.ref T10, V.ref T11, V.ref T12, V.ref T13, V.ref T14])) = Z at *
  generalize [V.ref T1, V.ref T2, V.ref T3, V.ref T4, V.ref T5, V.ref T6, V.ref T7, V.ref T8] ++ [V.non, V.str "in", V.ref T10, V.ref T11, V.ref T12, V.ref T13, V.ref T14] = ods at *
  have erZ := zH _ _ er1
  have hxZ := th_same hx1 zH
  have gZ := g1.trans (same_gx (a := a) zH)
  have dZ := same_dr zH d1
  have e3 : 0 ≤ i / 512 % 15 ∧ i / 512 % 15 < 15 := ⟨Int.emod_nonneg _ (by decide), Int.emod_lt_of_pos _ (by decide)⟩
  obtain ⟨ov, ev, mv⟩ := at_in (xs := ods) (i := i / 512 % 15) e3.1 (by rw [lod]; exact e3.2)
  have hov := hodd ov mv
  refine ⟨_, rfl, _, _, rfl, rfl, ⟨by show (0 : Int) < 8; decide, by show (8 : Int) < 1073741824; decide⟩, _, rfl, r, _, rfl, .inl (SqL.of erZ), _, _, rfl, rfl, _, _, rfl, rfl, (by show (0 : Int) < (xs.length : Int) + 1; omega), ?_⟩
  have test : ∀ b : Int, True := fun _ => trivial
  refine ⟨_, rfl, _, _, rfl, rfl, (show (0 : Int) < 8 by decide), _, _, rfl, rfl, _, rfl, ?_⟩
  have cl := cutV_length xs
  have sz : ∀ {x : Nat}, x ≤ 200 → x ≤ sizeLine := fun h => Nat.le_trans h (by decide)
  refine ite2 (fun _ => ?_) (fun _ => ?_)
  · have zz0 : Same Z Z := Same.refl _
    refine ⟨_, rfl, _, rfl, _, rfl, r, _, rfl, SqL.of (zz0 _ _ erZ), fun p1 hp1 => ?_⟩
    have zz1 : Same Z (upd Z p1 (.lst (cutV xs none (some (i / 8 % ((xs.length : Int) + 1)))))) := zz0.trans (same_new hp1)
    have y1 : Same Z (upd Z p1 (.lst (cutV xs none (some (i / 8 % ((xs.length : Int) + 1)))))) := same_new hp1
    have ep1 : upd Z p1 (.lst (cutV xs none (some (i / 8 % ((xs.length : Int) + 1))))) p1 = some (.lst (cutV xs none (some (i / 8 % ((xs.length : Int) + 1))))) := upd_same
    generalize upd Z p1 (.lst (cutV xs none (some (i / 8 % ((xs.length : Int) + 1))))) = Y1 at *
    refine ⟨_, rfl, _, rfl, _, _, rfl, rfl, ⟨by show (0 : Int) < 512; decide, by show (512 : Int) < 1073741824; decide⟩, _, _, rfl, rfl, (show (0 : Int) < 15 by decide), O, _, _, _, rfl, rfl, SqL.of (zz1 _ _ eO), ev, (by show 1 ≤ sizeLine; decide), fun p2 hp2 => ?_⟩
    have zz2 : Same Z (upd Y1 p2 (.lst ([ov]))) := zz1.trans (same_new hp2)
    have y2 : Same Y1 (upd Y1 p2 (.lst ([ov]))) := same_new hp2
    have ep2 : upd Y1 p2 (.lst ([ov])) p2 = some (.lst ([ov])) := upd_same
    have ep1 := y2 _ _ ep1
    generalize upd Y1 p2 (.lst ([ov])) = Y2 at *
    have ll : (cutV xs none (some (i / 8 % ((xs.length : Int) + 1)))).length + [ov].length ≤ sizeLine := sz (by have := cl none (some (i / 8 % ((xs.length : Int) + 1))); show _ + 1 ≤ _; omega)
    refine ⟨p1, p2, _, _, rfl, rfl, ep1, ep2, ll, fun p3 hp3 => ?_⟩
    have zz3 : Same Z (upd Y2 p3 (.lst (cutV xs none (some (i / 8 % ((xs.length : Int) + 1))) ++ [ov]))) := zz2.trans (same_new hp3)
    have y3 : Same Y2 (upd Y2 p3 (.lst (cutV xs none (some (i / 8 % ((xs.length : Int) + 1))) ++ [ov]))) := same_new hp3
    have ep3 : upd Y2 p3 (.lst (cutV xs none (some (i / 8 % ((xs.length : Int) + 1))) ++ [ov])) p3 = some (.lst (cutV xs none (some (i / 8 % ((xs.length : Int) + 1))) ++ [ov])) := upd_same
    generalize upd Y2 p3 (.lst (cutV xs none (some (i / 8 % ((xs.length : Int) + 1))) ++ [ov])) = Y3 at *
    refine ⟨_, rfl, _, rfl, _, rfl, r, _, rfl, SqL.of (zz3 _ _ erZ), fun p4 hp4 => ?_⟩
    have zz4 : Same Z (upd Y3 p4 (.lst (cutV xs (some (i / 8 % ((xs.length : Int) + 1))) none))) := zz3.trans (same_new hp4)
    have y4 : Same Y3 (upd Y3 p4 (.lst (cutV xs (some (i / 8 % ((xs.length : Int) + 1))) none))) := same_new hp4
    have ep4 : upd Y3 p4 (.lst (cutV xs (some (i / 8 % ((xs.length : Int) + 1))) none)) p4 = some (.lst (cutV xs (some (i / 8 % ((xs.length : Int) + 1))) none)) := upd_same
    have ep3 := y4 _ _ ep3
    generalize upd Y3 p4 (.lst (cutV xs (some (i / 8 % ((xs.length : Int) + 1))) none)) = Y4 at *
    have lll : (cutV xs none (some (i / 8 % ((xs.length : Int) + 1))) ++ [ov] ++ cutV xs (some (i / 8 % ((xs.length : Int) + 1))) none).length ≤ 70 := by rw [List.length_append, List.length_append]; have := cl none (some (i / 8 % ((xs.length : Int) + 1))); have := cl (some (i / 8 % ((xs.length : Int) + 1))) none; show _ + 1 + _ ≤ _; omega
    have ll : (cutV xs none (some (i / 8 % ((xs.length : Int) + 1))) ++ [ov]).length + (cutV xs (some (i / 8 % ((xs.length : Int) + 1))) none).length ≤ sizeLine := sz (by rw [List.length_append] at lll; omega)
    refine ⟨p3, p4, _, _, rfl, rfl, ep3, ep4, ll, fun p5 hp5 => ?_⟩
    have zz5 : Same Z (upd Y4 p5 (.lst (cutV xs none (some (i / 8 % ((xs.length : Int) + 1))) ++ [ov] ++ cutV xs (some (i / 8 % ((xs.length : Int) + 1))) none))) := zz4.trans (same_new hp5)
    have y5 : Same Y4 (upd Y4 p5 (.lst (cutV xs none (some (i / 8 % ((xs.length : Int) + 1))) ++ [ov] ++ cutV xs (some (i / 8 % ((xs.length : Int) + 1))) none))) := same_new hp5
    have ep5 : upd Y4 p5 (.lst (cutV xs none (some (i / 8 % ((xs.length : Int) + 1))) ++ [ov] ++ cutV xs (some (i / 8 % ((xs.length : Int) + 1))) none)) p5 = some (.lst (cutV xs none (some (i / 8 % ((xs.length : Int) + 1))) ++ [ov] ++ cutV xs (some (i / 8 % ((xs.length : Int) + 1))) none)) := upd_same
    generalize upd Y4 p5 (.lst (cutV xs none (some (i / 8 % ((xs.length : Int) + 1))) ++ [ov] ++ cutV xs (some (i / 8 % ((xs.length : Int) + 1))) none)) = Y5 at *
    refine q p5 _ _ (gZ.trans (same_gx zz5)) (fresh_gx (gZ.trans (same_gx zz4)) (same_dr zz4 dZ) hp5) (same_dr zz5 dZ) ep5 lll fun x hx => ?_
    rcases List.mem_append.mp hx with hx | hx
    · rcases List.mem_append.mp hx with hx | hx
      · exact (hxZ x (mem_cut hx)).imp fun _ h => h.same zz5
      · rw [List.mem_singleton.mp hx]; exact hov.imp fun _ h => h.same zz5
    · exact (hxZ x (mem_cut hx)).imp fun _ h => h.same zz5
  refine ⟨_, rfl, _, _, rfl, rfl, (show (0 : Int) < 8 by decide), _, _, rfl, rfl, _, rfl, ?_⟩
  refine ite2 (fun _ => ?_) (fun _ => ?_)
  · have zz0 : Same Z Z := Same.refl _
    refine ⟨_, rfl, _, rfl, _, rfl, r, _, rfl, SqL.of (zz0 _ _ erZ), fun p1 hp1 => ?_⟩
    have zz1 : Same Z (upd Z p1 (.lst (cutV xs none (some (i / 8 % ((xs.length : Int) + 1)))))) := zz0.trans (same_new hp1)
    have y1 : Same Z (upd Z p1 (.lst (cutV xs none (some (i / 8 % ((xs.length : Int) + 1)))))) := same_new hp1
    have ep1 : upd Z p1 (.lst (cutV xs none (some (i / 8 % ((xs.length : Int) + 1))))) p1 = some (.lst (cutV xs none (some (i / 8 % ((xs.length : Int) + 1))))) := upd_same
    generalize upd Z p1 (.lst (cutV xs none (some (i / 8 % ((xs.length : Int) + 1))))) = Y1 at *
    refine ⟨_, rfl, _, rfl, _, _, rfl, rfl, _, rfl, r, _, rfl, SqL.of (zz1 _ _ erZ), fun p2 hp2 => ?_⟩
    have zz2 : Same Z (upd Y1 p2 (.lst (cutV xs (some ((i / 8 % ((xs.length : Int) + 1)) + 1)) none))) := zz1.trans (same_new hp2)
    have y2 : Same Y1 (upd Y1 p2 (.lst (cutV xs (some ((i / 8 % ((xs.length : Int) + 1)) + 1)) none))) := same_new hp2
    have ep2 : upd Y1 p2 (.lst (cutV xs (some ((i / 8 % ((xs.length : Int) + 1)) + 1)) none)) p2 = some (.lst (cutV xs (some ((i / 8 % ((xs.length : Int) + 1)) + 1)) none)) := upd_same
    have ep1 := y2 _ _ ep1
    generalize upd Y1 p2 (.lst (cutV xs (some ((i / 8 % ((xs.length : Int) + 1)) + 1)) none)) = Y2 at *
    have lll : (cutV xs none (some (i / 8 % ((xs.length : Int) + 1))) ++ cutV xs (some ((i / 8 % ((xs.length : Int) + 1)) + 1)) none).length ≤ 70 := by rw [List.length_append]; have := cl none (some (i / 8 % ((xs.length : Int) + 1))); have := cl (some ((i / 8 % ((xs.length : Int) + 1)) + 1)) none; omega
    have ll : (cutV xs none (some (i / 8 % ((xs.length : Int) + 1)))).length + (cutV xs (some ((i / 8 % ((xs.length : Int) + 1)) + 1)) none).length ≤ sizeLine := sz (by rw [List.length_append] at lll; omega)
    refine ⟨p1, p2, _, _, rfl, rfl, ep1, ep2, ll, fun p5 hp5 => ?_⟩
    have zz3 : Same Z (upd Y2 p5 (.lst (cutV xs none (some (i / 8 % ((xs.length : Int) + 1))) ++ cutV xs (some ((i / 8 % ((xs.length : Int) + 1)) + 1)) none))) := zz2.trans (same_new hp5)
    have y3 : Same Y2 (upd Y2 p5 (.lst (cutV xs none (some (i / 8 % ((xs.length : Int) + 1))) ++ cutV xs (some ((i / 8 % ((xs.length : Int) + 1)) + 1)) none))) := same_new hp5
    have ep5 : upd Y2 p5 (.lst (cutV xs none (some (i / 8 % ((xs.length : Int) + 1))) ++ cutV xs (some ((i / 8 % ((xs.length : Int) + 1)) + 1)) none)) p5 = some (.lst (cutV xs none (some (i / 8 % ((xs.length : Int) + 1))) ++ cutV xs (some ((i / 8 % ((xs.length : Int) + 1)) + 1)) none)) := upd_same
    generalize upd Y2 p5 (.lst (cutV xs none (some (i / 8 % ((xs.length : Int) + 1))) ++ cutV xs (some ((i / 8 % ((xs.length : Int) + 1)) + 1)) none)) = Y3 at *
    refine q p5 _ _ (gZ.trans (same_gx zz3)) (fresh_gx (gZ.trans (same_gx zz2)) (same_dr zz2 dZ) hp5) (same_dr zz3 dZ) ep5 lll fun x hx => ?_
    rcases List.mem_append.mp hx with hx | hx <;> exact (hxZ x (mem_cut hx)).imp fun _ h => h.same zz3
  refine ⟨_, rfl, _, _, rfl, rfl, (show (0 : Int) < 8 by decide), _, _, rfl, rfl, _, rfl, ?_⟩
  refine ite2 (fun _ => ?_) (fun _ => ?_)
  · have zz0 : Same Z Z := Same.refl _
    refine ⟨_, rfl, _, rfl, _, rfl, r, _, rfl, SqL.of (zz0 _ _ erZ), fun p1 hp1 => ?_⟩
    have zz1 : Same Z (upd Z p1 (.lst (cutV xs none (some (i / 8 % ((xs.length : Int) + 1)))))) := zz0.trans (same_new hp1)
    have y1 : Same Z (upd Z p1 (.lst (cutV xs none (some (i / 8 % ((xs.length : Int) + 1)))))) := same_new hp1
    have ep1 : upd Z p1 (.lst (cutV xs none (some (i / 8 % ((xs.length : Int) + 1))))) p1 = some (.lst (cutV xs none (some (i / 8 % ((xs.length : Int) + 1))))) := upd_same
    generalize upd Z p1 (.lst (cutV xs none (some (i / 8 % ((xs.length : Int) + 1))))) = Y1 at *
    refine ⟨_, rfl, _, rfl, _, _, rfl, rfl, ⟨by show (0 : Int) < 512; decide, by show (512 : Int) < 1073741824; decide⟩, _, _, rfl, rfl, (show (0 : Int) < 15 by decide), O, _, _, _, rfl, rfl, SqL.of (zz1 _ _ eO), ev, (by show 1 ≤ sizeLine; decide), fun p2 hp2 => ?_⟩
    have zz2 : Same Z (upd Y1 p2 (.lst ([ov]))) := zz1.trans (same_new hp2)
    have y2 : Same Y1 (upd Y1 p2 (.lst ([ov]))) := same_new hp2
    have ep2 : upd Y1 p2 (.lst ([ov])) p2 = some (.lst ([ov])) := upd_same
    have ep1 := y2 _ _ ep1
    generalize upd Y1 p2 (.lst ([ov])) = Y2 at *
    have ll : (cutV xs none (some (i / 8 % ((xs.length : Int) + 1)))).length + [ov].length ≤ sizeLine := sz (by have := cl none (some (i / 8 % ((xs.length : Int) + 1))); show _ + 1 ≤ _; omega)
    refine ⟨p1, p2, _, _, rfl, rfl, ep1, ep2, ll, fun p3 hp3 => ?_⟩
    have zz3 : Same Z (upd Y2 p3 (.lst (cutV xs none (some (i / 8 % ((xs.length : Int) + 1))) ++ [ov]))) := zz2.trans (same_new hp3)
    have y3 : Same Y2 (upd Y2 p3 (.lst (cutV xs none (some (i / 8 % ((xs.length : Int) + 1))) ++ [ov]))) := same_new hp3
    have ep3 : upd Y2 p3 (.lst (cutV xs none (some (i / 8 % ((xs.length : Int) + 1))) ++ [ov])) p3 = some (.lst (cutV xs none (some (i / 8 % ((xs.length : Int) + 1))) ++ [ov])) := upd_same
    generalize upd Y2 p3 (.lst (cutV xs none (some (i / 8 % ((xs.length : Int) + 1))) ++ [ov])) = Y3 at *
    refine ⟨_, rfl, _, rfl, _, _, rfl, rfl, _, rfl, r, _, rfl, SqL.of (zz3 _ _ erZ), fun p4 hp4 => ?_⟩
    have zz4 : Same Z (upd Y3 p4 (.lst (cutV xs (some ((i / 8 % ((xs.length : Int) + 1)) + 1)) none))) := zz3.trans (same_new hp4)
    have y4 : Same Y3 (upd Y3 p4 (.lst (cutV xs (some ((i / 8 % ((xs.length : Int) + 1)) + 1)) none))) := same_new hp4
    have ep4 : upd Y3 p4 (.lst (cutV xs (some ((i / 8 % ((xs.length : Int) + 1)) + 1)) none)) p4 = some (.lst (cutV xs (some ((i / 8 % ((xs.length : Int) + 1)) + 1)) none)) := upd_same
    have ep3 := y4 _ _ ep3
    generalize upd Y3 p4 (.lst (cutV xs (some ((i / 8 % ((xs.length : Int) + 1)) + 1)) none)) = Y4 at *
    have lll : (cutV xs none (some (i / 8 % ((xs.length : Int) + 1))) ++ [ov] ++ cutV xs (some ((i / 8 % ((xs.length : Int) + 1)) + 1)) none).length ≤ 70 := by rw [List.length_append, List.length_append]; have := cl none (some (i / 8 % ((xs.length : Int) + 1))); have := cl (some ((i / 8 % ((xs.length : Int) + 1)) + 1)) none; show _ + 1 + _ ≤ _; omega
    have ll : (cutV xs none (some (i / 8 % ((xs.length : Int) + 1))) ++ [ov]).length + (cutV xs (some ((i / 8 % ((xs.length : Int) + 1)) + 1)) none).length ≤ sizeLine := sz (by rw [List.length_append] at lll; omega)
    refine ⟨p3, p4, _, _, rfl, rfl, ep3, ep4, ll, fun p5 hp5 => ?_⟩
    have zz5 : Same Z (upd Y4 p5 (.lst (cutV xs none (some (i / 8 % ((xs.length : Int) + 1))) ++ [ov] ++ cutV xs (some ((i / 8 % ((xs.length : Int) + 1)) + 1)) none))) := zz4.trans (same_new hp5)
    have y5 : Same Y4 (upd Y4 p5 (.lst (cutV xs none (some (i / 8 % ((xs.length : Int) + 1))) ++ [ov] ++ cutV xs (some ((i / 8 % ((xs.length : Int) + 1)) + 1)) none))) := same_new hp5
    have ep5 : upd Y4 p5 (.lst (cutV xs none (some (i / 8 % ((xs.length : Int) + 1))) ++ [ov] ++ cutV xs (some ((i / 8 % ((xs.length : Int) + 1)) + 1)) none)) p5 = some (.lst (cutV xs none (some (i / 8 % ((xs.length : Int) + 1))) ++ [ov] ++ cutV xs (some ((i / 8 % ((xs.length : Int) + 1)) + 1)) none)) := upd_same
    generalize upd Y4 p5 (.lst (cutV xs none (some (i / 8 % ((xs.length : Int) + 1))) ++ [ov] ++ cutV xs (some ((i / 8 % ((xs.length : Int) + 1)) + 1)) none)) = Y5 at *
    refine q p5 _ _ (gZ.trans (same_gx zz5)) (fresh_gx (gZ.trans (same_gx zz4)) (same_dr zz4 dZ) hp5) (same_dr zz5 dZ) ep5 lll fun x hx => ?_
    rcases List.mem_append.mp hx with hx | hx
    · rcases List.mem_append.mp hx with hx | hx
      · exact (hxZ x (mem_cut hx)).imp fun _ h => h.same zz5
      · rw [List.mem_singleton.mp hx]; exact hov.imp fun _ h => h.same zz5
    · exact (hxZ x (mem_cut hx)).imp fun _ h => h.same zz5
  have zz0 : Same Z Z := Same.refl _
  refine ⟨_, rfl, _, rfl, _, rfl, r, _, rfl, SqL.of (zz0 _ _ erZ), fun p1 hp1 => ?_⟩
  have zz1 : Same Z (upd Z p1 (.lst (cutV xs none (some (i / 8 % ((xs.length : Int) + 1)))))) := zz0.trans (same_new hp1)
  have y1 : Same Z (upd Z p1 (.lst (cutV xs none (some (i / 8 % ((xs.length : Int) + 1)))))) := same_new hp1
  have ep1 : upd Z p1 (.lst (cutV xs none (some (i / 8 % ((xs.length : Int) + 1))))) p1 = some (.lst (cutV xs none (some (i / 8 % ((xs.length : Int) + 1))))) := upd_same
  generalize upd Z p1 (.lst (cutV xs none (some (i / 8 % ((xs.length : Int) + 1))))) = Y1 at *
  refine ⟨_, rfl, _, rfl, _, rfl, _, rfl, _, _, rfl, rfl, _, rfl, r, _, rfl, SqL.of (zz1 _ _ erZ), fun p2 hp2 => ?_⟩
  have zz2 : Same Z (upd Y1 p2 (.lst (cutV xs (some (i / 8 % ((xs.length : Int) + 1))) (some ((i / 8 % ((xs.length : Int) + 1)) + 2))))) := zz1.trans (same_new hp2)
  have y2 : Same Y1 (upd Y1 p2 (.lst (cutV xs (some (i / 8 % ((xs.length : Int) + 1))) (some ((i / 8 % ((xs.length : Int) + 1)) + 2))))) := same_new hp2
  have ep2 : upd Y1 p2 (.lst (cutV xs (some (i / 8 % ((xs.length : Int) + 1))) (some ((i / 8 % ((xs.length : Int) + 1)) + 2)))) p2 = some (.lst (cutV xs (some (i / 8 % ((xs.length : Int) + 1))) (some ((i / 8 % ((xs.length : Int) + 1)) + 2)))) := upd_same
  have ep1 := y2 _ _ ep1
  generalize upd Y1 p2 (.lst (cutV xs (some (i / 8 % ((xs.length : Int) + 1))) (some ((i / 8 % ((xs.length : Int) + 1)) + 2)))) = Y2 at *
  refine ⟨p2, _, rfl, SqL.of ep2, fun p3 hp3 => ?_⟩
  have zz3 : Same Z (upd Y2 p3 (.lst ((cutV xs (some (i / 8 % ((xs.length : Int) + 1))) (some ((i / 8 % ((xs.length : Int) + 1)) + 2))).reverse))) := zz2.trans (same_new hp3)
  have y3 : Same Y2 (upd Y2 p3 (.lst ((cutV xs (some (i / 8 % ((xs.length : Int) + 1))) (some ((i / 8 % ((xs.length : Int) + 1)) + 2))).reverse))) := same_new hp3
  have ep3 : upd Y2 p3 (.lst ((cutV xs (some (i / 8 % ((xs.length : Int) + 1))) (some ((i / 8 % ((xs.length : Int) + 1)) + 2))).reverse)) p3 = some (.lst ((cutV xs (some (i / 8 % ((xs.length : Int) + 1))) (some ((i / 8 % ((xs.length : Int) + 1)) + 2))).reverse)) := upd_same
  have ep1 := y3 _ _ ep1
  generalize upd Y2 p3 (.lst ((cutV xs (some (i / 8 % ((xs.length : Int) + 1))) (some ((i / 8 % ((xs.length : Int) + 1)) + 2))).reverse)) = Y3 at *
  have ll : (cutV xs none (some (i / 8 % ((xs.length : Int) + 1)))).length + ((cutV xs (some (i / 8 % ((xs.length : Int) + 1))) (some ((i / 8 % ((xs.length : Int) + 1)) + 2))).reverse).length ≤ sizeLine := sz (by rw [List.length_reverse]; have := cl none (some (i / 8 % ((xs.length : Int) + 1))); have := cl (some (i / 8 % ((xs.length : Int) + 1))) (some ((i / 8 % ((xs.length : Int) + 1)) + 2)); omega)
  refine ⟨p1, p3, _, _, rfl, rfl, ep1, ep3, ll, fun p4 hp4 => ?_⟩
  have zz4 : Same Z (upd Y3 p4 (.lst (cutV xs none (some (i / 8 % ((xs.length : Int) + 1))) ++ (cutV xs (some (i / 8 % ((xs.length : Int) + 1))) (some ((i / 8 % ((xs.length : Int) + 1)) + 2))).reverse))) := zz3.trans (same_new hp4)
  have y4 : Same Y3 (upd Y3 p4 (.lst (cutV xs none (some (i / 8 % ((xs.length : Int) + 1))) ++ (cutV xs (some (i / 8 % ((xs.length : Int) + 1))) (some ((i / 8 % ((xs.length : Int) + 1)) + 2))).reverse))) := same_new hp4
  have ep4 : upd Y3 p4 (.lst (cutV xs none (some (i / 8 % ((xs.length : Int) + 1))) ++ (cutV xs (some (i / 8 % ((xs.length : Int) + 1))) (some ((i / 8 % ((xs.length : Int) + 1)) + 2))).reverse)) p4 = some (.lst (cutV xs none (some (i / 8 % ((xs.length : Int) + 1))) ++ (cutV xs (some (i / 8 % ((xs.length : Int) + 1))) (some ((i / 8 % ((xs.length : Int) + 1)) + 2))).reverse)) := upd_same
  generalize upd Y3 p4 (.lst (cutV xs none (some (i / 8 % ((xs.length : Int) + 1))) ++ (cutV xs (some (i / 8 % ((xs.length : Int) + 1))) (some ((i / 8 % ((xs.length : Int) + 1)) + 2))).reverse)) = Y4 at *
  refine ⟨_, rfl, _, rfl, _, _, rfl, rfl, _, rfl, r, _, rfl, SqL.of (zz4 _ _ erZ), fun p5 hp5 => ?_⟩
  have zz5 : Same Z (upd Y4 p5 (.lst (cutV xs (some ((i / 8 % ((xs.length : Int) + 1)) + 2)) none))) := zz4.trans (same_new hp5)
  have y5 : Same Y4 (upd Y4 p5 (.lst (cutV xs (some ((i / 8 % ((xs.length : Int) + 1)) + 2)) none))) := same_new hp5
  have ep5 : upd Y4 p5 (.lst (cutV xs (some ((i / 8 % ((xs.length : Int) + 1)) + 2)) none)) p5 = some (.lst (cutV xs (some ((i / 8 % ((xs.length : Int) + 1)) + 2)) none)) := upd_same
  have ep4 := y5 _ _ ep4
  generalize upd Y4 p5 (.lst (cutV xs (some ((i / 8 % ((xs.length : Int) + 1)) + 2)) none)) = Y5 at *
  have lll : (cutV xs none (some (i / 8 % ((xs.length : Int) + 1))) ++ (cutV xs (some (i / 8 % ((xs.length : Int) + 1))) (some ((i / 8 % ((xs.length : Int) + 1)) + 2))).reverse ++ cutV xs (some ((i / 8 % ((xs.length : Int) + 1)) + 2)) none).length ≤ 70 := by rw [List.length_append, List.length_append, List.length_reverse]; have := cl none (some (i / 8 % ((xs.length : Int) + 1))); have := cl (some (i / 8 % ((xs.length : Int) + 1))) (some ((i / 8 % ((xs.length : Int) + 1)) + 2)); have := cl (some ((i / 8 % ((xs.length : Int) + 1)) + 2)) none; omega
  have ll : (cutV xs none (some (i / 8 % ((xs.length : Int) + 1))) ++ (cutV xs (some (i / 8 % ((xs.length : Int) + 1))) (some ((i / 8 % ((xs.length : Int) + 1)) + 2))).reverse).length + (cutV xs (some ((i / 8 % ((xs.length : Int) + 1)) + 2)) none).length ≤ sizeLine := sz (by rw [List.length_append] at lll; omega)
  refine ⟨p4, p5, _, _, rfl, rfl, ep4, ep5, ll, fun p6 hp6 => ?_⟩
  have zz6 : Same Z (upd Y5 p6 (.lst (cutV xs none (some (i / 8 % ((xs.length : Int) + 1))) ++ (cutV xs (some (i / 8 % ((xs.length : Int) + 1))) (some ((i / 8 % ((xs.length : Int) + 1)) + 2))).reverse ++ cutV xs (some ((i / 8 % ((xs.length : Int) + 1)) + 2)) none))) := zz5.trans (same_new hp6)
  have y6 : Same Y5 (upd Y5 p6 (.lst (cutV xs none (some (i / 8 % ((xs.length : Int) + 1))) ++ (cutV xs (some (i / 8 % ((xs.length : Int) + 1))) (some ((i / 8 % ((xs.length : Int) + 1)) + 2))).reverse ++ cutV xs (some ((i / 8 % ((xs.length : Int) + 1)) + 2)) none))) := same_new hp6
  have ep6 : upd Y5 p6 (.lst (cutV xs none (some (i / 8 % ((xs.length : Int) + 1))) ++ (cutV xs (some (i / 8 % ((xs.length : Int) + 1))) (some ((i / 8 % ((xs.length : Int) + 1)) + 2))).reverse ++ cutV xs (some ((i / 8 % ((xs.length : Int) + 1)) + 2)) none)) p6 = some (.lst (cutV xs none (some (i / 8 % ((xs.length : Int) + 1))) ++ (cutV xs (some (i / 8 % ((xs.length : Int) + 1))) (some ((i / 8 % ((xs.length : Int) + 1)) + 2))).reverse ++ cutV xs (some ((i / 8 % ((xs.length : Int) + 1)) + 2)) none)) := upd_same
  generalize upd Y5 p6 (.lst (cutV xs none (some (i / 8 % ((xs.length : Int) + 1))) ++ (cutV xs (some (i / 8 % ((xs.length : Int) + 1))) (some ((i / 8 % ((xs.length : Int) + 1)) + 2))).reverse ++ cutV xs (some ((i / 8 % ((xs.length : Int) + 1)) + 2)) none)) = Y6 at *
  refine q p6 _ _ (gZ.trans (same_gx zz6)) (fresh_gx (gZ.trans (same_gx zz5)) (same_dr zz5 dZ) hp6) (same_dr zz6 dZ) ep6 lll fun x hx => ?_
  rcases List.mem_append.mp hx with hx | hx
  · rcases List.mem_append.mp hx with hx | hx
    · exact (hxZ x (mem_cut hx)).imp fun _ h => h.same zz6
    · exact (hxZ x (mem_cut (List.mem_reverse.mp hx))).imp fun _ h => h.same zz6
  · exact (hxZ x (mem_cut hx)).imp fun _ h => h.same zz6
end
end Wp
set_option Elab.async false
set_option linter.all false
set_option maxRecDepth 100000
namespace Wp
open PySem PySem.Spec PyProof.Rows L2
-- _law_between_right: slots _law_draws_here 0, _law_first 1, _law_a_one 2, _law_other 3, _law_many 4, _law_due_here 5, _law_handed 6, _law_told 7, _law_k 8
abbrev s_law_between_right : Stmt := top 11
theorem sc_law_between_right : FnScope ["_law_draws_here", "_law_first", "_law_a_one", "_law_other", "_law_many", "_law_due_here", "_law_handed", "_law_told", "_law_k"] ["_law_draws_here"] (defScope s_law_between_right) := ⟨rfl, rfl, rfl, by decide +kernel, rfl, by decide +kernel, by decide +kernel⟩
abbrev sl_law_between_right : List Str := ["_law_draws_here", "_law_first", "_law_a_one", "_law_other", "_law_many", "_law_due_here", "_law_handed", "_law_told", "_law_k"]
/-! ### what is common -/
def com : List Int → List Int → Nat
  | a :: l, b :: m => if a = b then com l m + 1 else 0
  | _, _ => 0
theorem com_le : ∀ (l m : List Int), com l m ≤ l.length ∧ com l m ≤ m.length
  | [], m => by simp [com]
  | a :: l, [] => by simp [com]
  | a :: l, b :: m => by
    have := com_le l m
    unfold com
    split <;> simp <;> omega
theorem com_take : ∀ (l m : List Int) (k : Nat), k < l.length → k < m.length → (l.take (k + 1) = m.take (k + 1) ↔ k < com l m)
  | [], m, k, h, _ => by simp at h
  | a :: l, [], k, _, h => by simp at h
  | a :: l, b :: m, k, h1, h2 => by
    rw [List.take_succ_cons, List.take_succ_cons, List.cons.injEq, com]
    by_cases e : a = b
    · rw [if_pos e]
      cases k with
      | zero => simp [e]
      | succ k =>
        have := com_take l m k (by simpa using h1) (by simpa using h2)
        rw [this]
        simp [e]
    · simp [e]
theorem cutV_to (xs : List V) (k : Nat) : cutV xs none (some (k : Int)) = xs.take k := by
  unfold cutV
  rw [HT.sIx_nat]
  show (xs.drop 0).take (min k xs.length - 0) = _
  rw [List.drop_zero, Nat.sub_zero, ← List.take_eq_take_min]
theorem cutV_from (xs : List V) (k : Nat) : cutV xs (some (k : Int)) none = xs.drop k := by
  unfold cutV
  rw [HT.sIx_nat]
  show (xs.drop (min k xs.length)).take (xs.length - min k xs.length) = _
  rw [List.take_of_length_le (by rw [List.length_drop]; exact Nat.le_refl _)]
  by_cases h : k ≤ xs.length
  · rw [Nat.min_eq_left h]
  · rw [Nat.min_eq_right (by omega), List.drop_length, List.drop_eq_nil_of_le (by omega)]
theorem eqvAll_ints : ∀ (ms ns : List Int), PyData.eqvAll ((ms.map V.int).map dV) ((ns.map V.int).map dV) = decide (ms = ns)
  | [], [] => rfl
  | [], _ :: _ => rfl
  | _ :: _, [] => rfl
  | a :: ms, b :: ns => by
    show (PyData.eqv (.int a) (.int b) && PyData.eqvAll ((ms.map V.int).map dV) ((ns.map V.int).map dV)) = _
    rw [eqvAll_ints ms ns, PyData.eqv]
    by_cases h : a = b <;> by_cases h2 : ms = ns <;> simp [h, h2]
theorem eqv_ints (ms ns : List Int) : PyData.eqv (.list ((ms.map V.int).map dV)) (.list ((ns.map V.int).map dV)) = decide (ms = ns) := eqvAll_ints ms ns
/-- a tuple of two lists of numbers -/
def twoD (ms ns : List Int) : PyData := .tuple [.list ((ms.map V.int).map dV), .list ((ns.map V.int).map dV)]
theorem two_dp {K : PySem.W.Frag} {H : Hp} {t p q : Addr} {ms ns : List Int} (ht : H t = some (.tup [.ref p, .ref q])) (hp : H p = some (.lst (ms.map V.int))) (hq : H q = some (.lst (ns.map V.int))) : Dp K H (.ref t) (twoD ms ns) :=
  .tup (SqT.of ht) (.cons (.lst (SqL.of hp) (flat_dp (flv_ints ms))) (.cons (.lst (SqL.of hq) (flat_dp (flv_ints ns))) .nil))
theorem two_shaped (ms ns : List Int) : SeqAt.shaped (twoD ms ns) = true := by
  obtain ⟨a, b⟩ := flat_can (flv_ints ms)
  obtain ⟨c, d⟩ := flat_can (flv_ints ns)
  unfold SeqAt.shaped twoD
  have e : (PyData.tuple [.list ((ms.map V.int).map dV), .list ((ns.map V.int).map dV)]).canLay0 = (PyData.canLayAll0 ((ms.map V.int).map dV) && (PyData.canLayAll0 ((ns.map V.int).map dV) && true)) := rfl
  rw [e, a, c, Bool.and_eq_true]
  refine ⟨rfl, decide_eq_true ?_⟩
  simp only [PyData.depth, PyData.depthAll]
  omega
theorem two_eqv (ms ns : List Int) : PyData.eqv (twoD ms ns) (twoD ms ns) = true := by
  show (PyData.eqv (.list ((ms.map V.int).map dV)) (.list ((ms.map V.int).map dV)) && (PyData.eqv (.list ((ns.map V.int).map dV)) (.list ((ns.map V.int).map dV)) && true)) = true
  rw [eqv_ints, eqv_ints]
  simp
def spBet : Sp := fun vs H Q _ => ∃ (x y : Addr) (ms ns : List Int), vs = [.ref x, .ref y] ∧ H x = some (.lst (ms.map V.int)) ∧ H y = some (.lst (ns.map V.int)) ∧ ms.length ≤ 20 ∧ ns.length ≤ 20 ∧
  ∀ t p q H', Same H H' → H t = none → H p = none → H q = none → p ≠ q → H' t = some (.tup [.ref p, .ref q]) → H' p = some (.lst ((ms.drop (com ms ns)).reverse.map V.int)) → H' q = some (.lst ((ns.drop (com ms ns)).map V.int)) → Q (.ref t) H'
/-- a call by names alone -/
def HasK (CX : CXT) (P : Program) (w : World) (K : PySem.W.Frag) (mg : Str → Option Value) (base : Heap) (x : Str) (ps : List Str) (k : Nat) (ks : List Str) (gV : List V → List V → List V) (sp : Sp) : Prop :=
  ∃ (f : Addr) (fd : FuncData) (g : List Value → List Value → List Value), FnOk P w K mg base CX k f fd ps sp ∧ mg x = some (.ref f) ∧ PySem.W.keepIn K (.ref f) = true ∧ KBn K fd ps 0 ks g gV
theorem pe_hasK {X : Cx} {CX : CXT} {k : Nat} {ps ks : List Str} {sp : Sp} {x : Str} {p pos : Pos} {kws : List Keyword} {tk : TA} {gV : List V → List V → List V} (h : HasK CX X.prog X.w X.K X.mg X.base x ps k ks gV sp) (hr : Room k X.A) (hx : Passes CX X E0) (hkw : PK X kws tk) (hg : Gl X x := by rfl)
    (hall : (backToKw pos (keywordEach kws X.env)).all (·.1.isSome) = true := by rfl) (hks : (backToKw pos (keywordEach kws X.env)).filterMap (·.1) = ks := by rfl) (hdb : (x == ("__debug__" : Str)) = false := by decide)
    (hpl : ((backTo pos (starEach [] X.env)).any (·.1) || (backToKw pos (keywordEach kws X.env)).any (·.1.isNone)) = false := by rfl) :
    PE X (.Call (.Name x p) [] kws pos) (tCallN 0 ks.length sp gV E0 tNil tk) := by
  obtain ⟨f, fd, g, F, hm, hk, hb⟩ := h
  refine ⟨fun pins s σ H Q I h => ?_⟩
  refine wpAny_Call_Name_kw (ld_glob I hg hm ?_ hdb)
  refine PySem.W.callWith_KW0 (h₀ := X.base) I.ok.mod.kin hk hall (thn (hkw.run pos pins s σ H _ I h) fun ws s2 ⟨zs, H2, I2, rz, l1, l2, q2⟩ => ⟨I2.kIn, ?_⟩) hpl
  rw [hks]
  exact run_fnN (us := []) (vs := []) F hr hb hx I2 .nil rz rfl l2 q2
/-- two handed in by their names, the second one first -/
def gTurn {α : Type} (_ ws : List α) : List α := ws.reverse
theorem same_none {H H' : Hp} {p : Addr} (s : Same H H') (h : H' p = none) : H p = none := by
  cases e : H p with
  | none => rfl
  | some o =>
    rw [s _ _ e] at h
    cases h
theorem tup_ne {H : Hp} {t p : Addr} {xs ys : List V} (h : H t = some (.tup xs)) (k : H p = some (.lst ys)) : t ≠ p := fun e => by
  rw [e, k] at h
  cases h
def spBR : Sp := fun vs H Q _ => ∃ (a : Addr) (n : Nat), n + 17 ≤ big ∧ Dr H a n ∧ vs = [.ref a] ∧ ∀ H', Gx a H H' → Dr H' a (n + 17) → Q (.bl true) H'
section
variable {P : Program} {w : World} {K : PySem.W.Frag} {mg : Str → Option Value} {base : Heap} {f : Addr} {fd : FuncData}
set_option maxHeartbeats 1000000 in
theorem ok_BR (F : Fun K "_law_between_right" "_law_between_right" s_law_between_right f fd) (G_law_next : Has P w K mg base "_law_next" ["_law_draws_here"] 1 spNext) (G_law_ids : Has P w K mg base "_law_ids" ["_law_draws_here", "_law_some"] 2 spIds) (Gbetween : Has P w K mg base "between" ["one", "two"] 2 spBet) (Jbetween : HasK CX0 P w K mg base "between" ["one", "two"] 2 ["two", "one"] gTurn spBet)
    (m_range : mg "range" = none) (m_list : mg "list" = none) (m_len : mg "len" = none) (m_min : mg "min" = none) (m_isinstance : mg "isinstance" = none) (m_tuple : mg "tuple" = none) : FnOk P w K mg base CX0 3 f fd ["_law_draws_here"] spBR := by
  refine F.ok sc_law_between_right (fun vs H Q E h => ?_) (fun cdv A outer s H vs Q E hr h => ?_)
  · obtain ⟨a, n, _, _, rfl, _⟩ := h
    rfl
  obtain ⟨a, n, hn, dr, rfl, q⟩ := h
  refine ⟨_, (pss_cons (ps_setLc (i := 1) (own := [("_law_k", 8)]) (g := gName 8) (tt := tYes) (te := (tOp (rI0 fun i j => .int (i + j)) (tVar 8) (tC (.int 1)))) rfl sc_law_between_right.nd rfl rfl (sw_true rfl rfl rfl (by decide +kernel)) (pi_range1 rfl m_range (pa_cons (pe_op op_mod (pe_has G_law_next (hr.mono (by omega)) (pa_cons (pv 0) pa_nil)) pe_int) pa_nil)) (blkOk_by (N := sl_law_between_right) (sc := defScope s_law_between_right) (by decide +kernel)) (fun _ _ _ _ _ => (pg_name (i := 8) sc_law_between_right.nd rfl (.inl rfl))) (fun _ _ _ _ _ => pts_nil) (fun _ _ _ _ _ => (pe_op op_add (pv 8) pe_int)))
  (pss_cons (ps_asg (pe_tup (pa_cons (pe_has G_law_ids (hr.mono (by omega)) (pa_cons (pv 0) (pa_cons (pv 1) pa_nil))) (pa_cons (pe_has G_law_ids (hr.mono (by omega)) (pa_cons (pv 0) (pa_cons (pv 1) pa_nil))) pa_nil))) (pg_tup rfl (pgs_cons (pg_name (i := 2) sc_law_between_right.nd rfl (.inr rfl)) (pgs_cons (pg_name (i := 3) sc_law_between_right.nd rfl (.inr rfl)) pgs_nil))))
  (pss_cons (ps_set (i := 3) sc_law_between_right.nd rfl (.inr rfl) (pe_ix ix_list (pe_lst (pa_cons (pv 3) (pa_cons (pe_callTy call_list_of rfl m_list PyProof.Rows.Boot.«list» (pa_cons (pv 2) pa_nil)) (pa_cons (pe_slice sl_list (pv 2) po_none (po_some (pe_op op_mod (pe_has G_law_next (hr.mono (by omega)) (pa_cons (pv 0) pa_nil)) (pe_op op_add (pe_callB call_len_seq rfl m_len PySem.boot_len (pa_cons (pv 2) pa_nil)) pe_int)))) (pa_cons (pv 3) pa_nil))))) (pe_op op_mod (pe_has G_law_next (hr.mono (by omega)) (pa_cons (pv 0) pa_nil)) pe_int) (fun _ _ => rfl)))
  (pss_cons (ps_set (i := 4) sc_law_between_right.nd rfl (.inl rfl) (pe_callB call_len_seq rfl m_len PySem.boot_len (pa_cons (pe_lc (own := [("_law_k", 8)]) (g := gName 8) (tt := (tTest (tOp (rEqD K) (tSl (rSlL K) (tVar 2) tNoPart (tPart (tOp (rI0 fun i j => .int (i + j)) (tVar 8) (tC (.int 1))))) (tSl (rSlL K) (tVar 3) tNoPart (tPart (tOp (rI0 fun i j => .int (i + j)) (tVar 8) (tC (.int 1)))))))) (te := (tVar 8)) rfl sc_law_between_right.nd (pi_range1 rfl m_range (pa_cons (pe_callB (call_min2 rfl) rfl m_min PyProof.Rows.Boot.min (pa_cons (pe_callB call_len_seq rfl m_len PySem.boot_len (pa_cons (pv 2) pa_nil)) (pa_cons (pe_callB call_len_seq rfl m_len PySem.boot_len (pa_cons (pv 3) pa_nil)) pa_nil))) pa_nil)) (blkOk_by (N := sl_law_between_right) (sc := defScope s_law_between_right) (by decide +kernel)) (fun _ _ _ _ _ => (pg_name (i := 8) sc_law_between_right.nd rfl (.inl rfl))) (fun _ _ _ _ _ => (pts_one (pt_cmpR (op_eqD hr.units) (pe_slice sl_list (pv 2) po_none (po_some (pe_op op_add (pv 8) pe_int))) (pe_slice sl_list (pv 3) po_none (po_some (pe_op op_add (pv 8) pe_int))) (nomark _)))) (fun _ _ _ _ _ => (pv 8))) pa_nil)))
  (pss_cons (ps_set (i := 5) sc_law_between_right.nd rfl (.inl rfl) (pe_tup (pa_cons (pe_revL (pe_slice sl_list (pv 2) (po_some (pv 4)) po_none)) (pa_cons (pe_slice sl_list (pv 3) (po_some (pv 4)) po_none) pa_nil))))
  (pss_cons (ps_set (i := 6) sc_law_between_right.nd rfl (.inl rfl) (pe_tup (pa_cons (pe_callTy call_list_of rfl m_list PyProof.Rows.Boot.«list» (pa_cons (pv 2) pa_nil)) (pa_cons (pe_callTy call_list_of rfl m_list PyProof.Rows.Boot.«list» (pa_cons (pv 3) pa_nil)) pa_nil))))
  (pss_cons (ps_for PassesOwn.never rfl (pi_list (pe_lst (pa_cons (pe_has Gbetween (hr.mono (by omega)) (pa_cons (pe_ix ix_tup (pv 6) pe_int (fun _ _ => rfl)) (pa_cons (pe_ix ix_tup (pv 6) pe_int (fun _ _ => rfl)) pa_nil))) (pa_cons (pe_hasK Jbetween (hr.mono (by decide)) pass0 (pk_cons (pe_ix ix_tup (pv 6) pe_int (fun _ _ => rfl)) (pk_cons (pe_ix ix_tup (pv 6) pe_int (fun _ _ => rfl)) pk_nil))) pa_nil)))) (pg_name (i := 7) sc_law_between_right.nd rfl (.inl rfl)) (pss_cons (ps_if (PW.pt (pw_or (pt_not (pt_val (pe_callB call_isi rfl m_isinstance PyProof.Rows.Boot.isinstance (pa_cons (pv 7) (pa_cons (pe_bltn (v := .ty "tuple") rfl m_tuple PyProof.Rows.Boot.«tuple» rfl) pa_nil))))) (pw_or (pt_cmpR (op_neD hr.units) (pv 7) (pv 5) (nomark _)) (pw_or1 (pt_not (pt_val (pe_callB call_isi rfl m_isinstance PyProof.Rows.Boot.isinstance (pa_cons (pe_ix ix_tup (pv 7) pe_int (fun _ _ => rfl)) (pa_cons (pe_bltn (v := .ty "list") rfl m_list PyProof.Rows.Boot.«list» rfl) pa_nil))))))))) (pss_one (ps_ret pe_bl)) pss_nil)
  (pss_cons (ps_expr (pe_bm PySem.F.plainAttrs_list PySem.F.slot_list_append PySem.F.type_list_append mt_append (pe_ix ix_tup (pv 7) pe_int (fun _ _ => rfl)) (pa_cons pe_non pa_nil)))
  (pss_one (ps_expr (pe_bm PySem.F.plainAttrs_list PySem.F.slot_list_append PySem.F.type_list_append mt_append (pe_ix ix_tup (pv 7) pe_int (fun _ _ => rfl)) (pa_cons pe_non pa_nil)))))))
  (pss_one (ps_ret (pe_cmpR (op_eqD hr.units) (pv 6) (pe_tup (pa_cons (pv 2) (pa_cons (pv 3) pa_nil))) (nomark _))))))))))), ?_⟩
  refine ⟨_, rfl, a, n, by omega, dr, .cons rfl .nil, fun v1 H1 g1 d1 hv => ?_⟩
  obtain ⟨i, rfl, i0, _⟩ := hv
  have m4 : 0 ≤ i % 4 ∧ i % 4 < 4 := ⟨Int.emod_nonneg _ (by decide), Int.emod_lt_of_pos _ (by decide)⟩
  refine ⟨_, _, rfl, rfl, (show (0 : Int) < 4 by decide), ?_⟩
  refine ⟨_, rfl, by show -(2 ^ 62 : Int) ≤ i % 4; omega, by show i % 4 < 2 ^ 62; omega, fun D hD => ?_⟩
  have nD : D ≠ a := d1.ne hD
  refine lc_range (n := (i % 4).toNat) (fun t H' => Same H1 H' ∧ ∃ fs : List Int, H' D = some (.lst (fs.map V.int)) ∧ fs.length = t) ?_ ?_ ?_
  · exact ⟨same_new hD, [], upd_same, rfl⟩
  · rintro t H2 ht ⟨s2, fs, e2, l2⟩
    refine ⟨wipe_one _ 8 _, _, rfl, _, _, rfl, rfl, _, e2, small1000 (by rw [List.length_map]; omega), same_grow s2 hD, fs ++ [0 + (t : Int) + 1], ?_, ?_⟩
    · rw [upd_same, List.map_append]
      rfl
    · rw [List.length_append, l2]
      rfl
  rintro H2 ⟨s2, fs, e2, l2⟩
  have g02 := g1.trans (same_gx (a := a) s2)
  refine ⟨_, rfl, _, rfl, a, D, n + 1, fs, by omega, same_dr s2 d1, rfl, e2, by omega, fun p H3 ms g3 hp d3 ep lm => ?_⟩
  refine ⟨_, rfl, _, rfl, a, D, n + 8, fs, by omega, d3, rfl, g3 _ _ nD e2, by omega, fun r H4 ns g4 hrr d4 er ln => ?_⟩
  have np : p ≠ a := (same_dr s2 d1).ne hp
  have nrr : r ≠ a := d3.ne hrr
  have ep4 := g4 _ _ np ep
  refine ⟨(by show 2 ≤ sizeLine; decide), fun T hT => ⟨T, _, rfl, SqT.of upd_same, rfl, _, _, rfl, _, _, rfl, rfl, ?_⟩⟩
  have s5 : Same H4 (upd H4 T (.tup [.ref p, .ref r])) := same_new hT
  generalize upd H4 T (.tup [.ref p, .ref r]) = H5 at *
  have ep5 := s5 _ _ ep4
  have er5 := s5 _ _ er
  have d5 := same_dr s5 d4
  have g05 := (g02.trans (g3.trans g4)).trans (same_gx (a := a) s5)
  refine ⟨_, rfl, _, rfl, p, _, rfl, .inl (SqL.of ep5), fun l1 hl1 => ?_⟩
  have nl1 : l1 ≠ a := d5.ne hl1
  have s6 : Same H5 (upd H5 l1 (.lst (ms.map V.int))) := same_new hl1
  have el6 : upd H5 l1 (.lst (ms.map V.int)) l1 = some (.lst (ms.map V.int)) := upd_same
  generalize upd H5 l1 (.lst (ms.map V.int)) = H6 at *
  refine ⟨_, rfl, _, rfl, a, n + 15, by omega, same_dr s6 d5, .cons rfl .nil, fun v7 H7 g7 d7 hv => ?_⟩
  obtain ⟨j, rfl, j0, _⟩ := hv
  have ep7 := g7 _ _ np (s6 _ _ ep5)
  have er7 := g7 _ _ nrr (s6 _ _ er5)
  have el7 := g7 _ _ nl1 el6
  have lmm : (ms.map V.int).length = ms.length := List.length_map _
  refine ⟨_, rfl, p, _, rfl, .inl (SqL.of ep7), _, _, rfl, rfl, _, _, rfl, rfl, (by show (0 : Int) < ((ms.map V.int).length : Int) + 1; omega), _, rfl, p, _, rfl, SqL.of ep7, fun l2 hl2 => ?_⟩
  have nl2 : l2 ≠ a := d7.ne hl2
  obtain ⟨j2, hj2⟩ : ∃ j2 : Nat, j % (((ms.map V.int).length : Int) + 1) = (j2 : Int) := ⟨(j % (((ms.map V.int).length : Int) + 1)).toNat, by
    have := Int.emod_nonneg j (show ((ms.map V.int).length : Int) + 1 ≠ 0 by omega)
    omega⟩
  have ecut : cutV (ms.map V.int) none (some (j % (((ms.map V.int).length : Int) + 1))) = (ms.take j2).map V.int := by
    rw [hj2, cutV_to, List.map_take]
  show tCons _ _ _ (upd H7 l2 (.lst (cutV (ms.map V.int) none (some (j % (((ms.map V.int).length : Int) + 1)))))) _
  rw [ecut]
  have s8 : Same H7 (upd H7 l2 (.lst ((ms.take j2).map V.int))) := same_new hl2
  have el8 : upd H7 l2 (.lst ((ms.take j2).map V.int)) l2 = some (.lst ((ms.take j2).map V.int)) := upd_same
  generalize upd H7 l2 (.lst ((ms.take j2).map V.int)) = H8 at *
  refine ⟨_, rfl, (by show 4 ≤ sizeLine; decide), fun L hL => ?_⟩
  have nL : L ≠ a := (same_dr s8 d7).ne hL
  have s9 : Same H8 (upd H8 L (.lst [.ref r, .ref l1, .ref l2, .ref r])) := same_new hL
  have eL9 : upd H8 L (.lst [.ref r, .ref l1, .ref l2, .ref r]) L = some (.lst [.ref r, .ref l1, .ref l2, .ref r]) := upd_same
  generalize upd H8 L (.lst [.ref r, .ref l1, .ref l2, .ref r]) = H9 at *
  have s79 := s8.trans s9
  refine ⟨_, rfl, a, n + 16, by omega, same_dr s79 d7, .cons rfl .nil, fun v10 H10 g10 d10 hv => ?_⟩
  obtain ⟨x, rfl, _, _⟩ := hv
  have x4 : 0 ≤ x % 4 ∧ x % 4 < 4 := ⟨Int.emod_nonneg _ (by decide), Int.emod_lt_of_pos _ (by decide)⟩
  obtain ⟨o, ks, no, eo, eko, lk⟩ : ∃ (o : Addr) (ks : List Int), o ≠ a ∧ atI [V.ref r, .ref l1, .ref l2, .ref r] (x % 4) = some (.ref o) ∧ H10 o = some (.lst (ks.map V.int)) ∧ ks.length ≤ 16 := by
    have c1 : H10 r = some (.lst (ns.map V.int)) := g10 _ _ nrr (s79 _ _ er7)
    have c2 : H10 l1 = some (.lst (ms.map V.int)) := g10 _ _ nl1 (s79 _ _ el7)
    have c3 : H10 l2 = some (.lst ((ms.take j2).map V.int)) := g10 _ _ nl2 (s9 _ _ el8)
    have : x % 4 = 0 ∨ x % 4 = 1 ∨ x % 4 = 2 ∨ x % 4 = 3 := by omega
    rcases this with h | h | h | h <;> rw [h]
    · exact ⟨r, ns, nrr, rfl, c1, ln⟩
    · exact ⟨l1, ms, nl1, rfl, c2, lm⟩
    · exact ⟨l2, ms.take j2, nl2, rfl, c3, by rw [List.length_take]; omega⟩
    · exact ⟨r, ns, nrr, rfl, c1, ln⟩
  refine ⟨_, _, rfl, rfl, (show (0 : Int) < 4 by decide), L, _, _, _, rfl, rfl, SqL.of (g10 _ _ nL eL9), eo, ?_⟩
  have ep10 : H10 p = some (.lst (ms.map V.int)) := g10 _ _ np (s79 _ _ ep7)
  have g010 : Gx a H H10 := (g05.trans ((same_gx s6).trans g7)).trans ((same_gx s79).trans g10)
  clear s9 s8 s6 s5 g7 g10 s79 el8 el7 el6 er7 ep7 ep5 er5 ep4 eL9
  have lkm : (ks.map V.int).length = ks.length := List.length_map _
  have cle := com_le ms ks
  refine ⟨_, rfl, p, _, rfl, .inl (SqL.of ep10), _, rfl, o, _, rfl, .inl (SqL.of eko), _, _, rfl, ?_⟩
  generalize hmn : (if (((ks.map V.int).length : Nat) : Int) < (((ms.map V.int).length : Nat) : Int) then (((ks.map V.int).length : Nat) : Int) else (((ms.map V.int).length : Nat) : Int)) = mn
  have emn : mn.toNat = min ms.length ks.length ∧ 0 ≤ mn ∧ mn ≤ 16 := by
    rw [← hmn, lkm, lmm]
    split <;> omega
  refine ⟨_, rfl, by omega, by omega, fun D2 hD2 => ?_⟩
  refine lc_range (n := mn.toNat) (fun t H' => Same H10 H' ∧ ∃ acc : List V, H' D2 = some (.lst acc) ∧ acc.length = min t (com ms ks)) ?_ ?_ ?_
  · exact ⟨same_new hD2, [], upd_same, by simp⟩
  · rintro t H11 ht ⟨s11, acc, e11, l11⟩
    have ecA : ∀ zs : List Int, cutV (zs.map V.int) none (some (0 + (t : Int) + 1)) = (zs.take (t + 1)).map V.int := fun zs => by
      rw [show 0 + (t : Int) + 1 = ((t + 1 : Nat) : Int) by omega, cutV_to, List.map_take]
    refine ⟨wipe_one _ 8 _, _, rfl, _, rfl, _, _, rfl, rfl, _, rfl, p, _, rfl, SqL.of (s11 _ _ ep10), fun c1 hc1 => ?_⟩
    have y1 : Same H11 (upd H11 c1 (.lst (cutV (ms.map V.int) none (some (0 + (t : Int) + 1))))) := same_new hc1
    have y1e : upd H11 c1 (.lst (cutV (ms.map V.int) none (some (0 + (t : Int) + 1)))) c1 = some (.lst ((ms.take (t + 1)).map V.int)) := by rw [upd_same, ecA]
    generalize upd H11 c1 (.lst (cutV (ms.map V.int) none (some (0 + (t : Int) + 1)))) = H12 at *
    refine ⟨_, rfl, _, rfl, _, _, rfl, rfl, _, rfl, o, _, rfl, SqL.of (y1 _ _ (s11 _ _ eko)), fun c2 hc2 => ?_⟩
    have y2 : Same H12 (upd H12 c2 (.lst (cutV (ks.map V.int) none (some (0 + (t : Int) + 1))))) := same_new hc2
    have y2e : upd H12 c2 (.lst (cutV (ks.map V.int) none (some (0 + (t : Int) + 1)))) c2 = some (.lst ((ks.take (t + 1)).map V.int)) := by rw [upd_same, ecA]
    generalize upd H12 c2 (.lst (cutV (ks.map V.int) none (some (0 + (t : Int) + 1)))) = H13 at *
    have s13 := s11.trans (y1.trans y2)
    have e13 := y2 _ _ (y1 _ _ e11)
    refine ⟨_, _, .lst (SqL.of (y2 _ _ y1e)) (flat_dp (flv_ints _)), .lst (SqL.of y2e) (flat_dp (flv_ints _)), flat_shaped (flv_ints _), flat_shaped (flv_ints _), _, rfl, ?_⟩
    rw [eqv_ints]
    have ct := com_take ms ks t (by omega) (by omega)
    by_cases hc : ms.take (t + 1) = ks.take (t + 1)
    · have := ct.mp hc
      refine ite_t (decide_eq_true hc) ⟨_, rfl, _, e13, small1000 (by omega), same_grow s13 hD2, acc ++ [_], upd_same, ?_⟩
      rw [List.length_append]
      show acc.length + 1 = _
      omega
    · have : ¬ t < com ms ks := fun h => hc (ct.mpr h)
      refine ite_f (decide_eq_false hc) ⟨s13, acc, e13, ?_⟩
      omega
  rintro H11 ⟨s11, acc, e11, l11⟩
  refine ⟨D2, _, rfl, .inl (SqL.of e11), ?_⟩
  have la : acc.length = com ms ks := by omega
  rw [la]
  have ep11 := s11 _ _ ep10
  have ek11 := s11 _ _ eko
  have d11 := same_dr s11 d10
  have g11 := g010.trans (same_gx (a := a) s11)
  refine ⟨_, rfl, _, rfl, _, rfl, p, _, rfl, SqL.of ep11, fun c1 fc1 => ?_⟩
  have s12 : Same H11 (upd H11 c1 (.lst (cutV (ms.map V.int) (some ((com ms ks : Nat) : Int)) none))) := same_new fc1
  have ec1 : upd H11 c1 (.lst (cutV (ms.map V.int) (some ((com ms ks : Nat) : Int)) none)) c1 = some (.lst (cutV (ms.map V.int) (some ((com ms ks : Nat) : Int)) none)) := upd_same
  generalize upd H11 c1 (.lst (cutV (ms.map V.int) (some ((com ms ks : Nat) : Int)) none)) = H12 at *
  refine ⟨c1, _, rfl, SqL.of ec1, fun c2 fc2 => ?_⟩
  have s13 : Same H12 (upd H12 c2 (.lst ((cutV (ms.map V.int) (some ((com ms ks : Nat) : Int)) none).reverse))) := same_new fc2
  have ec2 : upd H12 c2 (.lst ((cutV (ms.map V.int) (some ((com ms ks : Nat) : Int)) none).reverse)) c2 = some (.lst ((cutV (ms.map V.int) (some ((com ms ks : Nat) : Int)) none).reverse)) := upd_same
  generalize upd H12 c2 (.lst ((cutV (ms.map V.int) (some ((com ms ks : Nat) : Int)) none).reverse)) = H13 at *
  refine ⟨_, rfl, _, rfl, _, rfl, o, _, rfl, SqL.of ((s12.trans s13) _ _ ek11), fun c3 fc3 => ?_⟩
  have s14 : Same H13 (upd H13 c3 (.lst (cutV (ks.map V.int) (some ((com ms ks : Nat) : Int)) none))) := same_new fc3
  have ec3 : upd H13 c3 (.lst (cutV (ks.map V.int) (some ((com ms ks : Nat) : Int)) none)) c3 = some (.lst (cutV (ks.map V.int) (some ((com ms ks : Nat) : Int)) none)) := upd_same
  generalize upd H13 c3 (.lst (cutV (ks.map V.int) (some ((com ms ks : Nat) : Int)) none)) = H14 at *
  refine ⟨(by show 2 ≤ sizeLine; decide), fun U fU => ?_⟩
  have s15 : Same H14 (upd H14 U (.tup ([.ref c2, .ref c3]))) := same_new fU
  have eU : upd H14 U (.tup ([.ref c2, .ref c3])) U = some (.tup ([.ref c2, .ref c3])) := upd_same
  generalize upd H14 U (.tup ([.ref c2, .ref c3])) = H15 at *
  have s1115 := (s12.trans s13).trans (s14.trans s15)
  refine ⟨_, rfl, p, _, rfl, .inl (SqL.of (s1115 _ _ ep11)), fun h1 fh1 => ?_⟩
  have s16 : Same H15 (upd H15 h1 (.lst (ms.map V.int))) := same_new fh1
  have eh1 : upd H15 h1 (.lst (ms.map V.int)) h1 = some (.lst (ms.map V.int)) := upd_same
  generalize upd H15 h1 (.lst (ms.map V.int)) = H16 at *
  refine ⟨_, rfl, o, _, rfl, .inl (SqL.of ((s1115.trans s16) _ _ ek11)), fun h2 fh2 => ?_⟩
  have s17 : Same H16 (upd H16 h2 (.lst (ks.map V.int))) := same_new fh2
  have eh2 : upd H16 h2 (.lst (ks.map V.int)) h2 = some (.lst (ks.map V.int)) := upd_same
  generalize upd H16 h2 (.lst (ks.map V.int)) = H17 at *
  refine ⟨(by show 2 ≤ sizeLine; decide), fun W fW => ?_⟩
  have s18 : Same H17 (upd H17 W (.tup ([.ref h1, .ref h2]))) := same_new fW
  have eW : upd H17 W (.tup ([.ref h1, .ref h2])) W = some (.tup ([.ref h1, .ref h2])) := upd_same
  generalize upd H17 W (.tup ([.ref h1, .ref h2])) = H18 at *
  have s1118 := s1115.trans (s16.trans (s17.trans s18))
  have ecm : cutV (ms.map V.int) (some ((com ms ks : Nat) : Int)) none = (ms.drop (com ms ks)).map V.int := by rw [cutV_from, List.map_drop]
  have eck : cutV (ks.map V.int) (some ((com ms ks : Nat) : Int)) none = (ks.drop (com ms ks)).map V.int := by rw [cutV_from, List.map_drop]
  have w2 : H18 c2 = some (.lst ((ms.drop (com ms ks)).reverse.map V.int)) := by
    rw [((s14.trans s15).trans (s16.trans (s17.trans s18))) _ _ ec2, ecm, List.map_reverse]
  have w3 : H18 c3 = some (.lst ((ks.drop (com ms ks)).map V.int)) := by
    rw [(s15.trans (s16.trans (s17.trans s18))) _ _ ec3, eck]
  have wU := (s16.trans (s17.trans s18)) _ _ eU
  have wh1 := (s17.trans s18) _ _ eh1
  have wh2 := s18 _ _ eh2
  have wp := s1118 _ _ ep11
  have wk := s1118 _ _ ek11
  have d18 := same_dr s1118 d11
  have g18 := g11.trans (same_gx (a := a) s1118)
  clear s12 s13 s14 s15 s16 s17 s18 s1115 s1118 ec1 ec2 ec3 eU eh1 eh2 ecm eck
  have eW : H18 W = some (.tup [.ref h1, .ref h2]) := eW
  generalize hdm : (ms.drop (com ms ks)).reverse = dm at *
  generalize hdk : ks.drop (com ms ks) = dk at *
  refine ⟨_, rfl, W, _, _, _, rfl, rfl, SqT.of eW, rfl, _, rfl, W, _, _, _, rfl, rfl, SqT.of eW, rfl, h1, h2, ms, ks, rfl, wh1, wh2, by omega, by omega, fun t1 p1 q1 HA sA ft1 fp1 fq1 npq1 et1 ep1 eq1 => ?_⟩
  rw [hdm] at ep1
  rw [hdk] at eq1
  refine ⟨_, rfl, W, _, _, _, rfl, rfl, SqT.of (sA _ _ eW), rfl, _, rfl, W, _, _, _, rfl, rfl, SqT.of (sA _ _ eW), rfl, rfl, rfl, h1, h2, ms, ks, rfl, sA _ _ wh1, sA _ _ wh2, by omega, by omega, fun t2 p2 q2 HB sB ft2 fp2 fq2 npq2 et2 ep2 eq2 => ?_⟩
  rw [hdm] at ep2
  rw [hdk] at eq2
  have fp2' : H18 p2 = none := same_none sA fp2
  have fq2' : H18 q2 = none := same_none sA fq2
  refine ⟨(by show 2 ≤ sizeLine; decide), fun LL hLL => ⟨LL, rfl, ⟨_, SqL.of upd_same⟩, ?_⟩⟩
  have sL : Same HB (upd HB LL (.lst [.ref t1, .ref t2])) := same_new hLL
  have eLL : upd HB LL (.lst [.ref t1, .ref t2]) LL = some (.lst [.ref t1, .ref t2]) := upd_same
  generalize upd HB LL (.lst [.ref t1, .ref t2]) = HL at *
  have ldm : dm.length ≤ 16 := by rw [← hdm, List.length_reverse, List.length_drop]; omega
  have ldk : dk.length ≤ 16 := by rw [← hdk, List.length_drop]; omega
  have n1 : LL ≠ p1 := fun e => by rw [e, sB _ _ ep1] at hLL; cases hLL
  have n2 : LL ≠ q1 := fun e => by rw [e, sB _ _ eq1] at hLL; cases hLL
  have n3 : LL ≠ p2 := fun e => by rw [e, ep2] at hLL; cases hLL
  have n4 : LL ≠ q2 := fun e => by rw [e, eq2] at hLL; cases hLL
  have n5 : p2 ≠ p1 := fun e => by rw [e, ep1] at fp2; cases fp2
  have n6 : p2 ≠ q1 := fun e => by rw [e, eq1] at fp2; cases fp2
  have n7 : q2 ≠ p1 := fun e => by rw [e, ep1] at fq2; cases fq2
  have n8 : q2 ≠ q1 := fun e => by rw [e, eq1] at fq2; cases fq2
  refine for_list (xs := [V.ref t1, V.ref t2]) (fun u σ H' => Same H18 H' ∧ H' LL = some (.lst [.ref t1, .ref t2]) ∧ (u = 0 → H' t1 = some (.tup [.ref p1, .ref q1]) ∧ H' p1 = some (.lst (dm.map V.int)) ∧ H' q1 = some (.lst (dk.map V.int))) ∧ (u ≤ 1 → H' t2 = some (.tup [.ref p2, .ref q2]) ∧ H' p2 = some (.lst (dm.map V.int)) ∧ H' q2 = some (.lst (dk.map V.int))) ∧ ∃ t7, σ = [some (.ref a), some (.ref D), some (.ref p), some (.ref o), some (.int ((com ms ks : Nat) : Int)), some (.ref U), some (.ref W), t7, none]) ?_ ?_ ?_ ?_
  · exact ⟨sA.trans (sB.trans sL), eLL, fun _ => ⟨(sB.trans sL) _ _ et1, (sB.trans sL) _ _ ep1, (sB.trans sL) _ _ eq1⟩, fun _ => ⟨sL _ _ et2, sL _ _ ep2, sL _ _ eq2⟩, none, rfl⟩
  · rintro u σ H' _ ⟨_, h, _⟩
    exact SqL.of h
  · rintro u x σ H' hx ⟨sH, hLL', k1, k2, t7, rfl⟩
    match u, hx, k1, k2 with
    | 0, hx, k1, k2 =>
      obtain rfl : V.ref t1 = x := Option.some.inj hx
      obtain ⟨vt1, vp1, vq1⟩ := k1 rfl
      obtain ⟨vt2, vp2, vq2⟩ := k2 (by omega)
      refine ⟨_, rfl, _, _, _, _, true, rfl, .ty "tuple", .base (.tup vt1), kit_ty (by decide +kernel), _, rfl, iteF ?_⟩
      refine ⟨_, rfl, _, rfl, _, _, two_dp vt1 vp1 vq1, two_dp (sH _ _ wU) (sH _ _ w2) (sH _ _ w3), two_shaped _ _, two_shaped _ _, _, rfl, ?_⟩
      rw [two_eqv]
      refine iteF ⟨_, rfl, t1, _, _, _, rfl, rfl, SqT.of vt1, rfl, _, _, _, _, true, rfl, .ty "list", .base (.lst vp1), kit_ty (by decide +kernel), _, rfl, iteF ?_⟩
      refine ⟨_, rfl, t1, _, _, _, rfl, rfl, SqT.of vt1, rfl, .inl ⟨rfl, _, SqL.of vp1⟩, p1, _, _, rfl, rfl, vp1, small1000 (by rw [List.length_map]; omega), ?_⟩
      have xt1 : upd H' p1 (.lst (dm.map V.int ++ [V.non])) t1 = some (.tup [.ref p1, .ref q1]) := by
        rw [upd_ne (tup_ne vt1 vp1)]
        exact vt1
      have xq1 : upd H' p1 (.lst (dm.map V.int ++ [V.non])) q1 = some (.lst (dk.map V.int)) := by
        rw [upd_ne (Ne.symm npq1)]
        exact vq1
      refine ⟨_, rfl, t1, _, _, _, rfl, rfl, SqT.of xt1, rfl, .inl ⟨rfl, _, SqL.of xq1⟩, q1, _, _, rfl, rfl, xq1, small1000 (by rw [List.length_map]; omega), ?_⟩
      refine ⟨same_grow (same_grow sH fp1) fq1, ?_, fun h => absurd h (by omega), fun _ => ⟨?_, ?_, ?_⟩, _, rfl⟩
      · rw [upd_ne n2, upd_ne n1]
        exact hLL'
      · rw [upd_ne (tup_ne vt2 vq1), upd_ne (tup_ne vt2 vp1)]
        exact vt2
      · rw [upd_ne n6, upd_ne n5]
        exact vp2
      · rw [upd_ne n8, upd_ne n7]
        exact vq2
    | 1, hx, k1, k2 =>
      obtain rfl : V.ref t2 = x := Option.some.inj hx
      obtain ⟨vt2, vp2, vq2⟩ := k2 (by omega)
      refine ⟨_, rfl, _, _, _, _, true, rfl, .ty "tuple", .base (.tup vt2), kit_ty (by decide +kernel), _, rfl, iteF ?_⟩
      refine ⟨_, rfl, _, rfl, _, _, two_dp vt2 vp2 vq2, two_dp (sH _ _ wU) (sH _ _ w2) (sH _ _ w3), two_shaped _ _, two_shaped _ _, _, rfl, ?_⟩
      rw [two_eqv]
      refine iteF ⟨_, rfl, t2, _, _, _, rfl, rfl, SqT.of vt2, rfl, _, _, _, _, true, rfl, .ty "list", .base (.lst vp2), kit_ty (by decide +kernel), _, rfl, iteF ?_⟩
      refine ⟨_, rfl, t2, _, _, _, rfl, rfl, SqT.of vt2, rfl, .inl ⟨rfl, _, SqL.of vp2⟩, p2, _, _, rfl, rfl, vp2, small1000 (by rw [List.length_map]; omega), ?_⟩
      have xt2 : upd H' p2 (.lst (dm.map V.int ++ [V.non])) t2 = some (.tup [.ref p2, .ref q2]) := by
        rw [upd_ne (tup_ne vt2 vp2)]
        exact vt2
      have xq2 : upd H' p2 (.lst (dm.map V.int ++ [V.non])) q2 = some (.lst (dk.map V.int)) := by
        rw [upd_ne (Ne.symm npq2)]
        exact vq2
      refine ⟨_, rfl, t2, _, _, _, rfl, rfl, SqT.of xt2, rfl, .inl ⟨rfl, _, SqL.of xq2⟩, q2, _, _, rfl, rfl, xq2, small1000 (by rw [List.length_map]; omega), ?_⟩
      refine ⟨same_grow (same_grow sH fp2') fq2', ?_, fun h => absurd h (by omega), fun h => absurd h (by omega), _, rfl⟩
      rw [upd_ne n4, upd_ne n3]
      exact hLL'
    | u + 2, hx, _, _ => cases hx
  · rintro σ H' ⟨sH, _, _, _, t7, rfl⟩
    refine ⟨_, rfl, _, rfl, _, rfl, (by show 2 ≤ sizeLine; decide), fun Z hZ => ?_⟩
    have sZ : Same H' (upd H' Z (.tup [.ref p, .ref o])) := same_new hZ
    have sHZ := sH.trans sZ
    refine ⟨_, _, two_dp (sHZ _ _ eW) (sHZ _ _ wh1) (sHZ _ _ wh2), two_dp upd_same (sHZ _ _ wp) (sHZ _ _ wk), two_shaped _ _, two_shaped _ _, ?_⟩
    rw [two_eqv]
    exact q _ (g18.trans (same_gx sHZ)) (same_dr sHZ d18)
end
end Wp
set_option Elab.async false
set_option linter.all false
set_option maxRecDepth 100000
namespace Wp
open PySem PySem.Spec PyProof.Rows L2
-- law: slots _law_script 0, _law_cell 1, _law_draws_here 2, _law_turn 3, _law_a_row 4, _law_handed 5, _law_told 6, _law_odd 7, _law_thing 8
abbrev slaw : Stmt := top 15
theorem sclaw : FnScope ["_law_script", "_law_cell", "_law_draws_here", "_law_turn", "_law_a_row", "_law_handed", "_law_told", "_law_odd", "_law_thing"] ["_law_script"] (defScope slaw) := ⟨rfl, rfl, rfl, by decide +kernel, rfl, by decide +kernel, by decide +kernel⟩
abbrev sllaw : List Str := ["_law_script", "_law_cell", "_law_draws_here", "_law_turn", "_law_a_row", "_law_handed", "_law_told", "_law_odd", "_law_thing"]
theorem ths_of {H : Hp} : ∀ {xs : List V}, (∀ x ∈ xs, ∃ d, Th H x d) → ∃ ds, Ths H xs ds
  | [], _ => ⟨[], .nil⟩
  | x :: xs, h => by
    obtain ⟨d, hd⟩ := h x List.mem_cons_self
    obtain ⟨ds, hs⟩ := ths_of fun y hy => h y (List.mem_cons_of_mem _ hy)
    exact ⟨d :: ds, .cons hd hs⟩
theorem th_dp {K : PySem.W.Frag} {H : Hp} {x : V} {d : PyData} (h : Th H x d) : Dp K H x d := by
  cases h with
  | two h l f =>
    refine .tup (SqT.of h) (.cons (.str _) ?_)
    exact flat_dp (xs := [_]) (fun y hy => by rw [List.mem_singleton.mp hy]; exact f)
  | tup h n f => exact .tup (SqT.of h) (flat_dp f)
  | lst h f => exact .lst (SqL.of h) (flat_dp f)
  | non => exact .non
  | str z _ => exact .str z
theorem ths_dp {K : PySem.W.Frag} {H : Hp} : ∀ {xs : List V} {ds : List PyData}, Ths H xs ds → DpAll K H xs ds
  | _, _, .nil => .nil
  | _, _, .cons h t => .cons (th_dp h) (ths_dp t)
theorem fl_eqv {x : V} (h : FlV x) : PyData.eqv (dV x) (dV x) = true := by
  cases h <;> simp [dV, PyData.eqv]
theorem fls_eqv : ∀ {xs : List V}, (∀ x ∈ xs, FlV x) → PyData.eqvAll (xs.map dV) (xs.map dV) = true
  | [], _ => rfl
  | x :: xs, h => by
    show (PyData.eqv (dV x) (dV x) && PyData.eqvAll (xs.map dV) (xs.map dV)) = true
    rw [fl_eqv (h x List.mem_cons_self), fls_eqv fun y hy => h y (List.mem_cons_of_mem _ hy)]
    rfl
theorem th_all {H : Hp} {x : V} {d : PyData} (h : Th H x d) : PyData.eqv d d = true ∧ d.canLay0 = true ∧ d.depth ≤ 2 := by
  cases h with
  | @two p w x h l f =>
    have := flat_can (xs := [.str w, x]) (fun y hy => by
      rcases List.mem_cons.mp hy with rfl | hy
      · exact .str w l
      · rw [List.mem_singleton.mp hy]; exact f)
    have e := fls_eqv (xs := [.str w, x]) (fun y hy => by
      rcases List.mem_cons.mp hy with rfl | hy
      · exact .str w l
      · rw [List.mem_singleton.mp hy]; exact f)
    refine ⟨e, this.1, ?_⟩
    have k := this.2
    show PyData.depthAll ([V.str w, x].map dV) + 1 ≤ 2
    omega
  | tup h n f =>
    refine ⟨fls_eqv f, (flat_can f).1, ?_⟩
    have := (flat_can f).2
    rw [PyData.depth]
    omega
  | lst h f =>
    refine ⟨fls_eqv f, (flat_can f).1, ?_⟩
    have := (flat_can f).2
    rw [PyData.depth]
    omega
  | non => exact ⟨by decide, rfl, by decide⟩
  | str z h => exact ⟨by simp [PyData.eqv], h, by simp [PyData.depth]⟩
theorem ths_all {H : Hp} : ∀ {xs : List V} {ds : List PyData}, Ths H xs ds → PyData.eqvAll ds ds = true ∧ PyData.canLayAll0 ds = true ∧ PyData.depthAll ds ≤ 2
  | _, _, .nil => ⟨rfl, rfl, by decide⟩
  | _, _, .cons (d := d) (ds := ds) h t => by
    obtain ⟨a, b, c⟩ := th_all h
    obtain ⟨a', b', c'⟩ := ths_all t
    refine ⟨?_, ?_, ?_⟩
    · show (PyData.eqv d d && PyData.eqvAll ds ds) = true
      rw [a, a']
      rfl
    · show (d.canLay0 && PyData.canLayAll0 ds) = true
      rw [b, b']
      rfl
    · simp only [PyData.depthAll]
      omega
theorem ths_shaped {H : Hp} {xs : List V} {ds : List PyData} (h : Ths H xs ds) : SeqAt.shaped (.list ds) = true := by
  obtain ⟨_, b, c⟩ := ths_all h
  unfold SeqAt.shaped
  rw [Bool.and_eq_true]
  refine ⟨b, decide_eq_true ?_⟩
  rw [PyData.depth]
  omega
theorem ths_eqv {H : Hp} {xs : List V} {ds : List PyData} (h : Ths H xs ds) : PyData.eqv (.list ds) (.list ds) = true := (ths_all h).1
theorem due_len : ∀ {ds : List PyData} {ms ns : List Int}, dueD ds ms = some ns → ns.length ≤ ms.length + ds.length
  | [], ms, ns, h => by
    rw [dueD] at h
    cases h
    simp
  | d :: ds, ms, ns, h => by
    rw [dueD] at h
    split at h
    · split at h
      · cases h
      · have := due_len h
        simp at this ⊢
        omega
    · split at h
      · have := due_len h
        simp at this ⊢
        omega
      · cases h
    · cases h
/-- what is no list -/
inductive NoL (H : Hp) : V → Prop
  | non : NoL H .non
  | int (i : Int) : NoL H (.int i)
  | str (z : Str) : NoL H (.str z)
  | bl (b : Bool) : NoL H (.bl b)
  | tup {p : Addr} {xs : List V} : H p = some (.tup xs) → NoL H (.ref p)
def spLeft : Sp := fun vs H Q E => spDue vs H Q E ∨ ∃ v, vs = [v] ∧ NoL H v ∧ ∀ H', Same H H' → Q .non H'
def g1 {α : Type} (_ ws : List α) : List α := ws
def spLaw (K : PySem.W.Frag) : Sp := fun vs H Q _ => ∃ (a : Addr) (ns : List Int), vs = [.ref a] ∧ SqL K H a (ns.map V.int) ∧ ns.length ≤ 63 ∧ ∀ H', Q (.bl true) H'
section
variable {P : Program} {w : World} {K : PySem.W.Frag} {mg : Str → Option Value} {base : Heap} {f : Addr} {fd : FuncData}
set_option maxHeartbeats 1000000 in
theorem ok_law (F : Fun K "law" "law" slaw f fd) (G_law_draws : Has P w K mg base "_law_draws" ["_law_cell"] 1 spDraws) (G_law_next : Has P w K mg base "_law_next" ["_law_draws_here"] 1 spNext) (G_law_between_right : Has P w K mg base "_law_between_right" ["_law_draws_here"] 3 spBR) (G_law_row : Has P w K mg base "_law_row" ["_law_draws_here"] 2 spRow) (G_law_bent : Has P w K mg base "_law_bent" ["_law_draws_here", "_law_a_row"] 2 spBent)
    (G_law_due : Has P w K mg base "_law_due" ["_law_a_row"] 1 spDue) (Gleft_in : Has P w K mg base "left_in" ["row"] 3 spLeft) (Jleft_in : HasK CX0 P w K mg base "left_in" ["row"] 3 ["row"] g1 spLeft) (m_range : mg "range" = none) (m_list : mg "list" = none) : FnOk P w K mg base CX0 4 f fd ["_law_script"] (spLaw K) := by
  refine F.ok sclaw (fun vs H Q E h => ?_) (fun cdv A outer s H vs Q E hr h => ?_)
  · obtain ⟨a, ns, rfl, _⟩ := h
    rfl
  obtain ⟨a, ns, rfl, hs, hl, q⟩ := h
  refine ⟨_, (pss_cons (ps_for PassesOwn.never rfl (pi_list (pe_op op_cat (pe_slice sl_list (pv 0) po_none (po_some pe_int)) (pe_lst (pa_cons pe_int pa_nil)))) (pg_name (i := 1) sclaw.nd rfl (.inl rfl)) (pss_cons (ps_set (i := 2) sclaw.nd rfl (.inl rfl) (pe_has G_law_draws (hr.mono (by omega)) (pa_cons (pv 1) pa_nil)))
  (pss_one (ps_for PassesOwn.never rfl (pi_range1 rfl m_range (pa_cons pe_int pa_nil)) (pg_name (i := 3) sclaw.nd rfl (.inl rfl)) (pss_cons (ps_if (pt_not (pt_val (pe_has G_law_between_right (hr.mono (by omega)) (pa_cons (pv 2) pa_nil)))) (pss_one (ps_ret pe_bl)) pss_nil)
  (pss_cons (ps_set (i := 4) sclaw.nd rfl (.inl rfl) (pe_has G_law_row (hr.mono (by omega)) (pa_cons (pv 2) pa_nil)))
  (pss_cons (ps_if (pt_cmpR op_eq (pe_op op_mod (pe_has G_law_next (hr.mono (by omega)) (pa_cons (pv 2) pa_nil)) pe_int) pe_int (nomark _)) (pss_one (ps_set (i := 4) sclaw.nd rfl (.inl rfl) (pe_has G_law_bent (hr.mono (by omega)) (pa_cons (pv 2) (pa_cons (pv 4) pa_nil))))) pss_nil)
  (pss_cons (ps_set (i := 5) sclaw.nd rfl (.inl rfl) (pe_callTy call_list_of rfl m_list PyProof.Rows.Boot.«list» (pa_cons (pv 4) pa_nil)))
  (pss_cons (ps_set (i := 6) sclaw.nd rfl (.inl rfl) (pe_has Gleft_in (hr.mono (by omega)) (pa_cons (pv 5) pa_nil)))
  (pss_cons (ps_if (PW.pt (pw_or (pt_cmpR (op_neD hr.units) (pv 6) (pe_has G_law_due (hr.mono (by omega)) (pa_cons (pv 4) pa_nil)) (nomark _)) (pw_or (pt_cmpR (op_neD hr.units) (pv 5) (pv 4) (nomark _)) (pw_or1 (pt_cmpR (op_neD hr.units) (pe_hasK Jleft_in (hr.mono (by decide)) pass0 (pk_cons (pv 4) pk_nil)) (pv 6) (nomark _)))))) (pss_one (ps_ret pe_bl)) pss_nil)
  (pss_one (ps_if (pt_cmpR op_notN (pv 6) pe_non (nomark _)) (pss_one (ps_expr (pe_bm PySem.F.plainAttrs_list PySem.F.slot_list_append PySem.F.type_list_append mt_append (pv 6) (pa_cons pe_non pa_nil)))) pss_nil))))))))))))
  (pss_cons (ps_setLc (i := 7) (own := [("_law_thing", 8)]) (g := gName 8) (tt := tYes) (te := (tCall (spLeft) [] E0 (tCons (tVar 8) tNil))) rfl sclaw.nd rfl rfl (sw_true rfl rfl rfl (by decide +kernel)) (pi_list (pe_lst (pa_cons pe_non (pa_cons pe_int (pa_cons pe_str (pa_cons (pe_tup pa_nil) (pa_cons (pe_tup (pa_cons (pe_tup (pa_cons pe_str (pa_cons pe_int pa_nil))) pa_nil)) (pa_cons (pe_tup (pa_cons pe_str (pa_cons pe_int pa_nil))) (pa_cons pe_bl (pa_cons (pe_lst (pa_cons (pe_lst pa_nil) pa_nil)) pa_nil)))))))))) (blkOk_by (N := sllaw) (sc := defScope slaw) (by decide +kernel)) (fun _ _ _ _ _ => (pg_name (i := 8) sclaw.nd rfl (.inl rfl))) (fun _ _ _ _ _ => pts_nil) (fun _ _ _ _ _ => (pe_has Gleft_in (hr.mono (by omega)) (pa_cons (pv 8) pa_nil))))
  (pss_one (ps_ret (pe_and (pe_cmpR (op_eqD hr.units) (pv 7) (pe_op op_rep (pe_lst (pa_cons pe_non pa_nil)) pe_int) (nomark _)) (pe_one (pe_cmpR (op_eqD hr.units) (pe_has Gleft_in (hr.mono (by omega)) (pa_cons (pe_lst pa_nil) pa_nil)) (pe_lst pa_nil) (nomark _)))))))), ?_⟩
  refine ⟨_, rfl, 10, rfl, a, _, rfl, hs, fun p1 h1 => ⟨(by show 1 ≤ sizeLine; decide), fun p2 h2 => ?_⟩⟩
  have hcl := cutV_length (ns.map V.int) none (some 10)
  have hcm : ∀ x ∈ cutV (ns.map V.int) none (some 10), ∃ c : Int, x = .int c := fun x hx => by
    obtain ⟨c, _, e⟩ := List.mem_map.mp (mem_cut hx)
    exact ⟨c, e.symm⟩
  rw [List.length_map] at hcl
  generalize cutV (ns.map V.int) none (some 10) = cs at *
  have hall : ∀ x ∈ cs ++ [V.int 0], ∃ c : Int, x = .int c := fun x hx => by
    rcases List.mem_append.mp hx with h | h
    · exact hcm x h
    · exact ⟨0, List.mem_singleton.mp h⟩
  refine ⟨p1, p2, cs, [.int 0], rfl, rfl, same_new h2 _ _ upd_same, upd_same, Nat.le_of_lt (small1000 (by show cs.length + 1 ≤ 1000; omega)), fun l hl' => ⟨l, rfl, ⟨_, SqL.of upd_same⟩, for_list (xs := cs ++ [V.int 0]) (fun i σ H' => H' l = some (.lst (cs ++ [V.int 0])) ∧ ∃ t1 t2 t3 t4 t5 t6, σ = [some (.ref a), t1, t2, t3, t4, t5, t6, none, none]) ?_ ?_ ?_ ?_⟩⟩
  · exact ⟨upd_same, none, none, none, none, none, none, rfl⟩
  · rintro i σ H' hi ⟨e, _⟩
    exact SqL.of e
  · rintro i x σ H' hx ⟨e, t1, t2, t3, t4, t5, t6, rfl⟩
    obtain ⟨c, rfl⟩ := hall x (List.mem_of_getElem? hx)
    refine ⟨_, rfl, c, rfl, fun p H2 s2 n2 d2 => ?_⟩
    have nl : l ≠ p := ne_of_none e n2
    refine ⟨4, rfl, by decide, by decide, for_range (n := 4) (fun i σ H' => H' l = some (.lst (cs ++ [V.int 0])) ∧ Dr H' p (i * 40) ∧ ∃ t3 t4 t5 t6, σ = [some (.ref a), some (.int c), some (.ref p), t3, t4, t5, t6, none, none]) ?_ ?_ ?_⟩
    · exact ⟨s2 _ _ e, d2.mono (Nat.zero_le _), t3, t4, t5, t6, rfl⟩
    · rintro i σ H3 hi ⟨e3, d3, t3, t4, t5, t6, rfl⟩
      have i40 : i * 40 + 100 ≤ big := by
        have : i = 0 ∨ i = 1 ∨ i = 2 ∨ i = 3 := by omega
        rcases this with rfl | rfl | rfl | rfl <;> decide
      refine ⟨_, rfl, p, i * 40, by omega, d3, rfl, fun H4 g4 d4 => ⟨true, rfl, iteF ?_⟩⟩
      refine ⟨_, rfl, p, i * 40 + 17, by omega, d4, rfl, fun ro H5 xs g5 fro d5 e5 l5 x5 => ?_⟩
      have nro : ro ≠ p := d4.ne fro
      refine ⟨_, rfl, p, i * 40 + 17 + 21, by omega, d5, .cons rfl .nil, fun v H6 g6 d6 hv => ?_⟩
      obtain ⟨j, rfl, _, _⟩ := hv
      have l6 := g6 _ _ nl (g5 _ _ nl (g4 _ _ nl e3))
      have e6 := g6 _ _ nro e5
      have x6 : ∀ x ∈ xs, isGo H6 x := fun x h => (x5 x h).gx d5 g6
      refine ⟨_, _, rfl, rfl, (show (0 : Int) < 2 by decide), rfl, _, rfl, ?_⟩
      refine ite2 (fun _ => ?_) (fun _ => ?_)
      · refine ⟨_, rfl, _, rfl, p, ro, i * 40 + 17 + 21 + 1, xs, by omega, d6, rfl, nro, e6, l5, x6, fun ro HR ys gR fR dR eR lY hY => ?_⟩
        have lR := gR _ _ nl l6
        obtain ⟨ds, hds⟩ := ths_of hY
        refine ⟨_, rfl, ro, _, rfl, .inl (SqL.of eR), fun h fh => ?_⟩
        have sS : Same HR (upd HR h (.lst ys)) := same_new fh
        have ehS : upd HR h (.lst ys) h = some (.lst ys) := upd_same
        generalize upd HR h (.lst ys) = HS at *
        have eRS := sS _ _ eR
        have thS := hds.same sS
        have lYm : ys.length ≤ 900 := by omega
        have two (HX : Hp) (sX : Same HS HX) : Dp K HX (.ref h) (.list ds) ∧ Dp K HX (.ref ro) (.list ds) := ⟨.lst (SqL.of (sX _ _ ehS)) (ths_dp (thS.same sX)), .lst (SqL.of (sX _ _ eRS)) (ths_dp (thS.same sX))⟩
        have shp := ths_shaped thS
        have eqs := ths_eqv thS
        have dS := same_dr sS dR
        have lS := sS _ _ lR
        refine ⟨_, rfl, .inl ⟨h, ys, ds, rfl, ehS, lYm, thS, ?_⟩⟩
        cases hdu : dueD ds [] with
        | none =>
          intro HT sT
          refine ⟨_, rfl, _, rfl, ro, ys, ds, rfl, sT _ _ eRS, lYm, thS.same sT, ?_⟩
          rw [hdu]
          intro HU sU
          refine ⟨_, _, .non, .non, rfl, rfl, _, rfl, iteF ?_⟩
          have sTU := sT.trans sU
          refine ⟨_, rfl, _, rfl, _, _, (two _ sTU).1, (two _ sTU).2, shp, shp, _, rfl, ?_⟩
          rw [eqs]
          refine iteF ⟨_, rfl, rfl, rfl, .inl ⟨ro, ys, ds, rfl, sTU _ _ eRS, lYm, thS.same sTU, ?_⟩⟩
          rw [hdu]
          intro HV sV
          have sTV := sTU.trans sV
          refine ⟨_, rfl, _, _, .non, .non, rfl, rfl, _, rfl, iteF ?_⟩
          refine ⟨_, rfl, rfl, _, rfl, ite_f (by simp) ?_⟩
          exact ⟨sTV _ _ lS, (same_dr sTV dS).mono (by omega), _, _, _, _, rfl⟩
        | some ns =>
          intro T1 HT sT fT1 eT1
          refine ⟨_, rfl, _, rfl, ro, ys, ds, rfl, sT _ _ eRS, lYm, thS.same sT, ?_⟩
          rw [hdu]
          intro T2 HU sU fT2 eT2
          have iT1 := sU _ _ eT1
          refine ⟨_, _, .lst (SqL.of iT1) (flat_dp (flv_ints ns)), .lst (SqL.of eT2) (flat_dp (flv_ints ns)), flat_shaped (flv_ints ns), flat_shaped (flv_ints ns), _, rfl, ?_⟩
          rw [eqv_ints]
          refine ite_f (by simp) ?_
          have sTU := sT.trans sU
          refine ⟨_, rfl, _, rfl, _, _, (two _ sTU).1, (two _ sTU).2, shp, shp, _, rfl, ?_⟩
          rw [eqs]
          refine iteF ⟨_, rfl, rfl, rfl, .inl ⟨ro, ys, ds, rfl, sTU _ _ eRS, lYm, thS.same sTU, ?_⟩⟩
          rw [hdu]
          intro T3 HV sV fT3 eT3
          have sTV := sTU.trans sV
          refine ⟨_, rfl, _, _, .lst (SqL.of eT3) (flat_dp (flv_ints ns)), .lst (SqL.of (sV _ _ iT1)) (flat_dp (flv_ints ns)), flat_shaped (flv_ints ns), flat_shaped (flv_ints ns), _, rfl, ?_⟩
          rw [eqv_ints]
          refine ite_f (by simp) ?_
          refine ⟨_, rfl, rfl, _, rfl, ite_t (by simp) ?_⟩
          have lns : ns.length ≤ 900 := by
            have := due_len hdu
            rw [hds.len] at this
            simp at this
            omega
          refine ⟨_, rfl, .inl ⟨rfl, _, SqL.of (sV _ _ iT1)⟩, T1, _, _, rfl, rfl, sV _ _ iT1, small1000 (by rw [List.length_map]; omega), ?_, ?_, _, _, _, _, rfl⟩
          · rw [upd_ne (fun e => by rw [e, fT1] at lS; cases lS)]
            exact sTV _ _ lS
          · exact ((same_dr sTV dS).upd (dS.ne fT1)).mono (by omega)
      · have hY : ∀ x ∈ xs, ∃ d, Th H6 x d := fun x h => (x6 x h).th
        have lR := l6
        have eR := e6
        have dR := d6
        have lY : xs.length ≤ 70 := by omega
        generalize xs = ys at *
        generalize H6 = HR at *
        obtain ⟨ds, hds⟩ := ths_of hY
        refine ⟨_, rfl, ro, _, rfl, .inl (SqL.of eR), fun h fh => ?_⟩
        have sS : Same HR (upd HR h (.lst ys)) := same_new fh
        have ehS : upd HR h (.lst ys) h = some (.lst ys) := upd_same
        generalize upd HR h (.lst ys) = HS at *
        have eRS := sS _ _ eR
        have thS := hds.same sS
        have lYm : ys.length ≤ 900 := by omega
        have two (HX : Hp) (sX : Same HS HX) : Dp K HX (.ref h) (.list ds) ∧ Dp K HX (.ref ro) (.list ds) := ⟨.lst (SqL.of (sX _ _ ehS)) (ths_dp (thS.same sX)), .lst (SqL.of (sX _ _ eRS)) (ths_dp (thS.same sX))⟩
        have shp := ths_shaped thS
        have eqs := ths_eqv thS
        have dS := same_dr sS dR
        have lS := sS _ _ lR
        refine ⟨_, rfl, .inl ⟨h, ys, ds, rfl, ehS, lYm, thS, ?_⟩⟩
        cases hdu : dueD ds [] with
        | none =>
          intro HT sT
          refine ⟨_, rfl, _, rfl, ro, ys, ds, rfl, sT _ _ eRS, lYm, thS.same sT, ?_⟩
          rw [hdu]
          intro HU sU
          refine ⟨_, _, .non, .non, rfl, rfl, _, rfl, iteF ?_⟩
          have sTU := sT.trans sU
          refine ⟨_, rfl, _, rfl, _, _, (two _ sTU).1, (two _ sTU).2, shp, shp, _, rfl, ?_⟩
          rw [eqs]
          refine iteF ⟨_, rfl, rfl, rfl, .inl ⟨ro, ys, ds, rfl, sTU _ _ eRS, lYm, thS.same sTU, ?_⟩⟩
          rw [hdu]
          intro HV sV
          have sTV := sTU.trans sV
          refine ⟨_, rfl, _, _, .non, .non, rfl, rfl, _, rfl, iteF ?_⟩
          refine ⟨_, rfl, rfl, _, rfl, ite_f (by simp) ?_⟩
          exact ⟨sTV _ _ lS, (same_dr sTV dS).mono (by omega), _, _, _, _, rfl⟩
        | some ns =>
          intro T1 HT sT fT1 eT1
          refine ⟨_, rfl, _, rfl, ro, ys, ds, rfl, sT _ _ eRS, lYm, thS.same sT, ?_⟩
          rw [hdu]
          intro T2 HU sU fT2 eT2
          have iT1 := sU _ _ eT1
          refine ⟨_, _, .lst (SqL.of iT1) (flat_dp (flv_ints ns)), .lst (SqL.of eT2) (flat_dp (flv_ints ns)), flat_shaped (flv_ints ns), flat_shaped (flv_ints ns), _, rfl, ?_⟩
          rw [eqv_ints]
          refine ite_f (by simp) ?_
          have sTU := sT.trans sU
          refine ⟨_, rfl, _, rfl, _, _, (two _ sTU).1, (two _ sTU).2, shp, shp, _, rfl, ?_⟩
          rw [eqs]
          refine iteF ⟨_, rfl, rfl, rfl, .inl ⟨ro, ys, ds, rfl, sTU _ _ eRS, lYm, thS.same sTU, ?_⟩⟩
          rw [hdu]
          intro T3 HV sV fT3 eT3
          have sTV := sTU.trans sV
          refine ⟨_, rfl, _, _, .lst (SqL.of eT3) (flat_dp (flv_ints ns)), .lst (SqL.of (sV _ _ iT1)) (flat_dp (flv_ints ns)), flat_shaped (flv_ints ns), flat_shaped (flv_ints ns), _, rfl, ?_⟩
          rw [eqv_ints]
          refine ite_f (by simp) ?_
          refine ⟨_, rfl, rfl, _, rfl, ite_t (by simp) ?_⟩
          have lns : ns.length ≤ 900 := by
            have := due_len hdu
            rw [hds.len] at this
            simp at this
            omega
          refine ⟨_, rfl, .inl ⟨rfl, _, SqL.of (sV _ _ iT1)⟩, T1, _, _, rfl, rfl, sV _ _ iT1, small1000 (by rw [List.length_map]; omega), ?_, ?_, _, _, _, _, rfl⟩
          · rw [upd_ne (fun e => by rw [e, fT1] at lS; cases lS)]
            exact sTV _ _ lS
          · exact ((same_dr sTV dS).upd (dS.ne fT1)).mono (by omega)
    · rintro σ H3 ⟨e3, d3, t3, t4, t5, t6, rfl⟩
      exact ⟨e3, _, _, _, _, _, _, rfl⟩
  · rintro σ H' ⟨e, t1, t2, t3, t4, t5, t6, rfl⟩
    refine ⟨(by show 0 ≤ sizeLine; decide), fun E1 fE1 => ?_⟩
    have s21 : Same H' (upd H' E1 (.tup [])) := same_new fE1
    have eE1 : upd H' E1 (.tup []) E1 = some (.tup []) := upd_same
    generalize upd H' E1 (.tup []) = K21 at *
    refine ⟨(by show 2 ≤ sizeLine; decide), fun E2 fE2 => ?_⟩
    have s22 : Same K21 (upd K21 E2 (.tup [.str "in", .int 1])) := same_new fE2
    have eE2 : upd K21 E2 (.tup [.str "in", .int 1]) E2 = some (.tup [.str "in", .int 1]) := upd_same
    generalize upd K21 E2 (.tup [.str "in", .int 1]) = K22 at *
    refine ⟨(by show 1 ≤ sizeLine; decide), fun E3 fE3 => ?_⟩
    have s23 : Same K22 (upd K22 E3 (.tup [.ref E2])) := same_new fE3
    have eE3 : upd K22 E3 (.tup [.ref E2]) E3 = some (.tup [.ref E2]) := upd_same
    generalize upd K22 E3 (.tup [.ref E2]) = K23 at *
    refine ⟨(by show 2 ≤ sizeLine; decide), fun E4 fE4 => ?_⟩
    have s24 : Same K23 (upd K23 E4 (.tup [.str "in", .int 1])) := same_new fE4
    have eE4 : upd K23 E4 (.tup [.str "in", .int 1]) E4 = some (.tup [.str "in", .int 1]) := upd_same
    generalize upd K23 E4 (.tup [.str "in", .int 1]) = K24 at *
    refine ⟨(by show 0 ≤ sizeLine; decide), fun E5 fE5 => ?_⟩
    have s25 : Same K24 (upd K24 E5 (.lst [])) := same_new fE5
    have eE5 : upd K24 E5 (.lst []) E5 = some (.lst []) := upd_same
    generalize upd K24 E5 (.lst []) = K25 at *
    refine ⟨(by show 1 ≤ sizeLine; decide), fun E6 fE6 => ?_⟩
    have s26 : Same K25 (upd K25 E6 (.lst [.ref E5])) := same_new fE6
    have eE6 : upd K25 E6 (.lst [.ref E5]) E6 = some (.lst [.ref E5]) := upd_same
    generalize upd K25 E6 (.lst [.ref E5]) = K26 at *
    refine ⟨(by show 8 ≤ sizeLine; decide), fun LL fLL => ?_⟩
    have s27 : Same K26 (upd K26 LL (.lst [V.non, .int 0, .str "in", .ref E1, .ref E3, .ref E4, .bl true, .ref E6])) := same_new fLL
    have eLL : upd K26 LL (.lst [V.non, .int 0, .str "in", .ref E1, .ref E3, .ref E4, .bl true, .ref E6]) LL = some (.lst [V.non, .int 0, .str "in", .ref E1, .ref E3, .ref E4, .bl true, .ref E6]) := upd_same
    generalize upd K26 LL (.lst [V.non, .int 0, .str "in", .ref E1, .ref E3, .ref E4, .bl true, .ref E6]) = K27 at *
    have hno : ∀ x ∈ [V.non, .int 0, .str "in", .ref E1, .ref E3, .ref E4, .bl true, .ref E6], ∀ (HX : Hp) (QX : VK) (EX : XK), Same K27 HX → (∀ HY, Same HX HY → QX .non HY) → spLeft [x] HX QX EX := by
      intro x hx HX QX EX sX qX
      have s26a := s26
      have s26 := s27.trans sX
      simp only [List.mem_cons, List.not_mem_nil, or_false] at hx
      rcases hx with rfl | rfl | rfl | rfl | rfl | rfl | rfl | rfl
      · exact .inr ⟨_, rfl, .non, qX⟩
      · exact .inr ⟨_, rfl, .int _, qX⟩
      · exact .inr ⟨_, rfl, .str _, qX⟩
      · exact .inr ⟨_, rfl, .tup ((s22.trans (s23.trans (s24.trans (s25.trans (s26a.trans s26))))) _ _ eE1), qX⟩
      · exact .inr ⟨_, rfl, .tup ((s24.trans (s25.trans (s26a.trans s26))) _ _ eE3), qX⟩
      · exact .inr ⟨_, rfl, .tup ((s25.trans (s26a.trans s26)) _ _ eE4), qX⟩
      · exact .inr ⟨_, rfl, .bl _, qX⟩
      · exact .inl ⟨E6, [.ref E5], [.list []], rfl, s26 _ _ eE6, (by show 1 ≤ 900; decide), .cons (.lst (xs := []) ((s26a.trans s26) _ _ eE5) (fun _ h => nomatch h)) .nil, qX⟩
    refine ⟨LL, rfl, ⟨_, SqL.of eLL⟩, fun D hD => ?_⟩
    refine lc_list (xs := [V.non, .int 0, .str "in", .ref E1, .ref E3, .ref E4, .bl true, .ref E6]) (fun u H' => Same K27 H' ∧ H' D = some (.lst (List.replicate u V.non))) ?_ ?_ ?_ ?_
    · exact ⟨same_new hD, upd_same⟩
    · rintro u H' _ ⟨h, _⟩
      exact SqL.of (h _ _ eLL)
    · rintro u x H' hx ⟨h, hd⟩
      have lu : u < 8 := (List.getElem?_eq_some_iff.mp hx).1
      refine ⟨wipe_one _ 8 _, _, rfl, hno x (List.mem_of_getElem? hx) _ _ _ h fun HY sY => ⟨_, sY _ _ hd, small1000 (by rw [List.length_replicate]; omega), same_grow (h.trans sY) hD, ?_⟩⟩
      rw [upd_same, List.replicate_succ']
    rintro H9 ⟨s9, e9⟩
    have e9 : H9 D = some (.lst [.non, .non, .non, .non, .non, .non, .non, .non]) := e9
    refine ⟨_, rfl, (by show 1 ≤ sizeLine; decide), fun N1 h1 => ?_⟩
    refine ⟨N1, 8, _, rfl, rfl, upd_same, by decide, by decide, by decide, fun N2 h2 => ?_⟩
    have sN : Same H9 (upd (upd H9 N1 (.lst [.non])) N2 (.lst (List.replicate (8 : Int).toNat [V.non]).flatten)) := (same_new h1).trans (same_new h2)
    have eN : upd (upd H9 N1 (.lst [.non])) N2 (.lst (List.replicate (8 : Int).toNat [V.non]).flatten) N2 = some (.lst [.non, .non, .non, .non, .non, .non, .non, .non]) := upd_same
    generalize upd (upd H9 N1 (.lst [.non])) N2 (.lst (List.replicate (8 : Int).toNat [V.non]).flatten) = H10 at *
    have fl8 : ∀ x ∈ [V.non, .non, .non, .non, .non, .non, .non, .non], FlV x := fun x hx => by
      simp at hx
      rw [hx]
      exact .non
    refine ⟨_, _, .lst (SqL.of (sN _ _ e9)) (flat_dp fl8), .lst (SqL.of eN) (flat_dp fl8), flat_shaped fl8, flat_shaped fl8, true, ?_, iteT ?_⟩
    · exact congrArg V.bl (fls_eqv fl8)
    refine ⟨(by show 0 ≤ sizeLine; decide), fun N3 h3 => ?_⟩
    refine .inl ⟨N3, [], [], rfl, upd_same, by decide, .nil, ?_⟩
    intro T HT sT fT eT
    refine ⟨(by show 0 ≤ sizeLine; decide), fun N4 h4 => ?_⟩
    refine ⟨_, _, .lst (SqL.of (same_new h4 _ _ eT)) .nil, .lst (SqL.of upd_same) .nil, rfl, rfl, ?_⟩
    exact q _
end
end Wp
set_option Elab.async false
set_option linter.all false
set_option maxRecDepth 100000
namespace Wp
open PySem PySem.Spec PyProof.Rows L2
-- between: slots one 0, two 1, many 2
abbrev sbetween : Stmt := top 4
theorem scbetween : FnScope ["one", "two", "many"] ["one", "two"] (defScope sbetween) := ⟨rfl, rfl, rfl, by decide +kernel, rfl, by decide +kernel, by decide +kernel⟩
abbrev slbetween : List Str := ["one", "two", "many"]
-- left_in: slots row 0, inside 1, thing 2, way 3, number 4
abbrev sleft_in : Stmt := top 6
theorem scleft_in : FnScope ["row", "inside", "thing", "way", "number"] ["row"] (defScope sleft_in) := ⟨rfl, rfl, rfl, by decide +kernel, rfl, by decide +kernel, by decide +kernel⟩
abbrev slleft_in : List Str := ["row", "inside", "thing", "way", "number"]
theorem kb_between {K : PySem.W.Frag} {f : Addr} {fd : FuncData} (F : Fun K "between" "between" sbetween f fd) : KBn K fd ["one", "two"] 0 ["two", "one"] gTurn gTurn := by
  obtain ⟨oc, od, kV, doc, pm, an, cdv, ct, osl, rfl, lk, hcd⟩ := F.ex
  refine ⟨fun s us ws X l1 l2 => ?_, fun _ r => r.reverse⟩
  match us, ws, l1, l2 with
  | [], [u, v], _, _ => exact .of_eq rfl
theorem kb_left {K : PySem.W.Frag} {f : Addr} {fd : FuncData} (F : Fun K "left_in" "left_in" sleft_in f fd) : KBn K fd ["row"] 0 ["row"] g1 g1 := by
  obtain ⟨oc, od, kV, doc, pm, an, cdv, ct, osl, rfl, lk, hcd⟩ := F.ex
  refine ⟨fun s us ws X l1 l2 => ?_, fun _ r => r⟩
  match us, ws, l1, l2 with
  | [], [u], _, _ => exact .of_eq rfl
end Wp
set_option Elab.async false
set_option linter.all false
set_option maxRecDepth 100000
namespace Wp
open PySem PySem.Spec PyProof.Rows L2
-- in_common: slots one 0, two 1, many 2, number 3, other 4
abbrev sin_common : Stmt := top 3
theorem scin_common : FnScope ["one", "two", "many", "number", "other"] ["one", "two"] (defScope sin_common) := ⟨rfl, rfl, rfl, by decide +kernel, rfl, by decide +kernel, by decide +kernel⟩
abbrev slin_common : List Str := ["one", "two", "many", "number", "other"]
-- is_whole: slots thing 0
abbrev sis_whole : Stmt := top 1
theorem scis_whole : FnScope ["thing"] ["thing"] (defScope sis_whole) := ⟨rfl, rfl, rfl, by decide +kernel, rfl, by decide +kernel, by decide +kernel⟩
abbrev slis_whole : List Str := ["thing"]
-- is_winding: slots thing 0, way 1, number 2
abbrev sis_winding : Stmt := top 5
theorem scis_winding : FnScope ["thing", "way", "number"] ["thing"] (defScope sis_winding) := ⟨rfl, rfl, rfl, by decide +kernel, rfl, by decide +kernel, by decide +kernel⟩
abbrev slis_winding : List Str := ["thing", "way", "number"]
theorem com_at : ∀ (l m : List Int) (i : Nat) (a b : Int), i ≤ com l m → l[i]? = some a → m[i]? = some b → (a = b → i + 1 ≤ com l m) ∧ (a ≠ b → com l m = i)
  | [], _, _, _, _, _, h, _ => by simp at h
  | _ :: _, [], _, _, _, _, _, h => by simp at h
  | x :: l, y :: m, 0, a, b, _, h1, h2 => by
    obtain rfl : x = a := by simpa using h1
    obtain rfl : y = b := by simpa using h2
    unfold com
    constructor
    · intro e
      rw [if_pos e]
      omega
    · intro e
      rw [if_neg e]
  | x :: l, y :: m, i + 1, a, b, h, h1, h2 => by
    unfold com at h ⊢
    by_cases e : x = y
    · rw [if_pos e] at h ⊢
      have := com_at l m i a b (by omega) (by simpa using h1) (by simpa using h2)
      constructor
      · intro q
        have := this.1 q
        omega
      · intro q
        have := this.2 q
        omega
    · rw [if_neg e] at h
      omega
def spCom : Sp := fun vs H Q _ => ∃ (x y : Addr) (ms ns : List Int), vs = [.ref x, .ref y] ∧ H x = some (.lst (ms.map V.int)) ∧ H y = some (.lst (ns.map V.int)) ∧ ∀ H', Same H H' → Q (.int (com ms ns : Nat)) H'
def isI : V → Bool
  | .int _ => true
  | _ => false
def spWhole : Sp := fun vs H Q _ => ∃ x, vs = [x] ∧ FlV x ∧ Q (.bl (isI x)) H
def spWin : Sp := fun vs H Q _ => ∃ v d, vs = [v] ∧ Th H v d ∧ ∀ H', Same H H' → Q (.bl (goD d).isSome) H'
section
variable {P : Program} {w : World} {K : PySem.W.Frag} {mg : Str → Option Value} {base : Heap} {f : Addr} {fd : FuncData}
theorem ok_common (F : Fun K "in_common" "in_common" sin_common f fd) (m_zip : mg "zip" = none) : FnOk P w K mg base CX0 1 f fd ["one", "two"] spCom := by
  refine F.ok scin_common (fun vs H Q E h => ?_) (fun cdv A outer s H vs Q E hr h => ?_)
  · obtain ⟨x, y, ms, ns, rfl, _⟩ := h
    rfl
  obtain ⟨x, y, ms, ns, rfl, hx, hy, q⟩ := h
  refine ⟨_, (pss_cons (ps_set (i := 2) scin_common.nd rfl (.inl rfl) pe_int)
  (pss_cons (ps_for PassesOwn.never rfl (RZ.pi_zipA rfl m_zip (pa_cons (pv 0) (pa_cons (pv 1) pa_nil))) (pg_tup rfl (pgs_cons (pg_name (i := 3) scin_common.nd rfl (.inl rfl)) (pgs_cons (pg_name (i := 4) scin_common.nd rfl (.inl rfl)) pgs_nil))) (pss_cons (ps_if (pt_cmpR op_ne (pv 3) (pv 4) (nomark _)) (pss_one ps_break) pss_nil)
  (pss_one (ps_aug (i := 2) scin_common.nd rfl (.inl rfl) pe_int ip_add))))
  (pss_one (ps_ret (pv 2))))), ?_⟩
  refine ⟨_, rfl, _, rfl, x, y, _, _, rfl, .inl ⟨SqL.of hx, SqL.of hy, for_it (walk_zip (xs := ms.map V.int) (ys := ns.map V.int) rfl) (fun i σ H' => Same H H' ∧ i ≤ com ms ns ∧ ∃ t3 t4, σ = [some (.ref x), some (.ref y), some (.int (i : Nat)), t3, t4]) ?_ ?_ ?_ ?_⟩⟩
  · exact ⟨Same.refl _, Nat.zero_le _, none, none, rfl⟩
  · rintro i σ H' _ ⟨g, _⟩
    exact ⟨SqL.of (g _ _ hx), SqL.of (g _ _ hy)⟩
  · rintro i z σ H1 H2 hi ⟨g, li, t3, t4, rfl⟩ ⟨T, u, v, rfl, hT, rfl, eu, ev⟩
    obtain ⟨a, ea, rfl⟩ := Option.map_eq_some_iff.mp (by rw [← List.getElem?_map]; exact eu)
    obtain ⟨b, eb, rfl⟩ := Option.map_eq_some_iff.mp (by rw [← List.getElem?_map]; exact ev)
    have c := com_at ms ns i a b li ea eb
    refine ⟨T, _, rfl, SqT.of upd_same, rfl, _, _, rfl, _, _, rfl, rfl, ?_⟩
    refine ⟨_, rfl, _, rfl, rfl, _, rfl, ?_⟩
    by_cases e : a = b
    · refine ite_f (by simp [e]) ?_
      exact ⟨_, rfl, _, _, rfl, rfl, g.trans (same_new hT), c.1 e, some (.int a), some (.int b), rfl⟩
    · refine ite_t (by simp [e]) ?_
      refine ⟨_, rfl, ?_⟩
      rw [← c.2 e]
      exact q _ (g.trans (same_new hT))
  · rintro σ H' ⟨g, li, t3, t4, rfl⟩
    have := com_le ms ns
    rw [List.length_map, List.length_map] at li ⊢
    refine ⟨_, rfl, ?_⟩
    rw [show min ms.length ns.length = com ms ns by omega]
    exact q _ g
theorem ok_between (F : Fun K "between" "between" sbetween f fd) (Gin_common : Has P w K mg base "in_common" ["one", "two"] 1 spCom) : FnOk P w K mg base CX0 2 f fd ["one", "two"] spBet := by
  refine F.ok scbetween (fun vs H Q E h => ?_) (fun cdv A outer s H vs Q E hr h => ?_)
  · obtain ⟨x, y, ms, ns, rfl, _⟩ := h
    rfl
  obtain ⟨x, y, ms, ns, rfl, hx, hy, lm, ln, q⟩ := h
  refine ⟨_, (pss_cons (ps_set (i := 2) scbetween.nd rfl (.inl rfl) (pe_has Gin_common (hr.mono (by omega)) (pa_cons (pv 0) (pa_cons (pv 1) pa_nil))))
  (pss_one (ps_ret (pe_tup (pa_cons (pe_revL (pe_slice sl_list (pv 0) (po_some (pv 2)) po_none)) (pa_cons (pe_slice sl_list (pv 1) (po_some (pv 2)) po_none) pa_nil)))))), ?_⟩
  refine ⟨_, rfl, _, rfl, x, y, ms, ns, rfl, hx, hy, fun H1 s1 => ?_⟩
  have hx := s1 _ _ hx
  have hy := s1 _ _ hy
  have ecm : cutV (ms.map V.int) (some ((com ms ns : Nat) : Int)) none = (ms.drop (com ms ns)).map V.int := by rw [cutV_from, List.map_drop]
  have eck : cutV (ns.map V.int) (some ((com ms ns : Nat) : Int)) none = (ns.drop (com ms ns)).map V.int := by rw [cutV_from, List.map_drop]
  refine ⟨_, rfl, _, rfl, _, rfl, x, _, rfl, SqL.of hx, fun c1 hc1 => ?_⟩
  have s2 : Same H1 (upd H1 c1 (.lst (cutV (ms.map V.int) (some ((com ms ns : Nat) : Int)) none))) := same_new hc1
  have e1 : upd H1 c1 (.lst (cutV (ms.map V.int) (some ((com ms ns : Nat) : Int)) none)) c1 = some (.lst ((ms.drop (com ms ns)).map V.int)) := by rw [upd_same, ecm]
  generalize upd H1 c1 (.lst (cutV (ms.map V.int) (some ((com ms ns : Nat) : Int)) none)) = H2 at *
  refine ⟨c1, _, rfl, SqL.of e1, fun c2 hc2 => ?_⟩
  have s3 : Same H2 (upd H2 c2 (.lst ((ms.drop (com ms ns)).map V.int).reverse)) := same_new hc2
  have e2 : upd H2 c2 (.lst ((ms.drop (com ms ns)).map V.int).reverse) c2 = some (.lst ((ms.drop (com ms ns)).reverse.map V.int)) := by rw [upd_same, List.map_reverse]
  generalize upd H2 c2 (.lst ((ms.drop (com ms ns)).map V.int).reverse) = H3 at *
  refine ⟨_, rfl, _, rfl, _, rfl, y, _, rfl, SqL.of (s3 _ _ (s2 _ _ hy)), fun c3 hc3 => ?_⟩
  have s4 : Same H3 (upd H3 c3 (.lst (cutV (ns.map V.int) (some ((com ms ns : Nat) : Int)) none))) := same_new hc3
  have e3 : upd H3 c3 (.lst (cutV (ns.map V.int) (some ((com ms ns : Nat) : Int)) none)) c3 = some (.lst ((ns.drop (com ms ns)).map V.int)) := by rw [upd_same, eck]
  have n23 : c2 ≠ c3 := ne_of_none e2 hc3
  generalize upd H3 c3 (.lst (cutV (ns.map V.int) (some ((com ms ns : Nat) : Int)) none)) = H4 at *
  refine ⟨(by show 2 ≤ sizeLine; decide), fun t ht => ?_⟩
  have s5 : Same H4 (upd H4 t (.tup [.ref c2, .ref c3])) := same_new ht
  refine q t c2 c3 _ (s1.trans (s2.trans (s3.trans (s4.trans s5)))) ?_ ?_ ?_ n23 upd_same (s5 _ _ (s4 _ _ e2)) (s5 _ _ e3)
  · exact same_none (s1.trans (s2.trans (s3.trans s4))) ht
  · exact same_none (s1.trans s2) hc2
  · exact same_none (s1.trans (s2.trans s3)) hc3
theorem ok_whole (F : Fun K "is_whole" "is_whole" sis_whole f fd) (m_isinstance : mg "isinstance" = none) (m_int : mg "int" = none) (m_bool : mg "bool" = none) : FnOk P w K mg base CX0 1 f fd ["thing"] spWhole := by
  refine F.ok scis_whole (fun vs H Q E h => ?_) (fun cdv A outer s H vs Q E hr h => ?_)
  · obtain ⟨x, rfl, _⟩ := h
    rfl
  obtain ⟨x, rfl, fl, q⟩ := h
  refine ⟨_, (pss_one (ps_ret (pe_and (pe_callB call_isi rfl m_isinstance PyProof.Rows.Boot.isinstance (pa_cons (pv 0) (pa_cons (pe_bltn (v := .ty "int") rfl m_int PyProof.Rows.Boot.«int» rfl) pa_nil))) (pe_one (pe_not (pe_callB call_isi rfl m_isinstance PyProof.Rows.Boot.isinstance (pa_cons (pv 0) (pa_cons (pe_bltn (v := .ty "bool") rfl m_bool PyProof.Rows.Boot.«bool» rfl) pa_nil)))))))), ?_⟩
  cases fl with
  | non => exact ⟨_, rfl, _, _, _, _, false, rfl, .ty "int", .base .non, kit_ty (by decide +kernel), _, rfl, iteF q⟩
  | str z hz => exact ⟨_, rfl, _, _, _, _, false, rfl, .ty "int", .base (.str z), kit_ty (by decide +kernel), _, rfl, iteF q⟩
  | int i => exact ⟨_, rfl, _, _, _, _, true, rfl, .ty "int", .base (.int i), kit_ty (by decide +kernel), _, rfl, iteT ⟨_, rfl, _, _, _, _, false, rfl, .ty "bool", .base (.int i), kit_ty (by decide +kernel), _, rfl, q⟩⟩
  | bl b => exact ⟨_, rfl, _, _, _, _, true, rfl, .ty "int", .base (.bl b), kit_ty (by decide +kernel), _, rfl, iteT ⟨_, rfl, _, _, _, _, true, rfl, .ty "bool", .base (.bl b), kit_ty (by decide +kernel), _, rfl, q⟩⟩
theorem ok_winding (F : Fun K "is_winding" "is_winding" sis_winding f fd) (Gis_whole : Has P w K mg base "is_whole" ["thing"] 1 spWhole) (m_isinstance : mg "isinstance" = none) (m_tuple : mg "tuple" = none) (m_str : mg "str" = none) (m_len : mg "len" = none) : FnOk P w K mg base CX0 2 f fd ["thing"] spWin := by
  refine F.ok scis_winding (fun vs H Q E h => ?_) (fun cdv A outer s H vs Q E hr h => ?_)
  · obtain ⟨v, d, rfl, _⟩ := h
    rfl
  obtain ⟨v, d, rfl, hd, q⟩ := h
  refine ⟨_, (pss_cons (ps_if (PW.pt (pw_or (pt_not (pt_val (pe_callB call_isi rfl m_isinstance PyProof.Rows.Boot.isinstance (pa_cons (pv 0) (pa_cons (pe_bltn (v := .ty "tuple") rfl m_tuple PyProof.Rows.Boot.«tuple» rfl) pa_nil))))) (pw_or1 (pt_cmpR op_ne (pe_callB call_len_seq rfl m_len PySem.boot_len (pa_cons (pv 0) pa_nil)) pe_int (nomark _))))) (pss_one (ps_ret pe_bl)) pss_nil)
  (pss_cons (ps_asg (pv 0) (pg_tup rfl (pgs_cons (pg_name (i := 1) scis_winding.nd rfl (.inl rfl)) (pgs_cons (pg_name (i := 2) scis_winding.nd rfl (.inl rfl)) pgs_nil))))
  (pss_one (ps_ret (pe_and (pe_callB call_isi rfl m_isinstance PyProof.Rows.Boot.isinstance (pa_cons (pv 1) (pa_cons (pe_bltn (v := .ty "str") rfl m_str PyProof.Rows.Boot.«str» rfl) pa_nil))) (pe_and (pe_cmpR op_in_seq (pv 1) (pe_tup (pa_cons pe_str (pa_cons pe_str pa_nil))) rfl) (pe_one (pe_has Gis_whole (hr.mono (by omega)) (pa_cons (pv 2) pa_nil))))))))), ?_⟩
  have no : goD d = none → ∀ H2, Same H H2 → Q (.bl false) H2 := fun g H2 s2 => by
    have := q H2 s2
    rw [g] at this
    exact this
  cases hd with
  | non => exact ⟨_, rfl, _, _, _, _, false, rfl, .ty "tuple", .base .non, kit_ty (by decide +kernel), _, rfl, iteT (iteT (no rfl _ (Same.refl _)))⟩
  | str z hz => exact ⟨_, rfl, _, _, _, _, false, rfl, .ty "tuple", .base (.str z), kit_ty (by decide +kernel), _, rfl, iteT (iteT (no rfl _ (Same.refl _)))⟩
  | lst hl fl => exact ⟨_, rfl, _, _, _, _, false, rfl, .ty "tuple", .base (.lst hl), kit_ty (by decide +kernel), _, rfl, iteT (iteT (no rfl _ (Same.refl _)))⟩
  | @tup u us hl nl fl =>
    refine ⟨_, rfl, _, _, _, _, true, rfl, .ty "tuple", .base (.tup hl), kit_ty (by decide +kernel), _, rfl, iteF ?_⟩
    refine ⟨_, rfl, u, us, rfl, .inr (SqT.of hl), rfl, _, rfl, ite_t (by simp; omega) (no ?_ _ (Same.refl _))⟩
    match us, nl with
    | [], _ => rfl
    | [_], _ => rfl
    | [_, _], nl => exact absurd rfl nl
    | _ :: _ :: _ :: _, _ => rfl
  | @two u w x hl hcw fl =>
    refine ⟨_, rfl, _, _, _, _, true, rfl, .ty "tuple", .base (.tup hl), kit_ty (by decide +kernel), _, rfl, iteF ?_⟩
    refine ⟨_, rfl, u, _, rfl, .inr (SqT.of hl), rfl, _, rfl, ite_f (by simp) ?_⟩
    refine ⟨_, rfl, u, _, rfl, SqT.of hl, rfl, _, _, rfl, _, _, rfl, rfl, ?_⟩
    refine ⟨_, rfl, _, _, _, _, true, rfl, .ty "str", .base (.str w), kit_ty (by decide +kernel), _, rfl, iteT ?_⟩
    refine ⟨_, rfl, (by show 2 ≤ sizeLine; decide), fun L hL => ?_⟩
    have sL : Same H (upd H L (.tup [.str "in", .str "out"])) := same_new hL
    have eL : upd H L (.tup [.str "in", .str "out"]) L = some (.tup [.str "in", .str "out"]) := upd_same
    generalize upd H L (.tup [.str "in", .str "out"]) = H2 at *
    refine ⟨L, _, rfl, .inr (SqT.of eL), rfl, rfl, _, rfl, ?_⟩
    show if inV (.str w) [.str "in", .str "out"] = true then _ else _
    rw [in_out]
    by_cases hw : w = "in" ∨ w = "out"
    · refine ite_t (decide_eq_true hw) ⟨_, rfl, x, rfl, fl, ?_⟩
      have := q H2 sL
      have e : (goD (.tuple [.str w, dV x])).isSome = isI x := by
        show (go2 (.str w) (dV x)).isSome = _
        have ne : ¬ (("out" : Str) = "in") := by decide +kernel
        rcases hw with rfl | rfl <;> cases fl <;> simp [go2, dV, isI, ne]
      rw [e] at this
      exact this
    · refine ite_f (decide_eq_false hw) ?_
      have e : goD (.tuple [.str w, dV x]) = none := by
        show go2 (.str w) (dV x) = none
        have h1 : ¬ w = "in" := fun h => hw (.inl h)
        have h2 : ¬ w = "out" := fun h => hw (.inr h)
        cases fl <;> simp [go2, dV, h1, h2]
      exact no e H2 sL
theorem drop_last1 (ns : List Int) : cutV (ns.map V.int) (some (-1)) none = (ns.drop (ns.length - 1)).map V.int := by
  have e : HT.sIx (ns.map V.int).length 0 (some (-1)) = ns.length - 1 := by
    show (if (-1 : Int) < 0 then (-1 + ((ns.map V.int).length : Int)).toNat else min (-1 : Int).toNat (ns.map V.int).length) = _
    rw [if_pos (by decide), List.length_map]
    omega
  unfold cutV
  rw [e, HT.sIx_none, List.take_of_length_le (by rw [List.length_drop]; exact Nat.le_refl _), List.map_drop]
theorem last1 (ns : List Int) (n : Int) : ns.drop (ns.length - 1) = [n] ↔ ns.getLast? = some n := by
  rw [List.getLast?_eq_getElem?]
  by_cases h : ns = []
  · subst h
    simp
  · have l0 : 0 < ns.length := List.length_pos_iff.mpr h
    have h1 : ns.length - 1 < ns.length := by omega
    rw [List.drop_eq_getElem_cons h1, List.drop_eq_nil_of_le (by omega), List.getElem?_eq_getElem h1]
    simp
theorem ok_left (F : Fun K "left_in" "left_in" sleft_in f fd) (Gis_winding : Has P w K mg base "is_winding" ["thing"] 2 spWin) (m_isinstance : mg "isinstance" = none) (m_list : mg "list" = none) : FnOk P w K mg base CX0 3 f fd ["row"] spLeft := by
  refine F.ok scleft_in (fun vs H Q E h => ?_) (fun cdv A outer s H vs Q E hr h => ?_)
  · rcases h with ⟨r, xs, ds, rfl, _⟩ | ⟨v, rfl, _⟩ <;> rfl
  refine ⟨_, (pss_cons (ps_if (pt_not (pt_val (pe_callB call_isi rfl m_isinstance PyProof.Rows.Boot.isinstance (pa_cons (pv 0) (pa_cons (pe_bltn (v := .ty "list") rfl m_list PyProof.Rows.Boot.«list» rfl) pa_nil))))) (pss_one (ps_ret pe_non)) pss_nil)
  (pss_cons (ps_set (i := 1) scleft_in.nd rfl (.inl rfl) (pe_lst pa_nil))
  (pss_cons (ps_for PassesOwn.never rfl (pi_list (pv 0)) (pg_name (i := 2) scleft_in.nd rfl (.inl rfl)) (pss_cons (ps_if (pt_not (pt_val (pe_has Gis_winding (hr.mono (by omega)) (pa_cons (pv 2) pa_nil)))) (pss_one (ps_ret pe_non)) pss_nil)
  (pss_cons (ps_asg (pv 2) (pg_tup rfl (pgs_cons (pg_name (i := 3) scleft_in.nd rfl (.inl rfl)) (pgs_cons (pg_name (i := 4) scleft_in.nd rfl (.inl rfl)) pgs_nil))))
  (pss_one (ps_if (PW.pt (pw_and (pt_cmpR op_eq (pv 3) pe_str (nomark _)) (pw_and1 (pt_cmpR op_notIn_seq (pv 4) (pv 1) rfl)))) (pss_one (ps_expr (pe_bm PySem.F.plainAttrs_list PySem.F.slot_list_append PySem.F.type_list_append mt_append (pv 1) (pa_cons (pv 4) pa_nil)))) (pss_one (ps_if (PW.pt (pw_and (pt_cmpR op_eq (pv 3) pe_str (nomark _)) (pw_and1 (pt_cmpR (op_eqD hr.units) (pe_slice sl_list (pv 1) (po_some (pe_un un_neg pe_int)) po_none) (pe_lst (pa_cons (pv 4) pa_nil)) (nomark _))))) (pss_one (ps_expr (pe_bm0 PySem.F.plainAttrs_list PySem.F.slot_list_pop PySem.F.type_list_pop mt_pop (pv 1)))) (pss_one (ps_ret pe_non)))))))))
  (pss_one (ps_ret (pv 1)))))), ?_⟩
  rcases h with ⟨r, xs, ds, rfl, hx, lx, ht, q⟩ | ⟨v, rfl, nl, q⟩
  rotate_left
  · cases nl with
    | non => exact ⟨_, rfl, _, _, _, _, false, rfl, .ty "list", .base .non, kit_ty (by decide +kernel), _, rfl, iteT (q _ (Same.refl _))⟩
    | int i => exact ⟨_, rfl, _, _, _, _, false, rfl, .ty "list", .base (.int i), kit_ty (by decide +kernel), _, rfl, iteT (q _ (Same.refl _))⟩
    | str z => exact ⟨_, rfl, _, _, _, _, false, rfl, .ty "list", .base (.str z), kit_ty (by decide +kernel), _, rfl, iteT (q _ (Same.refl _))⟩
    | bl b => exact ⟨_, rfl, _, _, _, _, false, rfl, .ty "list", .base (.bl b), kit_ty (by decide +kernel), _, rfl, iteT (q _ (Same.refl _))⟩
    | tup hl => exact ⟨_, rfl, _, _, _, _, false, rfl, .ty "list", .base (.tup hl), kit_ty (by decide +kernel), _, rfl, iteT (q _ (Same.refl _))⟩
  refine ⟨_, rfl, _, _, _, _, true, rfl, .ty "list", .base (.lst hx), kit_ty (by decide +kernel), _, rfl, iteF ?_⟩
  refine ⟨(by show 0 ≤ sizeLine; decide), fun p hp => ?_⟩
  refine ⟨_, rfl, r, rfl, ⟨_, SqL.of (same_new hp _ _ hx)⟩, for_list (xs := xs) (fun i σ H' => Same H H' ∧ ∃ (ns : List Int) (t2 t3 t4 : Option V), σ = [some (.ref r), some (.ref p), t2, t3, t4] ∧ H' p = some (.lst (ns.map V.int)) ∧ ns.length ≤ i ∧ dueD ds [] = dueD (ds.drop i) ns) ?_ ?_ ?_ ?_⟩
  · exact ⟨same_new hp, [], none, none, none, rfl, upd_same, Nat.le_refl _, rfl⟩
  · rintro i σ H' hi ⟨s', _⟩
    exact SqL.of (s' _ _ hx)
  · rintro i x σ H' hxi ⟨s', ns, t2, t3, t4, rfl, ep, ln, ed⟩
    have li : i < xs.length := (List.getElem?_eq_some_iff.mp hxi).1
    obtain ⟨d, hd, dd⟩ := ht.at_ hxi
    have hd := hd.same s'
    rw [dd, dueD] at ed
    refine ⟨_, rfl, x, d, rfl, hd, fun H2 s2 => ⟨_, rfl, ?_⟩⟩
    have ep2 := s2 _ _ ep
    have s02 := s'.trans s2
    have hpn : ∀ {o : HO}, Same H (upd H2 p o) := same_grow s02 hp
    cases hg : goD d with
    | none =>
      refine ite_t rfl ?_
      rw [hg] at ed
      rw [ed] at q
      exact q _ s02
    | some g =>
      refine ite_f rfl ?_
      obtain ⟨b, n⟩ := g
      rw [hg] at ed
      cases hd with
      | non => cases hg
      | str z hz => cases hg
      | lst hl fl => cases hg
      | @tup u us hl nl fl =>
        exfalso
        match us, nl, hg with
        | [], _, hg => cases hg
        | [_], _, hg => cases hg
        | [_, _], nl, _ => exact absurd rfl nl
        | _ :: _ :: _ :: _, _, hg => cases hg
      | @two u w x hl hcw fl =>
        have hl2 := s2 _ _ hl
        have hg : go2 (.str w) (dV x) = some (b, n) := hg
        refine ⟨_, rfl, u, _, rfl, SqT.of hl2, rfl, _, _, rfl, _, _, rfl, rfl, ?_⟩
        refine ⟨_, rfl, rfl, _, rfl, ?_⟩
        have cs : (w = "in" ∧ b = true ∨ w = "out" ∧ b = false) ∧ x = .int n := by
          cases fl with
          | int m =>
            simp only [go2, dV] at hg
            by_cases h1 : w = "in"
            · rw [if_pos h1] at hg
              cases hg
              exact ⟨.inl ⟨h1, rfl⟩, rfl⟩
            · rw [if_neg h1] at hg
              by_cases h2 : w = "out"
              · rw [if_pos h2] at hg
                cases hg
                exact ⟨.inr ⟨h2, rfl⟩, rfl⟩
              · rw [if_neg h2] at hg
                cases hg
          | _ => simp [go2, dV] at hg
        obtain ⟨cs, rfl⟩ := cs
        rcases cs with ⟨rfl, rfl⟩ | ⟨rfl, rfl⟩
        · refine ite_t (by simp) ?_
          have ed : dueD ds [] = if n ∈ ns then none else dueD (ds.drop (i + 1)) (ns ++ [n]) := ed
          refine ⟨_, rfl, _, rfl, p, _, rfl, .inl (SqL.of ep2), rfl, flat_ints ns, _, rfl, ?_⟩
          show if (!inV (.int n) (ns.map V.int)) = true then _ else _
          rw [inV_ints]
          by_cases hm : n ∈ ns
          · refine ite_f (by simp [hm]) ?_
            rw [if_pos hm] at ed
            rw [ed] at q
            refine ⟨_, rfl, rfl, _, rfl, ite_f (by decide) ?_⟩
            exact iteF (q _ s02)
          · refine ite_t (by simp [hm]) ?_
            rw [if_neg hm] at ed
            refine ⟨_, rfl, .inl ⟨rfl, _, SqL.of ep2⟩, _, rfl, p, _, _, rfl, rfl, ep2, small1000 (by rw [List.length_map]; omega), hpn, ns ++ [n], _, _, _, rfl, ?_, ?_, ed⟩
            · rw [upd_same, List.map_append]
              rfl
            · rw [List.length_append]
              show ns.length + 1 ≤ _
              omega
        · refine ite_f (by decide) ?_
          refine iteF ?_
          have ed : dueD ds [] = if ns.getLast? = some n then dueD (ds.drop (i + 1)) ns.dropLast else none := ed
          refine ⟨_, rfl, rfl, _, rfl, ite_t (by decide) ?_⟩
          refine ⟨_, rfl, _, rfl, _, rfl, p, _, rfl, SqL.of ep2, fun c1 hc1 => ?_⟩
          have s3 : Same H2 (upd H2 c1 (.lst (cutV (ns.map V.int) (some (-1)) none))) := same_new hc1
          have e3 : upd H2 c1 (.lst (cutV (ns.map V.int) (some (-1)) none)) c1 = some (.lst ((ns.drop (ns.length - 1)).map V.int)) := by rw [upd_same, drop_last1]
          generalize upd H2 c1 (.lst (cutV (ns.map V.int) (some (-1)) none)) = H3 at *
          refine ⟨_, rfl, (by show 1 ≤ sizeLine; decide), fun c2 hc2 => ?_⟩
          have s4 : Same H3 (upd H3 c2 (.lst [.int n])) := same_new hc2
          have e4 : upd H3 c2 (.lst [.int n]) c2 = some (.lst ([n].map V.int)) := upd_same
          generalize upd H3 c2 (.lst [.int n]) = H4 at *
          have s04 := s02.trans (s3.trans s4)
          have ep4 := s4 _ _ (s3 _ _ ep2)
          refine ⟨_, _, .lst (SqL.of (s4 _ _ e3)) (flat_dp (flv_ints _)), .lst (SqL.of e4) (flat_dp (flv_ints _)), flat_shaped (flv_ints _), flat_shaped (flv_ints _), _, rfl, ?_⟩
          rw [eqv_ints]
          have l1 := last1 ns n
          by_cases hm : ns.getLast? = some n
          · refine ite_t (decide_eq_true (l1.mpr hm)) ?_
            rw [if_pos hm] at ed
            have h0 : ns ≠ [] := fun e => by rw [e] at hm; cases hm
            obtain ⟨m, g1, g2, g3⟩ := at_last ns h0
            refine ⟨_, rfl, .inl ⟨rfl, _, SqL.of ep4⟩, p, _, _, rfl, rfl, ep4, g3, same_grow s04 hp, ns.dropLast, _, _, _, rfl, ?_, ?_, ed⟩
            · rw [upd_same, List.map_dropLast]
            · rw [List.length_dropLast]
              omega
          · refine ite_f (decide_eq_false fun h => hm (l1.mp h)) ?_
            rw [if_neg hm] at ed
            rw [ed] at q
            exact q _ s04
  · rintro σ H' ⟨s', ns, t2, t3, t4, rfl, ep, ln, ed⟩
    refine ⟨_, rfl, ?_⟩
    rw [← ht.len, List.drop_length, dueD] at ed
    rw [ed] at q
    exact q p H' s' hp ep
end
end Wp
set_option Elab.async false
set_option linter.all false
set_option maxRecDepth 100000
set_option maxHeartbeats 4000000
namespace Wp
open PySem PySem.Spec PyProof.Rows L2
theorem all_mk {l : PySem.W.OpenLaw} {w : World} {K : PySem.W.Frag} {h : Heap} {mg : Str → Option Value} {fa : Addr}
    {f_next : Addr} {oc_next kV_next dc_next pm_next cd_next ct_next : Value} {od_next an_next : Option Addr} {sl_next : Array (Option Value)}
    {f_draws : Addr} {oc_draws kV_draws dc_draws pm_draws cd_draws ct_draws : Value} {od_draws an_draws : Option Addr} {sl_draws : Array (Option Value)}
    {f_ids : Addr} {oc_ids kV_ids dc_ids pm_ids cd_ids ct_ids : Value} {od_ids an_ids : Option Addr} {sl_ids : Array (Option Value)}
    {f_br : Addr} {oc_br kV_br dc_br pm_br cd_br ct_br : Value} {od_br an_br : Option Addr} {sl_br : Array (Option Value)}
    {f_row : Addr} {oc_row kV_row dc_row pm_row cd_row ct_row : Value} {od_row an_row : Option Addr} {sl_row : Array (Option Value)}
    {f_bent : Addr} {oc_bent kV_bent dc_bent pm_bent cd_bent ct_bent : Value} {od_bent an_bent : Option Addr} {sl_bent : Array (Option Value)}
    {f_due : Addr} {oc_due kV_due dc_due pm_due cd_due ct_due : Value} {od_due an_due : Option Addr} {sl_due : Array (Option Value)}
    {f_common : Addr} {oc_common kV_common dc_common pm_common cd_common ct_common : Value} {od_common an_common : Option Addr} {sl_common : Array (Option Value)}
    {f_whole : Addr} {oc_whole kV_whole dc_whole pm_whole cd_whole ct_whole : Value} {od_whole an_whole : Option Addr} {sl_whole : Array (Option Value)}
    {f_winding : Addr} {oc_winding kV_winding dc_winding pm_winding cd_winding ct_winding : Value} {od_winding an_winding : Option Addr} {sl_winding : Array (Option Value)}
    {f_between : Addr} {oc_between kV_between dc_between pm_between cd_between ct_between : Value} {od_between an_between : Option Addr} {sl_between : Array (Option Value)}
    {f_left : Addr} {oc_left kV_left dc_left pm_left cd_left ct_left : Value} {od_left an_left : Option Addr} {sl_left : Array (Option Value)}
    {f_law : Addr} {oc_law kV_law dc_law pm_law cd_law ct_law : Value} {od_law an_law : Option Addr} {sl_law : Array (Option Value)}
    (X : K.In h) (G : h.Ns mainGlobals mg) (hfa : mg "law" = some (.ref fa))
    (a_next : PySem.W.nsIn K mainGlobals "_law_next" = some (some (.ref f_next)))
    (l_next : K.lookup f_next = some ⟨oc_next, od_next, .func (PySem.W.fnOf "_law_next" "_law_next" (defArgs s_law_next) (defBody s_law_next) (defScope s_law_next) .none kV_next dc_next pm_next an_next cd_next ct_next), sl_next⟩)
    (c_next : PySem.W.codeIn K cd_next "_law_next" = true)
    (k_next : PySem.W.keepIn K (.ref f_next) = true)
    (a_draws : PySem.W.nsIn K mainGlobals "_law_draws" = some (some (.ref f_draws)))
    (l_draws : K.lookup f_draws = some ⟨oc_draws, od_draws, .func (PySem.W.fnOf "_law_draws" "_law_draws" (defArgs s_law_draws) (defBody s_law_draws) (defScope s_law_draws) .none kV_draws dc_draws pm_draws an_draws cd_draws ct_draws), sl_draws⟩)
    (c_draws : PySem.W.codeIn K cd_draws "_law_draws" = true)
    (k_draws : PySem.W.keepIn K (.ref f_draws) = true)
    (a_ids : PySem.W.nsIn K mainGlobals "_law_ids" = some (some (.ref f_ids)))
    (l_ids : K.lookup f_ids = some ⟨oc_ids, od_ids, .func (PySem.W.fnOf "_law_ids" "_law_ids" (defArgs s_law_ids) (defBody s_law_ids) (defScope s_law_ids) .none kV_ids dc_ids pm_ids an_ids cd_ids ct_ids), sl_ids⟩)
    (c_ids : PySem.W.codeIn K cd_ids "_law_ids" = true)
    (k_ids : PySem.W.keepIn K (.ref f_ids) = true)
    (a_br : PySem.W.nsIn K mainGlobals "_law_between_right" = some (some (.ref f_br)))
    (l_br : K.lookup f_br = some ⟨oc_br, od_br, .func (PySem.W.fnOf "_law_between_right" "_law_between_right" (defArgs s_law_between_right) (defBody s_law_between_right) (defScope s_law_between_right) .none kV_br dc_br pm_br an_br cd_br ct_br), sl_br⟩)
    (c_br : PySem.W.codeIn K cd_br "_law_between_right" = true)
    (k_br : PySem.W.keepIn K (.ref f_br) = true)
    (a_row : PySem.W.nsIn K mainGlobals "_law_row" = some (some (.ref f_row)))
    (l_row : K.lookup f_row = some ⟨oc_row, od_row, .func (PySem.W.fnOf "_law_row" "_law_row" (defArgs s_law_row) (defBody s_law_row) (defScope s_law_row) .none kV_row dc_row pm_row an_row cd_row ct_row), sl_row⟩)
    (c_row : PySem.W.codeIn K cd_row "_law_row" = true)
    (k_row : PySem.W.keepIn K (.ref f_row) = true)
    (a_bent : PySem.W.nsIn K mainGlobals "_law_bent" = some (some (.ref f_bent)))
    (l_bent : K.lookup f_bent = some ⟨oc_bent, od_bent, .func (PySem.W.fnOf "_law_bent" "_law_bent" (defArgs s_law_bent) (defBody s_law_bent) (defScope s_law_bent) .none kV_bent dc_bent pm_bent an_bent cd_bent ct_bent), sl_bent⟩)
    (c_bent : PySem.W.codeIn K cd_bent "_law_bent" = true)
    (k_bent : PySem.W.keepIn K (.ref f_bent) = true)
    (a_due : PySem.W.nsIn K mainGlobals "_law_due" = some (some (.ref f_due)))
    (l_due : K.lookup f_due = some ⟨oc_due, od_due, .func (PySem.W.fnOf "_law_due" "_law_due" (defArgs s_law_due) (defBody s_law_due) (defScope s_law_due) .none kV_due dc_due pm_due an_due cd_due ct_due), sl_due⟩)
    (c_due : PySem.W.codeIn K cd_due "_law_due" = true)
    (k_due : PySem.W.keepIn K (.ref f_due) = true)
    (a_common : PySem.W.nsIn K mainGlobals "in_common" = some (some (.ref f_common)))
    (l_common : K.lookup f_common = some ⟨oc_common, od_common, .func (PySem.W.fnOf "in_common" "in_common" (defArgs sin_common) (defBody sin_common) (defScope sin_common) .none kV_common dc_common pm_common an_common cd_common ct_common), sl_common⟩)
    (c_common : PySem.W.codeIn K cd_common "in_common" = true)
    (k_common : PySem.W.keepIn K (.ref f_common) = true)
    (a_whole : PySem.W.nsIn K mainGlobals "is_whole" = some (some (.ref f_whole)))
    (l_whole : K.lookup f_whole = some ⟨oc_whole, od_whole, .func (PySem.W.fnOf "is_whole" "is_whole" (defArgs sis_whole) (defBody sis_whole) (defScope sis_whole) .none kV_whole dc_whole pm_whole an_whole cd_whole ct_whole), sl_whole⟩)
    (c_whole : PySem.W.codeIn K cd_whole "is_whole" = true)
    (k_whole : PySem.W.keepIn K (.ref f_whole) = true)
    (a_winding : PySem.W.nsIn K mainGlobals "is_winding" = some (some (.ref f_winding)))
    (l_winding : K.lookup f_winding = some ⟨oc_winding, od_winding, .func (PySem.W.fnOf "is_winding" "is_winding" (defArgs sis_winding) (defBody sis_winding) (defScope sis_winding) .none kV_winding dc_winding pm_winding an_winding cd_winding ct_winding), sl_winding⟩)
    (c_winding : PySem.W.codeIn K cd_winding "is_winding" = true)
    (k_winding : PySem.W.keepIn K (.ref f_winding) = true)
    (a_between : PySem.W.nsIn K mainGlobals "between" = some (some (.ref f_between)))
    (l_between : K.lookup f_between = some ⟨oc_between, od_between, .func (PySem.W.fnOf "between" "between" (defArgs sbetween) (defBody sbetween) (defScope sbetween) .none kV_between dc_between pm_between an_between cd_between ct_between), sl_between⟩)
    (c_between : PySem.W.codeIn K cd_between "between" = true)
    (k_between : PySem.W.keepIn K (.ref f_between) = true)
    (a_left : PySem.W.nsIn K mainGlobals "left_in" = some (some (.ref f_left)))
    (l_left : K.lookup f_left = some ⟨oc_left, od_left, .func (PySem.W.fnOf "left_in" "left_in" (defArgs sleft_in) (defBody sleft_in) (defScope sleft_in) .none kV_left dc_left pm_left an_left cd_left ct_left), sl_left⟩)
    (c_left : PySem.W.codeIn K cd_left "left_in" = true)
    (k_left : PySem.W.keepIn K (.ref f_left) = true)
    (a_law : PySem.W.nsIn K mainGlobals "law" = some (some (.ref f_law)))
    (l_law : K.lookup f_law = some ⟨oc_law, od_law, .func (PySem.W.fnOf "law" "law" (defArgs slaw) (defBody slaw) (defScope slaw) .none kV_law dc_law pm_law an_law cd_law ct_law), sl_law⟩)
    (c_law : PySem.W.codeIn K cd_law "law" = true)
    (k_law : PySem.W.keepIn K (.ref f_law) = true)
    (z_range : PySem.W.nsIn K mainGlobals "range" = some none)
    (z_list : PySem.W.nsIn K mainGlobals "list" = some none)
    (z_len : PySem.W.nsIn K mainGlobals "len" = some none)
    (z_min : PySem.W.nsIn K mainGlobals "min" = some none)
    (z_isinstance : PySem.W.nsIn K mainGlobals "isinstance" = some none)
    (z_tuple : PySem.W.nsIn K mainGlobals "tuple" = some none)
    (z_int : PySem.W.nsIn K mainGlobals "int" = some none)
    (z_bool : PySem.W.nsIn K mainGlobals "bool" = some none)
    (z_zip : PySem.W.nsIn K mainGlobals "zip" = some none)
    (z_str : PySem.W.nsIn K mainGlobals "str" = some none)
    :
    ∃ fd : FuncData, (∀ (s : Shared) (v : Value), BindsTo s fd ⟨[v], []⟩ [("_law_script", v)]) ∧ ∀ base : Heap, K.In base → base.Ns mainGlobals mg → FnOk l.prog w K mg base CX0 4 fa fd ["_law_script"] (spLaw K) := by
  have e := hfa.symm.trans (PySem.W.mg_of X G a_law)
  cases e
  have F_next := fun_mk (st := s_law_next) l_next c_next k_next
  have m_next := PySem.W.mg_of X G a_next
  have b_next := F_next.binds (ps := ["_law_draws_here"]) fun _ _ _ _ _ _ us hl => match us, hl with | [_], _ => rfl
  have F_draws := fun_mk (st := s_law_draws) l_draws c_draws k_draws
  have m_draws := PySem.W.mg_of X G a_draws
  have b_draws := F_draws.binds (ps := ["_law_cell"]) fun _ _ _ _ _ _ us hl => match us, hl with | [_], _ => rfl
  have F_ids := fun_mk (st := s_law_ids) l_ids c_ids k_ids
  have m_ids := PySem.W.mg_of X G a_ids
  have b_ids := F_ids.binds (ps := ["_law_draws_here", "_law_some"]) fun _ _ _ _ _ _ us hl => match us, hl with | [_, _], _ => rfl
  have F_br := fun_mk (st := s_law_between_right) l_br c_br k_br
  have m_br := PySem.W.mg_of X G a_br
  have b_br := F_br.binds (ps := ["_law_draws_here"]) fun _ _ _ _ _ _ us hl => match us, hl with | [_], _ => rfl
  have F_row := fun_mk (st := s_law_row) l_row c_row k_row
  have m_row := PySem.W.mg_of X G a_row
  have b_row := F_row.binds (ps := ["_law_draws_here"]) fun _ _ _ _ _ _ us hl => match us, hl with | [_], _ => rfl
  have F_bent := fun_mk (st := s_law_bent) l_bent c_bent k_bent
  have m_bent := PySem.W.mg_of X G a_bent
  have b_bent := F_bent.binds (ps := ["_law_draws_here", "_law_a_row"]) fun _ _ _ _ _ _ us hl => match us, hl with | [_, _], _ => rfl
  have F_due := fun_mk (st := s_law_due) l_due c_due k_due
  have m_due := PySem.W.mg_of X G a_due
  have b_due := F_due.binds (ps := ["_law_a_row"]) fun _ _ _ _ _ _ us hl => match us, hl with | [_], _ => rfl
  have F_common := fun_mk (st := sin_common) l_common c_common k_common
  have m_common := PySem.W.mg_of X G a_common
  have b_common := F_common.binds (ps := ["one", "two"]) fun _ _ _ _ _ _ us hl => match us, hl with | [_, _], _ => rfl
  have F_whole := fun_mk (st := sis_whole) l_whole c_whole k_whole
  have m_whole := PySem.W.mg_of X G a_whole
  have b_whole := F_whole.binds (ps := ["thing"]) fun _ _ _ _ _ _ us hl => match us, hl with | [_], _ => rfl
  have F_winding := fun_mk (st := sis_winding) l_winding c_winding k_winding
  have m_winding := PySem.W.mg_of X G a_winding
  have b_winding := F_winding.binds (ps := ["thing"]) fun _ _ _ _ _ _ us hl => match us, hl with | [_], _ => rfl
  have F_between := fun_mk (st := sbetween) l_between c_between k_between
  have m_between := PySem.W.mg_of X G a_between
  have b_between := F_between.binds (ps := ["one", "two"]) fun _ _ _ _ _ _ us hl => match us, hl with | [_, _], _ => rfl
  have F_left := fun_mk (st := sleft_in) l_left c_left k_left
  have m_left := PySem.W.mg_of X G a_left
  have b_left := F_left.binds (ps := ["row"]) fun _ _ _ _ _ _ us hl => match us, hl with | [_], _ => rfl
  have F_law := fun_mk (st := slaw) l_law c_law k_law
  have m_law := PySem.W.mg_of X G a_law
  have b_law := F_law.binds (ps := ["_law_script"]) fun _ _ _ _ _ _ us hl => match us, hl with | [_], _ => rfl
  have n_range := PySem.W.mg_none_of X G z_range
  have n_list := PySem.W.mg_none_of X G z_list
  have n_len := PySem.W.mg_none_of X G z_len
  have n_min := PySem.W.mg_none_of X G z_min
  have n_isinstance := PySem.W.mg_none_of X G z_isinstance
  have n_tuple := PySem.W.mg_none_of X G z_tuple
  have n_int := PySem.W.mg_none_of X G z_int
  have n_bool := PySem.W.mg_none_of X G z_bool
  have n_zip := PySem.W.mg_none_of X G z_zip
  have n_str := PySem.W.mg_none_of X G z_str
  refine ⟨PySem.W.fnOf "law" "law" (defArgs slaw) (defBody slaw) (defScope slaw) .none kV_law dc_law pm_law an_law cd_law ct_law, fun s v => .of_eq rfl, fun base _ _ => ?_⟩
  have H_next : Has l.prog w K mg base "_law_next" ["_law_draws_here"] 1 spNext := ⟨_, _, ok_next F_next, m_next, k_next, b_next⟩
  have H_draws : Has l.prog w K mg base "_law_draws" ["_law_cell"] 1 spDraws := ⟨_, _, ok_draws F_draws, m_draws, k_draws, b_draws⟩
  have H_ids : Has l.prog w K mg base "_law_ids" ["_law_draws_here", "_law_some"] 2 spIds := ⟨_, _, ok_ids F_ids H_next n_list n_range, m_ids, k_ids, b_ids⟩
  have H_row : Has l.prog w K mg base "_law_row" ["_law_draws_here"] 2 spRow := ⟨_, _, ok_row F_row H_next n_range n_len, m_row, k_row, b_row⟩
  have H_bent : Has l.prog w K mg base "_law_bent" ["_law_draws_here", "_law_a_row"] 2 spBent := ⟨_, _, ok_bent F_bent H_next n_len, m_bent, k_bent, b_bent⟩
  have H_due : Has l.prog w K mg base "_law_due" ["_law_a_row"] 1 spDue := ⟨_, _, ok_due F_due n_isinstance n_tuple n_int n_bool n_len, m_due, k_due, b_due⟩
  have H_common : Has l.prog w K mg base "in_common" ["one", "two"] 1 spCom := ⟨_, _, ok_common F_common n_zip, m_common, k_common, b_common⟩
  have H_whole : Has l.prog w K mg base "is_whole" ["thing"] 1 spWhole := ⟨_, _, ok_whole F_whole n_isinstance n_int n_bool, m_whole, k_whole, b_whole⟩
  have H_winding : Has l.prog w K mg base "is_winding" ["thing"] 2 spWin := ⟨_, _, ok_winding F_winding H_whole n_isinstance n_tuple n_str n_len, m_winding, k_winding, b_winding⟩
  have O_between : FnOk l.prog w K mg base CX0 2 _ _ ["one", "two"] spBet := ok_between F_between H_common
  have H_between : Has l.prog w K mg base "between" ["one", "two"] 2 spBet := ⟨_, _, O_between, m_between, k_between, b_between⟩
  have H_br : Has l.prog w K mg base "_law_between_right" ["_law_draws_here"] 3 spBR := ⟨_, _, ok_BR F_br H_next H_ids H_between ⟨_, _, _, O_between, m_between, k_between, kb_between F_between⟩ n_range n_list n_len n_min n_isinstance n_tuple, m_br, k_br, b_br⟩
  have O_left : FnOk l.prog w K mg base CX0 3 _ _ ["row"] spLeft := ok_left F_left H_winding n_isinstance n_list
  exact ok_law F_law H_draws H_next H_br H_row H_bent H_due ⟨_, _, O_left, m_left, k_left, b_left⟩ ⟨_, _, _, O_left, m_left, k_left, kb_left F_left⟩ n_range n_list
theorem walk {l : PySem.W.OpenLaw} {q : Program} {loose : List Str} {XP : (Str → Option Value) → Heap → Prop} {YP : World → Heap → Prop} {d : DefRec} {K : Params → PySem.W.Frag} (hn : l.most = some 63) (hdf : d.params.defaults = [])
    (hY : ∀ (w : World) (h : Heap), YP w h → (K w.params).In h)
    (F : ∀ (w : World) (mg : Str → Option Value) (fa : Addr) (h : Heap), (K w.params).In h → h.Ns mainGlobals mg → mg d.name = some (.ref fa) →
      ∃ fd : FuncData, (∀ (s : Shared) (u : Value), BindsTo s fd ⟨[u], []⟩ [("_law_script", u)]) ∧ ∀ base : Heap, (K w.params).In base → base.Ns mainGlobals mg → FnOk l.prog w (K w.params) mg base CX0 4 fa fd ["_law_script"] (spLaw (K w.params))) :
    PySem.W.WalkO q loose XP YP l.row.toRowW d [] (fun f vs => PySem.call f vs) :=
  L2.walk_of (n := 63) (k := 4) (x := "_law_script") (CX := fun _ => CX0) (sp := fun w => spLaw (K w.params)) hn (by decide) hdf ⟨rfl, by decide, by decide⟩ hY F (fun _ _ a ns hl _ hS => ⟨a, ns, rfl, hS, hl, fun _ => rfl⟩) fun _ _ _ _ _ z => z
end Wp
set_option Elab.async false
open PySem PySem.W PyProof.Rows
set_option maxRecDepth 100000 in
set_option maxHeartbeats 0 in
theorem PySem.Challenge.cw_windpoints_k19_rows_of_winders_holds : PySem.Challenge.rw_windpoints_k19_rows_of_winders.Holds := by
  w_on; o_law; k_head; (case hw => w_witness2)
  k_fill
  refine Wp.walk (l := PySem.Challenge.rw_windpoints_k19_rows_of_winders) rfl rfl (fun w h Y => PySem.W.kIn_of Y) ?F
  case F =>
    intro w mg fa h KX G hmg
    refine' Wp.all_mk KX G hmg ?wq_a_next ?wq_l_next ?wq_c_next ?wq_k_next ?wq_a_draws ?wq_l_draws ?wq_c_draws ?wq_k_draws ?wq_a_ids ?wq_l_ids ?wq_c_ids ?wq_k_ids ?wq_a_br ?wq_l_br ?wq_c_br ?wq_k_br ?wq_a_row ?wq_l_row ?wq_c_row ?wq_k_row ?wq_a_bent ?wq_l_bent ?wq_c_bent ?wq_k_bent ?wq_a_due ?wq_l_due ?wq_c_due ?wq_k_due ?wq_a_common ?wq_l_common ?wq_c_common ?wq_k_common ?wq_a_whole ?wq_l_whole ?wq_c_whole ?wq_k_whole ?wq_a_winding ?wq_l_winding ?wq_c_winding ?wq_k_winding ?wq_a_between ?wq_l_between ?wq_c_between ?wq_k_between ?wq_a_left ?wq_l_left ?wq_c_left ?wq_k_left ?wq_a_law ?wq_l_law ?wq_c_law ?wq_k_law ?wq_z_range ?wq_z_list ?wq_z_len ?wq_z_min ?wq_z_isinstance ?wq_z_tuple ?wq_z_int ?wq_z_bool ?wq_z_zip ?wq_z_str
    (case wq_a_next => k_is)
    (case wq_l_next => k_is)
    (case wq_c_next => k_is)
    (case wq_k_next => k_is)
    (case wq_a_draws => k_is)
    (case wq_l_draws => k_is)
    (case wq_c_draws => k_is)
    (case wq_k_draws => k_is)
    (case wq_a_ids => k_is)
    (case wq_l_ids => k_is)
    (case wq_c_ids => k_is)
    (case wq_k_ids => k_is)
    (case wq_a_br => k_is)
    (case wq_l_br => k_is)
    (case wq_c_br => k_is)
    (case wq_k_br => k_is)
    (case wq_a_row => k_is)
    (case wq_l_row => k_is)
    (case wq_c_row => k_is)
    (case wq_k_row => k_is)
    (case wq_a_bent => k_is)
    (case wq_l_bent => k_is)
    (case wq_c_bent => k_is)
    (case wq_k_bent => k_is)
    (case wq_a_due => k_is)
    (case wq_l_due => k_is)
    (case wq_c_due => k_is)
    (case wq_k_due => k_is)
    (case wq_a_common => k_is)
    (case wq_l_common => k_is)
    (case wq_c_common => k_is)
    (case wq_k_common => k_is)
    (case wq_a_whole => k_is)
    (case wq_l_whole => k_is)
    (case wq_c_whole => k_is)
    (case wq_k_whole => k_is)
    (case wq_a_winding => k_is)
    (case wq_l_winding => k_is)
    (case wq_c_winding => k_is)
    (case wq_k_winding => k_is)
    (case wq_a_between => k_is)
    (case wq_l_between => k_is)
    (case wq_c_between => k_is)
    (case wq_k_between => k_is)
    (case wq_a_left => k_is)
    (case wq_l_left => k_is)
    (case wq_c_left => k_is)
    (case wq_k_left => k_is)
    (case wq_a_law => k_is)
    (case wq_l_law => k_is)
    (case wq_c_law => k_is)
    (case wq_k_law => k_is)
    (case wq_z_range => k_is)
    (case wq_z_list => k_is)
    (case wq_z_len => k_is)
    (case wq_z_min => k_is)
    (case wq_z_isinstance => k_is)
    (case wq_z_tuple => k_is)
    (case wq_z_int => k_is)
    (case wq_z_bool => k_is)
    (case wq_z_zip => k_is)
    (case wq_z_str => k_is)
