import PyProof.Rows.All
import Wide.All
import OpenK.AllK
import Wide.FinOn
import HandS.ForMost
import HandS.Wide
import PySem.Challenge.RW_windpoints_k53_checks
import HandS.Walk
import PyProof.Draws
import KE.GoesEnumKw
import HandS.Defaults
import HandS.MakeKwOnly
import HandS.IsInst
set_option Elab.async false
set_option linter.all false
set_option maxRecDepth 100000
namespace Wp
open PySem L2

/-! ### heaps that stay but for the draws -/
def Gx (a : Addr) (H H' : Hp) : Prop := ∀ b o, b ≠ a → H b = some o → H' b = some o
theorem Gx.refl (a : Addr) (H : Hp) : Gx a H H := fun _ _ _ h => h
theorem Gx.trans {a : Addr} {H H1 H2 : Hp} (x : Gx a H H1) (y : Gx a H1 H2) : Gx a H H2 := fun b o n h => y b o n (x b o n h)
theorem Gx.new {a p : Addr} {H : Hp} {o : HO} (h : H p = none) : Gx a H (upd H p o) := fun b u _ e => by
  rw [upd_ne (ne_of_none e h)]
  exact e
theorem Gx.grow {a p : Addr} {H H' : Hp} {o : HO} (g : Gx a H H') (h : H p = none) : Gx a H (upd H' p o) := fun b u n e => by
  rw [upd_ne (ne_of_none e h)]
  exact g b u n e
/-- the draws at a, at most n of them taken -/
def Dr (H : Hp) (a : Addr) (n : Nat) : Prop := ∃ (x c : Int) (b : Bool), H a = some (.lst [.int x, .int c, .bl b]) ∧ 0 ≤ x ∧ 0 ≤ c ∧ c ≤ (n : Int)
theorem Dr.mono {H : Hp} {a : Addr} {n m : Nat} (d : Dr H a n) (h : n ≤ m) : Dr H a m := by
  obtain ⟨x, c, b, e, h0, h1, h2⟩ := d
  exact ⟨x, c, b, e, h0, h1, by omega⟩
theorem Dr.ne {H : Hp} {a p : Addr} {n : Nat} (d : Dr H a n) (h : H p = none) : p ≠ a := by
  obtain ⟨x, c, b, e, _⟩ := d
  exact fun z => by rw [z, e] at h; cases h
theorem Dr.upd {H : Hp} {a p : Addr} {n : Nat} {o : HO} (d : Dr H a n) (h : p ≠ a) : Dr (upd H p o) a n := by
  obtain ⟨x, c, b, e, q⟩ := d
  exact ⟨x, c, b, by rw [upd_ne (Ne.symm h)]; exact e, q⟩
def big : Nat := 1000000000000

/-! ### types: what is known of a value, whatever the draws do -/
structure Ty (a : Addr) where
  p : V → Hp → Prop
  st : ∀ v H H', Gx a H H' → p v H → p v H'
def tyI (a : Addr) (f : Int → Prop) : Ty a := ⟨fun v _ => ∃ i, v = .int i ∧ f i, fun _ _ _ _ h => h⟩
def tyB (a : Addr) : Ty a := ⟨fun v _ => ∃ b, v = .bl b, fun _ _ _ _ h => h⟩
def tyS (a : Addr) (f : Str → Prop) : Ty a := ⟨fun v _ => ∃ z, v = .str z ∧ f z, fun _ _ _ _ h => h⟩
def tyIs (a : Addr) (x : V) : Ty a := ⟨fun v _ => v = x, fun _ _ _ _ h => h⟩
/-- a list of so many things of a type -/
def tyL (a : Addr) (k : Nat) (R : Ty a) : Ty a := ⟨fun v H => ∃ p xs, v = .ref p ∧ p ≠ a ∧ H p = some (.lst xs) ∧ xs.length = k ∧ ∀ x ∈ xs, R.p x H,
  fun v H H' g h => by
    obtain ⟨p, xs, e, n, q, l, t⟩ := h
    exact ⟨p, xs, e, n, g p _ n q, l, fun x hx => R.st x H H' g (t x hx)⟩⟩
/-- a tuple of so many things of a type -/
def tyU (a : Addr) (f : Nat → Prop) (R : Ty a) : Ty a := ⟨fun v H => ∃ p xs, v = .ref p ∧ p ≠ a ∧ H p = some (.tup xs) ∧ f xs.length ∧ ∀ x ∈ xs, R.p x H,
  fun v H H' g h => by
    obtain ⟨p, xs, e, n, q, l, t⟩ := h
    exact ⟨p, xs, e, n, g p _ n q, l, fun x hx => R.st x H H' g (t x hx)⟩⟩
/-- things of types, one by one -/
inductive TAll (a : Addr) (H : Hp) : List (Ty a) → List V → Prop
  | nil : TAll a H [] []
  | cons {P : Ty a} {Ps : List (Ty a)} {v : V} {vs : List V} : P.p v H → TAll a H Ps vs → TAll a H (P :: Ps) (v :: vs)
theorem TAll.st {a : Addr} {H H' : Hp} {Ps : List (Ty a)} {vs : List V} (h : TAll a H Ps vs) (g : Gx a H H') : TAll a H' Ps vs := by
  induction h with
  | nil => exact .nil
  | cons p _ ih => exact .cons (Ty.st _ _ _ _ g p) ih
theorem TAll.len {a : Addr} {H : Hp} {Ps : List (Ty a)} {vs : List V} (h : TAll a H Ps vs) : vs.length = Ps.length := by
  induction h with
  | nil => rfl
  | cons _ _ ih => rw [List.length_cons, List.length_cons, ih]
theorem TAll.rep {a : Addr} {H : Hp} {R : Ty a} : ∀ {k : Nat} {vs : List V}, TAll a H (List.replicate k R) vs → ∀ x ∈ vs, R.p x H
  | 0, _, h, x, hx => by
    cases h
    cases hx
  | k + 1, _, h, x, hx => by
    cases h with
    | cons p r =>
      rcases List.mem_cons.mp hx with e | e
      · rw [e]; exact p
      · exact TAll.rep r x e
/-- the slots and their types -/
structure Cty (a : Addr) (G : List (Option (Ty a))) (σ : L2.St) (H : Hp) : Prop where
  len : σ.length = G.length
  at_ : ∀ (i : Nat) (P : Ty a), G[i]? = some (some P) → ∃ v, σ[i]? = some (some v) ∧ P.p v H
theorem Cty.st {a : Addr} {G : List (Option (Ty a))} {σ : L2.St} {H H' : Hp} (c : Cty a G σ H) (g : Gx a H H') : Cty a G σ H' := ⟨c.len, fun i P h => by
  obtain ⟨v, e, p⟩ := c.at_ i P h
  exact ⟨v, e, P.st v H H' g p⟩⟩
theorem Cty.set {a : Addr} {G : List (Option (Ty a))} {σ : L2.St} {H : Hp} {i : Nat} {P : Ty a} {v : V} (c : Cty a G σ H) (h : P.p v H) : Cty a (G.set i (some P)) (σ.set i (some v)) H := ⟨by rw [List.length_set, List.length_set, c.len], fun j R e => by
  by_cases hij : i = j
  · subst hij
    by_cases hl : i < G.length
    · rw [List.getElem?_set_self hl] at e
      cases e
      exact ⟨v, List.getElem?_set_self (by rw [c.len]; exact hl), h⟩
    · rw [List.getElem?_eq_none_iff.mpr (by rw [List.length_set]; omega)] at e
      cases e
  · rw [List.getElem?_set_ne hij] at e
    obtain ⟨u, q, p⟩ := c.at_ j R e
    exact ⟨u, by rw [List.getElem?_set_ne hij]; exact q, p⟩⟩
theorem Cty.wipe {a : Addr} {G : List (Option (Ty a))} {σ : L2.St} {H : Hp} (c : Cty a G σ H) : ∀ (vs : List Nat), (∀ j ∈ vs, ∀ P, G[j]? ≠ some (some P)) → Cty a G (wipe σ vs) H
  | [], _ => c
  | j :: vs, h => by
    have ih := c.wipe vs fun k hk => h k (List.mem_cons_of_mem _ hk)
    refine ⟨by rw [wipe_length]; exact c.len, fun i P e => ?_⟩
    obtain ⟨v, q, p⟩ := ih.at_ i P e
    have hij : j ≠ i := fun z => h j List.mem_cons_self P (by rw [z]; exact e)
    exact ⟨v, by unfold L2.wipe; rw [List.getElem?_set_ne hij]; exact q, p⟩
theorem ctx_start {a : Addr} {H : Hp} {N : List Str} {Ps : List (Ty a)} {vs : List V} (h : TAll a H Ps vs) (hl : Ps.length ≤ N.length) : Cty a (Ps.map some ++ List.replicate (N.length - Ps.length) none) (L2.start N vs) H := by
  have e := h.len
  refine ⟨?_, fun i P q => ?_⟩
  · unfold L2.start
    rw [List.length_append, List.length_append, List.length_map, List.length_map, List.length_replicate, List.length_replicate, e]
  · have hi : i < Ps.length := by
      by_cases hi : i < Ps.length
      · exact hi
      · rw [List.getElem?_append_right (by rw [List.length_map]; omega), List.getElem?_replicate] at q
        split at q <;> cases q
    rw [List.getElem?_append_left (by rw [List.length_map]; exact hi), List.getElem?_map] at q
    have key : ∀ {Ps : List (Ty a)} {vs : List V}, TAll a H Ps vs → ∀ (i : Nat) (P : Ty a), (Ps[i]?).map some = some (some P) → ∃ v, vs[i]? = some v ∧ P.p v H := by
      intro Ps vs h
      induction h with
      | nil => intro i P q; simp at q
      | cons p _ ih =>
        intro i P q
        cases i with
        | zero =>
          simp at q
          subst q
          exact ⟨_, rfl, p⟩
        | succ i => exact ih i P (by simpa using q)
    obtain ⟨v, ev, p⟩ := key h i P q
    refine ⟨v, ?_, p⟩
    unfold L2.start
    rw [List.getElem?_append_left (by rw [List.length_map, e]; exact hi), List.getElem?_map, ev] <;> rfl

/-! ### judgements -/
section
variable {a : Addr} {G : List (Option (Ty a))}
/-- te takes at most m draws and comes to a P -/
def GE (a : Addr) (m : Nat) (G : List (Option (Ty a))) (te : TE) (P : Ty a) : Prop :=
  ∀ (n : Nat) (σ : L2.St) (H : Hp), n + m ≤ big → Cty a G σ H → Dr H a n → ∀ Q : VK, (∀ v H', Gx a H H' → Dr H' a (n + m) → P.p v H' → Q v H') → te σ H Q
def GT (a : Addr) (m : Nat) (G : List (Option (Ty a))) (tt : TT) : Prop :=
  ∀ (n : Nat) (σ : L2.St) (H : Hp), n + m ≤ big → Cty a G σ H → Dr H a n → ∀ Q : Bool → Hp → Prop, (∀ b H', Gx a H H' → Dr H' a (n + m) → Q b H') → tt σ H Q
def GA (a : Addr) (m : Nat) (G : List (Option (Ty a))) (ta : TA) (Ps : List (Ty a)) : Prop :=
  ∀ (n : Nat) (σ : L2.St) (H : Hp), n + m ≤ big → Cty a G σ H → Dr H a n → ∀ Q : List V → Hp → Prop, (∀ vs H', Gx a H H' → Dr H' a (n + m) → TAll a H' Ps vs → Q vs H') → ta σ H Q
/-- a statement: it returns an R, or goes on with the slots of G' (none: it never does) -/
def CtyO (a : Addr) : Option (List (Option (Ty a))) → L2.St → Hp → Prop
  | none, _, _ => False
  | some G, σ, H => Cty a G σ H
def GS (a : Addr) (m : Nat) (G : List (Option (Ty a))) (ts : TS) (G' : Option (List (Option (Ty a)))) (R : Ty a) : Prop :=
  ∀ (n : Nat) (σ : L2.St) (H : Hp) (D : Ends), n + m ≤ big → Cty a G σ H → Dr H a n → (∀ v H', Gx a H H' → Dr H' a (n + m) → R.p v H' → D.rt v H') → (∀ σ' H', Gx a H H' → Dr H' a (n + m) → CtyO a G' σ' H' → D.nx σ' H') → ts D σ H

theorem g_var {i : Nat} {P : Ty a} (h : G[i]? = some (some P)) : GE a 0 G (tVar i) P := fun n σ H _ c d Q q => by
  obtain ⟨v, e, p⟩ := c.at_ i P h
  exact ⟨v, e, q v H (Gx.refl a H) d p⟩
theorem g_c (v : V) : GE a 0 G (tC v) (tyIs a v) := fun n σ H _ c d Q q => q v H (Gx.refl a H) d rfl
theorem GE.sub {m : Nat} {te : TE} {P R : Ty a} (h : GE a m G te P) (w : ∀ v H, P.p v H → R.p v H) : GE a m G te R := fun n σ H hb c d Q q => h n σ H hb c d Q fun v H' g d' p => q v H' g d' (w v H' p)
theorem GE.up {m m' : Nat} {te : TE} {P : Ty a} (h : GE a m G te P) (w : m ≤ m') : GE a m' G te P := fun n σ H hb c d Q q => h n σ H (by omega) c d Q fun v H' g d' p => q v H' g (d'.mono (by omega)) p
theorem g_op {m1 m2 : Nat} {r : R2} {ta tb : TE} {P Q R : Ty a} (ha : GE a m1 G ta P) (hb : GE a m2 G tb Q) (hr : ∀ x y H, P.p x H → Q.p y H → ∀ n, Dr H a n → ∀ K : VK, (∀ v H', Gx a H H' → Dr H' a n → R.p v H' → K v H') → r x y H K) : GE a (m1 + m2) G (tOp r ta tb) R :=
  fun n σ H hn c d K q => ha n σ H (by omega) c d _ fun x H1 g1 d1 p1 => hb (n + m1) σ H1 (by omega) (c.st g1) d1 _ fun y H2 g2 d2 p2 =>
    hr x y H2 (P.st x H1 H2 g2 p1) p2 _ d2 K fun v H3 g3 d3 p3 => q v H3 ((g1.trans g2).trans g3) (d3.mono (by omega)) p3
/-- ints -/
theorem g_I0 {m1 m2 : Nat} {ta tb : TE} {f : Int → Int → Int} {p q r : Int → Prop} (ha : GE a m1 G ta (tyI a p)) (hb : GE a m2 G tb (tyI a q)) (hr : ∀ i j, p i → q j → r (f i j)) : GE a (m1 + m2) G (tOp (rI0 fun i j => .int (f i j)) ta tb) (tyI a r) :=
  g_op ha hb fun x y H hx hy n d K k => by
    obtain ⟨i, rfl, pi⟩ := hx
    obtain ⟨j, rfl, pj⟩ := hy
    exact ⟨i, j, rfl, rfl, k _ H (Gx.refl a H) d ⟨_, rfl, hr i j pi pj⟩⟩
theorem g_I {m1 m2 : Nat} {ta tb : TE} {C : Int → Int → Prop} {f : Int → Int → Int} {p q r : Int → Prop} (ha : GE a m1 G ta (tyI a p)) (hb : GE a m2 G tb (tyI a q)) (hc : ∀ i j, p i → q j → C i j) (hr : ∀ i j, p i → q j → r (f i j)) : GE a (m1 + m2) G (tOp (rI C fun i j => .int (f i j)) ta tb) (tyI a r) :=
  g_op ha hb fun x y H hx hy n d K k => by
    obtain ⟨i, rfl, pi⟩ := hx
    obtain ⟨j, rfl, pj⟩ := hy
    exact ⟨i, j, rfl, rfl, hc i j pi pj, k _ H (Gx.refl a H) d ⟨_, rfl, hr i j pi pj⟩⟩
theorem g_int (i : Int) : GE a 0 G (tC (.int i)) (tyI a fun j => j = i) := fun n σ H _ c d Q q => q _ H (Gx.refl a H) d ⟨i, rfl, rfl⟩
theorem g_str (z : Str) : GE a 0 G (tC (.str z)) (tyS a fun y => y = z) := fun n σ H _ c d Q q => q _ H (Gx.refl a H) d ⟨z, rfl, rfl⟩
/-- e % k, k written -/
theorem g_mod {m1 : Nat} {ta : TE} {k : Int} {p : Int → Prop} (ha : GE a m1 G ta (tyI a p)) (hk : 0 < k) : GE a (m1 + 0) G (tOp (rI (fun _ j => 0 < j) fun i j => .int (i % j)) ta (tC (.int k))) (tyI a fun i => 0 ≤ i ∧ i < k) :=
  g_I ha (g_int k) (fun i j _ e => by rw [e]; exact hk) fun i j _ e => by rw [e]; exact ⟨Int.emod_nonneg _ (by omega), Int.emod_lt_of_pos _ hk⟩
theorem g_div {m1 : Nat} {ta : TE} {k : Int} {p r : Int → Prop} (ha : GE a m1 G ta (tyI a p)) (hk : 0 < k ∧ k < 1073741824) (hr : ∀ i, p i → r (i / k)) : GE a (m1 + 0) G (tOp (rI CDiv fun i j => .int (i / j)) ta (tC (.int k))) (tyI a r) :=
  g_I ha (g_int k) (fun i j _ e => by rw [e]; exact hk) fun i j pi e => by rw [e]; exact hr i pi
/-- tests -/
theorem g_cmpI {m1 m2 : Nat} {ta tb : TE} {f : Int → Int → Bool} {p q : Int → Prop} (ha : GE a m1 G ta (tyI a p)) (hb : GE a m2 G tb (tyI a q)) : GT a (m1 + m2) G (tTest (tOp (rI0 fun i j => .bl (f i j)) ta tb)) :=
  fun n σ H hn c d K k => ha n σ H (by omega) c d _ fun x H1 g1 d1 p1 => hb (n + m1) σ H1 (by omega) (c.st g1) d1 _ fun y H2 g2 d2 p2 => by
    obtain ⟨i, rfl, pi⟩ := p1
    obtain ⟨j, rfl, pj⟩ := p2
    exact ⟨i, j, rfl, rfl, _, rfl, k _ H2 (g1.trans g2) (d2.mono (by omega))⟩
theorem g_eqI {m1 m2 : Nat} {ta tb : TE} {p q : Int → Prop} (ha : GE a m1 G ta (tyI a p)) (hb : GE a m2 G tb (tyI a q)) : GE a (m1 + m2) G (tOp rEq ta tb) (tyB a) :=
  g_op ha hb fun x y H hx hy n d K k => by
    obtain ⟨i, rfl, _⟩ := hx
    obtain ⟨j, rfl, _⟩ := hy
    exact ⟨rfl, k _ H (Gx.refl a H) d ⟨_, rfl⟩⟩
theorem g_test {m : Nat} {te : TE} (h : GE a m G te (tyB a)) : GT a m G (tTest te) := fun n σ H hn c d K k => h n σ H hn c d _ fun v H' g d' p => by
  obtain ⟨b, rfl⟩ := p
  exact ⟨b, rfl, k b H' g d'⟩
theorem g_andT {m1 m2 : Nat} {t u : TT} (h1 : GT a m1 G t) (h2 : GT a m2 G u) : GT a (m1 + m2) G (tAnd t u) := fun n σ H hn c d K k => h1 n σ H (by omega) c d _ fun b H1 g1 d1 => by
  cases b with
  | true =>
    show u σ H1 K
    exact h2 (n + m1) σ H1 (by omega) (c.st g1) d1 K fun b H2 g2 d2 => k b H2 (g1.trans g2) (d2.mono (by omega))
  | false =>
    show K false H1
    exact k false H1 g1 (d1.mono (by omega))
theorem g_andV {m1 m2 : Nat} {ta tb : TE} (h1 : GE a m1 G ta (tyB a)) (h2 : GE a m2 G tb (tyB a)) : GE a (m1 + m2) G (tAndV ta tb) (tyB a) := fun n σ H hn c d K k => h1 n σ H (by omega) c d _ fun v H1 g1 d1 p => by
  obtain ⟨b, rfl⟩ := p
  refine ⟨b, rfl, ?_⟩
  cases b with
  | true =>
    show tb σ H1 K
    exact h2 (n + m1) σ H1 (by omega) (c.st g1) d1 K fun b H2 g2 d2 p2 => k b H2 (g1.trans g2) (d2.mono (by omega)) p2
  | false =>
    show K (.bl false) H1
    exact k _ H1 g1 (d1.mono (by omega)) ⟨_, rfl⟩
/-- arguments -/
theorem ga_nil : GA a 0 G tNil [] := fun n σ H _ c d Q q => q [] H (Gx.refl a H) d .nil
theorem ga_cons {m1 m2 : Nat} {te : TE} {ta : TA} {P : Ty a} {Ps : List (Ty a)} (h : GE a m1 G te P) (hr : GA a m2 G ta Ps) : GA a (m1 + m2) G (tCons te ta) (P :: Ps) := fun n σ H hn c d Q q =>
  h n σ H (by omega) c d _ fun v H1 g1 d1 p => hr (n + m1) σ H1 (by omega) (c.st g1) d1 _ fun vs H2 g2 d2 ps => q (v :: vs) H2 (g1.trans g2) (d2.mono (by omega)) (.cons (P.st v H1 H2 g2 p) ps)
/-- (e, ..): R is what a new tuple of these is -/
theorem g_tup {m : Nat} {ta : TA} {Ps : List (Ty a)} {R : Ty a} (h : GA a m G ta Ps) (hR : ∀ vs H p, p ≠ a → H p = some (.tup vs) → TAll a H Ps vs → R.p (.ref p) H) (hl : Ps.length ≤ 1000 := by simp) : GE a m G (tTup ta) R := fun n σ H hn c d Q q =>
  h n σ H hn c d _ fun vs H1 g1 d1 ps => ⟨by rw [ps.len]; exact Nat.le_of_lt (small1000 hl), fun p hp => q _ _ (g1.trans (Gx.new hp)) (d1.upd (d1.ne hp)) (hR vs _ p (d1.ne hp) upd_same (ps.st (Gx.new hp)))⟩
theorem g_lst {m : Nat} {ta : TA} {k : Nat} {R : Ty a} (h : GA a m G ta (List.replicate k R)) (hl : k ≤ 1000) : GE a m G (tLst ta) (tyL a k R) := fun n σ H hn c d Q q =>
  h n σ H hn c d _ fun vs H1 g1 d1 ps => ⟨by rw [ps.len, List.length_replicate]; exact Nat.le_of_lt (small1000 hl), fun p hp => q _ _ (g1.trans (Gx.new hp)) (d1.upd (d1.ne hp)) ⟨p, vs, rfl, d1.ne hp, upd_same, by rw [ps.len, List.length_replicate], fun x hx => R.st x H1 _ (Gx.new hp) (ps.rep x hx)⟩⟩
/-- xs + ys of lists -/
theorem g_cat {m1 m2 k l : Nat} {ta tb : TE} {R : Ty a} (ha : GE a m1 G ta (tyL a k R)) (hb : GE a m2 G tb (tyL a l R)) (hl : k + l ≤ 1000) : GE a (m1 + m2) G (tOp rCat ta tb) (tyL a (k + l) R) :=
  g_op ha hb fun x y H hx hy n d K q => by
    obtain ⟨p, xs, rfl, np, hp, lp, tp⟩ := hx
    obtain ⟨s, ys, rfl, ns, hs, ls, ts⟩ := hy
    refine ⟨p, s, xs, ys, rfl, rfl, hp, hs, by rw [lp, ls]; exact Nat.le_of_lt (small1000 hl), fun t ht => q _ _ (Gx.new ht) (d.upd (d.ne ht)) ⟨t, xs ++ ys, rfl, d.ne ht, upd_same, by rw [List.length_append, lp, ls], fun x hx => R.st x H _ (Gx.new ht) ?_⟩⟩
    rcases List.mem_append.mp hx with z | z
    · exact tp x z
    · exact ts x z
theorem at_in {xs : List V} {i : Int} (h0 : 0 ≤ i) (h1 : i < (xs.length : Int)) : ∃ v, atI xs i = some v ∧ v ∈ xs := by
  have hi : i.toNat < xs.length := by omega
  refine ⟨xs[i.toNat], at_of (j := i.toNat) (by omega) (List.getElem?_eq_getElem hi), List.getElem_mem hi⟩
/-- xs[i] -/
theorem g_ixL {K : PySem.W.Frag} {m1 m2 k : Nat} {ta tb : TE} {R : Ty a} {p : Int → Prop} (ha : GE a m1 G ta (tyL a k R)) (hb : GE a m2 G tb (tyI a p)) (hp : ∀ i, p i → 0 ≤ i ∧ i < (k : Int)) : GE a (m1 + m2) G (tOp (rIxL K) ta tb) R :=
  g_op ha hb fun x y H hx hy n d Kk q => by
    obtain ⟨s, xs, rfl, np, hs, ls, ts⟩ := hx
    obtain ⟨i, rfl, pi⟩ := hy
    have hi := hp i pi
    obtain ⟨v, ev, mv⟩ := at_in (xs := xs) (i := i) hi.1 (by rw [ls]; exact hi.2)
    exact ⟨s, xs, i, v, rfl, rfl, SqL.of hs, ev, q v H (Gx.refl a H) d (ts v mv)⟩
/-- 'abc'[i] -/
theorem g_ixS {m2 : Nat} {tb : TE} {z : Str} {p : Int → Prop} {f : Str → Prop} (hb : GE a m2 G tb (tyI a p)) (hz : z.length ≤ 1000) (hp : ∀ i, p i → 0 ≤ i ∧ i < (z.cps.toList.length : Int)) (hf : ∀ c ∈ z.cps.toList, f ⟨#[c]⟩) : GE a (0 + m2) G (tOp rIxS (tC (.str z)) tb) (tyS a f) :=
  g_op (g_str z) hb fun x y H hx hy n d Kk q => by
    obtain ⟨z', hx1, hx2⟩ := hx
    rw [hx2] at hx1
    subst hx1
    obtain ⟨i, rfl, pi⟩ := hy
    have hi := hp i pi
    have hj : i.toNat < (z.cps.toList).length := by omega
    refine ⟨z, i, z.cps.toList[i.toNat], rfl, rfl, Nat.le_of_lt (small1000 hz), ?_, q _ H (Gx.refl a H) d ⟨_, rfl, hf _ (List.getElem_mem hj)⟩⟩
    have e : i = ((i.toNat : Nat) : Int) := by omega
    have h2 := atI_nat (List.getElem?_eq_getElem hj)
    rw [← e] at h2
    exact h2
/-- s + t of texts -/
theorem g_addS {m1 m2 : Nat} {ta tb : TE} {p q r : Str → Prop} (ha : GE a m1 G ta (tyS a p)) (hb : GE a m2 G tb (tyS a q)) (hl : ∀ i j, p i → q j → i.length + j.length ≤ 1000) (hr : ∀ i j, p i → q j → r (i ++ j)) : GE a (m1 + m2) G (tOp (fun x y H Q => ∃ i j, x = .str i ∧ y = .str j ∧ i.length + j.length ≤ sizeLine ∧ Q (.str (i ++ j)) H) ta tb) (tyS a r) :=
  g_op ha hb fun x y H hx hy n d K k => by
    obtain ⟨i, rfl, pi⟩ := hx
    obtain ⟨j, rfl, pj⟩ := hy
    exact ⟨i, j, rfl, rfl, Nat.le_of_lt (small1000 (hl i j pi pj)), k _ H (Gx.refl a H) d ⟨_, rfl, hr i j pi pj⟩⟩
/-- str(i) -/
theorem g_strI {m1 : Nat} {ta : TE} {p : Int → Prop} {r : Str → Prop} (ha : GE a m1 G ta (tyI a p)) (hb : ∀ i, p i → i.natAbs.log2 < 1920) (hr : ∀ i : Int, p i → r (toString i)) : GE a (m1 + 0) G (tCB (fun xs H Q => ∃ i : Int, xs = [.int i] ∧ i.natAbs.log2 < 1920 ∧ Q (.str (toString i)) H) (tCons ta tNil)) (tyS a r) := fun n σ H hn c d K k =>
  ha n σ H (by omega) c d _ fun v H1 g1 d1 p1 => by
    obtain ⟨i, rfl, pi⟩ := p1
    exact ⟨i, rfl, hb i pi, k _ H1 g1 d1 ⟨_, rfl, hr i pi⟩⟩
/-- int(b) -/
theorem g_intB {m1 : Nat} {ta : TE} (ha : GE a m1 G ta (tyB a)) : GE a (m1 + 0) G (tCB (fun xs H Q => (∃ i, xs = [V.int i] ∧ Q (.int i) H) ∨ ∃ k, xs = [V.bl k] ∧ Q (.int (if k then 1 else 0)) H) (tCons ta tNil)) (tyI a fun i => 0 ≤ i ∧ i < 2) := fun n σ H hn c d K k =>
  ha n σ H (by omega) c d _ fun v H1 g1 d1 p1 => by
    obtain ⟨b, rfl⟩ := p1
    refine .inr ⟨b, rfl, k _ H1 g1 d1 ⟨_, rfl, ?_⟩⟩
    cases b <;> decide
/-- tuple(xs) of a list -/
theorem g_tupOf {K : PySem.W.Frag} {m1 k : Nat} {ta : TE} {f : Nat → Prop} {R : Ty a} (ha : GE a m1 G ta (tyL a k R)) (hf : f k) : GE a (m1 + 0) G (tCB (fun xs H Q => ∃ p ys, xs = [V.ref p] ∧ ((SqL K H p ys ∧ ∀ l, H l = none → Q (.ref l) (upd H l (.tup ys))) ∨ (SqT K H p ys ∧ Q (.ref p) H))) (tCons ta tNil)) (tyU a f R) := fun n σ H hn c d Q q =>
  ha n σ H (by omega) c d _ fun v H1 g1 d1 p1 => by
    obtain ⟨s, xs, rfl, np, hs, ls, ts⟩ := p1
    exact ⟨s, xs, rfl, .inl ⟨SqL.of hs, fun l hl => q _ _ (g1.trans (Gx.new hl)) (d1.upd (d1.ne hl)) ⟨l, xs, rfl, d1.ne hl, upd_same, by rw [ls]; exact hf, fun x hx => R.st x H1 _ (Gx.new hl) (ts x hx)⟩⟩⟩
/-- the promise of a def that draws -/
def spG (m : Nat) (Ps : (a : Addr) → List (Ty a)) (R : (a : Addr) → Ty a) : Sp := fun vs H Q _ => ∃ (a : Addr) (n : Nat), n + m ≤ big ∧ Dr H a n ∧ TAll a H (Ps a) vs ∧ ∀ v H', Gx a H H' → Dr H' a (n + m) → (R a).p v H' → Q v H'
theorem g_call {m m1 : Nat} {Ps : (a : Addr) → List (Ty a)} {R : (a : Addr) → Ty a} {E : XK} {ta : TA} (h : GA a m1 G ta (Ps a)) : GE a (m1 + m) G (tCall (spG m Ps R) [] E ta) (R a) := fun n σ H hn c d Q q =>
  h n σ H (by omega) c d _ fun vs H1 g1 d1 ps => ⟨a, n + m1, by omega, d1, by rw [List.append_nil]; exact ps, fun v H2 g2 d2 p2 => q v H2 (g1.trans g2) (d2.mono (by omega)) p2⟩
/-- tuples stay, whatever else changes -/
def Tp (H H' : Hp) : Prop := ∀ b xs, H b = some (.tup xs) → H' b = some (.tup xs)
theorem Gx.tp {a : Addr} {H H' : Hp} {n : Nat} (d : Dr H a n) (g : Gx a H H') : Tp H H' := fun b xs h => g b _ (fun z => by
  obtain ⟨x, c, k, e, _⟩ := d
  rw [z, e] at h
  cases h) h
theorem wipe_one (σ : L2.St) (j : Nat) (x : V) : wipe ((wipe σ [j]).set j (some x)) [j] = wipe σ [j] := by
  show ((σ.set j none).set j (some x)).set j none = σ.set j none
  rw [List.set_set, List.set_set]
/-- a list of things of a type, by how many they may be -/
def tyLp (a : Addr) (p : Int → Prop) (R : Ty a) : Ty a := ⟨fun v H => ∃ k : Nat, p (k : Int) ∧ (tyL a k R).p v H, fun v H H' g ⟨k, pk, q⟩ => ⟨k, pk, (tyL a k R).st v H H' g q⟩⟩
/-- [e for x in range(k)] -/
theorem g_lcR {m1 m2 : Nat} {ta : TA} {te : TE} {j : Nat} {p : Int → Prop} {R : Ty a} {K : Nat} (h : GA a m1 G ta [tyI a p]) (hk : ∀ i, p i → 0 ≤ i ∧ i ≤ (K : Int)) (hK : K ≤ 1000) (hv : ∀ P, G[j]? ≠ some (some P)) (hT : ∀ v H H', Tp H H' → R.p v H → R.p v H') (he : GE a m2 G te R) :
    GE a (m1 + K * m2) G (tLc (iRng1 ta) (gName j) tYes te [j]) (tyLp a p R) := fun n σ H hn c d Q q =>
  h n σ H (by omega) c d _ fun ws H1 g1 d1 ps => by
    cases ps with
    | cons p1 r =>
      cases r
      obtain ⟨i, rfl, pi⟩ := p1
      have hi := hk i pi
      refine ⟨i, rfl, by omega, by omega, fun D hD => ?_⟩
      have nD : D ≠ a := d1.ne hD
      refine lc_range (lo := 0) (n := i.toNat) (fun t H' => Gx a H1 H' ∧ Dr H' a (n + m1 + t * m2) ∧ ∃ xs, H' D = some (.lst xs) ∧ xs.length = t ∧ ∀ x ∈ xs, R.p x H') ?_ ?_ ?_
      · exact ⟨Gx.new hD, (d1.upd nD).mono (by omega), [], upd_same, rfl, fun x hx => by cases hx⟩
      · rintro t H' ht ⟨g', d', xs, hxs, lxs, txs⟩
        have hm : (t + 1) * m2 ≤ K * m2 := Nat.mul_le_mul_right m2 (by omega)
        have hm' : (t + 1) * m2 = t * m2 + m2 := Nat.succ_mul t m2
        have cw : Cty a G ((wipe σ [j]).set j (some (.int ((0 : Int) + (t : Int))))) H' := by
          have c1 := (c.st (g1.trans g')).wipe [j] (fun i hi P => by rw [List.mem_singleton.mp hi]; exact hv P)
          refine ⟨by rw [List.length_set]; exact c1.len, fun i P e => ?_⟩
          obtain ⟨v, e1, p1⟩ := c1.at_ i P e
          have hij : j ≠ i := fun z => hv P (by rw [z]; exact e)
          exact ⟨v, by rw [List.getElem?_set_ne hij]; exact e1, p1⟩
        refine ⟨wipe_one σ j _, ?_⟩
        refine he (n + m1 + t * m2) ((wipe σ [j]).set j (some (.int ((0 : Int) + (t : Int))))) H' (by omega) cw d' _ fun v H2 g2 d2 p2 => ?_
        have hx2 : H2 D = some (.lst xs) := g2 D _ nD hxs
        have kt : Tp H2 (upd H2 D (.lst (xs ++ [v]))) := fun b ys hb => by
          rw [upd_ne (ne_of hb hx2 (by intro z; cases z))]
          exact hb
        refine ⟨xs, hx2, by rw [lxs]; exact small1000 (by omega), ?_, ?_, xs ++ [v], upd_same, by rw [List.length_append, lxs] <;> rfl, ?_⟩
        · exact (g'.trans g2).grow hD
        · exact (d2.upd nD).mono (by omega)
        · intro x hx
          rcases List.mem_append.mp hx with z | z
          · exact hT x _ _ kt (R.st x H' H2 g2 (txs x z))
          · rw [List.mem_singleton.mp z]
            exact hT v _ _ kt p2
      · rintro H' ⟨g', d', xs, hxs, lxs, txs⟩
        have hm : i.toNat * m2 ≤ K * m2 := Nat.mul_le_mul_right m2 (by omega)
        exact q _ H' (g1.trans g') (d'.mono (by omega)) ⟨i.toNat, by rw [show ((i.toNat : Nat) : Int) = i by omega]; exact pi, D, xs, rfl, nD, hxs, lxs, txs⟩
theorem g_tupOfp {K : PySem.W.Frag} {m1 : Nat} {ta : TE} {p : Int → Prop} {R : Ty a} (ha : GE a m1 G ta (tyLp a p R)) : GE a (m1 + 0) G (tCB (fun xs H Q => ∃ p ys, xs = [V.ref p] ∧ ((SqL K H p ys ∧ ∀ l, H l = none → Q (.ref l) (upd H l (.tup ys))) ∨ (SqT K H p ys ∧ Q (.ref p) H))) (tCons ta tNil)) (tyU a (fun k => p (k : Int)) R) := fun n σ H hn c d Q q =>
  ha n σ H (by omega) c d _ fun v H1 g1 d1 p1 => by
    obtain ⟨k, pk, s, xs, rfl, np, hs, ls, ts⟩ := p1
    exact ⟨s, xs, rfl, .inl ⟨SqL.of hs, fun l hl => q _ _ (g1.trans (Gx.new hl)) (d1.upd (d1.ne hl)) ⟨l, xs, rfl, d1.ne hl, upd_same, by rw [ls]; exact pk, fun x hx => R.st x H1 _ (Gx.new hl) (ts x hx)⟩⟩⟩
/-! ### statements -/
theorem gs_par {m i j : Nat} {ta : TA} {P Q R : Ty a} (h : GA a m G ta [P, Q]) : GS a m G (tPar i j ta) (some ((G.set i (some P)).set j (some Q))) R := fun n σ H D hn c d _ k => h n σ H hn c d _ fun vs H' g d' ps => by
  cases ps with
  | cons p r =>
    cases r with
    | cons q r =>
      cases r
      exact ⟨_, _, rfl, k _ H' g d' (((c.st g).set p).set q)⟩
/-- by what a slot may be -/
theorem gs_split {m i : Nat} {t : TS} {P P1 P2 R : Ty a} {G' : Option (List (Option (Ty a)))} (h : G[i]? = some (some P)) (w : ∀ v H, P.p v H → P1.p v H ∨ P2.p v H) (h1 : GS a m (G.set i (some P1)) t G' R) (h2 : GS a m (G.set i (some P2)) t G' R) : GS a m G t G' R := fun n σ H D hn c d k1 k2 => by
  obtain ⟨v, e, p⟩ := c.at_ i P h
  have e2 : σ.set i (some v) = σ := by
    obtain ⟨hi, e1⟩ := List.getElem?_eq_some_iff.mp e
    rw [← e1]
    exact List.set_getElem_self hi
  rcases w v H p with p1 | p2
  · have c1 := c.set (i := i) p1
    rw [e2] at c1
    exact h1 n σ H D hn c1 d k1 k2
  · have c1 := c.set (i := i) p2
    rw [e2] at c1
    exact h2 n σ H D hn c1 d k1 k2
theorem gs_ret {m : Nat} {te : TE} {R : Ty a} (h : GE a m G te R) : GS a m G (tRet te) none R := fun n σ H D hn c d k _ => h n σ H hn c d _ fun v H' g d' p => k v H' g d' p
theorem gs_set {m i : Nat} {te : TE} {P R : Ty a} (h : GE a m G te P) : GS a m G (tAsg te (gName i)) (some (G.set i (some P))) R := fun n σ H D hn c d _ k => h n σ H hn c d _ fun v H' g d' p => k _ H' g d' ((c.st g).set p)
theorem gs_next {R : Ty a} : GS a 0 G tNext (some G) R := fun n σ H D hn c d _ k => k σ H (Gx.refl a H) d c
theorem gs_seq {m1 m2 : Nat} {t u : TS} {G1 : List (Option (Ty a))} {G2 : Option (List (Option (Ty a)))} {R : Ty a} (h1 : GS a m1 G t (some G1) R) (h2 : GS a m2 G1 u G2 R) : GS a (m1 + m2) G (tSeq t u) G2 R := fun n σ H D hn c d k1 k2 =>
  h1 n σ H _ (by omega) c d (fun v H' g d' p => k1 v H' g (d'.mono (by omega)) p) fun σ' H' g d' c' => h2 (n + m1) σ' H' D (by omega) c' d' (fun v H2 g2 d2 p => k1 v H2 (g.trans g2) (d2.mono (by omega)) p) fun σ2 H2 g2 d2 c2 => k2 σ2 H2 (g.trans g2) (d2.mono (by omega)) c2
/-- if t: suite that returns; then the rest -/
theorem gs_ifr {m1 m2 m3 : Nat} {t : TT} {u r : TS} {G2 : Option (List (Option (Ty a)))} {R : Ty a} (h1 : GT a m1 G t) (h2 : GS a m2 G u none R) (h3 : GS a m3 G r G2 R) : GS a (m1 + (max m2 m3)) G (tSeq (tIfS t u tNext) r) G2 R := fun n σ H D hn c d k1 k2 =>
  h1 n σ H (by omega) c d _ fun b H1 g1 d1 => by
    cases b with
    | true =>
      show u { D with nx := r D } σ H1
      exact h2 (n + m1) σ H1 _ (by omega) (c.st g1) d1 (fun v H2 g2 d2 p => k1 v H2 (g1.trans g2) (d2.mono (by omega)) p) fun σ2 H2 g2 d2 c2 => c2.elim
    | false =>
      show r D σ H1
      exact h3 (n + m1) σ H1 D (by omega) (c.st g1) d1 (fun v H2 g2 d2 p => k1 v H2 (g1.trans g2) (d2.mono (by omega)) p) fun σ2 H2 g2 d2 c2 => k2 σ2 H2 (g1.trans g2) (d2.mono (by omega)) c2
/-- if t: x = e, in both ways the slots are of G1 -/
theorem gs_ifs {m1 m2 : Nat} {t : TT} {u : TS} {R : Ty a} (h1 : GT a m1 G t) (h2 : GS a m2 G u (some G) R) : GS a (m1 + m2) G (tIfS t u tNext) (some G) R := fun n σ H D hn c d k1 k2 =>
  h1 n σ H (by omega) c d _ fun b H1 g1 d1 => by
    cases b with
    | true =>
      show u D σ H1
      exact h2 (n + m1) σ H1 _ (by omega) (c.st g1) d1 (fun v H2 g2 d2 p => k1 v H2 (g1.trans g2) (d2.mono (by omega)) p) fun σ2 H2 g2 d2 c2 => k2 σ2 H2 (g1.trans g2) (d2.mono (by omega)) c2
    | false =>
      show D.nx σ H1
      exact k2 σ H1 g1 (d1.mono (by omega)) (c.st g1)
theorem GS.up {m m' : Nat} {t : TS} {G' : Option (List (Option (Ty a)))} {R : Ty a} (h : GS a m G t G' R) (w : m ≤ m') : GS a m' G t G' R := fun n σ H D hn c d k1 k2 => h n σ H D (by omega) c d (fun v H' g d' p => k1 v H' g (d'.mono (by omega)) p) fun σ' H' g d' c' => k2 σ' H' g (d'.mono (by omega)) c'
end
/-- a def that draws: from its body -/
theorem fun_G {P : Program} {w : World} {K : PySem.W.Frag} {mg : Str → Option Value} {base : Heap} {x qual : Str} {st : Stmt} {f : Addr} {fd : FuncData} {N ps : List Str} {k m : Nat} {Ps : (a : Addr) → List (Ty a)} {R : (a : Addr) → Ty a}
    (F : Fun K x qual st f fd) (S : FnScope N ps (defScope st)) (hl : ∀ a, (Ps a).length = ps.length) (hN : ps.length ≤ N.length)
    (hb : ∀ (cdv : Value) (A : Around) (outer : List Env) (s : Shared) (H : Hp) (E : XK), Room k (A.deeper (PyProof.Rows.envOfC qual (defScope st) s.heap.objs.size f cdv)) →
      ∃ t, PSs (cxOf CX0 P w K mg base N qual (defScope st) f cdv A outer s H E).nox (defBody st) t ∧ ∀ a, GS a m ((Ps a).map some ++ List.replicate (N.length - (Ps a).length) none) t none (R a)) :
    FnOk P w K mg base CX0 (k + 1) f fd ps (spG m Ps R) := by
  refine F.ok S (fun vs H Q E h => ?_) (fun cdv A outer s H vs Q E hr h => ?_)
  · obtain ⟨a, n, _, _, ps', _⟩ := h
    rw [ps'.len, hl a]
  · obtain ⟨a, n, hn, d, ps', q⟩ := h
    obtain ⟨t, ht, g⟩ := hb cdv A outer s H E hr
    exact ⟨t, ht, g a n _ H _ hn (ctx_start ps' (by rw [hl a]; exact hN)) d q fun σ' H' _ _ c => c.elim⟩
end Wp
set_option Elab.async false
set_option linter.all false
set_option maxRecDepth 100000
namespace Wp
open PySem L2

/-! ### data made of tuples: what stands at a value, the draws' place left out -/
mutual
inductive Dq (a : Addr) (H : Hp) : V → PyData → Prop
  | non : Dq a H .non .none
  | bl (b : Bool) : Dq a H (.bl b) (.bool b)
  | int (i : Int) : Dq a H (.int i) (.int i)
  | str (z : Str) : Dq a H (.str z) (.str z)
  | tup {p : Addr} {xs : List V} {ds : List PyData} : p ≠ a → H p = some (.tup xs) → DqL a H xs ds → Dq a H (.ref p) (.tuple ds)
inductive DqL (a : Addr) (H : Hp) : List V → List PyData → Prop
  | nil : DqL a H [] []
  | cons {v : V} {vs : List V} {d : PyData} {ds : List PyData} : Dq a H v d → DqL a H vs ds → DqL a H (v :: vs) (d :: ds)
end
mutual
theorem Dq.st {a : Addr} {H H' : Hp} (k : ∀ p xs, p ≠ a → H p = some (.tup xs) → H' p = some (.tup xs)) : ∀ {v : V} {d : PyData}, Dq a H v d → Dq a H' v d
  | _, _, .non => .non
  | _, _, .bl b => .bl b
  | _, _, .int i => .int i
  | _, _, .str z => .str z
  | _, _, .tup n h t => .tup n (k _ _ n h) (DqL.st k t)
theorem DqL.st {a : Addr} {H H' : Hp} (k : ∀ p xs, p ≠ a → H p = some (.tup xs) → H' p = some (.tup xs)) : ∀ {vs : List V} {ds : List PyData}, DqL a H vs ds → DqL a H' vs ds
  | _, _, .nil => .nil
  | _, _, .cons h t => .cons (Dq.st k h) (DqL.st k t)
end
theorem Dq.gx {a : Addr} {H H' : Hp} {v : V} {d : PyData} (h : Dq a H v d) (g : Gx a H H') : Dq a H' v d := h.st fun p xs n e => g p _ n e
theorem Dq.tp {a : Addr} {H H' : Hp} {v : V} {d : PyData} (h : Dq a H v d) (g : Tp H H') : Dq a H' v d := h.st fun p xs _ e => g p xs e
mutual
theorem Dq.dp {K : PySem.W.Frag} {a : Addr} {H : Hp} : ∀ {v : V} {d : PyData}, Dq a H v d → Dp K H v d
  | _, _, .non => .non
  | _, _, .bl b => .bl b
  | _, _, .int i => .int i
  | _, _, .str z => .str z
  | _, _, .tup _ h t => .tup (.inl (.inl h)) (DqL.dp t)
theorem DqL.dp {K : PySem.W.Frag} {a : Addr} {H : Hp} : ∀ {vs : List V} {ds : List PyData}, DqL a H vs ds → DpAll K H vs ds
  | _, _, .nil => .nil
  | _, _, .cons h t => .cons (Dq.dp h) (DqL.dp t)
end
theorem dql_all {a : Addr} {H : Hp} {f : PyData → Prop} : ∀ {xs : List V}, (∀ x ∈ xs, ∃ d, Dq a H x d ∧ f d) → ∃ ds, DqL a H xs ds ∧ ds.length = xs.length ∧ ∀ d ∈ ds, f d
  | [], _ => ⟨[], .nil, rfl, fun _ h => by cases h⟩
  | x :: xs, h => by
    obtain ⟨d, q, t⟩ := h x List.mem_cons_self
    obtain ⟨ds, qs, l, ts⟩ := dql_all (xs := xs) fun y hy => h y (List.mem_cons_of_mem _ hy)
    refine ⟨d :: ds, .cons q qs, by rw [List.length_cons, List.length_cons, l], fun e he => ?_⟩
    rcases List.mem_cons.mp he with z | z
    · rw [z]; exact t
    · exact ts e z

/-! ### terms, by their depth -/
def newNames : List Str := ["x0", "x1", "x2"]
def termNames : List Str := ["input", "loose", "b9", "x0", "x1", "x2", "fx0", "fx1", "fx2"]
def kindNames : List Str := ["any", "point", "part", "cell", "fun"]
def termTags : List Str := ["m", "n"]
def termTexts : List Str := ["a", "b", "c", "i", "o"]
def opMany (w : Str) : Option Nat :=
  if w ∈ (["plus", "minus", "times", "less", "same", "joined", "pair"] : List Str) then some 2 else if w ∈ (["first", "rest", "kind", "written"] : List Str) then some 1 else none
inductive Tm : Nat → PyData → Prop
  | num {n : Nat} (i : Int) : Tm n (.tuple [.str "num", .int i])
  | text {n : Nat} {z : Str} : z ∈ termTexts → Tm n (.tuple [.str "text", .str z])
  | yes {n : Nat} : Tm n (.tuple [.str "yes"])
  | no {n : Nat} : Tm n (.tuple [.str "no"])
  | none {n : Nat} : Tm n (.tuple [.str "none"])
  | name {n : Nat} {z : Str} : z ∈ termNames → Tm n (.tuple [.str "name", .str z])
  | func {n : Nat} {xs : List Str} {e : PyData} : (∀ x ∈ xs, x ∈ termNames) → xs.Nodup → xs.length ≤ 6 → Tm n e → Tm (n + 1) (.tuple [.str "fun", .tuple (xs.map .str), e])
  | recu {n : Nat} {f : Str} {xs : List Str} {e : PyData} : f ∈ termNames → (∀ x ∈ xs, x ∈ termNames) → (f :: xs).Nodup → xs.length ≤ 6 → Tm n e → Tm (n + 1) (.tuple [.str "rec", .str f, .tuple (xs.map .str), e])
  | call {n : Nat} {f : PyData} {ds : List PyData} : Tm n f → (∀ d ∈ ds, Tm n d) → ds.length ≤ 6 → Tm (n + 1) (.tuple [.str "call", f, .tuple ds])
  | lett {n : Nat} {z : Str} {d e : PyData} : z ∈ termNames → Tm n d → Tm n e → Tm (n + 1) (.tuple [.str "let", .str z, d, e])
  | iff {n : Nat} {c d e : PyData} : Tm n c → Tm n d → Tm n e → Tm (n + 1) (.tuple [.str "if", c, d, e])
  | doo {n : Nat} {ds : List PyData} : (∀ d ∈ ds, Tm n d) → 1 ≤ ds.length → ds.length ≤ 12 → Tm (n + 1) (.tuple [.str "do", .tuple ds])
  | op {n k : Nat} {w : Str} {ds : List PyData} : opMany w = some k → (∀ d ∈ ds, Tm n d) → ds.length = k → Tm (n + 1) (.tuple [.str "op", .str w, .tuple ds])
  | cell {n : Nat} {d : PyData} : Tm n d → Tm (n + 1) (.tuple [.str "cell", d])
  | get {n : Nat} {d : PyData} : Tm n d → Tm (n + 1) (.tuple [.str "get", d])
  | sett {n : Nat} {d e : PyData} : Tm n d → Tm n e → Tm (n + 1) (.tuple [.str "set", d, e])
  | say {n : Nat} {d : PyData} : Tm n d → Tm (n + 1) (.tuple [.str "say", d])
  | fault {n : Nat} {d : PyData} : Tm n d → Tm (n + 1) (.tuple [.str "fault", d])
  | guard {n : Nat} {z : Str} {d e : PyData} : Tm n d → z ∈ termNames → Tm n e → Tm (n + 1) (.tuple [.str "guard", d, .str z, e])
  | wind {n : Nat} {c d e : PyData} : Tm n c → Tm n d → Tm n e → Tm (n + 1) (.tuple [.str "wind", c, d, e])
  | catc {n : Nat} {z : Str} {d : PyData} : z ∈ termNames → Tm n d → Tm (n + 1) (.tuple [.str "catch", .str z, d])
  | go {n : Nat} {d e : PyData} : Tm n d → Tm n e → Tm (n + 1) (.tuple [.str "go", d, e])
  | mark {n : Nat} {z : Str} {d : PyData} : z ∈ termTags → Tm n d → Tm (n + 1) (.tuple [.str "mark", .str z, d])
  | take {n : Nat} {z y : Str} {d : PyData} : z ∈ termTags → y ∈ termNames → Tm n d → Tm (n + 1) (.tuple [.str "take", .str z, .str y, d])
  | use {n : Nat} {d e : PyData} : Tm n d → Tm n e → Tm (n + 1) (.tuple [.str "use", d, e])
theorem Tm.up {n : Nat} {d : PyData} (h : Tm n d) : Tm (n + 1) d := by
  induction h with
  | num i => exact .num i
  | text h => exact .text h
  | yes => exact .yes
  | no => exact .no
  | none => exact .none
  | name h => exact .name h
  | func h1 h2 h3 _ i1 => exact .func h1 h2 h3 i1
  | recu h0 h1 h2 h3 _ i1 => exact .recu h0 h1 h2 h3 i1
  | call _ _ h3 i1 i2 => exact .call i1 i2 h3
  | lett h _ _ i1 i2 => exact .lett h i1 i2
  | iff _ _ _ i1 i2 i3 => exact .iff i1 i2 i3
  | doo _ h1 h2 i1 => exact .doo i1 h1 h2
  | op h0 _ h1 i1 => exact .op h0 i1 h1
  | cell _ i1 => exact .cell i1
  | get _ i1 => exact .get i1
  | sett _ _ i1 i2 => exact .sett i1 i2
  | say _ i1 => exact .say i1
  | fault _ i1 => exact .fault i1
  | guard _ h _ i1 i2 => exact .guard i1 h i2
  | wind _ _ _ i1 i2 i3 => exact .wind i1 i2 i3
  | catc h _ i1 => exact .catc h i1
  | go _ _ i1 i2 => exact .go i1 i2
  | mark h _ i1 => exact .mark h i1
  | take h h1 _ i1 => exact .take h h1 i1
  | use _ _ i1 i2 => exact .use i1 i2
theorem Tm.le {n m : Nat} {d : PyData} (h : Tm n d) (l : n ≤ m) : Tm m d := by
  induction l with
  | refl => exact h
  | step _ ih => exact ih.up

/-! ### types of the drawn terms -/
def tyT (a : Addr) (n : Nat) : Ty a := ⟨fun v H => ∃ d, Dq a H v d ∧ Tm n d, fun v H H' g h => by
  obtain ⟨d, q, t⟩ := h
  exact ⟨d, q.gx g, t⟩⟩
theorem tyT_tp {a : Addr} {n : Nat} : ∀ v H H', Tp H H' → (tyT a n).p v H → (tyT a n).p v H' := fun v H H' g h => by
  obtain ⟨d, q, t⟩ := h
  exact ⟨d, q.tp g, t⟩
theorem tyT_le {a : Addr} {n m : Nat} (l : n ≤ m) : ∀ v H, (tyT a n).p v H → (tyT a m).p v H := fun v H h => by
  obtain ⟨d, q, t⟩ := h
  exact ⟨d, q, t.le l⟩
/-- a row of names: a name, its kind -/
def RowAt (a : Addr) (H : Hp) (r : V) : Prop := ∃ (q : Addr) (x k : Str), r = .ref q ∧ q ≠ a ∧ H q = some (.tup [.str x, .str k]) ∧ x ∈ termNames ∧ k ∈ kindNames
theorem RowAt.st {a : Addr} {H H' : Hp} {r : V} (h : RowAt a H r) (k : ∀ p xs, p ≠ a → H p = some (.tup xs) → H' p = some (.tup xs)) : RowAt a H' r := by
  obtain ⟨q, x, z, e, n, t, l⟩ := h
  exact ⟨q, x, z, e, n, k _ _ n t, l⟩
def tyNs (a : Addr) (L : Nat) : Ty a := ⟨fun v H => ∃ p rs, v = .ref p ∧ p ≠ a ∧ H p = some (.lst rs) ∧ rs.length ≤ L ∧ ∀ r ∈ rs, RowAt a H r, fun v H H' g h => by
  obtain ⟨p, rs, e, n, q, l, t⟩ := h
  exact ⟨p, rs, e, n, g p _ n q, l, fun r hr => (t r hr).st fun p xs n e => g p _ n e⟩⟩
theorem ns_dp {K : PySem.W.Frag} {a : Addr} {H : Hp} : ∀ {rs : List V}, (∀ r ∈ rs, RowAt a H r) → ∃ ds, DpAll K H rs ds ∧ PyData.canLayAll0 ds = true ∧ PyData.depthAll ds ≤ 1 ∧ ds.length = rs.length
  | [], _ => ⟨[], .nil, by simp [PyData.canLayAll0], by simp [PyData.depthAll], rfl⟩
  | r :: rs, h => by
    obtain ⟨ds, q, c, d, l⟩ := ns_dp (K := K) (rs := rs) fun y hy => h y (List.mem_cons_of_mem _ hy)
    obtain ⟨p, x, k, rfl, np, hp, hx, hk⟩ := h r List.mem_cons_self
    have sx : ∀ x ∈ termNames, PyData.strOk x = true := by decide +kernel
    have sk : ∀ x ∈ kindNames, PyData.strOk x = true := by decide +kernel
    refine ⟨.tuple [.str x, .str k] :: ds, .cons (.tup (.inl (.inl hp)) (.cons (.str _) (.cons (.str _) .nil))) q, ?_, ?_, by rw [List.length_cons, List.length_cons, l]⟩
    · simp [PyData.canLayAll0, PyData.canLay0, sx x hx, sk k hk, c]
    · simp only [PyData.depthAll, PyData.depth]
      omega
theorem shaped_list {ds : List PyData} (c : PyData.canLayAll0 ds = true) (d : PyData.depthAll ds ≤ 60) : SeqAt.shaped (.list ds) = true := by
  unfold SeqAt.shaped
  rw [Bool.and_eq_true]
  refine ⟨by simp only [PyData.canLay0]; exact c, decide_eq_true ?_⟩
  simp only [PyData.depth]
  omega
theorem all0 {a : Addr} {H : Hp} {vs : List V} (h : TAll a H [] vs) : vs = [] := by cases h; rfl
theorem all1 {a : Addr} {H : Hp} {P : Ty a} {vs : List V} (h : TAll a H [P] vs) : ∃ x, vs = [x] ∧ P.p x H := by
  cases h with
  | cons p r => cases r; exact ⟨_, rfl, p⟩
theorem all2 {a : Addr} {H : Hp} {P Q : Ty a} {vs : List V} (h : TAll a H [P, Q] vs) : ∃ x y, vs = [x, y] ∧ P.p x H ∧ Q.p y H := by
  cases h with
  | cons p r =>
    obtain ⟨y, rfl, q⟩ := all1 r
    exact ⟨_, _, rfl, p, q⟩
theorem all3 {a : Addr} {H : Hp} {P Q R : Ty a} {vs : List V} (h : TAll a H [P, Q, R] vs) : ∃ x y z, vs = [x, y, z] ∧ P.p x H ∧ Q.p y H ∧ R.p z H := by
  cases h with
  | cons p r =>
    obtain ⟨y, z, rfl, q⟩ := all2 r
    exact ⟨_, _, _, rfl, p, q⟩
theorem all4 {a : Addr} {H : Hp} {P Q R S : Ty a} {vs : List V} (h : TAll a H [P, Q, R, S] vs) : ∃ x y z w, vs = [x, y, z, w] ∧ P.p x H ∧ Q.p y H ∧ R.p z H ∧ S.p w H := by
  cases h with
  | cons p r =>
    obtain ⟨y, z, w, rfl, q⟩ := all3 r
    exact ⟨_, _, _, _, rfl, p, q⟩
/-- what a written text, a name, a tag is -/
abbrev tyW (a : Addr) (z : Str) : Ty a := tyS a fun y => y = z
abbrev tyNm (a : Addr) : Ty a := tyS a fun y => y ∈ termNames
abbrev tyNew (a : Addr) : Ty a := tyS a fun y => y ∈ newNames
theorem new_term {z : Str} (h : z ∈ newNames) : z ∈ termNames := by
  unfold newNames at h
  unfold termNames
  simp only [List.mem_cons, List.not_mem_nil, or_false] at h ⊢
  rcases h with h | h | h <;> simp [h]
section
variable {a : Addr} {n : Nat} {vs : List V} {H : Hp} {p : Addr}
theorem mk_num {f : Int → Prop} (np : p ≠ a) (hp : H p = some (.tup vs)) (h : TAll a H [tyW a "num", tyI a f] vs) : (tyT a n).p (.ref p) H := by
  obtain ⟨_, _, rfl, ⟨_, rfl, rfl⟩, ⟨i, rfl, _⟩⟩ := all2 h
  exact ⟨_, .tup np hp (.cons (.str _) (.cons (.int _) .nil)), .num i⟩
theorem mk_text (np : p ≠ a) (hp : H p = some (.tup vs)) (h : TAll a H [tyW a "text", tyS a fun z => z ∈ termTexts] vs) : (tyT a n).p (.ref p) H := by
  obtain ⟨_, _, rfl, ⟨_, rfl, rfl⟩, ⟨z, rfl, hz⟩⟩ := all2 h
  exact ⟨_, .tup np hp (.cons (.str _) (.cons (.str _) .nil)), .text hz⟩
theorem mk_yes (np : p ≠ a) (hp : H p = some (.tup vs)) (h : TAll a H [tyW a "yes"] vs) : (tyT a n).p (.ref p) H := by
  obtain ⟨_, rfl, ⟨_, rfl, rfl⟩⟩ := all1 h
  exact ⟨_, .tup np hp (.cons (.str _) .nil), .yes⟩
theorem mk_no (np : p ≠ a) (hp : H p = some (.tup vs)) (h : TAll a H [tyW a "no"] vs) : (tyT a n).p (.ref p) H := by
  obtain ⟨_, rfl, ⟨_, rfl, rfl⟩⟩ := all1 h
  exact ⟨_, .tup np hp (.cons (.str _) .nil), .no⟩
theorem mk_none (np : p ≠ a) (hp : H p = some (.tup vs)) (h : TAll a H [tyW a "none"] vs) : (tyT a n).p (.ref p) H := by
  obtain ⟨_, rfl, ⟨_, rfl, rfl⟩⟩ := all1 h
  exact ⟨_, .tup np hp (.cons (.str _) .nil), .none⟩
theorem mk_name {f : Str → Prop} (hf : ∀ z, f z → z ∈ termNames) (np : p ≠ a) (hp : H p = some (.tup vs)) (h : TAll a H [tyW a "name", tyS a f] vs) : (tyT a n).p (.ref p) H := by
  obtain ⟨_, _, rfl, ⟨_, rfl, rfl⟩, ⟨z, rfl, hz⟩⟩ := all2 h
  exact ⟨_, .tup np hp (.cons (.str _) (.cons (.str _) .nil)), .name (hf z hz)⟩
/-- one part behind the word -/
theorem mk_1 {w : Str} (hw : ∀ d, Tm n d → Tm (n + 1) (.tuple [.str w, d])) (np : p ≠ a) (hp : H p = some (.tup vs)) (h : TAll a H [tyW a w, tyT a n] vs) : (tyT a (n + 1)).p (.ref p) H := by
  obtain ⟨_, _, rfl, ⟨_, rfl, rfl⟩, ⟨d, q, t⟩⟩ := all2 h
  exact ⟨_, .tup np hp (.cons (.str _) (.cons q .nil)), hw d t⟩
theorem mk_2 {w : Str} (hw : ∀ d e, Tm n d → Tm n e → Tm (n + 1) (.tuple [.str w, d, e])) (np : p ≠ a) (hp : H p = some (.tup vs)) (h : TAll a H [tyW a w, tyT a n, tyT a n] vs) : (tyT a (n + 1)).p (.ref p) H := by
  obtain ⟨_, _, _, rfl, ⟨_, rfl, rfl⟩, ⟨d, q, t⟩, ⟨e, q2, t2⟩⟩ := all3 h
  exact ⟨_, .tup np hp (.cons (.str _) (.cons q (.cons q2 .nil))), hw d e t t2⟩
theorem mk_3 {w : Str} (hw : ∀ c d e, Tm n c → Tm n d → Tm n e → Tm (n + 1) (.tuple [.str w, c, d, e])) (np : p ≠ a) (hp : H p = some (.tup vs)) (h : TAll a H [tyW a w, tyT a n, tyT a n, tyT a n] vs) : (tyT a (n + 1)).p (.ref p) H := by
  obtain ⟨_, _, _, _, rfl, ⟨_, rfl, rfl⟩, ⟨c, q0, t0⟩, ⟨d, q, t⟩, ⟨e, q2, t2⟩⟩ := all4 h
  exact ⟨_, .tup np hp (.cons (.str _) (.cons q0 (.cons q (.cons q2 .nil)))), hw c d e t0 t t2⟩
/-- a text, then a part -/
theorem mk_s1 {w : Str} {f : Str → Prop} (hw : ∀ z d, f z → Tm n d → Tm (n + 1) (.tuple [.str w, .str z, d])) (np : p ≠ a) (hp : H p = some (.tup vs)) (h : TAll a H [tyW a w, tyS a f, tyT a n] vs) : (tyT a (n + 1)).p (.ref p) H := by
  obtain ⟨_, _, _, rfl, ⟨_, rfl, rfl⟩, ⟨z, rfl, hz⟩, ⟨d, q, t⟩⟩ := all3 h
  exact ⟨_, .tup np hp (.cons (.str _) (.cons (.str _) (.cons q .nil))), hw z d hz t⟩
theorem mk_ss1 {w : Str} {f g : Str → Prop} (hw : ∀ z y d, f z → g y → Tm n d → Tm (n + 1) (.tuple [.str w, .str z, .str y, d])) (np : p ≠ a) (hp : H p = some (.tup vs)) (h : TAll a H [tyW a w, tyS a f, tyS a g, tyT a n] vs) : (tyT a (n + 1)).p (.ref p) H := by
  obtain ⟨_, _, _, _, rfl, ⟨_, rfl, rfl⟩, ⟨z, rfl, hz⟩, ⟨y, rfl, hy⟩, ⟨d, q, t⟩⟩ := all4 h
  exact ⟨_, .tup np hp (.cons (.str _) (.cons (.str _) (.cons (.str _) (.cons q .nil)))), hw z y d hz hy t⟩
theorem mk_s2 {w : Str} {f : Str → Prop} (hw : ∀ z d e, f z → Tm n d → Tm n e → Tm (n + 1) (.tuple [.str w, .str z, d, e])) (np : p ≠ a) (hp : H p = some (.tup vs)) (h : TAll a H [tyW a w, tyS a f, tyT a n, tyT a n] vs) : (tyT a (n + 1)).p (.ref p) H := by
  obtain ⟨_, _, _, _, rfl, ⟨_, rfl, rfl⟩, ⟨z, rfl, hz⟩, ⟨d, q, t⟩, ⟨e, q2, t2⟩⟩ := all4 h
  exact ⟨_, .tup np hp (.cons (.str _) (.cons (.str _) (.cons q (.cons q2 .nil)))), hw z d e hz t t2⟩
theorem mk_1s1 {w : Str} {f : Str → Prop} (hw : ∀ z d e, f z → Tm n d → Tm n e → Tm (n + 1) (.tuple [.str w, d, .str z, e])) (np : p ≠ a) (hp : H p = some (.tup vs)) (h : TAll a H [tyW a w, tyT a n, tyS a f, tyT a n] vs) : (tyT a (n + 1)).p (.ref p) H := by
  obtain ⟨_, _, _, _, rfl, ⟨_, rfl, rfl⟩, ⟨d, q, t⟩, ⟨z, rfl, hz⟩, ⟨e, q2, t2⟩⟩ := all4 h
  exact ⟨_, .tup np hp (.cons (.str _) (.cons q (.cons (.str _) (.cons q2 .nil)))), hw z d e hz t t2⟩
/-- a tuple of parts -/
theorem tup_of {f : Nat → Prop} {v : V} (h : (tyU a f (tyT a n)).p v H) : ∃ ds, Dq a H v (.tuple ds) ∧ f ds.length ∧ ∀ d ∈ ds, Tm n d := by
  obtain ⟨q, xs, rfl, nq, hq, l, t⟩ := h
  obtain ⟨ds, qs, ld, ts⟩ := dql_all (f := Tm n) t
  exact ⟨ds, .tup nq hq qs, by rw [ld]; exact l, ts⟩
theorem mk_call {f : Nat → Prop} (hf : ∀ k, f k → k ≤ 6) (np : p ≠ a) (hp : H p = some (.tup vs)) (h : TAll a H [tyW a "call", tyT a n, tyU a f (tyT a n)] vs) : (tyT a (n + 1)).p (.ref p) H := by
  obtain ⟨_, _, _, rfl, ⟨_, rfl, rfl⟩, ⟨d, q, t⟩, hu⟩ := all3 h
  obtain ⟨ds, qu, l, ts⟩ := tup_of hu
  exact ⟨_, .tup np hp (.cons (.str _) (.cons q (.cons qu .nil))), .call t ts (hf _ l)⟩
theorem mk_do {f : Nat → Prop} (hf : ∀ k, f k → 1 ≤ k ∧ k ≤ 12) (np : p ≠ a) (hp : H p = some (.tup vs)) (h : TAll a H [tyW a "do", tyU a f (tyT a n)] vs) : (tyT a (n + 1)).p (.ref p) H := by
  obtain ⟨_, _, rfl, ⟨_, rfl, rfl⟩, hu⟩ := all2 h
  obtain ⟨ds, qu, l, ts⟩ := tup_of hu
  exact ⟨_, .tup np hp (.cons (.str _) (.cons qu .nil)), .doo ts (hf _ l).1 (hf _ l).2⟩
theorem mk_op {g : Str → Prop} {f : Nat → Prop} {k : Nat} (hg : ∀ z, g z → opMany z = some k) (hf : ∀ j, f j → j = k) (np : p ≠ a) (hp : H p = some (.tup vs)) (h : TAll a H [tyW a "op", tyS a g, tyU a f (tyT a n)] vs) : (tyT a (n + 1)).p (.ref p) H := by
  obtain ⟨_, _, _, rfl, ⟨_, rfl, rfl⟩, ⟨z, rfl, hz⟩, hu⟩ := all3 h
  obtain ⟨ds, qu, l, ts⟩ := tup_of hu
  exact ⟨_, .tup np hp (.cons (.str _) (.cons (.str _) (.cons qu .nil))), .op (hg z hz) ts (hf _ l)⟩
/-- a tuple of one, two parts made on the way -/
theorem mk_u1 {R : Ty a} (np : p ≠ a) (hp : H p = some (.tup vs)) (h : TAll a H [R] vs) : (tyU a (fun k => k = 1) R).p (.ref p) H := by
  obtain ⟨x, rfl, q⟩ := all1 h
  exact ⟨p, _, rfl, np, hp, rfl, fun y hy => by rw [List.mem_singleton.mp hy]; exact q⟩
theorem mk_u2 {R : Ty a} (np : p ≠ a) (hp : H p = some (.tup vs)) (h : TAll a H [R, R] vs) : (tyU a (fun k => k = 2) R).p (.ref p) H := by
  obtain ⟨x, y, rfl, q, r⟩ := all2 h
  refine ⟨p, _, rfl, np, hp, rfl, fun z hz => ?_⟩
  rcases List.mem_cons.mp hz with e | e
  · rw [e]; exact q
  · rw [List.mem_singleton.mp e]; exact r
theorem mk_u0 {R : Ty a} (np : p ≠ a) (hp : H p = some (.tup vs)) (h : TAll a H [] vs) : (tyU a (fun k => k = 0) R).p (.ref p) H := by
  cases all0 h
  exact ⟨p, _, rfl, np, hp, rfl, fun y hy => by cases hy⟩
end

/-! ### a def of the module, by its promise -/
def Has (P : Program) (w : World) (K : PySem.W.Frag) (mg : Str → Option Value) (base : Heap) (x : Str) (ps : List Str) (k : Nat) (sp : Sp) : Prop :=
  ∃ (f : Addr) (fd : FuncData), FnOk P w K mg base CX0 k f fd ps sp ∧ mg x = some (.ref f) ∧ PySem.W.keepIn K (.ref f) = true ∧ Binds K fd ps []
theorem pe_has {X : Cx} {x : Str} {ps : List Str} {k : Nat} {sp : Sp} {e : Expr} {es : List Expr} {t : TA} {p pos : Pos} (h : Has X.prog X.w X.K X.mg X.base x ps k sp) (hr : Room k X.A) (ha : PA X (e :: es) t) (hg : Gl X x := by rfl)
    (hdb : (x == ("__debug__" : Str)) = false := by decide) (he : starEach (e :: es) X.env = (false, eval e X.env) :: starEach es X.env := by rfl) (hpl : (backTo pos (starEach es X.env)).any (·.1) = false := by rfl) :
    PE X (.Call (.Name x p) (e :: es) [] pos) (tCall sp [] E0 t) := by
  obtain ⟨f, fd, F, m, kp, b⟩ := h
  exact pe_call F hr hg m kp b .nil pass0 ha hdb he hpl
end Wp
set_option Elab.async false
set_option linter.all false
set_option maxRecDepth 100000
namespace Wp
open PySem L2
def top (i : Nat) : Stmt := PySem.Challenge.pw_windpoints_k53_checks.main.body.getD i (.Pass ⟨0, 0, 0, 0⟩)
-- _law_next: slots _law_draws_here 0, _law_k 1, _law_a_number 2
abbrev s_law_next : Stmt := top 5
theorem sc_law_next : FnScope ["_law_draws_here", "_law_k", "_law_a_number"] ["_law_draws_here"] (defScope s_law_next) := ⟨rfl, rfl, rfl, by decide +kernel, rfl, by decide +kernel, by decide +kernel⟩
abbrev sl_law_next : List Str := ["_law_draws_here", "_law_k", "_law_a_number"]
section
variable {P : Program} {w : World} {K : PySem.W.Frag} {mg : Str → Option Value} {base : Heap} {f : Addr} {fd : FuncData}
abbrev spNext : Sp := spG 1 (fun a => [tyIs a (.ref a)]) (fun a => tyI a fun i => 0 ≤ i ∧ i < 2147483648)
theorem ok_next (F : Fun K "_law_next" "_law_next" s_law_next f fd) : FnOk P w K mg base CX0 1 f fd ["_law_draws_here"] spNext := by
  refine F.ok sc_law_next (fun vs H Q E h => ?_) (fun cdv A outer s H vs Q E hr h => ?_)
  · obtain ⟨a, n, _, _, ps, _⟩ := h
    exact ps.len
  obtain ⟨a, n, hn, ⟨x, c, b, e, h0, h1, h2⟩, ps, q⟩ := h
  obtain ⟨_, rfl, rfl⟩ := all1 ps
  have hb : n + 1 ≤ 1000000000000 := hn
  refine ⟨_, (pss_cons (ps_asg (pe_op op_add (pe_ix ix_list (pv 0) pe_int (fun _ _ => rfl)) pe_int) (pg_sub (pv 0) pe_int set_list))
  (pss_cons (ps_set (i := 1) sc_law_next.nd rfl (.inl rfl) (pe_ix ix_list (pv 0) pe_int (fun _ _ => rfl)))
  (pss_cons (ps_if (pt_val (pe_ix ix_list (pv 0) pe_int (fun _ _ => rfl))) (pss_cons (ps_set (i := 2) sc_law_next.nd rfl (.inl rfl) (pe_op op_mod (pe_ix ix_list (pv 0) pe_int (fun _ _ => rfl)) (pe_op op_pow pe_int pe_int)))
  (pss_cons (ps_asg (pe_op op_fdiv (pe_ix ix_list (pv 0) pe_int (fun _ _ => rfl)) (pe_op op_pow pe_int pe_int)) (pg_sub (pv 0) pe_int set_list))
  (pss_one (ps_ret (pv 2))))) pss_nil)
  (pss_cons (ps_set (i := 2) sc_law_next.nd rfl (.inl rfl) (pe_op op_mod (pe_op op_mul (pe_op op_add (pe_op op_add (pe_op op_mod (pe_ix ix_list (pv 0) pe_int (fun _ _ => rfl)) pe_int) (pe_op op_mul (pe_op op_mul (pv 1) (pv 1)) pe_int)) (pv 1)) pe_int) pe_int))
  (pss_cons (ps_set (i := 2) sc_law_next.nd rfl (.inl rfl) (pe_op op_mod (pe_op op_mul (pv 2) (pv 2)) pe_int))
  (pss_one (ps_ret (pe_op op_fdiv (pe_op op_mod (pe_op op_mul (pv 2) (pe_op op_add (pv 2) pe_int)) pe_int) pe_int)))))))), ?_⟩
  refine ⟨_, rfl, a, _, _, _, rfl, rfl, SqL.of e, rfl, _, _, rfl, rfl, _, rfl, a, _, _, 1, rfl, rfl, e, rfl, ?_⟩
  have e1 : upd H a (.lst [.int x, .int (c + 1), .bl b]) a = some (.lst [.int x, .int (c + 1), .bl b]) := upd_same
  refine ⟨_, rfl, a, _, _, _, rfl, rfl, SqL.of e1, rfl, ?_⟩
  refine ⟨_, rfl, a, _, _, _, rfl, rfl, SqL.of e1, rfl, _, rfl, ?_⟩
  refine ite2 (fun hc => ?_) (fun hc => ?_)
  · refine ⟨_, rfl, a, _, _, _, rfl, rfl, SqL.of e1, rfl, 10, 6, rfl, rfl, ⟨by decide, by decide, by decide⟩, _, _, rfl, rfl, (by show (0 : Int) < 10 ^ 6; decide), ?_⟩
    refine ⟨_, rfl, a, _, _, _, rfl, rfl, SqL.of e1, rfl, 10, 6, rfl, rfl, ⟨by decide, by decide, by decide⟩, _, _, rfl, rfl, ⟨by show (0 : Int) < 10 ^ 6; decide, by show (10 : Int) ^ 6 < 1073741824; decide⟩, _, rfl, a, _, _, 0, rfl, rfl, e1, rfl, ?_⟩
    refine ⟨_, rfl, ?_⟩
    refine q _ _ (fun b' o nb hb' => ?_) ⟨x / 10 ^ 6, c + 1, b, upd_same, Int.ediv_nonneg h0 (by decide), by omega, by omega⟩ ⟨x % 10 ^ 6, rfl, Int.emod_nonneg _ (by decide), ?_⟩
    · rw [upd_ne nb, upd_ne nb]; exact hb'
    · have z : x % 10 ^ 6 < 10 ^ 6 := Int.emod_lt_of_pos _ (by decide)
      have z2 : (10 : Int) ^ 6 = 1000000 := by decide
      omega
  · have m1 : ∀ i : Int, 0 ≤ i % 2147483629 ∧ i % 2147483629 < 2147483629 := fun i => ⟨Int.emod_nonneg _ (by decide), Int.emod_lt_of_pos _ (by decide)⟩
    have m2 : ∀ i : Int, 0 ≤ i % 2147483587 ∧ i % 2147483587 < 2147483587 := fun i => ⟨Int.emod_nonneg _ (by decide), Int.emod_lt_of_pos _ (by decide)⟩
    have m3 : ∀ i : Int, 0 ≤ i % 2147483579 ∧ i % 2147483579 < 2147483579 := fun i => ⟨Int.emod_nonneg _ (by decide), Int.emod_lt_of_pos _ (by decide)⟩
    have lc : -(2 ^ 64) < c + 1 ∧ c + 1 < 2 ^ 64 := by omega
    refine ⟨_, rfl, a, _, _, _, rfl, rfl, SqL.of e1, rfl, _, _, rfl, rfl, (by show (0 : Int) < 1000003; decide), _, rfl, _, rfl, _, _, rfl, rfl, .inl lc, _, _, rfl, rfl, .inr ⟨by decide, by decide⟩, _, _, rfl, rfl, _, rfl, _, _, rfl, rfl, _, _, rfl, rfl, .inr ⟨by decide, by decide⟩, _, _, rfl, rfl, (by show (0 : Int) < 2147483629; decide), ?_⟩
    refine ⟨_, rfl, _, rfl, _, _, rfl, rfl, .inl ⟨?_, ?_⟩, _, _, rfl, rfl, (by show (0 : Int) < 2147483587; decide), ?_⟩
    · exact Int.lt_of_lt_of_le (by decide) (m1 _).1
    · exact Int.lt_trans (m1 _).2 (by decide)
    refine ⟨_, rfl, _, rfl, _, _, rfl, rfl, _, _, rfl, rfl, .inl ⟨?_, ?_⟩, _, _, rfl, rfl, (by show (0 : Int) < 2147483579; decide), _, _, rfl, rfl, ⟨by show (0 : Int) < 7; decide, by show (7 : Int) < 1073741824; decide⟩, ?_⟩
    · exact Int.lt_of_lt_of_le (by decide) (m2 _).1
    · exact Int.lt_trans (m2 _).2 (by decide)
    refine q _ _ (fun b' o nb hb' => ?_) ⟨x, c + 1, b, upd_same, h0, by omega, by omega⟩ ⟨_, rfl, Int.ediv_nonneg (m3 _).1 (by decide), ?_⟩
    · rw [upd_ne nb]; exact hb'
    · have z := m3 ((((((x % 1000003 + (c + 1) * (c + 1) * 7919 + (c + 1)) * 48271 % 2147483629) * ((x % 1000003 + (c + 1) * (c + 1) * 7919 + (c + 1)) * 48271 % 2147483629)) % 2147483587) * ((((x % 1000003 + (c + 1) * (c + 1) * 7919 + (c + 1)) * 48271 % 2147483629) * ((x % 1000003 + (c + 1) * (c + 1) * 7919 + (c + 1)) * 48271 % 2147483629)) % 2147483587 + 2)))
      generalize hy : (((((x % 1000003 + (c + 1) * (c + 1) * 7919 + (c + 1)) * 48271 % 2147483629) * ((x % 1000003 + (c + 1) * (c + 1) * 7919 + (c + 1)) * 48271 % 2147483629)) % 2147483587) * ((((x % 1000003 + (c + 1) * (c + 1) * 7919 + (c + 1)) * 48271 % 2147483629) * ((x % 1000003 + (c + 1) * (c + 1) * 7919 + (c + 1)) * 48271 % 2147483629)) % 2147483587 + 2)) % 2147483579 = y at z ⊢
      omega
end
end Wp
set_option Elab.async false
set_option linter.all false
set_option maxRecDepth 100000
set_option maxHeartbeats 2000000
namespace Wp
open PySem PySem.Spec PyProof.Rows L2
/-! enumerate of a text: each sign in a new pair with its number -/
def IteS (x : Str) : It :=
  ⟨fun i _ => i < x.cps.size, fun i H v H' => ∃ T c, v = .ref T ∧ H T = none ∧ H' = upd H T (.tup [.int (i : Nat), .str ⟨#[c]⟩]) ∧ x.cps[i]? = some c, fun i _ => i = x.cps.size⟩
theorem str_draws {P : Program} {w : World} {A : Around} (hh : A.handled = none) (it : Addr) (x : Str) (t : Tok) : Draws P w A it [it] x.cps.size (SignAt x) (fun i h => h.IsStrIter it (strIterType x) x t i) := by
  unfold strIterType
  split
  · exact Draws.strAscii hh it x t
  · exact Draws.strWide hh it x t
theorem turn_enumS {P : Program} {w : World} {K : PySem.W.Frag} {elts : List Expr} {kk : Nat} {tpos : Pos} (x : Str) (t : Tok) (e it : Addr) :
    Turn P w K (.Tuple elts kk tpos) (IteS x) [e, it] e (fun i h => (∃ old, IsEnum h e it ((i : Nat) : Int) old) ∧ h.IsStrIter it (strIterType x) x t i ∧ e ≠ it) where
  mem := by simp
  obj := fun i h st b hb => by
    obtain ⟨⟨old, he⟩, ⟨o, ho, hc, hd⟩, _⟩ := st
    have z : b = e ∨ b = it := by simpa using hb
    rcases z with z | z
    · subst z
      exact ⟨_, he, fun v q => nomatch q⟩
    · subst z
      exact ⟨o, ho, fun v q => by rw [hd] at q; cases q⟩
  keep := fun i h h' st k => by
    obtain ⟨⟨old, he⟩, ⟨o, ho, r⟩, ne⟩ := st
    exact ⟨⟨old, k e (by simp) _ he⟩, ⟨o, k it (by simp) o ho, r⟩, ne⟩
  item := by
    intro X hP hw hK hc i pins s σ H E I hf st hg
    subst hP hw hK
    obtain ⟨⟨old, he⟩, hit, ne⟩ := st
    have le : e < s.heap.objs.size := Heap.lt_size he
    have li : it < s.heap.objs.size := by
      obtain ⟨_, q, _⟩ := hit
      exact Heap.lt_size q
    refine wpAny_pyNext_enum_itemD (str_draws (A := X.A.in1) (I.ok.hd hc) it x t) he hit hg ne (by simpa using ne) fun u h' tk hu ho hit' hT hsz hk => ?_
    obtain ⟨c, tc, hcx, rfl⟩ := hu
    refine ⟨_, rfl, wpAny_letOwnedTupleGo_enum (s := { s with heap := h', toks := tk + 1 }) ho fun h2 he2 sb => ?_⟩
    have hT2 : h2.get? s.heap.objs.size = some { cls := .type "tuple", data := .seq #[.int i tk, .str ⟨#[c]⟩ tc] } := (sb.2 _ (Nat.ne_of_gt le)).trans hT
    have new : ObjOk X.prog X.w (upd H s.heap.objs.size (.tup [.int (i : Nat), .str ⟨#[c]⟩])) h2 s.heap.objs.size (.tup [.int (i : Nat), .str ⟨#[c]⟩]) :=
      ⟨by show 2 ≤ sizeLine; decide, [.int i tk, .str ⟨#[c]⟩ tc], .cons ⟨_, rfl⟩ (.cons ⟨_, rfl⟩ .nil), ⟨_, hT2, rfl, _, rfl⟩⟩
    have I1 : Inv X pins σ (upd H s.heap.objs.size (.tup [.int (i : Nat), .str ⟨#[c]⟩])) { s with heap := h2, toks := tk + 1 } :=
      I.turnedNew (ch := [e, it]) (fun b ob nb q => (sb.2 b (fun z => nb (by simp [z]))).trans (hk b ob (fun z => nb (by simp [z])) (fun z => nb (by simp [z])) q)) hf (Nat.le_refl _) new
    refine ⟨.ref s.heap.objs.size, _, I1, rfl, ⟨_, c, rfl, I.hok.fresh (Nat.le_refl _), rfl, hcx⟩, ⟨⟨.str ⟨#[c]⟩ tc, ?_⟩, ?_, ne⟩, fun b hb => ?_⟩
    · have e1 : ((i + 1 : Nat) : Int) = (i : Int) + 1 := by omega
      rw [e1]; exact he2
    · obtain ⟨o, q, r⟩ := hit'
      exact ⟨o, (sb.2 it (Ne.symm ne)).trans q, r⟩
    · have lb : b < s.heap.objs.size := by
        have z : b = e ∨ b = it := by simpa using hb
        rcases z with z | z
        · rw [z]; exact le
        · rw [z]; exact li
      rw [upd_ne (Nat.ne_of_lt lb)]
      exact (hf b hb).1
  done := by
    intro X hP hw hK hc i pins s σ H E I hf st hg
    subst hP hw hK
    obtain ⟨⟨old, he⟩, hit, ne⟩ := st
    have hg : i = x.cps.size := hg
    subst hg
    obtain ⟨f0, f1, f2, f3, f4, f5⟩ := hf it (by simp)
    exact wpAny_pyNext_enum_endD (str_draws (A := X.A.in1) (I.ok.hd hc) it x t) he hit fun h' eb => ⟨rfl, I.turned (t' := s.toks) (fun b o nb q => eb b o nb q) f0 f1 f3 f4 f5⟩
  self := fun A i s Q E st h => let ⟨⟨_, he⟩, _⟩ := st; wpAny_pyIter_enum he h
def iEnumS (ta : TA) : TI := fun σ H R => ta σ H fun vs H1 => ∃ x, vs = [.str x] ∧ R (IteS x) H1
theorem pi_enumS {X : Cx} {e : Expr} {ta : TA} {p pos tpos : Pos} {elts : List Expr} {kk : Nat} (hg : Gl X "enumerate") (hm : X.mg "enumerate" = none) (ha : PA X [e] ta) (hs : starEach [e] X.env = [(false, eval e X.env)] := by rfl) :
    PI X (.Tuple elts kk tpos) (.Call (.Name "enumerate" p) [e] [] pos) (iEnumS ta) := by
  refine ⟨fun pins s σ H R I h => Call_ (ld_blt I hg hm boot_enumerate (PyProof.Rows.callWith_type1 (thn (ha.run pos pins s σ H _ I h) fun us s1 ⟨vs, H1, I1, r1, q1⟩ => ?_) hs rfl))⟩
  obtain ⟨x, ex, q⟩ := q1
  subst ex
  cases r1 with
  | cons r rr =>
    cases rr
    obtain ⟨t, rfl⟩ := r
    refine call_enumerate_str fun h' he hit hsz hk => wpAny_pyIter_enum he ?_
    have I2 : Inv X pins σ H1 { s1 with heap := h' } := I1.kept (t' := s1.toks) hk
    refine ⟨s1.heap.objs.size + 1, [s1.heap.objs.size + 1, s1.heap.objs.size], _, _, H1, rfl, I2, turn_enumS x t (s1.heap.objs.size + 1) s1.heap.objs.size, ⟨⟨.none, he⟩, hit, Nat.succ_ne_self _⟩, fun b hb => ?_, q⟩
    have z : b = s1.heap.objs.size + 1 ∨ b = s1.heap.objs.size := by simpa using hb
    have lb : s1.heap.objs.size ≤ b := by
      rcases z with z | z
      · rw [z]; exact Nat.le_add_right _ _
      · rw [z]; exact Nat.le_refl _
    exact I1.fpOk lb (I1.hok.fresh lb)
theorem walk_enumS {x : Str} : Walk (IteS x) x.cps.toList.length (fun _ => True) (YPair (fun i => some (.int (i : Nat))) (fun i => (x.cps.toList[i]?).map fun c => .str ⟨#[c]⟩)) := by
  have e : x.cps.toList.length = x.cps.size := Array.length_toList
  refine ⟨fun i _ hi _ => ?_, fun _ _ => ?_, fun i H v H' hi _ y => ?_⟩
  · show i < x.cps.size
    omega
  · show _ = x.cps.size
    exact e
  · obtain ⟨T, c, g1, g2, g3, g4⟩ := y
    refine ⟨T, _, .str ⟨#[c]⟩, g1, g2, g3, rfl, ?_⟩
    show (x.cps.toList[i]?).map _ = _
    rw [Array.getElem?_toList, g4]
    rfl
end Wp
set_option Elab.async false
set_option linter.all false
set_option maxRecDepth 100000
set_option maxHeartbeats 2000000
namespace Wp
open PySem PySem.Spec PyProof.Rows L2
/-! enumerate of a text with start=k: each sign in a new pair with its number from k on -/
def rOrd : List V → Hp → VK → Prop := fun xs H Q => ∃ x, xs = [.str x] ∧ x.length = 1 ∧ Q (.int (x.cps.getD 0 0 : Nat)) H
def IteSk (k : Int) (x : Str) : It :=
  ⟨fun i _ => i < x.cps.size, fun i H v H' => ∃ T c, v = .ref T ∧ H T = none ∧ H' = upd H T (.tup [.int (k + (i : Nat)), .str ⟨#[c]⟩]) ∧ x.cps[i]? = some c, fun i _ => i = x.cps.size⟩
theorem turn_enumSk {P : Program} {w : World} {K : PySem.W.Frag} {elts : List Expr} {kk : Nat} {tpos : Pos} (k : Int) (x : Str) (t : Tok) (e it : Addr) :
    Turn P w K (.Tuple elts kk tpos) (IteSk k x) [e, it] e (fun i h => (∃ old, IsEnum h e it (k + ((i : Nat) : Int)) old) ∧ h.IsStrIter it (strIterType x) x t i ∧ e ≠ it) where
  mem := by simp
  obj := fun i h st b hb => by
    obtain ⟨⟨old, he⟩, ⟨o, ho, hc, hd⟩, _⟩ := st
    have z : b = e ∨ b = it := by simpa using hb
    rcases z with z | z
    · subst z
      exact ⟨_, he, fun v q => nomatch q⟩
    · subst z
      exact ⟨o, ho, fun v q => by rw [hd] at q; cases q⟩
  keep := fun i h h' st hk => by
    obtain ⟨⟨old, he⟩, ⟨o, ho, r⟩, ne⟩ := st
    exact ⟨⟨old, hk e (by simp) _ he⟩, ⟨o, hk it (by simp) o ho, r⟩, ne⟩
  item := by
    intro X hP hw hK hc i pins s σ H E I hf st hg
    subst hP hw hK
    obtain ⟨⟨old, he⟩, hit, ne⟩ := st
    have le : e < s.heap.objs.size := Heap.lt_size he
    have li : it < s.heap.objs.size := by
      obtain ⟨_, q, _⟩ := hit
      exact Heap.lt_size q
    refine wpAny_pyNext_enum_itemC (str_draws (A := X.A.in1) (I.ok.hd hc) it x t) he hit hg ne (by simpa using ne) fun u h' tk hu ho hit' hT hsz hk => ?_
    obtain ⟨c, tc, hcx, rfl⟩ := hu
    refine ⟨_, rfl, wpAny_letOwnedTupleGo_enum (s := { s with heap := h', toks := tk + 1 }) ho fun h2 he2 sb => ?_⟩
    have hT2 : h2.get? s.heap.objs.size = some { cls := .type "tuple", data := .seq #[.int (k + (i : Nat)) tk, .str ⟨#[c]⟩ tc] } := (sb.2 _ (Nat.ne_of_gt le)).trans hT
    have new : ObjOk X.prog X.w (upd H s.heap.objs.size (.tup [.int (k + (i : Nat)), .str ⟨#[c]⟩])) h2 s.heap.objs.size (.tup [.int (k + (i : Nat)), .str ⟨#[c]⟩]) :=
      ⟨by show 2 ≤ sizeLine; decide, [.int (k + (i : Nat)) tk, .str ⟨#[c]⟩ tc], .cons ⟨_, rfl⟩ (.cons ⟨_, rfl⟩ .nil), ⟨_, hT2, rfl, _, rfl⟩⟩
    have I1 : Inv X pins σ (upd H s.heap.objs.size (.tup [.int (k + (i : Nat)), .str ⟨#[c]⟩])) { s with heap := h2, toks := tk + 1 } :=
      I.turnedNew (ch := [e, it]) (fun b ob nb q => (sb.2 b (fun z => nb (by simp [z]))).trans (hk b ob (fun z => nb (by simp [z])) (fun z => nb (by simp [z])) q)) hf (Nat.le_refl _) new
    refine ⟨.ref s.heap.objs.size, _, I1, rfl, ⟨_, c, rfl, I.hok.fresh (Nat.le_refl _), rfl, hcx⟩, ⟨⟨.str ⟨#[c]⟩ tc, ?_⟩, ?_, ne⟩, fun b hb => ?_⟩
    · have e1 : k + ((i + 1 : Nat) : Int) = k + (i : Int) + 1 := by omega
      rw [e1]; exact he2
    · obtain ⟨o, q, r⟩ := hit'
      exact ⟨o, (sb.2 it (Ne.symm ne)).trans q, r⟩
    · have lb : b < s.heap.objs.size := by
        have z : b = e ∨ b = it := by simpa using hb
        rcases z with z | z
        · rw [z]; exact le
        · rw [z]; exact li
      rw [upd_ne (Nat.ne_of_lt lb)]
      exact (hf b hb).1
  done := by
    intro X hP hw hK hc i pins s σ H E I hf st hg
    subst hP hw hK
    obtain ⟨⟨old, he⟩, hit, ne⟩ := st
    have hg : i = x.cps.size := hg
    subst hg
    obtain ⟨f0, f1, f2, f3, f4, f5⟩ := hf it (by simp)
    exact wpAny_pyNext_enum_endD (str_draws (A := X.A.in1) (I.ok.hd hc) it x t) he hit fun h' eb => ⟨rfl, I.turned (t' := s.toks) (fun b o nb q => eb b o nb q) f0 f1 f3 f4 f5⟩
  self := fun A i s Q E st h => let ⟨⟨_, he⟩, _⟩ := st; wpAny_pyIter_enum he h
/-- a builtin class called with keywords -/
theorem callTyK {M : Model} {A : Around} {E : Value → Shared → Prop} {s : Shared} {env : Env} {pos : Pos} {T : String} {e : Expr} {es : List Expr} {ks : List Keyword} {Q : Value → Shared → Prop}
    (h : wpAny M A (spliced (backTo pos (starEach (e :: es) env))) (fun us s1 => wpAny M A (evalAll ((backToKw pos (keywordEach ks env)).map (·.2)))
      (fun ws s2 => wpAny M A (call (.type T) us (((backToKw pos (keywordEach ks env)).filterMap (·.1)).zip ws)) Q E s2) E s1) E s)
    (h1 : backTo pos (starEach (e :: es) env) = (false, eval e env) :: backTo pos (starEach es env)) (h2 : (backTo pos (starEach (e :: es) env)).any (·.1) = false)
    (h3 : (backToKw pos (keywordEach ks env)).all (·.1.isSome) = true) (h4 : (backToKw pos (keywordEach ks env)).any (·.1.isNone) = false) :
    wpAny M A (callWith pos (.type T) [] (backTo pos (starEach (e :: es) env)) (backToKw pos (keywordEach ks env))) Q E s := by
  have g : wpAny M A (evalArgs (.type T) true (backTo pos (starEach (e :: es) env)) (backToKw pos (keywordEach ks env))) (fun a s1 => wpAny M A (call (.type T) ([] ++ a.pos) a.kw) Q E s1) E s := by
    rw [h1] at h ⊢
    exact evalArgs_kwB h3 h
  unfold callWith
  refine wpAny_bind (wpAny_holding (thn g fun a s1 q => wpAny_bind (wpAny_standAt ?_)))
  simp only [h2, h4, Bool.or_false]
  exact wpAny_bind (wpAny_pure (wpAny_bind (thn q fun r s2 hr => wpAny_bind (wpAny_holding (wpAny_point (wpAny_pure hr))))))
def iEnumSk (k : Int) (ta : TA) : TI := fun σ H R => ta σ H fun vs H1 => ∃ x, vs = [.str x] ∧ R (IteSk k x) H1
theorem pi_enumSk {X : Cx} {e : Expr} {ta : TA} {p pos tpos c1 c2 : Pos} {elts : List Expr} {kk : Nat} {k : Int} (hg : Gl X "enumerate") (hm : X.mg "enumerate" = none) (ha : PA X [e] ta) (h0 : -(2 ^ 63) ≤ k := by decide) (h1 : k < 2 ^ 63 := by decide) (hs : starEach [e] X.env = [(false, eval e X.env)] := by rfl) :
    PI X (.Tuple elts kk tpos) (.Call (.Name "enumerate" p) [e] [⟨some "start", .Constant (.int k) 0 c1, c2⟩] pos) (iEnumSk k ta) := by
  refine ⟨fun pins s σ H R I h => wpAny_Call_Name_kw (ld_blt I hg hm boot_enumerate ?_)⟩
  refine callTyK (thn (ha.run pos pins s σ H _ I h) fun us s1 ⟨vs, H1, I1, r1, q1⟩ => ?_) (by rw [hs]; rfl) (by rw [hs]; rfl) rfl rfl
  obtain ⟨x, ex, q⟩ := q1
  subst ex
  refine thn ((pk_cons (nm := some "start") (kpos := c2) (pe_int (X := X) (i := k) (pos := c1)) pk_nil).run pos pins s1 σ H1 (fun ws H2 => ws = [.int k] ∧ H2 = H1) I1 ⟨rfl, rfl⟩) fun ws s2 ⟨zs, H2, I2, r2, e1, e2⟩ => ?_
  subst e1 e2
  cases r1 with
  | cons r rr =>
    cases rr
    obtain ⟨t, rfl⟩ := r
    cases r2 with
    | cons r' rr' =>
      cases rr'
      obtain ⟨t', rfl⟩ := r'
      refine enum_begins_start (begins_text x t) trivial h0 h1 fun h' he hit hsz hk => wpAny_pyIter_enum he ?_
      have I3 : Inv X pins σ H2 { s2 with heap := h' } := I2.kept (t' := s2.toks) hk
      refine ⟨s2.heap.objs.size + 1, [s2.heap.objs.size + 1, s2.heap.objs.size], _, _, H2, rfl, I3, turn_enumSk k x t (s2.heap.objs.size + 1) s2.heap.objs.size, ⟨⟨.none, by simpa using he⟩, ⟨_, hit, rfl, rfl⟩, Nat.succ_ne_self _⟩, fun b hb => ?_, q⟩
      have z : b = s2.heap.objs.size + 1 ∨ b = s2.heap.objs.size := by simpa using hb
      have lb : s2.heap.objs.size ≤ b := by
        rcases z with z | z
        · rw [z]; exact Nat.le_add_right _ _
        · rw [z]; exact Nat.le_refl _
      exact I2.fpOk lb (I2.hok.fresh lb)
theorem walk_enumSk {k : Int} {x : Str} : Walk (IteSk k x) x.cps.toList.length (fun _ => True) (YPair (fun i => some (.int (k + (i : Nat)))) (fun i => (x.cps.toList[i]?).map fun c => .str ⟨#[c]⟩)) := by
  have e : x.cps.toList.length = x.cps.size := Array.length_toList
  refine ⟨fun i _ hi _ => ?_, fun _ _ => ?_, fun i H v H' hi _ y => ?_⟩
  · show i < x.cps.size
    omega
  · show _ = x.cps.size
    exact e
  · obtain ⟨T, c, g1, g2, g3, g4⟩ := y
    refine ⟨T, _, .str ⟨#[c]⟩, g1, g2, g3, rfl, ?_⟩
    show (x.cps.toList[i]?).map _ = _
    rw [Array.getElem?_toList, g4]
    rfl
end Wp
set_option Elab.async false
set_option linter.all false
set_option maxRecDepth 100000
namespace Wp
open PySem PySem.Spec PyProof.Rows L2
theorem same_gx {a : Addr} {H H' : Hp} (s : Same H H') : Gx a H H' := fun b o _ h => s b o h
theorem same_new {H : Hp} {p : Addr} {o : HO} (h : H p = none) : Same H (upd H p o) := fun b u q => by rw [upd_ne (ne_of_none q h)]; exact q
theorem same_grow {H H' : Hp} {p : Addr} {o : HO} (s : Same H H') (h : H p = none) : Same H (upd H' p o) := fun b u q => by rw [upd_ne (ne_of_none q h)]; exact s b u q
theorem same_dr {a : Addr} {H H' : Hp} {n : Nat} (s : Same H H') (d : Dr H a n) : Dr H' a n := by
  obtain ⟨x, c, b, e, q⟩ := d
  exact ⟨x, c, b, s _ _ e, q⟩
section
variable {X : Cx}
theorem op_powW : OpR X (binaryOp .Pow) (rI (fun i j => 0 ≤ j ∧ (Builtin.Int.intBits i : Int) * j ≤ 2 ^ 27) fun i j => .int (i ^ j.toNat)) := opI fun _ _ _ _ _ _ _ hc q => pow_int hc.1 hc.2 q
theorem op_mulS : OpR X (binaryOp .Mult) (fun x y H Q => ∃ (z : Str) (n : Int), x = .str z ∧ y = .int n ∧ MulOk z n ∧ Q (.str (Txt.mul z n)) H) := by
  intro pins s σ H x y v u Q I rx ry h
  obtain ⟨z, n, rfl, rfl, ok, q⟩ := h
  obtain ⟨t, rfl⟩ := rx
  obtain ⟨t', rfl⟩ := ry
  exact SB.mul ok fun t2 k => ⟨.str (Txt.mul z n), H, I.tok _, ⟨_, rfl⟩, q⟩
end
/-! ### the sum -/
def wsum : Nat → List Nat → Int
  | _, [] => 0
  | i, c :: l => ((i : Int) + 1) * (c : Int) + wsum (i + 1) l
def chk (z : Str) : Int := wsum 0 z.cps.toList % 999983
theorem wsum_app : ∀ (i : Nat) (l m : List Nat), wsum i (l ++ m) = wsum i l + wsum (i + l.length) m
  | i, [], m => by simp [wsum]
  | i, c :: l, m => by
    rw [List.cons_append, wsum, wsum, wsum_app (i + 1) l m, List.length_cons, show i + 1 + l.length = i + (l.length + 1) by omega]
    omega
theorem wsum_snoc (l : List Nat) (c : Nat) : wsum 0 (l ++ [c]) = wsum 0 l + ((l.length : Int) + 1) * (c : Int) := by
  rw [wsum_app, Nat.zero_add, wsum, wsum]
  omega
/-- texts of the signs from the blank to ~ -/
def Rg (z : Str) : Prop := ∀ c ∈ z.cps.toList, 32 ≤ c ∧ c ≤ 126
-- _law_draws: slots _law_cell 0
abbrev s_law_draws : Stmt := top 4
theorem sc_law_draws : FnScope ["_law_cell"] ["_law_cell"] (defScope s_law_draws) := ⟨rfl, rfl, rfl, by decide +kernel, rfl, by decide +kernel, by decide +kernel⟩
abbrev sl_law_draws : List Str := ["_law_cell"]
-- _law_check: slots _law_a_text 0, _law_told 1, _law_k 2, _law_sign 3
abbrev s_law_check : Stmt := top 6
theorem sc_law_check : FnScope ["_law_a_text", "_law_told", "_law_k", "_law_sign"] ["_law_a_text"] (defScope s_law_check) := ⟨rfl, rfl, rfl, by decide +kernel, rfl, by decide +kernel, by decide +kernel⟩
abbrev sl_law_check : List Str := ["_law_a_text", "_law_told", "_law_k", "_law_sign"]
def spDraws : Sp := fun vs H Q _ => ∃ c : Int, vs = [.int c] ∧ ∀ p H', Same H H' → H p = none → Dr H' p 0 → Q (.ref p) H'
def spChk : Sp := fun vs H Q _ => ∃ z : Str, vs = [.str z] ∧ z.length ≤ 10000 ∧ ∀ H', Same H H' → Q (.int (chk z)) H'
section
variable {P : Program} {w : World} {K : PySem.W.Frag} {mg : Str → Option Value} {base : Heap} {f : Addr} {fd : FuncData}
theorem ok_draws (F : Fun K "_law_draws" "_law_draws" s_law_draws f fd) : FnOk P w K mg base CX0 1 f fd ["_law_cell"] spDraws := by
  refine F.ok sc_law_draws (fun vs H Q E h => ?_) (fun cdv A outer s H vs Q E hr h => ?_)
  · obtain ⟨c, rfl, _⟩ := h
    rfl
  obtain ⟨c, rfl, q⟩ := h
  refine ⟨_, (pss_one (ps_ret (pe_lst (pa_cons (pe_op op_mod (pv 0) (pe_op op_powW (pe_op op_powW (pe_op op_powW pe_int pe_int) pe_int) pe_int)) (pa_cons pe_int (pa_cons (pe_cmpR op_ge (pv 0) (pe_op op_powW pe_int pe_int) (nomark _)) pa_nil)))))), ?_⟩
  refine ⟨_, rfl, 10, 60, rfl, rfl, ⟨by decide, by decide +kernel⟩, _, _, rfl, rfl, ⟨by decide, by decide +kernel⟩, _, _, rfl, rfl, ⟨by decide, by decide +kernel⟩, _, _, rfl, rfl, ?_, ?_⟩
  · show (0 : Int) < ((10 ^ 60) ^ 60) ^ 4
    exact Int.pow_pos (Int.pow_pos (Int.pow_pos (by decide)))
  refine ⟨_, rfl, 10, 18, rfl, rfl, ⟨by decide, by decide +kernel⟩, _, _, rfl, rfl, (by show 3 ≤ sizeLine; decide), fun p hp => q p _ (same_new hp) hp ⟨_, _, _, upd_same, Int.emod_nonneg _ ?_, by decide, by decide⟩⟩
  exact Int.ne_of_gt (Int.pow_pos (Int.pow_pos (Int.pow_pos (by decide))))
theorem ok_check (F : Fun K "_law_check" "_law_check" s_law_check f fd) (m_enumerate : mg "enumerate" = none) (m_ord : mg "ord" = none) : FnOk P w K mg base CX0 1 f fd ["_law_a_text"] spChk := by
  refine F.ok sc_law_check (fun vs H Q E h => ?_) (fun cdv A outer s H vs Q E hr h => ?_)
  · obtain ⟨z, rfl, _⟩ := h
    rfl
  obtain ⟨z, rfl, lz, q⟩ := h
  refine ⟨_, (pss_cons (ps_set (i := 1) sc_law_check.nd rfl (.inl rfl) pe_int)
  (pss_cons (ps_for PassesOwn.never rfl (pi_enumS rfl m_enumerate (pa_cons (pv 0) pa_nil)) (pg_tup rfl (pgs_cons (pg_name (i := 2) sc_law_check.nd rfl (.inl rfl)) (pgs_cons (pg_name (i := 3) sc_law_check.nd rfl (.inl rfl)) pgs_nil))) (pss_one (ps_set (i := 1) sc_law_check.nd rfl (.inl rfl) (pe_op op_add (pv 1) (pe_op op_mul (pe_op op_add (pv 2) pe_int) (pe_callB call_ord rfl m_ord PyProof.Rows.Boot.ord (pa_cons (pv 3) pa_nil)))))))
  (pss_one (ps_ret (pe_op op_mod (pv 1) pe_int))))), ?_⟩
  refine ⟨_, rfl, z, rfl, for_it walk_enumS (fun i σ H' => Same H H' ∧ ∃ t2 t3, σ = [some (.str z), some (.int (wsum 0 (z.cps.toList.take i))), t2, t3]) ?_ ?_ ?_ ?_⟩
  · exact ⟨Same.refl _, none, none, rfl⟩
  · intro _ _ _ _ _
    trivial
  · rintro i x σ H1 H2 hi ⟨g, t2, t3, rfl⟩ ⟨T, x1, y, rfl, hT, rfl, ex1, ey⟩
    cases ex1
    obtain ⟨c, ec, rfl⟩ := Option.map_eq_some_iff.mp ey
    have li : i < z.length := by
      have := hi
      rw [Array.length_toList] at this
      exact this
    refine ⟨T, _, rfl, SqT.of upd_same, rfl, _, _, rfl, _, _, rfl, rfl, ?_⟩
    refine ⟨_, rfl, _, rfl, _, _, rfl, rfl, _, rfl, ⟨#[c]⟩, rfl, rfl, _, _, rfl, rfl, .inl ⟨by omega, by omega⟩, _, _, rfl, rfl, ?_⟩
    refine ⟨g.trans (same_new hT), some (.int (i : Nat)), some (.str ⟨#[c]⟩), ?_⟩
    rw [List.take_add_one, ec]
    show _ = [some (V.str z), some (V.int (wsum 0 (z.cps.toList.take i ++ [c]))), _, _]
    rw [wsum_snoc, List.length_take, Array.length_toList]
    have e : min i z.cps.size = i := Nat.min_eq_left (Nat.le_of_lt li)
    rw [e]
    rfl
  · rintro σ H' ⟨g, t2, t3, rfl⟩
    rw [List.take_length]
    exact ⟨_, rfl, _, _, rfl, rfl, (by show (0 : Int) < 999983; decide), q H' g⟩
end
end Wp
set_option Elab.async false
set_option linter.all false
set_option maxRecDepth 100000
namespace Wp
open PySem PySem.Spec PyProof.Rows L2
-- _law_line: slots _law_draws_here 0, _law_some 1, _law_told 2, _law_k 3
abbrev s_law_line : Stmt := top 7
theorem sc_law_line : FnScope ["_law_draws_here", "_law_some", "_law_told", "_law_k"] ["_law_draws_here"] (defScope s_law_line) := ⟨rfl, rfl, rfl, by decide +kernel, rfl, by decide +kernel, by decide +kernel⟩
abbrev sl_law_line : List Str := ["_law_draws_here", "_law_some", "_law_told", "_law_k"]
/-! ### texts by their signs -/
theorem mul_signs (z : Str) (n : Int) (h : 1 ≤ n) : ∀ c ∈ (Txt.mul z n).cps.toList, c ∈ z.cps.toList := by
  unfold Txt.mul
  rw [if_neg (by omega)]
  split
  · exact fun c h => h
  · intro c hc
    have go : ∀ (k : Nat) (acc : Array Nat), (∀ c ∈ acc.toList, c ∈ z.cps.toList) → ∀ c ∈ ((List.replicate k z.cps).foldl (· ++ ·) acc).toList, c ∈ z.cps.toList := by
      intro k
      induction k with
      | zero => exact fun _ h => h
      | succ k ih =>
        intro acc h
        rw [List.replicate_succ, List.foldl_cons]
        refine ih _ fun c hc => ?_
        rw [Array.toList_append] at hc
        exact (List.mem_append.mp hc).elim (h c) id
    exact go _ #[] (fun _ h => by simp at h) c hc
theorem Rg.mul {z : Str} {n : Int} (h : Rg z) (h1 : 1 ≤ n) : Rg (Txt.mul z n) := fun c hc => h c (mul_signs z n h1 c hc)
theorem Rg.app {x y : Str} (hx : Rg x) (hy : Rg y) : Rg (x ++ y) := fun c hc => by
  have e : (x ++ y).cps.toList = x.cps.toList ++ y.cps.toList := by
    show (x.cps ++ y.cps).toList = _
    rw [Array.toList_append]
  rw [e] at hc
  exact (List.mem_append.mp hc).elim (hx c) (hy c)
theorem mul_len {z : Str} {n : Int} (h1 : 1 ≤ n) : ((Txt.mul z n).length : Int) = z.length * n := by
  rw [len_mul, if_neg (by simp; omega)]
def signs90 : Str := " !#$&'()*+,-./0123456789:;<=>?@ABCDEFGHIJKLMNOPQRSTUVWXYZ[]^abcdefghijklmnopqrstuvwxyz{|}~"
theorem signs_rg : Rg signs90 := by
  unfold Rg
  decide +kernel
theorem rg_nil : Rg "" := by
  unfold Rg
  decide +kernel
theorem rg_one {c : Nat} (h : 32 ≤ c ∧ c ≤ 126) : Rg ⟨#[c]⟩ := fun d hd => by
  have : d = c := by simpa using hd
  rw [this]
  exact h
def spLine : Sp := fun vs H Q _ => ∃ (a : Addr) (n : Nat), n + 62 ≤ big ∧ Dr H a n ∧ vs = [.ref a] ∧ ∀ z H', Gx a H H' → Dr H' a (n + 62) → Rg z → z.length ≤ 6000 → Q (.str z) H'
section
variable {P : Program} {w : World} {K : PySem.W.Frag} {mg : Str → Option Value} {base : Heap} {f : Addr} {fd : FuncData}
theorem ok_line (F : Fun K "_law_line" "_law_line" s_law_line f fd) (G_law_next : Has P w K mg base "_law_next" ["_law_draws_here"] 1 spNext) (m_range : mg "range" = none) (m_len : mg "len" = none) : FnOk P w K mg base CX0 2 f fd ["_law_draws_here"] spLine := by
  refine F.ok sc_law_line (fun vs H Q E h => ?_) (fun cdv A outer s H vs Q E hr h => ?_)
  · obtain ⟨a, n, _, _, rfl, _⟩ := h
    rfl
  obtain ⟨a, n, hb, dr, rfl, q⟩ := h
  refine ⟨_, (pss_cons (ps_set (i := 1) sc_law_line.nd rfl (.inl rfl) pe_str)
  (pss_cons (ps_set (i := 2) sc_law_line.nd rfl (.inl rfl) pe_str)
  (pss_cons (ps_for PassesOwn.never rfl (pi_range1 rfl m_range (pa_cons (pe_op op_mod (pe_has G_law_next (hr.mono (by omega)) (pa_cons (pv 0) pa_nil)) pe_int) pa_nil)) (pg_name (i := 3) sc_law_line.nd rfl (.inl rfl)) (pss_one (ps_set (i := 2) sc_law_line.nd rfl (.inl rfl) (pe_op op_add_str (pv 2) (pe_ix ix_str (pv 1) (pe_op op_mod (pe_has G_law_next (hr.mono (by omega)) (pa_cons (pv 0) pa_nil)) (pe_callB call_len_str rfl m_len PySem.boot_len (pa_cons (pv 1) pa_nil))) (fun _ _ => rfl))))))
  (pss_one (ps_ret (pe_op op_mulS (pv 2) (pe_ix ix_list (pe_lst (pa_cons pe_int (pa_cons pe_int (pa_cons pe_int (pa_cons pe_int pa_nil))))) (pe_op op_mod (pe_has G_law_next (hr.mono (by omega)) (pa_cons (pv 0) pa_nil)) pe_int) (fun _ _ => rfl)))))))), ?_⟩
  refine ⟨_, rfl, a, n, by omega, dr, .cons rfl .nil, fun v0 H1 g1 d1 hv => ?_⟩
  obtain ⟨i, rfl, i1, i2⟩ := hv
  have m61 : 0 ≤ i % 61 ∧ i % 61 < 61 := ⟨Int.emod_nonneg _ (by decide), Int.emod_lt_of_pos _ (by decide)⟩
  refine ⟨_, _, rfl, rfl, (show (0 : Int) < 61 by decide), ?_⟩
  refine ⟨_, rfl, by show -(2 ^ 62 : Int) ≤ i % 61; omega, by show i % 61 < 2 ^ 62; omega, for_range (n := (i % 61).toNat) (fun k σ H' => Gx a H H' ∧ Dr H' a (n + 1 + k) ∧ ∃ (z : Str) (t3 : Option V), σ = [some (.ref a), some (.str signs90), some (.str z), t3] ∧ Rg z ∧ z.length = k) ?_ ?_ ?_⟩
  · exact ⟨g1, d1, "", none, rfl, rg_nil, rfl⟩
  · rintro k σ H' hk ⟨g, d, z, t3, rfl, rz, lz⟩
    refine ⟨_, rfl, _, rfl, _, rfl, a, n + 1 + k, by omega, d, .cons rfl .nil, fun v1 H2 g2 d2 hv => ?_⟩
    obtain ⟨i3, rfl, i4, _⟩ := hv
    have m90 : 0 ≤ i3 % 90 ∧ i3 % 90 < 90 := ⟨Int.emod_nonneg _ (by decide), Int.emod_lt_of_pos _ (by decide)⟩
    have l90 : signs90.cps.toList.length = 90 := by decide +kernel
    obtain ⟨j, hj⟩ : ∃ j : Nat, i3 % 90 = (j : Int) := ⟨(i3 % 90).toNat, by omega⟩
    have lt : j < signs90.cps.toList.length := by omega
    have ec : signs90.cps.toList[j]? = some signs90.cps.toList[j] := List.getElem?_eq_getElem lt
    have rc := signs_rg _ (List.getElem_mem lt)
    have ea : atI signs90.cps.toList (i3 % 90) = some signs90.cps.toList[j] := by
      rw [hj]
      exact atI_nat ec
    refine ⟨_, rfl, signs90, rfl, (by show 90 ≤ sizeLine; decide), _, _, rfl, rfl, (show (0 : Int) < 90 by decide), signs90, i3 % 90, _, rfl, rfl, (by show 90 ≤ sizeLine; decide), ea, z, ⟨#[signs90.cps.toList[j]]⟩, rfl, rfl, Nat.le_of_lt (small1000 (by rw [lz]; show k + 1 ≤ 1000; omega)), ?_⟩
    refine ⟨g.trans g2, d2.mono (by omega), _, _, rfl, rz.app (rg_one rc), ?_⟩
    show (z.cps ++ #[_]).size = k + 1
    rw [Array.size_append]
    show z.length + 1 = k + 1
    rw [lz]
  · rintro σ H' ⟨g, d, z, t3, rfl, rz, lz⟩
    refine ⟨_, rfl, (by show 4 ≤ sizeLine; decide), fun l4 hl4 => ?_⟩
    have nl4 : l4 ≠ a := d.ne hl4
    have s4 := same_new (o := .lst [.int 1, .int 1, .int 1, .int 100]) hl4
    refine ⟨_, rfl, a, n + 1 + (i % 61).toNat, by omega, same_dr s4 d, .cons rfl .nil, fun v1 H2 g2 d2 hv => ?_⟩
    obtain ⟨i3, rfl, _, _⟩ := hv
    have hx : ∃ k : Int, (k = 1 ∨ k = 100) ∧ atI [V.int 1, V.int 1, V.int 1, V.int 100] (i3 % 4) = some (V.int k) := by
      have : i3 % 4 = 0 ∨ i3 % 4 = 1 ∨ i3 % 4 = 2 ∨ i3 % 4 = 3 := by omega
      rcases this with h | h | h | h <;> rw [h] <;> exact ⟨_, by decide, rfl⟩
    obtain ⟨k, k1, k2⟩ := hx
    have hk1 : 1 ≤ k := by omega
    have hk2 : k ≤ 100 := by omega
    have lz6 : z.length ≤ 60 := by omega
    refine ⟨_, _, rfl, rfl, (show (0 : Int) < 4 by decide), l4, _, _, _, rfl, rfl, SqL.of (g2 _ _ nl4 upd_same), k2, z, k, rfl, rfl, mulOk_of 60 100 lz6 hk2 (by omega) (by decide) (by decide), ?_⟩
    refine q _ _ (g.trans ((same_gx s4).trans g2)) (d2.mono (by omega)) (rz.mul hk1) ?_
    have := mul_len (z := z) hk1
    have l2 : (z.length : Int) * k ≤ 60 * 100 := Int.mul_le_mul (by omega) hk2 (by omega) (by decide)
    omega
end
end Wp
set_option Elab.async false
set_option linter.all false
set_option maxRecDepth 100000
namespace Wp
open PySem PySem.Spec PyProof.Rows L2
-- _law_right: slots _law_draws_here 0, _law_a_line 1, _law_due 2, _law_at 3, _law_sign 4, _law_other 5, _law_left 6, _law_turned_about 7, _law_one 8
abbrev s_law_right : Stmt := top 8
theorem sc_law_right : FnScope ["_law_draws_here", "_law_a_line", "_law_due", "_law_at", "_law_sign", "_law_other", "_law_left", "_law_turned_about", "_law_one"] ["_law_draws_here"] (defScope s_law_right) := ⟨rfl, rfl, rfl, by decide +kernel, rfl, by decide +kernel, by decide +kernel⟩
abbrev sl_law_right : List Str := ["_law_draws_here", "_law_a_line", "_law_due", "_law_at", "_law_sign", "_law_other", "_law_left", "_law_turned_about", "_law_one"]
section
variable {X : Cx} {CX : CXT} {k : Nat} {f : Addr} {fd : FuncData} {ps ks : List Str} {sp : Sp} {x : Str} {p pos : Pos} {e : Expr} {es : List Expr} {kws : List Keyword} {t tk : TA} {g : List Value → List Value → List Value} {gV : List V → List V → List V}
/-- a call by names alone -/
def HasK (CX : CXT) (P : Program) (w : World) (K : PySem.W.Frag) (mg : Str → Option Value) (base : Heap) (x : Str) (ps : List Str) (k : Nat) (ks : List Str) (gV : List V → List V → List V) (sp : Sp) : Prop :=
  ∃ (f : Addr) (fd : FuncData) (g : List Value → List Value → List Value), FnOk P w K mg base CX k f fd ps sp ∧ mg x = some (.ref f) ∧ PySem.W.keepIn K (.ref f) = true ∧ KBn K fd ps 0 ks g gV
theorem pe_hasK (h : HasK CX X.prog X.w X.K X.mg X.base x ps k ks gV sp) (hr : Room k X.A) (hx : Passes CX X E0) (hkw : PK X kws tk) (hg : Gl X x := by rfl)
    (hall : (backToKw pos (keywordEach kws X.env)).all (·.1.isSome) = true := by rfl) (hks : (backToKw pos (keywordEach kws X.env)).filterMap (·.1) = ks := by rfl) (hdb : (x == ("__debug__" : Str)) = false := by decide)
    (hpl : ((backTo pos (starEach [] X.env)).any (·.1) || (backToKw pos (keywordEach kws X.env)).any (·.1.isNone)) = false := by rfl) :
    PE X (.Call (.Name x p) [] kws pos) (tCallN 0 ks.length sp gV E0 tNil tk) := by
  obtain ⟨f, fd, g, F, hm, hk, hb⟩ := h
  refine ⟨fun pins s σ H Q I h => ?_⟩
  refine wpAny_Call_Name_kw (ld_glob I hg hm ?_ hdb)
  refine PySem.W.callWith_KW0 (h₀ := X.base) I.ok.mod.kin hk hall (thn (hkw.run pos pins s σ H _ I h) fun ws s2 ⟨zs, H2, I2, rz, l1, l2, q2⟩ => ⟨I2.kIn, ?_⟩) hpl
  rw [hks]
  exact run_fnN (us := []) (vs := []) F hr hb hx I2 .nil rz rfl l2 q2
end
def g1 {α : Type} (_ ws : List α) : List α := ws
theorem ite_t {c : Bool} {A B : Prop} (h : c = true) (k : A) : if c = true then A else B := by rw [if_pos h]; exact k
theorem ite_f {c : Bool} {A B : Prop} (h : c = false) (k : B) : if c = true then A else B := by rw [if_neg (by rw [h]; decide)]; exact k
/-! ### one sign another, two neighbours exchanged -/
theorem str_ext {x y : Str} (h : x.cps.toList = y.cps.toList) : x = y := by
  cases x
  cases y
  congr
  exact Array.ext' h
theorem app_list (x y : Str) : (x ++ y).cps.toList = x.cps.toList ++ y.cps.toList := by
  show (x.cps ++ y.cps).toList = _
  rw [Array.toList_append]
theorem cut_to (z : Str) (j : Nat) : (cutS z none (some (j : Int))).cps.toList = z.cps.toList.take j := by
  unfold cutS
  rw [HT.sIx_nat]
  show (((z.cps.toList.drop 0).take (min j z.length - 0)).toArray).toList = _
  rw [List.drop_zero, Nat.sub_zero, List.toList_toArray]
  show z.cps.toList.take (min j z.cps.size) = _
  rw [← Array.length_toList, ← List.take_eq_take_min]
theorem cut_from (z : Str) (j : Nat) : (cutS z (some (j : Int)) none).cps.toList = z.cps.toList.drop j := by
  unfold cutS
  rw [HT.sIx_nat]
  show (((z.cps.toList.drop (min j z.length)).take (z.length - min j z.length)).toArray).toList = _
  rw [List.toList_toArray]
  have e : z.length = z.cps.toList.length := by rw [Array.length_toList]; rfl
  rw [e, List.take_of_length_le (by rw [List.length_drop]; omega)]
  by_cases h : j ≤ z.cps.toList.length
  · rw [Nat.min_eq_left h]
  · rw [Nat.min_eq_right (by omega), List.drop_length, List.drop_eq_nil_of_le (by omega)]
theorem off_one {A B D : Int} (h : A - B = D) (l : -999983 < D) (u : D < 999983) (e : A % 999983 = B % 999983) : D = 0 := by omega
theorem near {k c d : Nat} (hk : k ≤ 6000) (hc : c ≤ 126) (hd : d ≤ 126) : -999983 < (k : Int) * ((c : Int) - d) ∧ (k : Int) * ((c : Int) - d) < 999983 := by
  have e : ((k : Int) * ((c : Int) - d)).natAbs = k * ((c : Int) - d).natAbs := by rw [Int.natAbs_mul]; rfl
  have b : ((c : Int) - d).natAbs ≤ 126 := by omega
  have m : k * ((c : Int) - d).natAbs ≤ 6000 * 126 := Nat.mul_le_mul hk b
  omega
/-- one sign in another's place -/
theorem chg_one {pre suf : List Nat} {c d : Nat} (lp : pre.length + 1 ≤ 6000) (hc : c ≤ 126) (hd : d ≤ 126) : (wsum 0 (pre ++ d :: suf) % 999983 = wsum 0 (pre ++ c :: suf) % 999983) ↔ d = c := by
  constructor
  · intro e
    have e1 : wsum 0 (pre ++ d :: suf) - wsum 0 (pre ++ c :: suf) = ((pre.length + 1 : Nat) : Int) * ((d : Int) - c) := by
      rw [wsum_app, wsum_app, wsum, wsum, Int.mul_sub, Nat.zero_add]
      have z : ((pre.length + 1 : Nat) : Int) = (pre.length : Int) + 1 := by omega
      rw [z]
      omega
    obtain ⟨l, u⟩ := near (k := pre.length + 1) lp hd hc
    have z := off_one e1 l u e
    rcases Int.mul_eq_zero.mp z with z | z <;> omega
  · intro e
    rw [e]
/-- two neighbours exchanged -/
theorem chg_two {pre suf : List Nat} {c d : Nat} (hc : c ≤ 126) (hd : d ≤ 126) : (wsum 0 (pre ++ d :: c :: suf) % 999983 = wsum 0 (pre ++ c :: d :: suf) % 999983) ↔ d = c := by
  constructor
  · intro e
    have e1 : wsum 0 (pre ++ d :: c :: suf) - wsum 0 (pre ++ c :: d :: suf) = (c : Int) - d := by
      rw [wsum_app, wsum_app, wsum, wsum, wsum, wsum, Nat.zero_add]
      have z : ((pre.length + 1 : Nat) : Int) = (pre.length : Int) + 1 := by omega
      rw [z]
      have a1 : ((pre.length : Int) + 1 + 1) * (c : Int) = ((pre.length : Int) + 1) * c + c := by rw [Int.add_mul ((pre.length : Int) + 1)]; omega
      have a2 : ((pre.length : Int) + 1 + 1) * (d : Int) = ((pre.length : Int) + 1) * d + d := by rw [Int.add_mul ((pre.length : Int) + 1)]; omega
      rw [a1, a2]
      omega
    have z := off_one e1 (by omega) (by omega) e
    omega
  · intro e
    rw [e]
theorem split_at {l : List Nat} {j : Nat} {c : Nat} (h : l[j]? = some c) : l = l.take j ++ c :: l.drop (j + 1) := by
  have lt := (List.getElem?_eq_some_iff.mp h).1
  have e : l.drop j = c :: l.drop (j + 1) := by
    rw [List.drop_eq_getElem_cons lt]
    congr 1
    exact (List.getElem?_eq_some_iff.mp h).2
  rw [← e, List.take_append_drop]
theorem chk_other {z o : Str} {j c d : Nat} (rz : Rg z) (lz : z.length ≤ 6000) (hj : z.cps.toList[j]? = some c) (hd : d ≤ 126) (ho : o.cps.toList = z.cps.toList.take j ++ d :: z.cps.toList.drop (j + 1)) : decide (chk o = chk z) = decide (o = z) := by
  have lt : j < z.cps.toList.length := (List.getElem?_eq_some_iff.mp hj).1
  have lt2 : j < z.length := by rw [Array.length_toList] at lt; exact lt
  have sp := split_at hj
  have hc := (rz c (List.mem_of_getElem? hj)).2
  have k := chg_one (pre := z.cps.toList.take j) (suf := z.cps.toList.drop (j + 1)) (c := c) (d := d) (by rw [List.length_take]; omega) hc hd
  have e : (chk o = chk z) ↔ d = c := by
    unfold chk
    rw [ho]
    conv => lhs; rhs; rw [sp]
    exact k
  have e2 : o = z ↔ d = c := by
    constructor
    · intro h
      rw [h] at ho
      have q : z.cps.toList[j]? = (z.cps.toList.take j ++ d :: z.cps.toList.drop (j + 1))[j]? := by rw [← ho]
      rw [hj, List.getElem?_append_right (by rw [List.length_take]; omega), show j - (z.cps.toList.take j).length = 0 by rw [List.length_take]; omega] at q
      simpa using q.symm
    · intro h
      apply str_ext
      rw [ho, h, ← sp]
  exact decide_eq_decide.mpr (e.trans e2.symm)
theorem chk_turned {z t : Str} {j c : Nat} (rz : Rg z) (hj : z.cps.toList[j]? = some c) (ht : t.cps.toList = z.cps.toList.take j ++ ((z.cps.toList.drop (j + 1)).take 1 ++ ([c] ++ (z.cps.toList.drop (j + 1)).drop 1))) : decide (chk t = chk z) = decide (t = z) := by
  have lt : j < z.cps.toList.length := (List.getElem?_eq_some_iff.mp hj).1
  have sp := split_at hj
  have hc := (rz c (List.mem_of_getElem? hj)).2
  cases hs : z.cps.toList.drop (j + 1) with
  | nil =>
    have e : t = z := by
      apply str_ext
      rw [ht, hs]
      rw [hs] at sp
      exact sp.symm
    rw [e]
    simp
  | cons d suf =>
    rw [hs] at ht sp
    have ht : t.cps.toList = z.cps.toList.take j ++ d :: c :: suf := ht
    have hd : d ≤ 126 := by
      have m : d ∈ z.cps.toList := List.mem_of_mem_drop (i := j + 1) (by rw [hs]; exact List.mem_cons_self)
      exact (rz d m).2
    have k := chg_two (pre := z.cps.toList.take j) (suf := suf) (c := c) (d := d) hc hd
    have e : (chk t = chk z) ↔ d = c := by
      unfold chk
      rw [ht]
      conv => lhs; rhs; rw [sp]
      exact k
    have e2 : t = z ↔ d = c := by
      constructor
      · intro h
        rw [h] at ht
        have q : z.cps.toList[j]? = (z.cps.toList.take j ++ d :: c :: suf)[j]? := by rw [← ht]
        rw [hj, List.getElem?_append_right (by rw [List.length_take]; omega), show j - (z.cps.toList.take j).length = 0 by rw [List.length_take]; omega] at q
        simpa using q.symm
      · intro h
        apply str_ext
        rw [ht, h]
        conv => rhs; rw [sp]
        rw [h]
    exact decide_eq_decide.mpr (e.trans e2.symm)
theorem line_empty {z : Str} (h : ¬ z = "") : 0 < z.cps.toList.length := by
  cases hl : z.cps.toList with
  | nil => exact absurd (str_ext (by rw [hl]; rfl)) h
  | cons c l => simp
def signs5 : Str := " 0a~Z"
theorem signs5_rg : Rg signs5 := by
  unfold Rg
  decide +kernel
def spRight : Sp := fun vs H Q _ => ∃ (a : Addr) (n : Nat), n + 64 ≤ big ∧ Dr H a n ∧ vs = [.ref a] ∧ ∀ H', Gx a H H' → Q (.bl true) H'
section
variable {P : Program} {w : World} {K : PySem.W.Frag} {mg : Str → Option Value} {base : Heap} {f : Addr} {fd : FuncData}
theorem ok_right (F : Fun K "_law_right" "_law_right" s_law_right f fd) (G_law_next : Has P w K mg base "_law_next" ["_law_draws_here"] 1 spNext) (G_law_line : Has P w K mg base "_law_line" ["_law_draws_here"] 2 spLine) (G_law_check : Has P w K mg base "_law_check" ["_law_a_text"] 1 spChk) (Gcheck : Has P w K mg base "check" ["line"] 1 spChk) (Jcheck : HasK CX0 P w K mg base "check" ["line"] 1 ["line"] g1 spChk)
    (m_isinstance : mg "isinstance" = none) (m_bool : mg "bool" = none) (m_len : mg "len" = none) : FnOk P w K mg base CX0 3 f fd ["_law_draws_here"] spRight := by
  refine F.ok sc_law_right (fun vs H Q E h => ?_) (fun cdv A outer s H vs Q E hr h => ?_)
  · obtain ⟨a, n, _, _, rfl, _⟩ := h
    rfl
  obtain ⟨a, n, hb, dr, rfl, q⟩ := h
  refine ⟨_, (pss_cons (ps_set (i := 1) sc_law_right.nd rfl (.inl rfl) (pe_has G_law_line (hr.mono (by omega)) (pa_cons (pv 0) pa_nil)))
  (pss_cons (ps_set (i := 2) sc_law_right.nd rfl (.inr rfl) (pe_has G_law_check (hr.mono (by omega)) (pa_cons (pv 1) pa_nil)))
  (pss_cons (ps_if (PW.pt (pw_or (pt_cmpR op_ne (pe_has Gcheck (hr.mono (by omega)) (pa_cons (pv 1) pa_nil)) (pv 2) (nomark _)) (pw_or (pt_cmpR op_ne (pe_hasK Jcheck (hr.mono (by decide)) pass0 (pk_cons (pv 1) pk_nil)) (pv 2) (nomark _)) (pw_or1 (pt_val (pe_callB call_isi rfl m_isinstance PyProof.Rows.Boot.isinstance (pa_cons (pe_has Gcheck (hr.mono (by omega)) (pa_cons (pv 1) pa_nil)) (pa_cons (pe_bltn (v := .ty "bool") rfl m_bool PyProof.Rows.Boot.«bool» rfl) pa_nil)))))))) (pss_one (ps_ret pe_bl)) pss_nil)
  (pss_cons (ps_if (pt_cmpR op_eq (pv 1) pe_str (nomark _)) (pss_one (ps_ret (pe_cmpR op_eq (pv 2) pe_int (nomark _)))) pss_nil)
  (pss_cons (ps_set (i := 3) sc_law_right.nd rfl (.inl rfl) (pe_op op_mod (pe_has G_law_next (hr.mono (by omega)) (pa_cons (pv 0) pa_nil)) (pe_callB call_len_str rfl m_len PySem.boot_len (pa_cons (pv 1) pa_nil))))
  (pss_cons (ps_set (i := 4) sc_law_right.nd rfl (.inl rfl) (pe_ix ix_str pe_str (pe_op op_mod (pe_has G_law_next (hr.mono (by omega)) (pa_cons (pv 0) pa_nil)) pe_int) (fun _ _ => rfl)))
  (pss_cons (ps_set (i := 5) sc_law_right.nd rfl (.inl rfl) (pe_op op_add_str (pe_op op_add_str (pe_slice sl_str (pv 1) po_none (po_some (pv 3))) (pv 4)) (pe_slice sl_str (pv 1) (po_some (pe_op op_add (pv 3) pe_int)) po_none)))
  (pss_cons (ps_set (i := 6) sc_law_right.nd rfl (.inl rfl) (pe_slice sl_str (pv 1) (po_some (pe_op op_add (pv 3) pe_int)) po_none))
  (pss_cons (ps_set (i := 7) sc_law_right.nd rfl (.inl rfl) (pe_op op_add_str (pe_op op_add_str (pe_op op_add_str (pe_slice sl_str (pv 1) po_none (po_some (pv 3))) (pe_slice sl_str (pv 6) po_none (po_some pe_int))) (pe_ix ix_str (pv 1) (pv 3) (fun _ _ => rfl))) (pe_slice sl_str (pv 6) (po_some pe_int) po_none)))
  (pss_one (ps_ret (pe_cmpR (op_eqD hr.units) (pe_lc (own := [("_law_one", 8)]) (g := gName 8) (tt := tYes) (te := (tOp rEq (tCall (spChk) [] E0 (tCons (tVar 8) tNil)) (tVar 2))) rfl sc_law_right.nd (pi_list (pe_lst (pa_cons (pv 5) (pa_cons (pv 7) pa_nil)))) (blkOk_by (N := sl_law_right) (sc := defScope s_law_right) (by decide +kernel)) (fun _ _ _ _ _ => (pg_name (i := 8) sc_law_right.nd rfl (.inl rfl))) (fun _ _ _ _ _ => pts_nil) (fun _ _ _ _ _ => (pe_cmpR op_eq (pe_has Gcheck (hr.mono (by omega)) (pa_cons (pv 8) pa_nil)) (pv 2) (nomark _)))) (pe_lst (pa_cons (pe_cmpR op_eq (pv 5) (pv 1) (nomark _)) (pa_cons (pe_cmpR op_eq (pv 7) (pv 1) (nomark _)) pa_nil))) (nomark _))))))))))))), ?_⟩
  refine ⟨_, rfl, a, n, by omega, dr, rfl, fun z H1 g1 d1 rz lz => ?_⟩
  have zl : z.length ≤ sizeLine := by
    have : (6000 : Nat) ≤ sizeLine := by decide
    omega
  refine ⟨_, rfl, z, rfl, by omega, fun H2 s2 => ?_⟩
  refine ⟨_, rfl, z, rfl, by omega, fun H3 s3 => ⟨_, rfl, rfl, _, rfl, ite_f (by simp) ?_⟩⟩
  refine ⟨_, rfl, rfl, rfl, z, rfl, by omega, fun H4 s4 => ⟨_, rfl, rfl, _, rfl, ite_f (by simp) ?_⟩⟩
  refine ⟨_, rfl, z, rfl, by omega, fun H5 s5 => ⟨_, _, _, _, false, rfl, .ty "bool", .base (.int _), kit_ty (by decide +kernel), _, rfl, iteF ?_⟩⟩
  have d5 := same_dr (s2.trans (s3.trans (s4.trans s5))) d1
  refine ⟨_, rfl, rfl, _, rfl, ?_⟩
  by_cases he : z = ""
  · refine ite_t (decide_eq_true (by rw [he])) ?_
    refine ⟨_, rfl, rfl, ?_⟩
    subst he
    exact q _ (g1.trans (same_gx (s2.trans (s3.trans (s4.trans s5)))))
  refine ite_f (decide_eq_false fun c => he (V.str.inj c)) ?_
  have l0 := line_empty he
  refine ⟨_, rfl, a, n + 62, by omega, d5, .cons rfl .nil, fun v1 H6 g6 d6 hv => ?_⟩
  obtain ⟨i, rfl, i0, _⟩ := hv
  have ez : z.cps.toList.length = z.length := by rw [Array.length_toList]; rfl
  have lp : (0 : Int) < (z.length : Int) := by omega
  have m1 := Int.emod_nonneg i (Int.ne_of_gt lp)
  have m2 := Int.emod_lt_of_pos i lp
  obtain ⟨j, hj⟩ : ∃ j : Nat, i % (z.length : Int) = (j : Int) := ⟨(i % (z.length : Int)).toNat, by omega⟩
  have jl : j < z.cps.toList.length := by omega
  obtain ⟨c, ec⟩ : ∃ c, z.cps.toList[j]? = some c := ⟨_, List.getElem?_eq_getElem jl⟩
  refine ⟨_, rfl, z, rfl, zl, _, _, rfl, rfl, lp, ?_⟩
  show _
  refine ⟨_, rfl, a, n + 63, by omega, d6, .cons rfl .nil, fun v2 H7 g7 d7 hv => ?_⟩
  obtain ⟨i2, rfl, _, _⟩ := hv
  have m5 : 0 ≤ i2 % 5 ∧ i2 % 5 < 5 := ⟨Int.emod_nonneg _ (by decide), Int.emod_lt_of_pos _ (by decide)⟩
  obtain ⟨j2, hj2⟩ : ∃ j : Nat, i2 % 5 = (j : Int) := ⟨(i2 % 5).toNat, by omega⟩
  have l5 : signs5.cps.toList.length = 5 := by decide +kernel
  obtain ⟨dd, ed⟩ : ∃ c, signs5.cps.toList[j2]? = some c := ⟨_, List.getElem?_eq_getElem (by omega)⟩
  have rd := signs5_rg dd (List.mem_of_getElem? ed)
  have ea : atI signs5.cps.toList (i2 % 5) = some dd := by
    rw [hj2]
    exact atI_nat ed
  refine ⟨_, _, rfl, rfl, (show (0 : Int) < 5 by decide), signs5, i2 % 5, _, rfl, rfl, (by show 5 ≤ sizeLine; decide), ea, ?_⟩
  have e1 : (cutS z none (some (i % (z.length : Int)))).cps.toList = z.cps.toList.take j := by
    rw [hj]
    exact cut_to z j
  have e2 : (cutS z (some (i % (z.length : Int) + 1)) none).cps.toList = z.cps.toList.drop (j + 1) := by
    rw [hj]
    exact cut_from z (j + 1)
  have ez2 : atI z.cps.toList (i % (z.length : Int)) = some c := by
    rw [hj]
    exact atI_nat ec
  have c1 := cutS_length z none (some (i % (z.length : Int)))
  have c2 := cutS_length z (some (i % (z.length : Int) + 1)) none
  have big6 : ∀ {x : Nat}, x ≤ 13000 → x ≤ sizeLine := fun h => Nat.le_trans h (by decide)
  have one : ∀ k : Nat, (⟨#[k]⟩ : Str).length = 1 := fun _ => rfl
  refine ⟨_, rfl, _, rfl, _, rfl, z, rfl, zl, _, rfl, _, _, rfl, rfl, big6 (by rw [one]; omega), ?_⟩
  have c3 : (cutS z none (some (i % (z.length : Int))) ++ (⟨#[dd]⟩ : Str)).length ≤ 6001 := by
    show (_ ++ _ : Array Nat).size ≤ _
    rw [Array.size_append]
    show (cutS z none (some (i % (z.length : Int)))).length + 1 ≤ _
    omega
  refine ⟨_, rfl, _, rfl, _, _, rfl, rfl, _, rfl, z, rfl, zl, _, _, rfl, rfl, big6 (by omega), ?_⟩
  generalize ho : cutS z none (some (i % (z.length : Int))) ++ (⟨#[dd]⟩ : Str) ++ cutS z (some (i % (z.length : Int) + 1)) none = o
  have lo : o.length ≤ 12001 := by
    rw [← ho]
    show (_ ++ _ : Array Nat).size ≤ _
    rw [Array.size_append]
    show (cutS z none (some (i % (z.length : Int))) ++ (⟨#[dd]⟩ : Str)).length + (cutS z (some (i % (z.length : Int) + 1)) none).length ≤ _
    omega
  have eo : o.cps.toList = z.cps.toList.take j ++ dd :: z.cps.toList.drop (j + 1) := by
    rw [← ho, app_list, app_list, e1, e2, List.append_assoc]
    rfl
  refine ⟨_, rfl, _, rfl, _, _, rfl, rfl, _, rfl, z, rfl, zl, ?_⟩
  refine ⟨_, rfl, _, rfl, _, rfl, z, rfl, zl, _, rfl, _, rfl, _, rfl, big6 (by omega), _, _, rfl, rfl, big6 (by have := cutS_length (cutS z (some (i % (z.length : Int) + 1)) none) none (some 1); omega), ?_⟩
  generalize hl : cutS z (some (i % (z.length : Int) + 1)) none = lf at e2 c2 ⊢
  have k1 := cutS_length lf none (some 1)
  have k2 := cutS_length lf (some 1) none
  have p1 : (cutS z none (some (i % (z.length : Int))) ++ cutS lf none (some 1)).length ≤ 12000 := by
    show (_ ++ _ : Array Nat).size ≤ _
    rw [Array.size_append]
    show (cutS z none (some (i % (z.length : Int)))).length + (cutS lf none (some 1)).length ≤ _
    omega
  refine ⟨_, rfl, _, rfl, z, _, _, rfl, rfl, zl, ez2, _, _, rfl, rfl, big6 (by rw [one]; omega), ?_⟩
  have lt0 : lf.cps.toList.length = z.cps.toList.length - (j + 1) := by rw [e2, List.length_drop]
  have lf0 : lf.cps.toList.length = lf.length := by rw [Array.length_toList]; rfl
  have k3 : (cutS lf none (some 1)).length ≤ 1 := by
    have : (cutS lf none (some 1)).cps.toList = lf.cps.toList.take 1 := cut_to lf 1
    have e : (cutS lf none (some 1)).length = (cutS lf none (some 1)).cps.toList.length := by rw [Array.length_toList]; rfl
    rw [e, this, List.length_take]
    omega
  have e3 : (cutS lf none (some 1)).cps.toList = (z.cps.toList.drop (j + 1)).take 1 := by rw [← e2]; exact cut_to lf 1
  have e4 : (cutS lf (some 1) none).cps.toList = (z.cps.toList.drop (j + 1)).drop 1 := by rw [← e2]; exact cut_from lf 1
  have p2 : (cutS z none (some (i % (z.length : Int))) ++ cutS lf none (some 1) ++ (⟨#[c]⟩ : Str)).length ≤ 6002 := by
    show (_ ++ _ : Array Nat).size ≤ _
    rw [Array.size_append]
    show (cutS z none (some (i % (z.length : Int))) ++ cutS lf none (some 1)).length + 1 ≤ _
    have : (cutS z none (some (i % (z.length : Int))) ++ cutS lf none (some 1)).length = (cutS z none (some (i % (z.length : Int)))).length + (cutS lf none (some 1)).length := by
      show (_ ++ _ : Array Nat).size = _
      rw [Array.size_append]
      rfl
    omega
  refine ⟨_, rfl, _, rfl, lf, rfl, big6 (by omega), _, _, rfl, rfl, big6 (by omega), ?_⟩
  generalize ht : cutS z none (some (i % (z.length : Int))) ++ cutS lf none (some 1) ++ (⟨#[c]⟩ : Str) ++ cutS lf (some 1) none = t
  have et : t.cps.toList = z.cps.toList.take j ++ ((z.cps.toList.drop (j + 1)).take 1 ++ ([c] ++ (z.cps.toList.drop (j + 1)).drop 1)) := by
    rw [← ht, app_list, app_list, app_list, e1, e3, e4, List.append_assoc, List.append_assoc]
  have len_o : o.length ≤ 10000 := by
    have e : o.length = o.cps.toList.length := by rw [Array.length_toList]; rfl
    rw [e, eo, List.length_append, List.length_cons, List.length_take, List.length_drop]
    omega
  have len_t : t.length ≤ 10000 := by
    have e : t.length = t.cps.toList.length := by rw [Array.length_toList]; rfl
    rw [e, et]
    simp only [List.length_append, List.length_cons, List.length_take, List.length_drop, List.length_nil]
    omega
  have b1 := chk_other rz lz ec rd.2 eo
  have b2 := chk_turned rz ec et
  refine ⟨_, rfl, _, rfl, (by show 2 ≤ sizeLine; decide), fun L hL => ⟨L, rfl, ⟨_, SqL.of upd_same⟩, fun D hD => ?_⟩⟩
  have nDL : D ≠ L := fun e => by
    rw [e, upd_same] at hD
    cases hD
  have h7D : H7 D = none := by
    rw [upd_ne nDL] at hD
    exact hD
  refine lc_list (xs := [V.str o, V.str t]) (fun u H' => Same H7 H' ∧ H' L = some (.lst [.str o, .str t]) ∧ H' D = some (.lst ([V.bl (decide (chk o = chk z)), V.bl (decide (chk t = chk z))].take u))) ?_ ?_ ?_ ?_
  · exact ⟨same_grow (same_new hL) h7D, by rw [upd_ne (Ne.symm nDL), upd_same], upd_same⟩
  · rintro u H' _ ⟨_, h, _⟩
    exact SqL.of h
  · rintro u x H' hx ⟨h0, h1, h2⟩
    have dz : ∀ a b : Int, decide (V.int a = V.int b) = decide (a = b) := fun a b => decide_eq_decide.mpr ⟨V.int.inj, fun h => by rw [h]⟩
    refine ⟨wipe_one _ 8 _, ?_⟩
    match u, hx with
    | 0, hx =>
      obtain rfl : V.str o = x := Option.some.inj hx
      refine ⟨_, rfl, o, rfl, len_o, fun H3 s3 => ⟨_, rfl, rfl, _, s3 _ _ h2, (by show 0 < sizeLine; decide), same_grow (h0.trans s3) h7D, ?_, ?_⟩⟩
      · rw [upd_ne (Ne.symm nDL)]
        exact s3 _ _ h1
      · rw [upd_same, dz]
        rfl
    | 1, hx =>
      obtain rfl : V.str t = x := Option.some.inj hx
      refine ⟨_, rfl, t, rfl, len_t, fun H3 s3 => ⟨_, rfl, rfl, _, s3 _ _ h2, (by show 1 < sizeLine; decide), same_grow (h0.trans s3) h7D, ?_, ?_⟩⟩
      · rw [upd_ne (Ne.symm nDL)]
        exact s3 _ _ h1
      · rw [upd_same, dz]
        rfl
    | u + 2, hx => cases hx
  · rintro H' ⟨h0, h1, h2⟩
    refine ⟨_, rfl, _, rfl, rfl, _, rfl, _, rfl, rfl, (by show 2 ≤ sizeLine; decide), fun R hR => ?_⟩
    have nDR : D ≠ R := fun e => by
      rw [← e, h2] at hR
      cases hR
    refine ⟨_, _, .lst (SqL.of (show upd H' R _ D = some (.lst [V.bl (decide (o = z)), V.bl (decide (t = z))]) from ?_)) (.cons (.bl _) (.cons (.bl _) .nil)), .lst (SqL.of upd_same) (.cons (.bl _) (.cons (.bl _) .nil)), rfl, rfl, ?_⟩
    · rw [upd_ne nDR, h2, ← b1, ← b2]
      rfl
    · have e : ∀ b1 b2 : Bool, PyData.eqv (.list [.bool b1, .bool b2]) (.list [.bool b1, .bool b2]) = true := by decide
      have d1 : decide (V.str o = V.str z) = decide (o = z) := decide_eq_decide.mpr ⟨V.str.inj, fun h => by rw [h]⟩
      have d2 : decide (V.str t = V.str z) = decide (t = z) := decide_eq_decide.mpr ⟨V.str.inj, fun h => by rw [h]⟩
      rw [d1, d2, e]
      exact q _ ((g1.trans (same_gx (s2.trans (s3.trans (s4.trans s5))))).trans (g6.trans (g7.trans (same_gx (h0.trans (same_new hR))))))
end
end Wp
set_option Elab.async false
set_option linter.all false
set_option maxRecDepth 100000
namespace Wp
open PySem PySem.Spec PyProof.Rows L2
-- law: slots _law_script 0, _law_cell 1
abbrev slaw : Stmt := top 9
theorem sclaw : FnScope ["_law_script", "_law_cell"] ["_law_script"] (defScope slaw) := ⟨rfl, rfl, rfl, by decide +kernel, rfl, by decide +kernel, by decide +kernel⟩
abbrev sllaw : List Str := ["_law_script", "_law_cell"]
def spLaw (K : PySem.W.Frag) : Sp := fun vs H Q _ => ∃ (a : Addr) (ns : List Int), vs = [.ref a] ∧ SqL K H a (ns.map V.int) ∧ ns.length ≤ 63 ∧ ∀ H', Q (.bl true) H'
section
variable {P : Program} {w : World} {K : PySem.W.Frag} {mg : Str → Option Value} {base : Heap} {f C : Addr} {fd : FuncData}
theorem ok_law (F : Fun K "law" "law" slaw f fd) (G_law_draws : Has P w K mg base "_law_draws" ["_law_cell"] 1 spDraws) (G_law_right : Has P w K mg base "_law_right" ["_law_draws_here"] 3 spRight) (Gcheck : Has P w K mg base "check" ["line"] 1 spChk) : FnOk P w K mg base CX0 4 f fd ["_law_script"] (spLaw K) := by
  refine F.ok sclaw (fun vs H Q E h => ?_) (fun cdv A outer s H vs Q E hr h => ?_)
  · obtain ⟨a, ns, rfl, _⟩ := h
    rfl
  obtain ⟨a, ns, rfl, hs, hl, q⟩ := h
  refine ⟨_, (pss_cons (ps_for PassesOwn.never rfl (pi_list (pe_op op_cat (pe_slice sl_list (pv 0) po_none (po_some pe_int)) (pe_lst (pa_cons pe_int pa_nil)))) (pg_name (i := 1) sclaw.nd rfl (.inl rfl)) (pss_one (ps_if (pt_not (pt_val (pe_has G_law_right (hr.mono (by omega)) (pa_cons (pe_has G_law_draws (hr.mono (by omega)) (pa_cons (pv 1) pa_nil)) pa_nil)))) (pss_one (ps_ret pe_bl)) pss_nil)))
  (pss_one (ps_ret (pe_cmpR op_eq (pe_has Gcheck (hr.mono (by omega)) (pa_cons pe_str pa_nil)) pe_int (nomark _))))), ?_⟩
  refine ⟨_, rfl, 12, rfl, a, _, rfl, hs, fun p1 h1 => ⟨(by show 1 ≤ sizeLine; decide), fun p2 h2 => ?_⟩⟩
  have hcl := cutV_length (ns.map V.int) none (some 12)
  have hcm : ∀ x ∈ cutV (ns.map V.int) none (some 12), ∃ c : Int, x = .int c := fun x hx => by
    unfold cutV at hx
    obtain ⟨c, _, e⟩ := List.mem_map.mp (List.mem_of_mem_drop (List.mem_of_mem_take hx))
    exact ⟨c, e.symm⟩
  rw [List.length_map] at hcl
  generalize cutV (ns.map V.int) none (some 12) = cs at *
  have hall : ∀ x ∈ cs ++ [V.int 0], ∃ c : Int, x = .int c := fun x hx => by
    rcases List.mem_append.mp hx with h | h
    · exact hcm x h
    · exact ⟨0, List.mem_singleton.mp h⟩
  refine ⟨p1, p2, cs, [.int 0], rfl, rfl, same_new h2 _ _ upd_same, upd_same, Nat.le_of_lt (small1000 (by show cs.length + 1 ≤ 1000; omega)), fun l hl' => ⟨l, rfl, ⟨_, SqL.of upd_same⟩, for_list (xs := cs ++ [V.int 0]) (fun i σ H' => H' l = some (.lst (cs ++ [V.int 0])) ∧ ∃ t1, σ = [some (.ref a), t1]) ?_ ?_ ?_ ?_⟩⟩
  · exact ⟨upd_same, none, rfl⟩
  · rintro i σ H' hi ⟨e, _⟩
    exact SqL.of e
  · rintro i x σ H' hx ⟨e, t1, rfl⟩
    obtain ⟨c, rfl⟩ := hall x (List.mem_of_getElem? hx)
    refine ⟨_, rfl, c, rfl, fun p H2 s2 n2 d2 => ?_⟩
    have nl : l ≠ p := ne_of_none e n2
    refine ⟨p, 0, by decide, d2, rfl, fun H3 g3 => ⟨true, rfl, iteF ⟨g3 _ _ nl (s2 _ _ e), _, rfl⟩⟩⟩
  · rintro σ H' ⟨e, t1, rfl⟩
    have k : chk "1 4 flow" = 3284 := by decide +kernel
    refine ⟨_, rfl, by decide +kernel, fun H2 _ => ⟨rfl, ?_⟩⟩
    rw [k]
    exact q H2
end
end Wp
set_option Elab.async false
set_option linter.all false
set_option maxRecDepth 100000
namespace Wp
open PySem PySem.Spec PyProof.Rows L2
-- check: slots line 0, place 1, sign 2
abbrev scheck : Stmt := top 2
theorem sccheck : FnScope ["line", "place", "sign"] ["line"] (defScope scheck) := ⟨rfl, rfl, rfl, by decide +kernel, rfl, by decide +kernel, by decide +kernel⟩
abbrev slcheck : List Str := ["line", "place", "sign"]
/-! the program's check: the sum of a list of products -/
def wl : Nat → List Nat → List Int
  | _, [] => []
  | i, c :: l => ((i : Int) + 1) * (c : Int) :: wl (i + 1) l
theorem wl_sum : ∀ (i : Nat) (l : List Nat), (wl i l).sum = wsum i l
  | _, [] => rfl
  | i, c :: l => by rw [wl, wsum, List.sum_cons, wl_sum (i + 1) l]
theorem wl_len : ∀ (i : Nat) (l : List Nat), (wl i l).length = l.length
  | _, [] => rfl
  | i, c :: l => by rw [wl, List.length_cons, List.length_cons, wl_len (i + 1) l]
theorem wl_snoc : ∀ (i : Nat) (l : List Nat) (c : Nat), wl i (l ++ [c]) = wl i l ++ [((i : Int) + (l.length : Int) + 1) * (c : Int)]
  | i, [], c => by simp [wl]
  | i, b :: l, c => by
    rw [List.cons_append, wl, wl, wl_snoc (i + 1) l c, List.cons_append, List.length_cons]
    congr 4
    omega
section
variable {P : Program} {w : World} {K : PySem.W.Frag} {mg : Str → Option Value} {base : Heap} {f : Addr} {fd : FuncData} {uR : Tok}
theorem ok_checkP (F : Fun K "check" "check" scheck f fd) (m_MODULUS : mg "MODULUS" = some (.int 999983 uR)) (m_enumerate : mg "enumerate" = none) (m_ord : mg "ord" = none) (m_sum : mg "sum" = none) : FnOk P w K mg base CX0 1 f fd ["line"] spChk := by
  refine F.ok sccheck (fun vs H Q E h => ?_) (fun cdv A outer s H vs Q E hr h => ?_)
  · obtain ⟨z, rfl, _⟩ := h
    rfl
  obtain ⟨z, rfl, lz, q⟩ := h
  refine ⟨_, (pss_one (ps_ret (pe_op op_mod (pe_callB (cr_sum rfl) rfl m_sum PyProof.Rows.Boot.sum (pa_cons (pe_lc (own := [("place", 1), ("sign", 2)]) (g := gTup K 2 (gCons (gName 1) (gCons (gName 2) gNil))) (tt := tYes) (te := (tOp (rI CMul fun i j => .int (i * j)) (tVar 1) (tCB rOrd (tCons (tVar 2) tNil)))) rfl sccheck.nd (pi_enumSk rfl m_enumerate (pa_cons (pv 0) pa_nil)) (blkOk_by (N := slcheck) (sc := defScope scheck) (by decide +kernel)) (fun _ _ _ _ _ => (pg_tup rfl (pgs_cons (pg_name (i := 1) sccheck.nd rfl (.inl rfl)) (pgs_cons (pg_name (i := 2) sccheck.nd rfl (.inl rfl)) pgs_nil)))) (fun _ _ _ _ _ => pts_nil) (fun _ _ _ _ _ => (pe_op op_mul (pv 1) (pe_callB call_ord rfl m_ord PyProof.Rows.Boot.ord (pa_cons (pv 2) pa_nil))))) pa_nil)) (pe_glob (v := (.int 999983)) rfl m_MODULUS ⟨_, rfl⟩)))), ?_⟩
  refine ⟨_, rfl, z, rfl, fun D hD => ?_⟩
  refine lc_it (walk_enumSk (k := 1) (x := z)) (fun i H' => Same H H' ∧ H' D = some (.lst ((wl 0 (z.cps.toList.take i)).map V.int))) ?_ ?_ ?_ ?_
  · exact ⟨same_new hD, upd_same⟩
  · intro _ _ _ _
    trivial
  · rintro i x H1 H2 hi ⟨g, eD⟩ ⟨T, x1, y, rfl, hT, rfl, ex1, ey⟩
    cases ex1
    obtain ⟨c, ec, rfl⟩ := Option.map_eq_some_iff.mp ey
    have li : i < z.length := by
      have := hi
      rw [Array.length_toList] at this
      exact this
    refine ⟨T, _, rfl, SqT.of upd_same, rfl, _, _, rfl, _, _, rfl, rfl, rfl, ?_⟩
    unfold tYes
    dsimp only
    rw [if_pos rfl]
    refine ⟨_, rfl, _, rfl, ⟨#[c]⟩, rfl, rfl, _, _, rfl, rfl, .inl ⟨by omega, by omega⟩, ?_⟩
    have nT : D ≠ T := ne_of_none eD hT
    refine ⟨_, by rw [upd_ne nT]; exact eD, ?_, same_grow (g.trans (same_new hT)) hD, ?_⟩
    · rw [List.length_map, wl_len, List.length_take]
      exact Nat.lt_of_le_of_lt (Nat.min_le_left _ _) (Nat.lt_of_lt_of_le (Nat.lt_of_lt_of_le li lz) (by decide))
    · rw [upd_same, List.take_add_one, ec]
      show _ = some (HO.lst ((wl 0 (z.cps.toList.take i ++ [c])).map V.int))
      rw [wl_snoc, List.length_take, Array.length_toList, List.map_append]
      have e : min i z.cps.size = i := Nat.min_eq_left (Nat.le_of_lt li)
      rw [e]
      congr 5
      omega
  · rintro H' ⟨g, eD⟩
    rw [List.take_length] at eD
    refine ⟨D, _, rfl, SqL.of eD, _, _, rfl, rfl, (by show (0 : Int) < 999983; decide), ?_⟩
    rw [wl_sum]
    exact q H' g
end
end Wp
set_option Elab.async false
set_option linter.all false
set_option maxRecDepth 100000
set_option maxHeartbeats 4000000
namespace Wp
open PySem PySem.Spec PyProof.Rows L2
theorem kb_check {K : PySem.W.Frag} {f : Addr} {fd : FuncData} (F : Fun K "check" "check" scheck f fd) : KBn K fd ["line"] 0 ["line"] g1 g1 := by
  obtain ⟨oc, od, kV, doc, pm, an, cdv, ct, osl, rfl, lk, hcd⟩ := F.ex
  refine ⟨fun s us ws X l1 l2 => ?_, fun _ r => r⟩
  match us, ws, l1, l2 with
  | [], [u], _, _ => exact .of_eq rfl
theorem all_mk {l : PySem.W.OpenLaw} {w : World} {K : PySem.W.Frag} {h : Heap} {mg : Str → Option Value} {fa : Addr}
    {f_next : Addr} {oc_next kV_next dc_next pm_next cd_next ct_next : Value} {od_next an_next : Option Addr} {sl_next : Array (Option Value)}
    {f_draws : Addr} {oc_draws kV_draws dc_draws pm_draws cd_draws ct_draws : Value} {od_draws an_draws : Option Addr} {sl_draws : Array (Option Value)}
    {f_chk : Addr} {oc_chk kV_chk dc_chk pm_chk cd_chk ct_chk : Value} {od_chk an_chk : Option Addr} {sl_chk : Array (Option Value)}
    {f_line : Addr} {oc_line kV_line dc_line pm_line cd_line ct_line : Value} {od_line an_line : Option Addr} {sl_line : Array (Option Value)}
    {f_right : Addr} {oc_right kV_right dc_right pm_right cd_right ct_right : Value} {od_right an_right : Option Addr} {sl_right : Array (Option Value)}
    {f_check : Addr} {oc_check kV_check dc_check pm_check cd_check ct_check : Value} {od_check an_check : Option Addr} {sl_check : Array (Option Value)}
    {f_law : Addr} {oc_law kV_law dc_law pm_law cd_law ct_law : Value} {od_law an_law : Option Addr} {sl_law : Array (Option Value)}
    {u_MODULUS : Tok}
    (X : K.In h) (G : h.Ns mainGlobals mg) (hfa : mg "law" = some (.ref fa))
    (a_next : PySem.W.nsIn K mainGlobals "_law_next" = some (some (.ref f_next)))
    (l_next : K.lookup f_next = some ⟨oc_next, od_next, .func (PySem.W.fnOf "_law_next" "_law_next" (defArgs s_law_next) (defBody s_law_next) (defScope s_law_next) .none kV_next dc_next pm_next an_next cd_next ct_next), sl_next⟩)
    (c_next : PySem.W.codeIn K cd_next "_law_next" = true)
    (k_next : PySem.W.keepIn K (.ref f_next) = true)
    (a_draws : PySem.W.nsIn K mainGlobals "_law_draws" = some (some (.ref f_draws)))
    (l_draws : K.lookup f_draws = some ⟨oc_draws, od_draws, .func (PySem.W.fnOf "_law_draws" "_law_draws" (defArgs s_law_draws) (defBody s_law_draws) (defScope s_law_draws) .none kV_draws dc_draws pm_draws an_draws cd_draws ct_draws), sl_draws⟩)
    (c_draws : PySem.W.codeIn K cd_draws "_law_draws" = true)
    (k_draws : PySem.W.keepIn K (.ref f_draws) = true)
    (a_chk : PySem.W.nsIn K mainGlobals "_law_check" = some (some (.ref f_chk)))
    (l_chk : K.lookup f_chk = some ⟨oc_chk, od_chk, .func (PySem.W.fnOf "_law_check" "_law_check" (defArgs s_law_check) (defBody s_law_check) (defScope s_law_check) .none kV_chk dc_chk pm_chk an_chk cd_chk ct_chk), sl_chk⟩)
    (c_chk : PySem.W.codeIn K cd_chk "_law_check" = true)
    (k_chk : PySem.W.keepIn K (.ref f_chk) = true)
    (a_line : PySem.W.nsIn K mainGlobals "_law_line" = some (some (.ref f_line)))
    (l_line : K.lookup f_line = some ⟨oc_line, od_line, .func (PySem.W.fnOf "_law_line" "_law_line" (defArgs s_law_line) (defBody s_law_line) (defScope s_law_line) .none kV_line dc_line pm_line an_line cd_line ct_line), sl_line⟩)
    (c_line : PySem.W.codeIn K cd_line "_law_line" = true)
    (k_line : PySem.W.keepIn K (.ref f_line) = true)
    (a_right : PySem.W.nsIn K mainGlobals "_law_right" = some (some (.ref f_right)))
    (l_right : K.lookup f_right = some ⟨oc_right, od_right, .func (PySem.W.fnOf "_law_right" "_law_right" (defArgs s_law_right) (defBody s_law_right) (defScope s_law_right) .none kV_right dc_right pm_right an_right cd_right ct_right), sl_right⟩)
    (c_right : PySem.W.codeIn K cd_right "_law_right" = true)
    (k_right : PySem.W.keepIn K (.ref f_right) = true)
    (a_check : PySem.W.nsIn K mainGlobals "check" = some (some (.ref f_check)))
    (l_check : K.lookup f_check = some ⟨oc_check, od_check, .func (PySem.W.fnOf "check" "check" (defArgs scheck) (defBody scheck) (defScope scheck) .none kV_check dc_check pm_check an_check cd_check ct_check), sl_check⟩)
    (c_check : PySem.W.codeIn K cd_check "check" = true)
    (k_check : PySem.W.keepIn K (.ref f_check) = true)
    (a_law : PySem.W.nsIn K mainGlobals "law" = some (some (.ref f_law)))
    (l_law : K.lookup f_law = some ⟨oc_law, od_law, .func (PySem.W.fnOf "law" "law" (defArgs slaw) (defBody slaw) (defScope slaw) .none kV_law dc_law pm_law an_law cd_law ct_law), sl_law⟩)
    (c_law : PySem.W.codeIn K cd_law "law" = true)
    (k_law : PySem.W.keepIn K (.ref f_law) = true)
    (z_enumerate : PySem.W.nsIn K mainGlobals "enumerate" = some none)
    (z_ord : PySem.W.nsIn K mainGlobals "ord" = some none)
    (z_range : PySem.W.nsIn K mainGlobals "range" = some none)
    (z_len : PySem.W.nsIn K mainGlobals "len" = some none)
    (z_isinstance : PySem.W.nsIn K mainGlobals "isinstance" = some none)
    (z_bool : PySem.W.nsIn K mainGlobals "bool" = some none)
    (z_sum : PySem.W.nsIn K mainGlobals "sum" = some none)
    (a_MODULUS : PySem.W.nsIn K mainGlobals "MODULUS" = some (some (.int 999983 u_MODULUS)))
    :
    ∃ fd : FuncData, (∀ (s : Shared) (v : Value), BindsTo s fd ⟨[v], []⟩ [("_law_script", v)]) ∧ ∀ base : Heap, K.In base → base.Ns mainGlobals mg → FnOk l.prog w K mg base CX0 4 fa fd ["_law_script"] (spLaw K) := by
  have e := hfa.symm.trans (PySem.W.mg_of X G a_law)
  cases e
  have F_next := fun_mk (st := s_law_next) l_next c_next k_next
  have m_next := PySem.W.mg_of X G a_next
  have b_next := F_next.binds (ps := ["_law_draws_here"]) fun _ _ _ _ _ _ us hl => match us, hl with | [_], _ => rfl
  have F_draws := fun_mk (st := s_law_draws) l_draws c_draws k_draws
  have m_draws := PySem.W.mg_of X G a_draws
  have b_draws := F_draws.binds (ps := ["_law_cell"]) fun _ _ _ _ _ _ us hl => match us, hl with | [_], _ => rfl
  have F_chk := fun_mk (st := s_law_check) l_chk c_chk k_chk
  have m_chk := PySem.W.mg_of X G a_chk
  have b_chk := F_chk.binds (ps := ["_law_a_text"]) fun _ _ _ _ _ _ us hl => match us, hl with | [_], _ => rfl
  have F_line := fun_mk (st := s_law_line) l_line c_line k_line
  have m_line := PySem.W.mg_of X G a_line
  have b_line := F_line.binds (ps := ["_law_draws_here"]) fun _ _ _ _ _ _ us hl => match us, hl with | [_], _ => rfl
  have F_right := fun_mk (st := s_law_right) l_right c_right k_right
  have m_right := PySem.W.mg_of X G a_right
  have b_right := F_right.binds (ps := ["_law_draws_here"]) fun _ _ _ _ _ _ us hl => match us, hl with | [_], _ => rfl
  have F_check := fun_mk (st := scheck) l_check c_check k_check
  have m_check := PySem.W.mg_of X G a_check
  have b_check := F_check.binds (ps := ["line"]) fun _ _ _ _ _ _ us hl => match us, hl with | [_], _ => rfl
  have F_law := fun_mk (st := slaw) l_law c_law k_law
  have m_law := PySem.W.mg_of X G a_law
  have b_law := F_law.binds (ps := ["_law_script"]) fun _ _ _ _ _ _ us hl => match us, hl with | [_], _ => rfl
  have n_enumerate := PySem.W.mg_none_of X G z_enumerate
  have n_ord := PySem.W.mg_none_of X G z_ord
  have n_range := PySem.W.mg_none_of X G z_range
  have n_len := PySem.W.mg_none_of X G z_len
  have n_isinstance := PySem.W.mg_none_of X G z_isinstance
  have n_bool := PySem.W.mg_none_of X G z_bool
  have n_sum := PySem.W.mg_none_of X G z_sum
  have m_MODULUS := PySem.W.mg_of X G a_MODULUS
  refine ⟨PySem.W.fnOf "law" "law" (defArgs slaw) (defBody slaw) (defScope slaw) .none kV_law dc_law pm_law an_law cd_law ct_law, fun s v => .of_eq rfl, fun base _ _ => ?_⟩
  have H_next : Has l.prog w K mg base "_law_next" ["_law_draws_here"] 1 spNext := ⟨_, _, ok_next F_next, m_next, k_next, b_next⟩
  have H_draws : Has l.prog w K mg base "_law_draws" ["_law_cell"] 1 spDraws := ⟨_, _, ok_draws F_draws, m_draws, k_draws, b_draws⟩
  have H_chk : Has l.prog w K mg base "_law_check" ["_law_a_text"] 1 spChk := ⟨_, _, ok_check F_chk n_enumerate n_ord, m_chk, k_chk, b_chk⟩
  have H_line : Has l.prog w K mg base "_law_line" ["_law_draws_here"] 2 spLine := ⟨_, _, ok_line F_line H_next n_range n_len, m_line, k_line, b_line⟩
  have O_check : FnOk l.prog w K mg base CX0 1 _ _ ["line"] spChk := ok_checkP F_check m_MODULUS n_enumerate n_ord n_sum
  have H_check : Has l.prog w K mg base "check" ["line"] 1 spChk := ⟨_, _, O_check, m_check, k_check, b_check⟩
  have H_right : Has l.prog w K mg base "_law_right" ["_law_draws_here"] 3 spRight := ⟨_, _, ok_right F_right H_next H_line H_chk H_check ⟨_, _, _, O_check, m_check, k_check, kb_check F_check⟩ n_isinstance n_bool n_len, m_right, k_right, b_right⟩
  exact ok_law F_law H_draws H_right H_check
theorem walk {l : PySem.W.OpenLaw} {q : Program} {loose : List Str} {XP : (Str → Option Value) → Heap → Prop} {YP : World → Heap → Prop} {d : DefRec} {K : Params → PySem.W.Frag} (hn : l.most = some 63) (hdf : d.params.defaults = [])
    (hY : ∀ (w : World) (h : Heap), YP w h → (K w.params).In h)
    (F : ∀ (w : World) (mg : Str → Option Value) (fa : Addr) (h : Heap), (K w.params).In h → h.Ns mainGlobals mg → mg d.name = some (.ref fa) →
      ∃ fd : FuncData, (∀ (s : Shared) (u : Value), BindsTo s fd ⟨[u], []⟩ [("_law_script", u)]) ∧ ∀ base : Heap, (K w.params).In base → base.Ns mainGlobals mg → FnOk l.prog w (K w.params) mg base CX0 4 fa fd ["_law_script"] (spLaw (K w.params))) :
    PySem.W.WalkO q loose XP YP l.row.toRowW d [] (fun f vs => PySem.call f vs) :=
  L2.walk_of (n := 63) (k := 4) (x := "_law_script") (CX := fun _ => CX0) (sp := fun w => spLaw (K w.params)) hn (by decide) hdf ⟨rfl, by decide, by decide⟩ hY F (fun _ _ a ns hl _ hS => ⟨a, ns, rfl, hS, hl, fun _ => rfl⟩) fun _ _ _ _ _ z => z
end Wp
set_option Elab.async false
open PySem PySem.W PyProof.Rows
set_option maxRecDepth 100000 in
set_option maxHeartbeats 0 in
theorem PySem.Challenge.cw_windpoints_k53_checks_holds : PySem.Challenge.rw_windpoints_k53_checks.Holds := by
  w_on; o_law; k_head; (case hw => w_witness2)
  k_fill
  refine Wp.walk (l := PySem.Challenge.rw_windpoints_k53_checks) rfl rfl (fun w h Y => PySem.W.kIn_of Y) ?F
  case F =>
    intro w mg fa h KX G hmg
    refine' Wp.all_mk KX G hmg ?wq_a_next ?wq_l_next ?wq_c_next ?wq_k_next ?wq_a_draws ?wq_l_draws ?wq_c_draws ?wq_k_draws ?wq_a_chk ?wq_l_chk ?wq_c_chk ?wq_k_chk ?wq_a_line ?wq_l_line ?wq_c_line ?wq_k_line ?wq_a_right ?wq_l_right ?wq_c_right ?wq_k_right ?wq_a_check ?wq_l_check ?wq_c_check ?wq_k_check ?wq_a_law ?wq_l_law ?wq_c_law ?wq_k_law ?wq_z_enumerate ?wq_z_ord ?wq_z_range ?wq_z_len ?wq_z_isinstance ?wq_z_bool ?wq_z_sum ?wq_a_MODULUS
    (case wq_a_next => k_is)
    (case wq_l_next => k_is)
    (case wq_c_next => k_is)
    (case wq_k_next => k_is)
    (case wq_a_draws => k_is)
    (case wq_l_draws => k_is)
    (case wq_c_draws => k_is)
    (case wq_k_draws => k_is)
    (case wq_a_chk => k_is)
    (case wq_l_chk => k_is)
    (case wq_c_chk => k_is)
    (case wq_k_chk => k_is)
    (case wq_a_line => k_is)
    (case wq_l_line => k_is)
    (case wq_c_line => k_is)
    (case wq_k_line => k_is)
    (case wq_a_right => k_is)
    (case wq_l_right => k_is)
    (case wq_c_right => k_is)
    (case wq_k_right => k_is)
    (case wq_a_check => k_is)
    (case wq_l_check => k_is)
    (case wq_c_check => k_is)
    (case wq_k_check => k_is)
    (case wq_a_law => k_is)
    (case wq_l_law => k_is)
    (case wq_c_law => k_is)
    (case wq_k_law => k_is)
    (case wq_z_enumerate => k_is)
    (case wq_z_ord => k_is)
    (case wq_z_range => k_is)
    (case wq_z_len => k_is)
    (case wq_z_isinstance => k_is)
    (case wq_z_bool => k_is)
    (case wq_z_sum => k_is)
    (case wq_a_MODULUS => k_is)
