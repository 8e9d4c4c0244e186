import PyProof.Rows.All
import Wide.All
import OpenK.AllK
import Wide.FinOn
import HandS.ForMost
import HandS.Wide
import HandS.IsInst
import PySem.Challenge.RW_windpoints_k01_places_of_terms
import HandS.Walk
import HandS.More
import HandS.Zip
import HandS.TupAny
import HandS.Conv
import HandS.Dict
import PyProof.DictUpdate
import PyProof.P3Eq
import HandS.Style
import HandS.ForExc
import HandS.ExcInit
import HandS.ExcField
import HandS.ExcIs
import KE.KExcInit
import KE.KTryMore
import PyProof.ExcBaseAll.LookupError
import KE.KExcIs
import KE.KIsAll
import HandS.Defaults
import HandS.MakeKwOnly
set_option Elab.async false
set_option linter.all false
set_option maxRecDepth 100000
namespace Wp
open PySem L2

/-! ### heaps that stay but for the draws -/
def Gx (a : Addr) (H H' : Hp) : Prop := ∀ b o, b ≠ a → H b = some o → H' b = some o
theorem Gx.refl (a : Addr) (H : Hp) : Gx a H H := fun _ _ _ h => h
theorem Gx.trans {a : Addr} {H H1 H2 : Hp} (x : Gx a H H1) (y : Gx a H1 H2) : Gx a H H2 := fun b o n h => y b o n (x b o n h)
theorem Gx.new {a p : Addr} {H : Hp} {o : HO} (h : H p = none) : Gx a H (upd H p o) := fun b u _ e => by
  rw [upd_ne (ne_of_none e h)]
  exact e
theorem Gx.grow {a p : Addr} {H H' : Hp} {o : HO} (g : Gx a H H') (h : H p = none) : Gx a H (upd H' p o) := fun b u n e => by
  rw [upd_ne (ne_of_none e h)]
  exact g b u n e
/-- the draws at a, at most n of them taken -/
def Dr (H : Hp) (a : Addr) (n : Nat) : Prop := ∃ (x c : Int) (b : Bool), H a = some (.lst [.int x, .int c, .bl b]) ∧ 0 ≤ x ∧ 0 ≤ c ∧ c ≤ (n : Int)
theorem Dr.mono {H : Hp} {a : Addr} {n m : Nat} (d : Dr H a n) (h : n ≤ m) : Dr H a m := by
  obtain ⟨x, c, b, e, h0, h1, h2⟩ := d
  exact ⟨x, c, b, e, h0, h1, by omega⟩
theorem Dr.ne {H : Hp} {a p : Addr} {n : Nat} (d : Dr H a n) (h : H p = none) : p ≠ a := by
  obtain ⟨x, c, b, e, _⟩ := d
  exact fun z => by rw [z, e] at h; cases h
theorem Dr.upd {H : Hp} {a p : Addr} {n : Nat} {o : HO} (d : Dr H a n) (h : p ≠ a) : Dr (upd H p o) a n := by
  obtain ⟨x, c, b, e, q⟩ := d
  exact ⟨x, c, b, by rw [upd_ne (Ne.symm h)]; exact e, q⟩
def big : Nat := 1000000000000

/-! ### types: what is known of a value, whatever the draws do -/
structure Ty (a : Addr) where
  p : V → Hp → Prop
  st : ∀ v H H', Gx a H H' → p v H → p v H'
def tyI (a : Addr) (f : Int → Prop) : Ty a := ⟨fun v _ => ∃ i, v = .int i ∧ f i, fun _ _ _ _ h => h⟩
def tyB (a : Addr) : Ty a := ⟨fun v _ => ∃ b, v = .bl b, fun _ _ _ _ h => h⟩
def tyS (a : Addr) (f : Str → Prop) : Ty a := ⟨fun v _ => ∃ z, v = .str z ∧ f z, fun _ _ _ _ h => h⟩
def tyIs (a : Addr) (x : V) : Ty a := ⟨fun v _ => v = x, fun _ _ _ _ h => h⟩
/-- a list of so many things of a type -/
def tyL (a : Addr) (k : Nat) (R : Ty a) : Ty a := ⟨fun v H => ∃ p xs, v = .ref p ∧ p ≠ a ∧ H p = some (.lst xs) ∧ xs.length = k ∧ ∀ x ∈ xs, R.p x H,
  fun v H H' g h => by
    obtain ⟨p, xs, e, n, q, l, t⟩ := h
    exact ⟨p, xs, e, n, g p _ n q, l, fun x hx => R.st x H H' g (t x hx)⟩⟩
/-- a tuple of so many things of a type -/
def tyU (a : Addr) (f : Nat → Prop) (R : Ty a) : Ty a := ⟨fun v H => ∃ p xs, v = .ref p ∧ p ≠ a ∧ H p = some (.tup xs) ∧ f xs.length ∧ ∀ x ∈ xs, R.p x H,
  fun v H H' g h => by
    obtain ⟨p, xs, e, n, q, l, t⟩ := h
    exact ⟨p, xs, e, n, g p _ n q, l, fun x hx => R.st x H H' g (t x hx)⟩⟩
/-- things of types, one by one -/
inductive TAll (a : Addr) (H : Hp) : List (Ty a) → List V → Prop
  | nil : TAll a H [] []
  | cons {P : Ty a} {Ps : List (Ty a)} {v : V} {vs : List V} : P.p v H → TAll a H Ps vs → TAll a H (P :: Ps) (v :: vs)
theorem TAll.st {a : Addr} {H H' : Hp} {Ps : List (Ty a)} {vs : List V} (h : TAll a H Ps vs) (g : Gx a H H') : TAll a H' Ps vs := by
  induction h with
  | nil => exact .nil
  | cons p _ ih => exact .cons (Ty.st _ _ _ _ g p) ih
theorem TAll.len {a : Addr} {H : Hp} {Ps : List (Ty a)} {vs : List V} (h : TAll a H Ps vs) : vs.length = Ps.length := by
  induction h with
  | nil => rfl
  | cons _ _ ih => rw [List.length_cons, List.length_cons, ih]
theorem TAll.rep {a : Addr} {H : Hp} {R : Ty a} : ∀ {k : Nat} {vs : List V}, TAll a H (List.replicate k R) vs → ∀ x ∈ vs, R.p x H
  | 0, _, h, x, hx => by
    cases h
    cases hx
  | k + 1, _, h, x, hx => by
    cases h with
    | cons p r =>
      rcases List.mem_cons.mp hx with e | e
      · rw [e]; exact p
      · exact TAll.rep r x e
/-- the slots and their types -/
structure Cty (a : Addr) (G : List (Option (Ty a))) (σ : L2.St) (H : Hp) : Prop where
  len : σ.length = G.length
  at_ : ∀ (i : Nat) (P : Ty a), G[i]? = some (some P) → ∃ v, σ[i]? = some (some v) ∧ P.p v H
theorem Cty.st {a : Addr} {G : List (Option (Ty a))} {σ : L2.St} {H H' : Hp} (c : Cty a G σ H) (g : Gx a H H') : Cty a G σ H' := ⟨c.len, fun i P h => by
  obtain ⟨v, e, p⟩ := c.at_ i P h
  exact ⟨v, e, P.st v H H' g p⟩⟩
theorem Cty.set {a : Addr} {G : List (Option (Ty a))} {σ : L2.St} {H : Hp} {i : Nat} {P : Ty a} {v : V} (c : Cty a G σ H) (h : P.p v H) : Cty a (G.set i (some P)) (σ.set i (some v)) H := ⟨by rw [List.length_set, List.length_set, c.len], fun j R e => by
  by_cases hij : i = j
  · subst hij
    by_cases hl : i < G.length
    · rw [List.getElem?_set_self hl] at e
      cases e
      exact ⟨v, List.getElem?_set_self (by rw [c.len]; exact hl), h⟩
    · rw [List.getElem?_eq_none_iff.mpr (by rw [List.length_set]; omega)] at e
      cases e
  · rw [List.getElem?_set_ne hij] at e
    obtain ⟨u, q, p⟩ := c.at_ j R e
    exact ⟨u, by rw [List.getElem?_set_ne hij]; exact q, p⟩⟩
theorem Cty.wipe {a : Addr} {G : List (Option (Ty a))} {σ : L2.St} {H : Hp} (c : Cty a G σ H) : ∀ (vs : List Nat), (∀ j ∈ vs, ∀ P, G[j]? ≠ some (some P)) → Cty a G (wipe σ vs) H
  | [], _ => c
  | j :: vs, h => by
    have ih := c.wipe vs fun k hk => h k (List.mem_cons_of_mem _ hk)
    refine ⟨by rw [wipe_length]; exact c.len, fun i P e => ?_⟩
    obtain ⟨v, q, p⟩ := ih.at_ i P e
    have hij : j ≠ i := fun z => h j List.mem_cons_self P (by rw [z]; exact e)
    exact ⟨v, by unfold L2.wipe; rw [List.getElem?_set_ne hij]; exact q, p⟩
theorem ctx_start {a : Addr} {H : Hp} {N : List Str} {Ps : List (Ty a)} {vs : List V} (h : TAll a H Ps vs) (hl : Ps.length ≤ N.length) : Cty a (Ps.map some ++ List.replicate (N.length - Ps.length) none) (L2.start N vs) H := by
  have e := h.len
  refine ⟨?_, fun i P q => ?_⟩
  · unfold L2.start
    rw [List.length_append, List.length_append, List.length_map, List.length_map, List.length_replicate, List.length_replicate, e]
  · have hi : i < Ps.length := by
      by_cases hi : i < Ps.length
      · exact hi
      · rw [List.getElem?_append_right (by rw [List.length_map]; omega), List.getElem?_replicate] at q
        split at q <;> cases q
    rw [List.getElem?_append_left (by rw [List.length_map]; exact hi), List.getElem?_map] at q
    have key : ∀ {Ps : List (Ty a)} {vs : List V}, TAll a H Ps vs → ∀ (i : Nat) (P : Ty a), (Ps[i]?).map some = some (some P) → ∃ v, vs[i]? = some v ∧ P.p v H := by
      intro Ps vs h
      induction h with
      | nil => intro i P q; simp at q
      | cons p _ ih =>
        intro i P q
        cases i with
        | zero =>
          simp at q
          subst q
          exact ⟨_, rfl, p⟩
        | succ i => exact ih i P (by simpa using q)
    obtain ⟨v, ev, p⟩ := key h i P q
    refine ⟨v, ?_, p⟩
    unfold L2.start
    rw [List.getElem?_append_left (by rw [List.length_map, e]; exact hi), List.getElem?_map, ev] <;> rfl

/-! ### judgements -/
section
variable {a : Addr} {G : List (Option (Ty a))}
/-- te takes at most m draws and comes to a P -/
def GE (a : Addr) (m : Nat) (G : List (Option (Ty a))) (te : TE) (P : Ty a) : Prop :=
  ∀ (n : Nat) (σ : L2.St) (H : Hp), n + m ≤ big → Cty a G σ H → Dr H a n → ∀ Q : VK, (∀ v H', Gx a H H' → Dr H' a (n + m) → P.p v H' → Q v H') → te σ H Q
def GT (a : Addr) (m : Nat) (G : List (Option (Ty a))) (tt : TT) : Prop :=
  ∀ (n : Nat) (σ : L2.St) (H : Hp), n + m ≤ big → Cty a G σ H → Dr H a n → ∀ Q : Bool → Hp → Prop, (∀ b H', Gx a H H' → Dr H' a (n + m) → Q b H') → tt σ H Q
def GA (a : Addr) (m : Nat) (G : List (Option (Ty a))) (ta : TA) (Ps : List (Ty a)) : Prop :=
  ∀ (n : Nat) (σ : L2.St) (H : Hp), n + m ≤ big → Cty a G σ H → Dr H a n → ∀ Q : List V → Hp → Prop, (∀ vs H', Gx a H H' → Dr H' a (n + m) → TAll a H' Ps vs → Q vs H') → ta σ H Q
/-- a statement: it returns an R, or goes on with the slots of G' (none: it never does) -/
def CtyO (a : Addr) : Option (List (Option (Ty a))) → L2.St → Hp → Prop
  | none, _, _ => False
  | some G, σ, H => Cty a G σ H
def GS (a : Addr) (m : Nat) (G : List (Option (Ty a))) (ts : TS) (G' : Option (List (Option (Ty a)))) (R : Ty a) : Prop :=
  ∀ (n : Nat) (σ : L2.St) (H : Hp) (D : Ends), n + m ≤ big → Cty a G σ H → Dr H a n → (∀ v H', Gx a H H' → Dr H' a (n + m) → R.p v H' → D.rt v H') → (∀ σ' H', Gx a H H' → Dr H' a (n + m) → CtyO a G' σ' H' → D.nx σ' H') → ts D σ H

theorem g_var {i : Nat} {P : Ty a} (h : G[i]? = some (some P)) : GE a 0 G (tVar i) P := fun n σ H _ c d Q q => by
  obtain ⟨v, e, p⟩ := c.at_ i P h
  exact ⟨v, e, q v H (Gx.refl a H) d p⟩
theorem g_c (v : V) : GE a 0 G (tC v) (tyIs a v) := fun n σ H _ c d Q q => q v H (Gx.refl a H) d rfl
theorem GE.sub {m : Nat} {te : TE} {P R : Ty a} (h : GE a m G te P) (w : ∀ v H, P.p v H → R.p v H) : GE a m G te R := fun n σ H hb c d Q q => h n σ H hb c d Q fun v H' g d' p => q v H' g d' (w v H' p)
theorem GE.up {m m' : Nat} {te : TE} {P : Ty a} (h : GE a m G te P) (w : m ≤ m') : GE a m' G te P := fun n σ H hb c d Q q => h n σ H (by omega) c d Q fun v H' g d' p => q v H' g (d'.mono (by omega)) p
theorem g_op {m1 m2 : Nat} {r : R2} {ta tb : TE} {P Q R : Ty a} (ha : GE a m1 G ta P) (hb : GE a m2 G tb Q) (hr : ∀ x y H, P.p x H → Q.p y H → ∀ n, Dr H a n → ∀ K : VK, (∀ v H', Gx a H H' → Dr H' a n → R.p v H' → K v H') → r x y H K) : GE a (m1 + m2) G (tOp r ta tb) R :=
  fun n σ H hn c d K q => ha n σ H (by omega) c d _ fun x H1 g1 d1 p1 => hb (n + m1) σ H1 (by omega) (c.st g1) d1 _ fun y H2 g2 d2 p2 =>
    hr x y H2 (P.st x H1 H2 g2 p1) p2 _ d2 K fun v H3 g3 d3 p3 => q v H3 ((g1.trans g2).trans g3) (d3.mono (by omega)) p3
/-- ints -/
theorem g_I0 {m1 m2 : Nat} {ta tb : TE} {f : Int → Int → Int} {p q r : Int → Prop} (ha : GE a m1 G ta (tyI a p)) (hb : GE a m2 G tb (tyI a q)) (hr : ∀ i j, p i → q j → r (f i j)) : GE a (m1 + m2) G (tOp (rI0 fun i j => .int (f i j)) ta tb) (tyI a r) :=
  g_op ha hb fun x y H hx hy n d K k => by
    obtain ⟨i, rfl, pi⟩ := hx
    obtain ⟨j, rfl, pj⟩ := hy
    exact ⟨i, j, rfl, rfl, k _ H (Gx.refl a H) d ⟨_, rfl, hr i j pi pj⟩⟩
theorem g_I {m1 m2 : Nat} {ta tb : TE} {C : Int → Int → Prop} {f : Int → Int → Int} {p q r : Int → Prop} (ha : GE a m1 G ta (tyI a p)) (hb : GE a m2 G tb (tyI a q)) (hc : ∀ i j, p i → q j → C i j) (hr : ∀ i j, p i → q j → r (f i j)) : GE a (m1 + m2) G (tOp (rI C fun i j => .int (f i j)) ta tb) (tyI a r) :=
  g_op ha hb fun x y H hx hy n d K k => by
    obtain ⟨i, rfl, pi⟩ := hx
    obtain ⟨j, rfl, pj⟩ := hy
    exact ⟨i, j, rfl, rfl, hc i j pi pj, k _ H (Gx.refl a H) d ⟨_, rfl, hr i j pi pj⟩⟩
theorem g_int (i : Int) : GE a 0 G (tC (.int i)) (tyI a fun j => j = i) := fun n σ H _ c d Q q => q _ H (Gx.refl a H) d ⟨i, rfl, rfl⟩
theorem g_str (z : Str) : GE a 0 G (tC (.str z)) (tyS a fun y => y = z) := fun n σ H _ c d Q q => q _ H (Gx.refl a H) d ⟨z, rfl, rfl⟩
/-- e % k, k written -/
theorem g_mod {m1 : Nat} {ta : TE} {k : Int} {p : Int → Prop} (ha : GE a m1 G ta (tyI a p)) (hk : 0 < k) : GE a (m1 + 0) G (tOp (rI (fun _ j => 0 < j) fun i j => .int (i % j)) ta (tC (.int k))) (tyI a fun i => 0 ≤ i ∧ i < k) :=
  g_I ha (g_int k) (fun i j _ e => by rw [e]; exact hk) fun i j _ e => by rw [e]; exact ⟨Int.emod_nonneg _ (by omega), Int.emod_lt_of_pos _ hk⟩
theorem g_div {m1 : Nat} {ta : TE} {k : Int} {p r : Int → Prop} (ha : GE a m1 G ta (tyI a p)) (hk : 0 < k ∧ k < 1073741824) (hr : ∀ i, p i → r (i / k)) : GE a (m1 + 0) G (tOp (rI CDiv fun i j => .int (i / j)) ta (tC (.int k))) (tyI a r) :=
  g_I ha (g_int k) (fun i j _ e => by rw [e]; exact hk) fun i j pi e => by rw [e]; exact hr i pi
/-- tests -/
theorem g_cmpI {m1 m2 : Nat} {ta tb : TE} {f : Int → Int → Bool} {p q : Int → Prop} (ha : GE a m1 G ta (tyI a p)) (hb : GE a m2 G tb (tyI a q)) : GT a (m1 + m2) G (tTest (tOp (rI0 fun i j => .bl (f i j)) ta tb)) :=
  fun n σ H hn c d K k => ha n σ H (by omega) c d _ fun x H1 g1 d1 p1 => hb (n + m1) σ H1 (by omega) (c.st g1) d1 _ fun y H2 g2 d2 p2 => by
    obtain ⟨i, rfl, pi⟩ := p1
    obtain ⟨j, rfl, pj⟩ := p2
    exact ⟨i, j, rfl, rfl, _, rfl, k _ H2 (g1.trans g2) (d2.mono (by omega))⟩
theorem g_eqI {m1 m2 : Nat} {ta tb : TE} {p q : Int → Prop} (ha : GE a m1 G ta (tyI a p)) (hb : GE a m2 G tb (tyI a q)) : GE a (m1 + m2) G (tOp rEq ta tb) (tyB a) :=
  g_op ha hb fun x y H hx hy n d K k => by
    obtain ⟨i, rfl, _⟩ := hx
    obtain ⟨j, rfl, _⟩ := hy
    exact ⟨rfl, k _ H (Gx.refl a H) d ⟨_, rfl⟩⟩
theorem g_test {m : Nat} {te : TE} (h : GE a m G te (tyB a)) : GT a m G (tTest te) := fun n σ H hn c d K k => h n σ H hn c d _ fun v H' g d' p => by
  obtain ⟨b, rfl⟩ := p
  exact ⟨b, rfl, k b H' g d'⟩
theorem g_andT {m1 m2 : Nat} {t u : TT} (h1 : GT a m1 G t) (h2 : GT a m2 G u) : GT a (m1 + m2) G (tAnd t u) := fun n σ H hn c d K k => h1 n σ H (by omega) c d _ fun b H1 g1 d1 => by
  cases b with
  | true =>
    show u σ H1 K
    exact h2 (n + m1) σ H1 (by omega) (c.st g1) d1 K fun b H2 g2 d2 => k b H2 (g1.trans g2) (d2.mono (by omega))
  | false =>
    show K false H1
    exact k false H1 g1 (d1.mono (by omega))
theorem g_andV {m1 m2 : Nat} {ta tb : TE} (h1 : GE a m1 G ta (tyB a)) (h2 : GE a m2 G tb (tyB a)) : GE a (m1 + m2) G (tAndV ta tb) (tyB a) := fun n σ H hn c d K k => h1 n σ H (by omega) c d _ fun v H1 g1 d1 p => by
  obtain ⟨b, rfl⟩ := p
  refine ⟨b, rfl, ?_⟩
  cases b with
  | true =>
    show tb σ H1 K
    exact h2 (n + m1) σ H1 (by omega) (c.st g1) d1 K fun b H2 g2 d2 p2 => k b H2 (g1.trans g2) (d2.mono (by omega)) p2
  | false =>
    show K (.bl false) H1
    exact k _ H1 g1 (d1.mono (by omega)) ⟨_, rfl⟩
/-- arguments -/
theorem ga_nil : GA a 0 G tNil [] := fun n σ H _ c d Q q => q [] H (Gx.refl a H) d .nil
theorem ga_cons {m1 m2 : Nat} {te : TE} {ta : TA} {P : Ty a} {Ps : List (Ty a)} (h : GE a m1 G te P) (hr : GA a m2 G ta Ps) : GA a (m1 + m2) G (tCons te ta) (P :: Ps) := fun n σ H hn c d Q q =>
  h n σ H (by omega) c d _ fun v H1 g1 d1 p => hr (n + m1) σ H1 (by omega) (c.st g1) d1 _ fun vs H2 g2 d2 ps => q (v :: vs) H2 (g1.trans g2) (d2.mono (by omega)) (.cons (P.st v H1 H2 g2 p) ps)
/-- (e, ..): R is what a new tuple of these is -/
theorem g_tup {m : Nat} {ta : TA} {Ps : List (Ty a)} {R : Ty a} (h : GA a m G ta Ps) (hR : ∀ vs H p, p ≠ a → H p = some (.tup vs) → TAll a H Ps vs → R.p (.ref p) H) (hl : Ps.length ≤ 1000 := by simp) : GE a m G (tTup ta) R := fun n σ H hn c d Q q =>
  h n σ H hn c d _ fun vs H1 g1 d1 ps => ⟨by rw [ps.len]; exact Nat.le_of_lt (small1000 hl), fun p hp => q _ _ (g1.trans (Gx.new hp)) (d1.upd (d1.ne hp)) (hR vs _ p (d1.ne hp) upd_same (ps.st (Gx.new hp)))⟩
theorem g_lst {m : Nat} {ta : TA} {k : Nat} {R : Ty a} (h : GA a m G ta (List.replicate k R)) (hl : k ≤ 1000) : GE a m G (tLst ta) (tyL a k R) := fun n σ H hn c d Q q =>
  h n σ H hn c d _ fun vs H1 g1 d1 ps => ⟨by rw [ps.len, List.length_replicate]; exact Nat.le_of_lt (small1000 hl), fun p hp => q _ _ (g1.trans (Gx.new hp)) (d1.upd (d1.ne hp)) ⟨p, vs, rfl, d1.ne hp, upd_same, by rw [ps.len, List.length_replicate], fun x hx => R.st x H1 _ (Gx.new hp) (ps.rep x hx)⟩⟩
/-- xs + ys of lists -/
theorem g_cat {m1 m2 k l : Nat} {ta tb : TE} {R : Ty a} (ha : GE a m1 G ta (tyL a k R)) (hb : GE a m2 G tb (tyL a l R)) (hl : k + l ≤ 1000) : GE a (m1 + m2) G (tOp rCat ta tb) (tyL a (k + l) R) :=
  g_op ha hb fun x y H hx hy n d K q => by
    obtain ⟨p, xs, rfl, np, hp, lp, tp⟩ := hx
    obtain ⟨s, ys, rfl, ns, hs, ls, ts⟩ := hy
    refine ⟨p, s, xs, ys, rfl, rfl, hp, hs, by rw [lp, ls]; exact Nat.le_of_lt (small1000 hl), fun t ht => q _ _ (Gx.new ht) (d.upd (d.ne ht)) ⟨t, xs ++ ys, rfl, d.ne ht, upd_same, by rw [List.length_append, lp, ls], fun x hx => R.st x H _ (Gx.new ht) ?_⟩⟩
    rcases List.mem_append.mp hx with z | z
    · exact tp x z
    · exact ts x z
theorem at_in {xs : List V} {i : Int} (h0 : 0 ≤ i) (h1 : i < (xs.length : Int)) : ∃ v, atI xs i = some v ∧ v ∈ xs := by
  have hi : i.toNat < xs.length := by omega
  refine ⟨xs[i.toNat], at_of (j := i.toNat) (by omega) (List.getElem?_eq_getElem hi), List.getElem_mem hi⟩
/-- xs[i] -/
theorem g_ixL {K : PySem.W.Frag} {m1 m2 k : Nat} {ta tb : TE} {R : Ty a} {p : Int → Prop} (ha : GE a m1 G ta (tyL a k R)) (hb : GE a m2 G tb (tyI a p)) (hp : ∀ i, p i → 0 ≤ i ∧ i < (k : Int)) : GE a (m1 + m2) G (tOp (rIxL K) ta tb) R :=
  g_op ha hb fun x y H hx hy n d Kk q => by
    obtain ⟨s, xs, rfl, np, hs, ls, ts⟩ := hx
    obtain ⟨i, rfl, pi⟩ := hy
    have hi := hp i pi
    obtain ⟨v, ev, mv⟩ := at_in (xs := xs) (i := i) hi.1 (by rw [ls]; exact hi.2)
    exact ⟨s, xs, i, v, rfl, rfl, SqL.of hs, ev, q v H (Gx.refl a H) d (ts v mv)⟩
/-- 'abc'[i] -/
theorem g_ixS {m2 : Nat} {tb : TE} {z : Str} {p : Int → Prop} {f : Str → Prop} (hb : GE a m2 G tb (tyI a p)) (hz : z.length ≤ 1000) (hp : ∀ i, p i → 0 ≤ i ∧ i < (z.cps.toList.length : Int)) (hf : ∀ c ∈ z.cps.toList, f ⟨#[c]⟩) : GE a (0 + m2) G (tOp rIxS (tC (.str z)) tb) (tyS a f) :=
  g_op (g_str z) hb fun x y H hx hy n d Kk q => by
    obtain ⟨z', hx1, hx2⟩ := hx
    rw [hx2] at hx1
    subst hx1
    obtain ⟨i, rfl, pi⟩ := hy
    have hi := hp i pi
    have hj : i.toNat < (z.cps.toList).length := by omega
    refine ⟨z, i, z.cps.toList[i.toNat], rfl, rfl, Nat.le_of_lt (small1000 hz), ?_, q _ H (Gx.refl a H) d ⟨_, rfl, hf _ (List.getElem_mem hj)⟩⟩
    have e : i = ((i.toNat : Nat) : Int) := by omega
    have h2 := atI_nat (List.getElem?_eq_getElem hj)
    rw [← e] at h2
    exact h2
/-- s + t of texts -/
theorem g_addS {m1 m2 : Nat} {ta tb : TE} {p q r : Str → Prop} (ha : GE a m1 G ta (tyS a p)) (hb : GE a m2 G tb (tyS a q)) (hl : ∀ i j, p i → q j → i.length + j.length ≤ 1000) (hr : ∀ i j, p i → q j → r (i ++ j)) : GE a (m1 + m2) G (tOp (fun x y H Q => ∃ i j, x = .str i ∧ y = .str j ∧ i.length + j.length ≤ sizeLine ∧ Q (.str (i ++ j)) H) ta tb) (tyS a r) :=
  g_op ha hb fun x y H hx hy n d K k => by
    obtain ⟨i, rfl, pi⟩ := hx
    obtain ⟨j, rfl, pj⟩ := hy
    exact ⟨i, j, rfl, rfl, Nat.le_of_lt (small1000 (hl i j pi pj)), k _ H (Gx.refl a H) d ⟨_, rfl, hr i j pi pj⟩⟩
/-- str(i) -/
theorem g_strI {m1 : Nat} {ta : TE} {p : Int → Prop} {r : Str → Prop} (ha : GE a m1 G ta (tyI a p)) (hb : ∀ i, p i → i.natAbs.log2 < 1920) (hr : ∀ i : Int, p i → r (toString i)) : GE a (m1 + 0) G (tCB (fun xs H Q => ∃ i : Int, xs = [.int i] ∧ i.natAbs.log2 < 1920 ∧ Q (.str (toString i)) H) (tCons ta tNil)) (tyS a r) := fun n σ H hn c d K k =>
  ha n σ H (by omega) c d _ fun v H1 g1 d1 p1 => by
    obtain ⟨i, rfl, pi⟩ := p1
    exact ⟨i, rfl, hb i pi, k _ H1 g1 d1 ⟨_, rfl, hr i pi⟩⟩
/-- int(b) -/
theorem g_intB {m1 : Nat} {ta : TE} (ha : GE a m1 G ta (tyB a)) : GE a (m1 + 0) G (tCB (fun xs H Q => (∃ i, xs = [V.int i] ∧ Q (.int i) H) ∨ ∃ k, xs = [V.bl k] ∧ Q (.int (if k then 1 else 0)) H) (tCons ta tNil)) (tyI a fun i => 0 ≤ i ∧ i < 2) := fun n σ H hn c d K k =>
  ha n σ H (by omega) c d _ fun v H1 g1 d1 p1 => by
    obtain ⟨b, rfl⟩ := p1
    refine .inr ⟨b, rfl, k _ H1 g1 d1 ⟨_, rfl, ?_⟩⟩
    cases b <;> decide
/-- tuple(xs) of a list -/
theorem g_tupOf {K : PySem.W.Frag} {m1 k : Nat} {ta : TE} {f : Nat → Prop} {R : Ty a} (ha : GE a m1 G ta (tyL a k R)) (hf : f k) : GE a (m1 + 0) G (tCB (fun xs H Q => ∃ p ys, xs = [V.ref p] ∧ ((SqL K H p ys ∧ ∀ l, H l = none → Q (.ref l) (upd H l (.tup ys))) ∨ (SqT K H p ys ∧ Q (.ref p) H))) (tCons ta tNil)) (tyU a f R) := fun n σ H hn c d Q q =>
  ha n σ H (by omega) c d _ fun v H1 g1 d1 p1 => by
    obtain ⟨s, xs, rfl, np, hs, ls, ts⟩ := p1
    exact ⟨s, xs, rfl, .inl ⟨SqL.of hs, fun l hl => q _ _ (g1.trans (Gx.new hl)) (d1.upd (d1.ne hl)) ⟨l, xs, rfl, d1.ne hl, upd_same, by rw [ls]; exact hf, fun x hx => R.st x H1 _ (Gx.new hl) (ts x hx)⟩⟩⟩
/-- the promise of a def that draws -/
def spG (m : Nat) (Ps : (a : Addr) → List (Ty a)) (R : (a : Addr) → Ty a) : Sp := fun vs H Q _ => ∃ (a : Addr) (n : Nat), n + m ≤ big ∧ Dr H a n ∧ TAll a H (Ps a) vs ∧ ∀ v H', Gx a H H' → Dr H' a (n + m) → (R a).p v H' → Q v H'
theorem g_call {m m1 : Nat} {Ps : (a : Addr) → List (Ty a)} {R : (a : Addr) → Ty a} {E : XK} {ta : TA} (h : GA a m1 G ta (Ps a)) : GE a (m1 + m) G (tCall (spG m Ps R) [] E ta) (R a) := fun n σ H hn c d Q q =>
  h n σ H (by omega) c d _ fun vs H1 g1 d1 ps => ⟨a, n + m1, by omega, d1, by rw [List.append_nil]; exact ps, fun v H2 g2 d2 p2 => q v H2 (g1.trans g2) (d2.mono (by omega)) p2⟩
/-- tuples stay, whatever else changes -/
def Tp (H H' : Hp) : Prop := ∀ b xs, H b = some (.tup xs) → H' b = some (.tup xs)
theorem Gx.tp {a : Addr} {H H' : Hp} {n : Nat} (d : Dr H a n) (g : Gx a H H') : Tp H H' := fun b xs h => g b _ (fun z => by
  obtain ⟨x, c, k, e, _⟩ := d
  rw [z, e] at h
  cases h) h
theorem wipe_one (σ : L2.St) (j : Nat) (x : V) : wipe ((wipe σ [j]).set j (some x)) [j] = wipe σ [j] := by
  show ((σ.set j none).set j (some x)).set j none = σ.set j none
  rw [List.set_set, List.set_set]
/-- a list of things of a type, by how many they may be -/
def tyLp (a : Addr) (p : Int → Prop) (R : Ty a) : Ty a := ⟨fun v H => ∃ k : Nat, p (k : Int) ∧ (tyL a k R).p v H, fun v H H' g ⟨k, pk, q⟩ => ⟨k, pk, (tyL a k R).st v H H' g q⟩⟩
/-- [e for x in range(k)] -/
theorem g_lcR {m1 m2 : Nat} {ta : TA} {te : TE} {j : Nat} {p : Int → Prop} {R : Ty a} {K : Nat} (h : GA a m1 G ta [tyI a p]) (hk : ∀ i, p i → 0 ≤ i ∧ i ≤ (K : Int)) (hK : K ≤ 1000) (hv : ∀ P, G[j]? ≠ some (some P)) (hT : ∀ v H H', Tp H H' → R.p v H → R.p v H') (he : GE a m2 G te R) :
    GE a (m1 + K * m2) G (tLc (iRng1 ta) (gName j) tYes te [j]) (tyLp a p R) := fun n σ H hn c d Q q =>
  h n σ H (by omega) c d _ fun ws H1 g1 d1 ps => by
    cases ps with
    | cons p1 r =>
      cases r
      obtain ⟨i, rfl, pi⟩ := p1
      have hi := hk i pi
      refine ⟨i, rfl, by omega, by omega, fun D hD => ?_⟩
      have nD : D ≠ a := d1.ne hD
      refine lc_range (lo := 0) (n := i.toNat) (fun t H' => Gx a H1 H' ∧ Dr H' a (n + m1 + t * m2) ∧ ∃ xs, H' D = some (.lst xs) ∧ xs.length = t ∧ ∀ x ∈ xs, R.p x H') ?_ ?_ ?_
      · exact ⟨Gx.new hD, (d1.upd nD).mono (by omega), [], upd_same, rfl, fun x hx => by cases hx⟩
      · rintro t H' ht ⟨g', d', xs, hxs, lxs, txs⟩
        have hm : (t + 1) * m2 ≤ K * m2 := Nat.mul_le_mul_right m2 (by omega)
        have hm' : (t + 1) * m2 = t * m2 + m2 := Nat.succ_mul t m2
        have cw : Cty a G ((wipe σ [j]).set j (some (.int ((0 : Int) + (t : Int))))) H' := by
          have c1 := (c.st (g1.trans g')).wipe [j] (fun i hi P => by rw [List.mem_singleton.mp hi]; exact hv P)
          refine ⟨by rw [List.length_set]; exact c1.len, fun i P e => ?_⟩
          obtain ⟨v, e1, p1⟩ := c1.at_ i P e
          have hij : j ≠ i := fun z => hv P (by rw [z]; exact e)
          exact ⟨v, by rw [List.getElem?_set_ne hij]; exact e1, p1⟩
        refine ⟨wipe_one σ j _, ?_⟩
        refine he (n + m1 + t * m2) ((wipe σ [j]).set j (some (.int ((0 : Int) + (t : Int))))) H' (by omega) cw d' _ fun v H2 g2 d2 p2 => ?_
        have hx2 : H2 D = some (.lst xs) := g2 D _ nD hxs
        have kt : Tp H2 (upd H2 D (.lst (xs ++ [v]))) := fun b ys hb => by
          rw [upd_ne (ne_of hb hx2 (by intro z; cases z))]
          exact hb
        refine ⟨xs, hx2, by rw [lxs]; exact small1000 (by omega), ?_, ?_, xs ++ [v], upd_same, by rw [List.length_append, lxs] <;> rfl, ?_⟩
        · exact (g'.trans g2).grow hD
        · exact (d2.upd nD).mono (by omega)
        · intro x hx
          rcases List.mem_append.mp hx with z | z
          · exact hT x _ _ kt (R.st x H' H2 g2 (txs x z))
          · rw [List.mem_singleton.mp z]
            exact hT v _ _ kt p2
      · rintro H' ⟨g', d', xs, hxs, lxs, txs⟩
        have hm : i.toNat * m2 ≤ K * m2 := Nat.mul_le_mul_right m2 (by omega)
        exact q _ H' (g1.trans g') (d'.mono (by omega)) ⟨i.toNat, by rw [show ((i.toNat : Nat) : Int) = i by omega]; exact pi, D, xs, rfl, nD, hxs, lxs, txs⟩
theorem g_tupOfp {K : PySem.W.Frag} {m1 : Nat} {ta : TE} {p : Int → Prop} {R : Ty a} (ha : GE a m1 G ta (tyLp a p R)) : GE a (m1 + 0) G (tCB (fun xs H Q => ∃ p ys, xs = [V.ref p] ∧ ((SqL K H p ys ∧ ∀ l, H l = none → Q (.ref l) (upd H l (.tup ys))) ∨ (SqT K H p ys ∧ Q (.ref p) H))) (tCons ta tNil)) (tyU a (fun k => p (k : Int)) R) := fun n σ H hn c d Q q =>
  ha n σ H (by omega) c d _ fun v H1 g1 d1 p1 => by
    obtain ⟨k, pk, s, xs, rfl, np, hs, ls, ts⟩ := p1
    exact ⟨s, xs, rfl, .inl ⟨SqL.of hs, fun l hl => q _ _ (g1.trans (Gx.new hl)) (d1.upd (d1.ne hl)) ⟨l, xs, rfl, d1.ne hl, upd_same, by rw [ls]; exact pk, fun x hx => R.st x H1 _ (Gx.new hl) (ts x hx)⟩⟩⟩
/-! ### statements -/
theorem gs_par {m i j : Nat} {ta : TA} {P Q R : Ty a} (h : GA a m G ta [P, Q]) : GS a m G (tPar i j ta) (some ((G.set i (some P)).set j (some Q))) R := fun n σ H D hn c d _ k => h n σ H hn c d _ fun vs H' g d' ps => by
  cases ps with
  | cons p r =>
    cases r with
    | cons q r =>
      cases r
      exact ⟨_, _, rfl, k _ H' g d' (((c.st g).set p).set q)⟩
/-- by what a slot may be -/
theorem gs_split {m i : Nat} {t : TS} {P P1 P2 R : Ty a} {G' : Option (List (Option (Ty a)))} (h : G[i]? = some (some P)) (w : ∀ v H, P.p v H → P1.p v H ∨ P2.p v H) (h1 : GS a m (G.set i (some P1)) t G' R) (h2 : GS a m (G.set i (some P2)) t G' R) : GS a m G t G' R := fun n σ H D hn c d k1 k2 => by
  obtain ⟨v, e, p⟩ := c.at_ i P h
  have e2 : σ.set i (some v) = σ := by
    obtain ⟨hi, e1⟩ := List.getElem?_eq_some_iff.mp e
    rw [← e1]
    exact List.set_getElem_self hi
  rcases w v H p with p1 | p2
  · have c1 := c.set (i := i) p1
    rw [e2] at c1
    exact h1 n σ H D hn c1 d k1 k2
  · have c1 := c.set (i := i) p2
    rw [e2] at c1
    exact h2 n σ H D hn c1 d k1 k2
theorem gs_ret {m : Nat} {te : TE} {R : Ty a} (h : GE a m G te R) : GS a m G (tRet te) none R := fun n σ H D hn c d k _ => h n σ H hn c d _ fun v H' g d' p => k v H' g d' p
theorem gs_set {m i : Nat} {te : TE} {P R : Ty a} (h : GE a m G te P) : GS a m G (tAsg te (gName i)) (some (G.set i (some P))) R := fun n σ H D hn c d _ k => h n σ H hn c d _ fun v H' g d' p => k _ H' g d' ((c.st g).set p)
theorem gs_next {R : Ty a} : GS a 0 G tNext (some G) R := fun n σ H D hn c d _ k => k σ H (Gx.refl a H) d c
theorem gs_seq {m1 m2 : Nat} {t u : TS} {G1 : List (Option (Ty a))} {G2 : Option (List (Option (Ty a)))} {R : Ty a} (h1 : GS a m1 G t (some G1) R) (h2 : GS a m2 G1 u G2 R) : GS a (m1 + m2) G (tSeq t u) G2 R := fun n σ H D hn c d k1 k2 =>
  h1 n σ H _ (by omega) c d (fun v H' g d' p => k1 v H' g (d'.mono (by omega)) p) fun σ' H' g d' c' => h2 (n + m1) σ' H' D (by omega) c' d' (fun v H2 g2 d2 p => k1 v H2 (g.trans g2) (d2.mono (by omega)) p) fun σ2 H2 g2 d2 c2 => k2 σ2 H2 (g.trans g2) (d2.mono (by omega)) c2
/-- if t: suite that returns; then the rest -/
theorem gs_ifr {m1 m2 m3 : Nat} {t : TT} {u r : TS} {G2 : Option (List (Option (Ty a)))} {R : Ty a} (h1 : GT a m1 G t) (h2 : GS a m2 G u none R) (h3 : GS a m3 G r G2 R) : GS a (m1 + (max m2 m3)) G (tSeq (tIfS t u tNext) r) G2 R := fun n σ H D hn c d k1 k2 =>
  h1 n σ H (by omega) c d _ fun b H1 g1 d1 => by
    cases b with
    | true =>
      show u { D with nx := r D } σ H1
      exact h2 (n + m1) σ H1 _ (by omega) (c.st g1) d1 (fun v H2 g2 d2 p => k1 v H2 (g1.trans g2) (d2.mono (by omega)) p) fun σ2 H2 g2 d2 c2 => c2.elim
    | false =>
      show r D σ H1
      exact h3 (n + m1) σ H1 D (by omega) (c.st g1) d1 (fun v H2 g2 d2 p => k1 v H2 (g1.trans g2) (d2.mono (by omega)) p) fun σ2 H2 g2 d2 c2 => k2 σ2 H2 (g1.trans g2) (d2.mono (by omega)) c2
/-- if t: x = e, in both ways the slots are of G1 -/
theorem gs_ifs {m1 m2 : Nat} {t : TT} {u : TS} {R : Ty a} (h1 : GT a m1 G t) (h2 : GS a m2 G u (some G) R) : GS a (m1 + m2) G (tIfS t u tNext) (some G) R := fun n σ H D hn c d k1 k2 =>
  h1 n σ H (by omega) c d _ fun b H1 g1 d1 => by
    cases b with
    | true =>
      show u D σ H1
      exact h2 (n + m1) σ H1 _ (by omega) (c.st g1) d1 (fun v H2 g2 d2 p => k1 v H2 (g1.trans g2) (d2.mono (by omega)) p) fun σ2 H2 g2 d2 c2 => k2 σ2 H2 (g1.trans g2) (d2.mono (by omega)) c2
    | false =>
      show D.nx σ H1
      exact k2 σ H1 g1 (d1.mono (by omega)) (c.st g1)
theorem GS.up {m m' : Nat} {t : TS} {G' : Option (List (Option (Ty a)))} {R : Ty a} (h : GS a m G t G' R) (w : m ≤ m') : GS a m' G t G' R := fun n σ H D hn c d k1 k2 => h n σ H D (by omega) c d (fun v H' g d' p => k1 v H' g (d'.mono (by omega)) p) fun σ' H' g d' c' => k2 σ' H' g (d'.mono (by omega)) c'
end
/-- a def that draws: from its body -/
theorem fun_G {P : Program} {w : World} {K : PySem.W.Frag} {mg : Str → Option Value} {base : Heap} {x qual : Str} {st : Stmt} {f : Addr} {fd : FuncData} {N ps : List Str} {k m : Nat} {Ps : (a : Addr) → List (Ty a)} {R : (a : Addr) → Ty a}
    (F : Fun K x qual st f fd) (S : FnScope N ps (defScope st)) (hl : ∀ a, (Ps a).length = ps.length) (hN : ps.length ≤ N.length)
    (hb : ∀ (cdv : Value) (A : Around) (outer : List Env) (s : Shared) (H : Hp) (E : XK), Room k (A.deeper (PyProof.Rows.envOfC qual (defScope st) s.heap.objs.size f cdv)) →
      ∃ t, PSs (cxOf CX0 P w K mg base N qual (defScope st) f cdv A outer s H E).nox (defBody st) t ∧ ∀ a, GS a m ((Ps a).map some ++ List.replicate (N.length - (Ps a).length) none) t none (R a)) :
    FnOk P w K mg base CX0 (k + 1) f fd ps (spG m Ps R) := by
  refine F.ok S (fun vs H Q E h => ?_) (fun cdv A outer s H vs Q E hr h => ?_)
  · obtain ⟨a, n, _, _, ps', _⟩ := h
    rw [ps'.len, hl a]
  · obtain ⟨a, n, hn, d, ps', q⟩ := h
    obtain ⟨t, ht, g⟩ := hb cdv A outer s H E hr
    exact ⟨t, ht, g a n _ H _ hn (ctx_start ps' (by rw [hl a]; exact hN)) d q fun σ' H' _ _ c => c.elim⟩
end Wp
set_option Elab.async false
set_option linter.all false
set_option maxRecDepth 100000
namespace Wp
open PySem L2

/-! ### data made of tuples: what stands at a value, the draws' place left out -/
mutual
inductive Dq (a : Addr) (H : Hp) : V → PyData → Prop
  | non : Dq a H .non .none
  | bl (b : Bool) : Dq a H (.bl b) (.bool b)
  | int (i : Int) : Dq a H (.int i) (.int i)
  | str (z : Str) : Dq a H (.str z) (.str z)
  | tup {p : Addr} {xs : List V} {ds : List PyData} : p ≠ a → H p = some (.tup xs) → DqL a H xs ds → Dq a H (.ref p) (.tuple ds)
inductive DqL (a : Addr) (H : Hp) : List V → List PyData → Prop
  | nil : DqL a H [] []
  | cons {v : V} {vs : List V} {d : PyData} {ds : List PyData} : Dq a H v d → DqL a H vs ds → DqL a H (v :: vs) (d :: ds)
end
mutual
theorem Dq.st {a : Addr} {H H' : Hp} (k : ∀ p xs, p ≠ a → H p = some (.tup xs) → H' p = some (.tup xs)) : ∀ {v : V} {d : PyData}, Dq a H v d → Dq a H' v d
  | _, _, .non => .non
  | _, _, .bl b => .bl b
  | _, _, .int i => .int i
  | _, _, .str z => .str z
  | _, _, .tup n h t => .tup n (k _ _ n h) (DqL.st k t)
theorem DqL.st {a : Addr} {H H' : Hp} (k : ∀ p xs, p ≠ a → H p = some (.tup xs) → H' p = some (.tup xs)) : ∀ {vs : List V} {ds : List PyData}, DqL a H vs ds → DqL a H' vs ds
  | _, _, .nil => .nil
  | _, _, .cons h t => .cons (Dq.st k h) (DqL.st k t)
end
theorem Dq.gx {a : Addr} {H H' : Hp} {v : V} {d : PyData} (h : Dq a H v d) (g : Gx a H H') : Dq a H' v d := h.st fun p xs n e => g p _ n e
theorem Dq.tp {a : Addr} {H H' : Hp} {v : V} {d : PyData} (h : Dq a H v d) (g : Tp H H') : Dq a H' v d := h.st fun p xs _ e => g p xs e
mutual
theorem Dq.dp {K : PySem.W.Frag} {a : Addr} {H : Hp} : ∀ {v : V} {d : PyData}, Dq a H v d → Dp K H v d
  | _, _, .non => .non
  | _, _, .bl b => .bl b
  | _, _, .int i => .int i
  | _, _, .str z => .str z
  | _, _, .tup _ h t => .tup (.inl (.inl h)) (DqL.dp t)
theorem DqL.dp {K : PySem.W.Frag} {a : Addr} {H : Hp} : ∀ {vs : List V} {ds : List PyData}, DqL a H vs ds → DpAll K H vs ds
  | _, _, .nil => .nil
  | _, _, .cons h t => .cons (Dq.dp h) (DqL.dp t)
end
theorem dql_all {a : Addr} {H : Hp} {f : PyData → Prop} : ∀ {xs : List V}, (∀ x ∈ xs, ∃ d, Dq a H x d ∧ f d) → ∃ ds, DqL a H xs ds ∧ ds.length = xs.length ∧ ∀ d ∈ ds, f d
  | [], _ => ⟨[], .nil, rfl, fun _ h => by cases h⟩
  | x :: xs, h => by
    obtain ⟨d, q, t⟩ := h x List.mem_cons_self
    obtain ⟨ds, qs, l, ts⟩ := dql_all (xs := xs) fun y hy => h y (List.mem_cons_of_mem _ hy)
    refine ⟨d :: ds, .cons q qs, by rw [List.length_cons, List.length_cons, l], fun e he => ?_⟩
    rcases List.mem_cons.mp he with z | z
    · rw [z]; exact t
    · exact ts e z

/-! ### terms, by their depth -/
def newNames : List Str := ["x0", "x1", "x2"]
def termNames : List Str := ["input", "loose", "b9", "x0", "x1", "x2", "fx0", "fx1", "fx2"]
def kindNames : List Str := ["any", "point", "part", "cell", "fun"]
def termTags : List Str := ["m", "n"]
def termTexts : List Str := ["a", "b", "c", "i", "o"]
def opMany (w : Str) : Option Nat :=
  if w ∈ (["plus", "minus", "times", "less", "same", "joined", "pair"] : List Str) then some 2 else if w ∈ (["first", "rest", "kind", "written"] : List Str) then some 1 else none
inductive Tm : Nat → PyData → Prop
  | num {n : Nat} (i : Int) : Tm n (.tuple [.str "num", .int i])
  | text {n : Nat} {z : Str} : z ∈ termTexts → Tm n (.tuple [.str "text", .str z])
  | yes {n : Nat} : Tm n (.tuple [.str "yes"])
  | no {n : Nat} : Tm n (.tuple [.str "no"])
  | none {n : Nat} : Tm n (.tuple [.str "none"])
  | name {n : Nat} {z : Str} : z ∈ termNames → Tm n (.tuple [.str "name", .str z])
  | func {n : Nat} {xs : List Str} {e : PyData} : (∀ x ∈ xs, x ∈ termNames) → xs.Nodup → xs.length ≤ 6 → Tm n e → Tm (n + 1) (.tuple [.str "fun", .tuple (xs.map .str), e])
  | recu {n : Nat} {f : Str} {xs : List Str} {e : PyData} : f ∈ termNames → (∀ x ∈ xs, x ∈ termNames) → (f :: xs).Nodup → xs.length ≤ 6 → Tm n e → Tm (n + 1) (.tuple [.str "rec", .str f, .tuple (xs.map .str), e])
  | call {n : Nat} {f : PyData} {ds : List PyData} : Tm n f → (∀ d ∈ ds, Tm n d) → ds.length ≤ 6 → Tm (n + 1) (.tuple [.str "call", f, .tuple ds])
  | lett {n : Nat} {z : Str} {d e : PyData} : z ∈ termNames → Tm n d → Tm n e → Tm (n + 1) (.tuple [.str "let", .str z, d, e])
  | iff {n : Nat} {c d e : PyData} : Tm n c → Tm n d → Tm n e → Tm (n + 1) (.tuple [.str "if", c, d, e])
  | doo {n : Nat} {ds : List PyData} : (∀ d ∈ ds, Tm n d) → 1 ≤ ds.length → ds.length ≤ 12 → Tm (n + 1) (.tuple [.str "do", .tuple ds])
  | op {n k : Nat} {w : Str} {ds : List PyData} : opMany w = some k → (∀ d ∈ ds, Tm n d) → ds.length = k → Tm (n + 1) (.tuple [.str "op", .str w, .tuple ds])
  | cell {n : Nat} {d : PyData} : Tm n d → Tm (n + 1) (.tuple [.str "cell", d])
  | get {n : Nat} {d : PyData} : Tm n d → Tm (n + 1) (.tuple [.str "get", d])
  | sett {n : Nat} {d e : PyData} : Tm n d → Tm n e → Tm (n + 1) (.tuple [.str "set", d, e])
  | say {n : Nat} {d : PyData} : Tm n d → Tm (n + 1) (.tuple [.str "say", d])
  | fault {n : Nat} {d : PyData} : Tm n d → Tm (n + 1) (.tuple [.str "fault", d])
  | guard {n : Nat} {z : Str} {d e : PyData} : Tm n d → z ∈ termNames → Tm n e → Tm (n + 1) (.tuple [.str "guard", d, .str z, e])
  | wind {n : Nat} {c d e : PyData} : Tm n c → Tm n d → Tm n e → Tm (n + 1) (.tuple [.str "wind", c, d, e])
  | catc {n : Nat} {z : Str} {d : PyData} : z ∈ termNames → Tm n d → Tm (n + 1) (.tuple [.str "catch", .str z, d])
  | go {n : Nat} {d e : PyData} : Tm n d → Tm n e → Tm (n + 1) (.tuple [.str "go", d, e])
  | mark {n : Nat} {z : Str} {d : PyData} : z ∈ termTags → Tm n d → Tm (n + 1) (.tuple [.str "mark", .str z, d])
  | take {n : Nat} {z y : Str} {d : PyData} : z ∈ termTags → y ∈ termNames → Tm n d → Tm (n + 1) (.tuple [.str "take", .str z, .str y, d])
  | use {n : Nat} {d e : PyData} : Tm n d → Tm n e → Tm (n + 1) (.tuple [.str "use", d, e])
theorem Tm.up {n : Nat} {d : PyData} (h : Tm n d) : Tm (n + 1) d := by
  induction h with
  | num i => exact .num i
  | text h => exact .text h
  | yes => exact .yes
  | no => exact .no
  | none => exact .none
  | name h => exact .name h
  | func h1 h2 h3 _ i1 => exact .func h1 h2 h3 i1
  | recu h0 h1 h2 h3 _ i1 => exact .recu h0 h1 h2 h3 i1
  | call _ _ h3 i1 i2 => exact .call i1 i2 h3
  | lett h _ _ i1 i2 => exact .lett h i1 i2
  | iff _ _ _ i1 i2 i3 => exact .iff i1 i2 i3
  | doo _ h1 h2 i1 => exact .doo i1 h1 h2
  | op h0 _ h1 i1 => exact .op h0 i1 h1
  | cell _ i1 => exact .cell i1
  | get _ i1 => exact .get i1
  | sett _ _ i1 i2 => exact .sett i1 i2
  | say _ i1 => exact .say i1
  | fault _ i1 => exact .fault i1
  | guard _ h _ i1 i2 => exact .guard i1 h i2
  | wind _ _ _ i1 i2 i3 => exact .wind i1 i2 i3
  | catc h _ i1 => exact .catc h i1
  | go _ _ i1 i2 => exact .go i1 i2
  | mark h _ i1 => exact .mark h i1
  | take h h1 _ i1 => exact .take h h1 i1
  | use _ _ i1 i2 => exact .use i1 i2
theorem Tm.le {n m : Nat} {d : PyData} (h : Tm n d) (l : n ≤ m) : Tm m d := by
  induction l with
  | refl => exact h
  | step _ ih => exact ih.up

/-! ### types of the drawn terms -/
def tyT (a : Addr) (n : Nat) : Ty a := ⟨fun v H => ∃ d, Dq a H v d ∧ Tm n d, fun v H H' g h => by
  obtain ⟨d, q, t⟩ := h
  exact ⟨d, q.gx g, t⟩⟩
theorem tyT_tp {a : Addr} {n : Nat} : ∀ v H H', Tp H H' → (tyT a n).p v H → (tyT a n).p v H' := fun v H H' g h => by
  obtain ⟨d, q, t⟩ := h
  exact ⟨d, q.tp g, t⟩
theorem tyT_le {a : Addr} {n m : Nat} (l : n ≤ m) : ∀ v H, (tyT a n).p v H → (tyT a m).p v H := fun v H h => by
  obtain ⟨d, q, t⟩ := h
  exact ⟨d, q, t.le l⟩
/-- a row of names: a name, its kind -/
def RowAt (a : Addr) (H : Hp) (r : V) : Prop := ∃ (q : Addr) (x k : Str), r = .ref q ∧ q ≠ a ∧ H q = some (.tup [.str x, .str k]) ∧ x ∈ termNames ∧ k ∈ kindNames
theorem RowAt.st {a : Addr} {H H' : Hp} {r : V} (h : RowAt a H r) (k : ∀ p xs, p ≠ a → H p = some (.tup xs) → H' p = some (.tup xs)) : RowAt a H' r := by
  obtain ⟨q, x, z, e, n, t, l⟩ := h
  exact ⟨q, x, z, e, n, k _ _ n t, l⟩
def tyNs (a : Addr) (L : Nat) : Ty a := ⟨fun v H => ∃ p rs, v = .ref p ∧ p ≠ a ∧ H p = some (.lst rs) ∧ rs.length ≤ L ∧ ∀ r ∈ rs, RowAt a H r, fun v H H' g h => by
  obtain ⟨p, rs, e, n, q, l, t⟩ := h
  exact ⟨p, rs, e, n, g p _ n q, l, fun r hr => (t r hr).st fun p xs n e => g p _ n e⟩⟩
theorem ns_dp {K : PySem.W.Frag} {a : Addr} {H : Hp} : ∀ {rs : List V}, (∀ r ∈ rs, RowAt a H r) → ∃ ds, DpAll K H rs ds ∧ PyData.canLayAll0 ds = true ∧ PyData.depthAll ds ≤ 1 ∧ ds.length = rs.length
  | [], _ => ⟨[], .nil, by simp [PyData.canLayAll0], by simp [PyData.depthAll], rfl⟩
  | r :: rs, h => by
    obtain ⟨ds, q, c, d, l⟩ := ns_dp (K := K) (rs := rs) fun y hy => h y (List.mem_cons_of_mem _ hy)
    obtain ⟨p, x, k, rfl, np, hp, hx, hk⟩ := h r List.mem_cons_self
    have sx : ∀ x ∈ termNames, PyData.strOk x = true := by decide +kernel
    have sk : ∀ x ∈ kindNames, PyData.strOk x = true := by decide +kernel
    refine ⟨.tuple [.str x, .str k] :: ds, .cons (.tup (.inl (.inl hp)) (.cons (.str _) (.cons (.str _) .nil))) q, ?_, ?_, by rw [List.length_cons, List.length_cons, l]⟩
    · simp [PyData.canLayAll0, PyData.canLay0, sx x hx, sk k hk, c]
    · simp only [PyData.depthAll, PyData.depth]
      omega
theorem shaped_list {ds : List PyData} (c : PyData.canLayAll0 ds = true) (d : PyData.depthAll ds ≤ 60) : SeqAt.shaped (.list ds) = true := by
  unfold SeqAt.shaped
  rw [Bool.and_eq_true]
  refine ⟨by simp only [PyData.canLay0]; exact c, decide_eq_true ?_⟩
  simp only [PyData.depth]
  omega
theorem all0 {a : Addr} {H : Hp} {vs : List V} (h : TAll a H [] vs) : vs = [] := by cases h; rfl
theorem all1 {a : Addr} {H : Hp} {P : Ty a} {vs : List V} (h : TAll a H [P] vs) : ∃ x, vs = [x] ∧ P.p x H := by
  cases h with
  | cons p r => cases r; exact ⟨_, rfl, p⟩
theorem all2 {a : Addr} {H : Hp} {P Q : Ty a} {vs : List V} (h : TAll a H [P, Q] vs) : ∃ x y, vs = [x, y] ∧ P.p x H ∧ Q.p y H := by
  cases h with
  | cons p r =>
    obtain ⟨y, rfl, q⟩ := all1 r
    exact ⟨_, _, rfl, p, q⟩
theorem all3 {a : Addr} {H : Hp} {P Q R : Ty a} {vs : List V} (h : TAll a H [P, Q, R] vs) : ∃ x y z, vs = [x, y, z] ∧ P.p x H ∧ Q.p y H ∧ R.p z H := by
  cases h with
  | cons p r =>
    obtain ⟨y, z, rfl, q⟩ := all2 r
    exact ⟨_, _, _, rfl, p, q⟩
theorem all4 {a : Addr} {H : Hp} {P Q R S : Ty a} {vs : List V} (h : TAll a H [P, Q, R, S] vs) : ∃ x y z w, vs = [x, y, z, w] ∧ P.p x H ∧ Q.p y H ∧ R.p z H ∧ S.p w H := by
  cases h with
  | cons p r =>
    obtain ⟨y, z, w, rfl, q⟩ := all3 r
    exact ⟨_, _, _, _, rfl, p, q⟩
/-- what a written text, a name, a tag is -/
abbrev tyW (a : Addr) (z : Str) : Ty a := tyS a fun y => y = z
abbrev tyNm (a : Addr) : Ty a := tyS a fun y => y ∈ termNames
abbrev tyNew (a : Addr) : Ty a := tyS a fun y => y ∈ newNames
theorem new_term {z : Str} (h : z ∈ newNames) : z ∈ termNames := by
  unfold newNames at h
  unfold termNames
  simp only [List.mem_cons, List.not_mem_nil, or_false] at h ⊢
  rcases h with h | h | h <;> simp [h]
section
variable {a : Addr} {n : Nat} {vs : List V} {H : Hp} {p : Addr}
theorem mk_num {f : Int → Prop} (np : p ≠ a) (hp : H p = some (.tup vs)) (h : TAll a H [tyW a "num", tyI a f] vs) : (tyT a n).p (.ref p) H := by
  obtain ⟨_, _, rfl, ⟨_, rfl, rfl⟩, ⟨i, rfl, _⟩⟩ := all2 h
  exact ⟨_, .tup np hp (.cons (.str _) (.cons (.int _) .nil)), .num i⟩
theorem mk_text (np : p ≠ a) (hp : H p = some (.tup vs)) (h : TAll a H [tyW a "text", tyS a fun z => z ∈ termTexts] vs) : (tyT a n).p (.ref p) H := by
  obtain ⟨_, _, rfl, ⟨_, rfl, rfl⟩, ⟨z, rfl, hz⟩⟩ := all2 h
  exact ⟨_, .tup np hp (.cons (.str _) (.cons (.str _) .nil)), .text hz⟩
theorem mk_yes (np : p ≠ a) (hp : H p = some (.tup vs)) (h : TAll a H [tyW a "yes"] vs) : (tyT a n).p (.ref p) H := by
  obtain ⟨_, rfl, ⟨_, rfl, rfl⟩⟩ := all1 h
  exact ⟨_, .tup np hp (.cons (.str _) .nil), .yes⟩
theorem mk_no (np : p ≠ a) (hp : H p = some (.tup vs)) (h : TAll a H [tyW a "no"] vs) : (tyT a n).p (.ref p) H := by
  obtain ⟨_, rfl, ⟨_, rfl, rfl⟩⟩ := all1 h
  exact ⟨_, .tup np hp (.cons (.str _) .nil), .no⟩
theorem mk_none (np : p ≠ a) (hp : H p = some (.tup vs)) (h : TAll a H [tyW a "none"] vs) : (tyT a n).p (.ref p) H := by
  obtain ⟨_, rfl, ⟨_, rfl, rfl⟩⟩ := all1 h
  exact ⟨_, .tup np hp (.cons (.str _) .nil), .none⟩
theorem mk_name {f : Str → Prop} (hf : ∀ z, f z → z ∈ termNames) (np : p ≠ a) (hp : H p = some (.tup vs)) (h : TAll a H [tyW a "name", tyS a f] vs) : (tyT a n).p (.ref p) H := by
  obtain ⟨_, _, rfl, ⟨_, rfl, rfl⟩, ⟨z, rfl, hz⟩⟩ := all2 h
  exact ⟨_, .tup np hp (.cons (.str _) (.cons (.str _) .nil)), .name (hf z hz)⟩
/-- one part behind the word -/
theorem mk_1 {w : Str} (hw : ∀ d, Tm n d → Tm (n + 1) (.tuple [.str w, d])) (np : p ≠ a) (hp : H p = some (.tup vs)) (h : TAll a H [tyW a w, tyT a n] vs) : (tyT a (n + 1)).p (.ref p) H := by
  obtain ⟨_, _, rfl, ⟨_, rfl, rfl⟩, ⟨d, q, t⟩⟩ := all2 h
  exact ⟨_, .tup np hp (.cons (.str _) (.cons q .nil)), hw d t⟩
theorem mk_2 {w : Str} (hw : ∀ d e, Tm n d → Tm n e → Tm (n + 1) (.tuple [.str w, d, e])) (np : p ≠ a) (hp : H p = some (.tup vs)) (h : TAll a H [tyW a w, tyT a n, tyT a n] vs) : (tyT a (n + 1)).p (.ref p) H := by
  obtain ⟨_, _, _, rfl, ⟨_, rfl, rfl⟩, ⟨d, q, t⟩, ⟨e, q2, t2⟩⟩ := all3 h
  exact ⟨_, .tup np hp (.cons (.str _) (.cons q (.cons q2 .nil))), hw d e t t2⟩
theorem mk_3 {w : Str} (hw : ∀ c d e, Tm n c → Tm n d → Tm n e → Tm (n + 1) (.tuple [.str w, c, d, e])) (np : p ≠ a) (hp : H p = some (.tup vs)) (h : TAll a H [tyW a w, tyT a n, tyT a n, tyT a n] vs) : (tyT a (n + 1)).p (.ref p) H := by
  obtain ⟨_, _, _, _, rfl, ⟨_, rfl, rfl⟩, ⟨c, q0, t0⟩, ⟨d, q, t⟩, ⟨e, q2, t2⟩⟩ := all4 h
  exact ⟨_, .tup np hp (.cons (.str _) (.cons q0 (.cons q (.cons q2 .nil)))), hw c d e t0 t t2⟩
/-- a text, then a part -/
theorem mk_s1 {w : Str} {f : Str → Prop} (hw : ∀ z d, f z → Tm n d → Tm (n + 1) (.tuple [.str w, .str z, d])) (np : p ≠ a) (hp : H p = some (.tup vs)) (h : TAll a H [tyW a w, tyS a f, tyT a n] vs) : (tyT a (n + 1)).p (.ref p) H := by
  obtain ⟨_, _, _, rfl, ⟨_, rfl, rfl⟩, ⟨z, rfl, hz⟩, ⟨d, q, t⟩⟩ := all3 h
  exact ⟨_, .tup np hp (.cons (.str _) (.cons (.str _) (.cons q .nil))), hw z d hz t⟩
theorem mk_ss1 {w : Str} {f g : Str → Prop} (hw : ∀ z y d, f z → g y → Tm n d → Tm (n + 1) (.tuple [.str w, .str z, .str y, d])) (np : p ≠ a) (hp : H p = some (.tup vs)) (h : TAll a H [tyW a w, tyS a f, tyS a g, tyT a n] vs) : (tyT a (n + 1)).p (.ref p) H := by
  obtain ⟨_, _, _, _, rfl, ⟨_, rfl, rfl⟩, ⟨z, rfl, hz⟩, ⟨y, rfl, hy⟩, ⟨d, q, t⟩⟩ := all4 h
  exact ⟨_, .tup np hp (.cons (.str _) (.cons (.str _) (.cons (.str _) (.cons q .nil)))), hw z y d hz hy t⟩
theorem mk_s2 {w : Str} {f : Str → Prop} (hw : ∀ z d e, f z → Tm n d → Tm n e → Tm (n + 1) (.tuple [.str w, .str z, d, e])) (np : p ≠ a) (hp : H p = some (.tup vs)) (h : TAll a H [tyW a w, tyS a f, tyT a n, tyT a n] vs) : (tyT a (n + 1)).p (.ref p) H := by
  obtain ⟨_, _, _, _, rfl, ⟨_, rfl, rfl⟩, ⟨z, rfl, hz⟩, ⟨d, q, t⟩, ⟨e, q2, t2⟩⟩ := all4 h
  exact ⟨_, .tup np hp (.cons (.str _) (.cons (.str _) (.cons q (.cons q2 .nil)))), hw z d e hz t t2⟩
theorem mk_1s1 {w : Str} {f : Str → Prop} (hw : ∀ z d e, f z → Tm n d → Tm n e → Tm (n + 1) (.tuple [.str w, d, .str z, e])) (np : p ≠ a) (hp : H p = some (.tup vs)) (h : TAll a H [tyW a w, tyT a n, tyS a f, tyT a n] vs) : (tyT a (n + 1)).p (.ref p) H := by
  obtain ⟨_, _, _, _, rfl, ⟨_, rfl, rfl⟩, ⟨d, q, t⟩, ⟨z, rfl, hz⟩, ⟨e, q2, t2⟩⟩ := all4 h
  exact ⟨_, .tup np hp (.cons (.str _) (.cons q (.cons (.str _) (.cons q2 .nil)))), hw z d e hz t t2⟩
/-- a tuple of parts -/
theorem tup_of {f : Nat → Prop} {v : V} (h : (tyU a f (tyT a n)).p v H) : ∃ ds, Dq a H v (.tuple ds) ∧ f ds.length ∧ ∀ d ∈ ds, Tm n d := by
  obtain ⟨q, xs, rfl, nq, hq, l, t⟩ := h
  obtain ⟨ds, qs, ld, ts⟩ := dql_all (f := Tm n) t
  exact ⟨ds, .tup nq hq qs, by rw [ld]; exact l, ts⟩
theorem mk_call {f : Nat → Prop} (hf : ∀ k, f k → k ≤ 6) (np : p ≠ a) (hp : H p = some (.tup vs)) (h : TAll a H [tyW a "call", tyT a n, tyU a f (tyT a n)] vs) : (tyT a (n + 1)).p (.ref p) H := by
  obtain ⟨_, _, _, rfl, ⟨_, rfl, rfl⟩, ⟨d, q, t⟩, hu⟩ := all3 h
  obtain ⟨ds, qu, l, ts⟩ := tup_of hu
  exact ⟨_, .tup np hp (.cons (.str _) (.cons q (.cons qu .nil))), .call t ts (hf _ l)⟩
theorem mk_do {f : Nat → Prop} (hf : ∀ k, f k → 1 ≤ k ∧ k ≤ 12) (np : p ≠ a) (hp : H p = some (.tup vs)) (h : TAll a H [tyW a "do", tyU a f (tyT a n)] vs) : (tyT a (n + 1)).p (.ref p) H := by
  obtain ⟨_, _, rfl, ⟨_, rfl, rfl⟩, hu⟩ := all2 h
  obtain ⟨ds, qu, l, ts⟩ := tup_of hu
  exact ⟨_, .tup np hp (.cons (.str _) (.cons qu .nil)), .doo ts (hf _ l).1 (hf _ l).2⟩
theorem mk_op {g : Str → Prop} {f : Nat → Prop} {k : Nat} (hg : ∀ z, g z → opMany z = some k) (hf : ∀ j, f j → j = k) (np : p ≠ a) (hp : H p = some (.tup vs)) (h : TAll a H [tyW a "op", tyS a g, tyU a f (tyT a n)] vs) : (tyT a (n + 1)).p (.ref p) H := by
  obtain ⟨_, _, _, rfl, ⟨_, rfl, rfl⟩, ⟨z, rfl, hz⟩, hu⟩ := all3 h
  obtain ⟨ds, qu, l, ts⟩ := tup_of hu
  exact ⟨_, .tup np hp (.cons (.str _) (.cons (.str _) (.cons qu .nil))), .op (hg z hz) ts (hf _ l)⟩
/-- a tuple of one, two parts made on the way -/
theorem mk_u1 {R : Ty a} (np : p ≠ a) (hp : H p = some (.tup vs)) (h : TAll a H [R] vs) : (tyU a (fun k => k = 1) R).p (.ref p) H := by
  obtain ⟨x, rfl, q⟩ := all1 h
  exact ⟨p, _, rfl, np, hp, rfl, fun y hy => by rw [List.mem_singleton.mp hy]; exact q⟩
theorem mk_u2 {R : Ty a} (np : p ≠ a) (hp : H p = some (.tup vs)) (h : TAll a H [R, R] vs) : (tyU a (fun k => k = 2) R).p (.ref p) H := by
  obtain ⟨x, y, rfl, q, r⟩ := all2 h
  refine ⟨p, _, rfl, np, hp, rfl, fun z hz => ?_⟩
  rcases List.mem_cons.mp hz with e | e
  · rw [e]; exact q
  · rw [List.mem_singleton.mp e]; exact r
theorem mk_u0 {R : Ty a} (np : p ≠ a) (hp : H p = some (.tup vs)) (h : TAll a H [] vs) : (tyU a (fun k => k = 0) R).p (.ref p) H := by
  cases all0 h
  exact ⟨p, _, rfl, np, hp, rfl, fun y hy => by cases hy⟩
end

/-! ### a def of the module, by its promise -/
def Has (P : Program) (w : World) (K : PySem.W.Frag) (mg : Str → Option Value) (base : Heap) (x : Str) (ps : List Str) (k : Nat) (sp : Sp) : Prop :=
  ∃ (f : Addr) (fd : FuncData), FnOk P w K mg base CX0 k f fd ps sp ∧ mg x = some (.ref f) ∧ PySem.W.keepIn K (.ref f) = true ∧ Binds K fd ps []
theorem pe_has {X : Cx} {x : Str} {ps : List Str} {k : Nat} {sp : Sp} {e : Expr} {es : List Expr} {t : TA} {p pos : Pos} (h : Has X.prog X.w X.K X.mg X.base x ps k sp) (hr : Room k X.A) (ha : PA X (e :: es) t) (hg : Gl X x := by rfl)
    (hdb : (x == ("__debug__" : Str)) = false := by decide) (he : starEach (e :: es) X.env = (false, eval e X.env) :: starEach es X.env := by rfl) (hpl : (backTo pos (starEach es X.env)).any (·.1) = false := by rfl) :
    PE X (.Call (.Name x p) (e :: es) [] pos) (tCall sp [] E0 t) := by
  obtain ⟨f, fd, F, m, kp, b⟩ := h
  exact pe_call F hr hg m kp b .nil pass0 ha hdb he hpl
end Wp
set_option Elab.async false
set_option linter.all false
set_option maxRecDepth 100000
namespace Wp
open PySem L2
section
variable {a : Addr} {G : List (Option (Ty a))}
/-- a test that tells of the slots -/
def GTr (a : Addr) (m : Nat) (G : List (Option (Ty a))) (tt : TT) (Gt Gf : List (Option (Ty a))) : Prop :=
  ∀ (n : Nat) (σ : L2.St) (H : Hp), n + m ≤ big → Cty a G σ H → Dr H a n → ∀ Q : Bool → Hp → Prop, (∀ b H', Gx a H H' → Dr H' a (n + m) → (b = true → Cty a Gt σ H') → (b = false → Cty a Gf σ H') → Q b H') → tt σ H Q
theorem g_andR {m1 m2 : Nat} {t u : TT} {G1 G2 : List (Option (Ty a))} (h1 : GTr a m1 G t G1 G2) (h2 : GT a m2 G1 u) : GTr a (m1 + m2) G (tAnd t u) G1 G := fun n σ H hn c d K k => h1 n σ H (by omega) c d _ fun b H1 g1 d1 ct cf => by
  cases b with
  | true =>
    show u σ H1 K
    exact h2 (n + m1) σ H1 (by omega) (ct rfl) d1 K fun b H2 g2 d2 => k b H2 (g1.trans g2) (d2.mono (by omega)) (fun _ => (ct rfl).st g2) fun _ => c.st (g1.trans g2)
  | false =>
    show K false H1
    exact k false H1 g1 (d1.mono (by omega)) (fun z => by cases z) fun _ => c.st g1
theorem g_orR {m1 m2 : Nat} {t u : TT} {G1 G2 : List (Option (Ty a))} (h1 : GTr a m1 G t G1 G2) (h2 : GT a m2 G2 u) : GTr a (m1 + m2) G (tOr t u) G G2 := fun n σ H hn c d K k => h1 n σ H (by omega) c d _ fun b H1 g1 d1 ct cf => by
  cases b with
  | true =>
    show K true H1
    exact k true H1 g1 (d1.mono (by omega)) (fun _ => c.st g1) fun z => by cases z
  | false =>
    show u σ H1 K
    exact h2 (n + m1) σ H1 (by omega) (cf rfl) d1 K fun b H2 g2 d2 => k b H2 (g1.trans g2) (d2.mono (by omega)) (fun _ => c.st (g1.trans g2)) fun _ => (cf rfl).st g2
theorem gs_ifR {m1 m2 m3 : Nat} {t : TT} {u r : TS} {G1 G2 : List (Option (Ty a))} {G3 : Option (List (Option (Ty a)))} {R : Ty a} (h1 : GTr a m1 G t G1 G2) (h2 : GS a m2 G1 u none R) (h3 : GS a m3 G2 r G3 R) : GS a (m1 + (max m2 m3)) G (tSeq (tIfS t u tNext) r) G3 R := fun n σ H D hn c d k1 k2 =>
  h1 n σ H (by omega) c d _ fun b H1 g1 d1 ct cf => by
    cases b with
    | true =>
      show u { D with nx := r D } σ H1
      exact h2 (n + m1) σ H1 _ (by omega) (ct rfl) d1 (fun v H2 g2 d2 p => k1 v H2 (g1.trans g2) (d2.mono (by omega)) p) fun σ2 H2 g2 d2 c2 => c2.elim
    | false =>
      show r D σ H1
      exact h3 (n + m1) σ H1 D (by omega) (cf rfl) d1 (fun v H2 g2 d2 p => k1 v H2 (g1.trans g2) (d2.mono (by omega)) p) fun σ2 H2 g2 d2 c2 => k2 σ2 H2 (g1.trans g2) (d2.mono (by omega)) c2
theorem set_same {i : Nat} {P : Ty a} {σ : L2.St} {H : Hp} {v : V} (c : Cty a G σ H) (e : σ[i]? = some (some v)) (p : P.p v H) : Cty a (G.set i (some P)) σ H := by
  have h := c.set (i := i) (P := P) p
  have e2 : σ.set i (some v) = σ := by
    obtain ⟨hi, e1⟩ := List.getElem?_eq_some_iff.mp e
    rw [← e1]
    exact List.set_getElem_self hi
  rw [e2] at h
  exact h
/-- names that are there -/
def tyNs1 (a : Addr) (L : Nat) : Ty a := ⟨fun v H => ∃ p rs, v = .ref p ∧ p ≠ a ∧ H p = some (.lst rs) ∧ 0 < rs.length ∧ rs.length ≤ L ∧ ∀ r ∈ rs, RowAt a H r, fun v H H' g h => by
  obtain ⟨p, rs, e, n, q, l0, l, t⟩ := h
  exact ⟨p, rs, e, n, g p _ n q, l0, l, fun r hr => (t r hr).st fun p xs n e => g p _ n e⟩⟩
theorem shaped_nil : SeqAt.shaped (.list []) = true := by decide +kernel
theorem eqv_nil {ds : List PyData} : PyData.eqv (.list ds) (.list []) = decide (ds.length = 0) := by
  cases ds with
  | nil => simp [PyData.eqv, PyData.eqvAll]
  | cons x xs => simp [PyData.eqv, PyData.eqvAll]
theorem g_nsNe {K : PySem.W.Frag} {i L : Nat} (h : G[i]? = some (some (tyNs a L))) : GTr a 0 G (tTest (tOp (rNeD K) (tVar i) (tLst tNil))) (G.set i (some (tyNs1 a L))) G := fun n σ H hn c d Q q => by
  obtain ⟨v, ev, hv⟩ := c.at_ i _ h
  refine ⟨v, ev, (by show 0 ≤ sizeLine; decide), fun l hl => ?_⟩
  have g : Gx a H (upd H l (.lst [])) := Gx.new hl
  obtain ⟨p, rs, rfl, np, hp, lp, tp⟩ := (tyNs a L).st _ _ _ g hv
  obtain ⟨ds, qd, cd, dd, ld⟩ := ns_dp (K := K) tp
  refine ⟨.list ds, .list [], .lst (.inl (.inl hp)) qd, .lst (.inl (.inl upd_same)) .nil, shaped_list cd (by omega), shaped_nil, _, rfl, q _ _ g (d.upd (d.ne hl)) (fun z => ?_) fun _ => c.st g⟩
  rw [eqv_nil, ld] at z
  have z2 : ¬ rs.length = 0 := by simpa using z
  exact set_same (c.st g) ev ⟨p, rs, rfl, np, hp, by omega, lp, tp⟩
/-- ns[e % len(ns)][0] -/
theorem g_rowName {K : PySem.W.Frag} {i L m : Nat} {te : TE} {f : Int → Prop} (h : G[i]? = some (some (tyNs1 a L))) (he : GE a m G te (tyI a f)) :
    GE a m G (tOp (rIxT K) (tOp (rIxL K) (tVar i) (tOp (rI (fun _ j => 0 < j) fun i j => .int (i % j)) te (tCB (fun xs H Q => ∃ p ys, xs = [V.ref p] ∧ (SqL K H p ys ∨ SqT K H p ys) ∧ Q (.int ys.length) H) (tCons (tVar i) tNil)))) (tC (.int 0))) (tyNm a) := fun n σ H hn c d Q q => by
  obtain ⟨v, ev, hv⟩ := c.at_ i _ h
  refine ⟨v, ev, he n σ H hn c d _ fun x H1 g1 d1 hx => ?_⟩
  obtain ⟨j, rfl, _⟩ := hx
  obtain ⟨p, rs, rfl, np, hp, l0, lp, tp⟩ := (tyNs1 a L).st _ _ _ g1 hv
  have k1 : 0 ≤ j % (rs.length : Int) := Int.emod_nonneg _ (by omega)
  have k2 : j % (rs.length : Int) < rs.length := Int.emod_lt_of_pos _ (by omega)
  obtain ⟨r, er, mr⟩ := at_in (xs := rs) k1 k2
  obtain ⟨s, x, k, rfl, ns, hs, hx, hk⟩ := tp r mr
  exact ⟨_, ev, p, rs, rfl, .inl (SqL.of hp), j, _, rfl, rfl, (by show (0 : Int) < rs.length; omega), p, rs, _, _, rfl, rfl, SqL.of hp, er, s, _, _, _, rfl, rfl, SqT.of hs, rfl, q _ H1 g1 d1 ⟨x, rfl, hx⟩⟩
/-- a list of names -/
def tySs (a : Addr) (lo L : Nat) : Ty a := ⟨fun v H => ∃ (p : Addr) (zs : List Str), v = .ref p ∧ p ≠ a ∧ H p = some (.lst (zs.map V.str)) ∧ lo ≤ zs.length ∧ zs.length ≤ L ∧ ∀ z ∈ zs, z ∈ termNames, fun v H H' g h => by
  obtain ⟨p, zs, e, n, q, l⟩ := h
  exact ⟨p, zs, e, n, g p _ n q, l⟩⟩
theorem ss_dp {K : PySem.W.Frag} {H : Hp} : ∀ {zs : List Str}, (∀ z ∈ zs, z ∈ termNames) → ∃ ds, DpAll K H (zs.map V.str) ds ∧ PyData.canLayAll0 ds = true ∧ PyData.depthAll ds ≤ 1 ∧ ds.length = zs.length
  | [], _ => ⟨[], .nil, by simp [PyData.canLayAll0], by simp [PyData.depthAll], rfl⟩
  | z :: zs, h => by
    obtain ⟨ds, q, c, d, l⟩ := ss_dp (K := K) (H := H) (zs := zs) fun y hy => h y (List.mem_cons_of_mem _ hy)
    have sx : ∀ x ∈ termNames, PyData.strOk x = true := by decide +kernel
    refine ⟨.str z :: ds, .cons (.str z) q, ?_, ?_, by rw [List.length_cons, List.length_cons, l]⟩
    · simp [PyData.canLayAll0, PyData.canLay0, sx z (h z List.mem_cons_self), c]
    · simp only [PyData.depthAll, PyData.depth]
      omega
theorem g_ssEq {K : PySem.W.Frag} {i L : Nat} (h : G[i]? = some (some (tySs a 0 L))) : GTr a 0 G (tTest (tOp (rEqD K) (tVar i) (tLst tNil))) G (G.set i (some (tySs a 1 L))) := fun n σ H hn c d Q q => by
  obtain ⟨v, ev, hv⟩ := c.at_ i _ h
  refine ⟨v, ev, (by show 0 ≤ sizeLine; decide), fun l hl => ?_⟩
  have g : Gx a H (upd H l (.lst [])) := Gx.new hl
  obtain ⟨p, zs, rfl, np, hp, l0, lp, tp⟩ := (tySs a 0 L).st _ _ _ g hv
  obtain ⟨ds, qd, cd, dd, ld⟩ := ss_dp (K := K) (H := upd H l (.lst [])) tp
  refine ⟨.list ds, .list [], .lst (.inl (.inl hp)) qd, .lst (.inl (.inl upd_same)) .nil, shaped_list cd (by omega), shaped_nil, _, rfl, q _ _ g (d.upd (d.ne hl)) (fun _ => c.st g) fun z => ?_⟩
  rw [eqv_nil, ld] at z
  have z2 : ¬ zs.length = 0 := by simpa using z
  exact set_same (c.st g) ev ⟨p, zs, rfl, np, hp, by omega, lp, tp⟩
/-- xs[e % len(xs)] of a list of names -/
theorem g_ssAt {K : PySem.W.Frag} {i L m : Nat} {te : TE} {f : Int → Prop} (h : G[i]? = some (some (tySs a 1 L))) (he : GE a m G te (tyI a f)) :
    GE a m G (tOp (rIxL K) (tVar i) (tOp (rI (fun _ j => 0 < j) fun i j => .int (i % j)) te (tCB (fun xs H Q => ∃ p ys, xs = [V.ref p] ∧ (SqL K H p ys ∨ SqT K H p ys) ∧ Q (.int ys.length) H) (tCons (tVar i) tNil)))) (tyNm a) := fun n σ H hn c d Q q => by
  obtain ⟨v, ev, hv⟩ := c.at_ i _ h
  refine ⟨v, ev, he n σ H hn c d _ fun x H1 g1 d1 hx => ?_⟩
  obtain ⟨j, rfl, _⟩ := hx
  obtain ⟨p, zs, rfl, np, hp, l0, lp, tp⟩ := (tySs a 1 L).st _ _ _ g1 hv
  have ll : (zs.map V.str).length = zs.length := List.length_map _
  have k1 : 0 ≤ j % ((zs.map V.str).length : Int) := Int.emod_nonneg _ (by omega)
  have k2 : j % ((zs.map V.str).length : Int) < (zs.map V.str).length := Int.emod_lt_of_pos _ (by omega)
  obtain ⟨r, er, mr⟩ := at_in (xs := zs.map V.str) k1 k2
  obtain ⟨z, hz, rfl⟩ := List.mem_map.mp mr
  exact ⟨_, ev, p, _, rfl, .inl (SqL.of hp), j, _, rfl, rfl, (by show (0 : Int) < ((zs.map V.str).length : Nat); omega), p, _, _, _, rfl, rfl, SqL.of hp, er, q _ H1 g1 d1 ⟨z, rfl, tp z hz⟩⟩
/-- [x for x, k in ns if k == kind] -/
theorem g_lcKind {K : PySem.W.Frag} {i j1 j2 k L : Nat} {f : Str → Prop} (h : G[i]? = some (some (tyNs a L))) (hk : G[k]? = some (some (tyS a f))) (h1 : ∀ P, G[j1]? ≠ some (some P)) (h2 : ∀ P, G[j2]? ≠ some (some P)) (hj : j1 ≠ j2) (l1 : j1 < G.length) (l2 : j2 < G.length) (hL : L ≤ 900) :
    GE a 0 G (tLc (iList K (tVar i)) (gTup K 2 (gCons (gName j1) (gCons (gName j2) gNil))) (tTest (tOp rEq (tVar j2) (tVar k))) (tVar j1) [j1, j2]) (tySs a 0 L) := fun n σ H hn c d Q q => by
  obtain ⟨v, ev, p, rs, rfl, np, hp, lp, tp⟩ := c.at_ i _ h
  obtain ⟨u, eu, y, rfl, _⟩ := c.at_ k _ hk
  refine ⟨_, ev, p, rfl, ⟨_, SqL.of hp⟩, fun D hD => ?_⟩
  have nD : D ≠ a := d.ne hD
  have wl : (wipe σ [j1, j2]).length = G.length := by rw [wipe_length]; exact c.len
  have wk : (wipe σ [j1, j2])[k]? = some (some (.str y)) := by
    have n1 : j1 ≠ k := fun z => h1 _ (by rw [z]; exact hk)
    have n2 : j2 ≠ k := fun z => h2 _ (by rw [z]; exact hk)
    show ((σ.set j2 none).set j1 none)[k]? = _
    rw [List.getElem?_set_ne n1, List.getElem?_set_ne n2]
    exact eu
  have n1 : j1 ≠ k := fun z => h1 _ (by rw [z]; exact hk)
  have n2 : j2 ≠ k := fun z => h2 _ (by rw [z]; exact hk)
  refine lc_list (xs := rs) (fun t H' => Gx a H H' ∧ Dr H' a n ∧ ∃ zs : List Str, H' D = some (.lst (zs.map V.str)) ∧ zs.length ≤ t ∧ ∀ z ∈ zs, z ∈ termNames) ?_ ?_ ?_ ?_
  · exact ⟨Gx.new hD, d.upd nD, [], upd_same, Nat.zero_le _, fun z hz => by cases hz⟩
  · rintro t H' ht ⟨g, _⟩
    exact SqL.of (g p _ np hp)
  · rintro t x H' hx ⟨g, d', zs, hz, lz, tz⟩
    have li : t < rs.length := (List.getElem?_eq_some_iff.mp hx).1
    obtain ⟨r, z, w, rfl, nr, hr, hzn, hw⟩ := tp x (List.mem_of_getElem? hx)
    refine ⟨r, _, rfl, SqT.of (g r _ nr hr), rfl, _, _, rfl, _, _, rfl, rfl, ?_⟩
    have e1 : (((wipe σ [j1, j2]).set j1 (some (.str z))).set j2 (some (.str w)))[j2]? = some (some (.str w)) := List.getElem?_set_self (by rw [List.length_set, wl]; exact l2)
    have e2 : (((wipe σ [j1, j2]).set j1 (some (.str z))).set j2 (some (.str w)))[k]? = some (some (.str y)) := by rw [List.getElem?_set_ne n2, List.getElem?_set_ne n1]; exact wk
    have e3 : (((wipe σ [j1, j2]).set j1 (some (.str z))).set j2 (some (.str w)))[j1]? = some (some (.str z)) := by rw [List.getElem?_set_ne (Ne.symm hj)]; exact List.getElem?_set_self (by rw [wl]; exact l1)
    refine ⟨?_, _, e1, _, e2, rfl, _, rfl, ?_⟩
    · show ((((((σ.set j2 none).set j1 none).set j1 (some (.str z))).set j2 (some (.str w))).set j2 none).set j1 none) = (σ.set j2 none).set j1 none
      rw [List.set_set, List.set_set, List.set_comm _ _ hj, List.set_set, List.set_set]
    refine ite2 (fun _ => ?_) (fun _ => ?_)
    · refine ⟨_, e3, _, hz, small1000 (by rw [List.length_map]; omega), g.grow hD, d'.upd nD, zs ++ [z], ?_, by rw [List.length_append]; exact Nat.add_le_add_right lz 1, fun y hy => ?_⟩
      · rw [upd_same, List.map_append]
        rfl
      · rcases List.mem_append.mp hy with q1 | q1
        · exact tz y q1
        · rw [List.mem_singleton.mp q1]; exact hzn
    · exact ⟨g, d', zs, hz, Nat.le_succ_of_le lz, tz⟩
  · rintro H' ⟨g, d', zs, hz, lz, tz⟩
    exact q _ H' g d' ⟨D, zs, rfl, nD, hz, Nat.zero_le _, Nat.le_trans lz lp, tz⟩
/-- [row[1] for row in ns] -/
def tyKs (a : Addr) : Ty a := ⟨fun v H => ∃ (p : Addr) (zs : List Str), v = .ref p ∧ p ≠ a ∧ H p = some (.lst (zs.map V.str)), fun v H H' g h => by
  obtain ⟨p, zs, e, n, q⟩ := h
  exact ⟨p, zs, e, n, g p _ n q⟩⟩
theorem g_lcKinds {K : PySem.W.Frag} {i j L : Nat} (h : G[i]? = some (some (tyNs a L))) (hj : ∀ P, G[j]? ≠ some (some P)) (l1 : j < G.length) (hL : L ≤ 900) :
    GE a 0 G (tLc (iList K (tVar i)) (gName j) tYes (tOp (rIxT K) (tVar j) (tC (.int 1))) [j]) (tyKs a) := fun n σ H hn c d Q q => by
  obtain ⟨v, ev, p, rs, rfl, np, hp, lp, tp⟩ := c.at_ i _ h
  refine ⟨_, ev, p, rfl, ⟨_, SqL.of hp⟩, fun D hD => ?_⟩
  have nD : D ≠ a := d.ne hD
  have wl : (wipe σ [j]).length = G.length := by rw [wipe_length]; exact c.len
  refine lc_list (xs := rs) (fun t H' => Gx a H H' ∧ Dr H' a n ∧ ∃ zs : List Str, H' D = some (.lst (zs.map V.str)) ∧ zs.length ≤ t) ?_ ?_ ?_ ?_
  · exact ⟨Gx.new hD, d.upd nD, [], upd_same, Nat.zero_le _⟩
  · rintro t H' ht ⟨g, _⟩
    exact SqL.of (g p _ np hp)
  · rintro t x H' hx ⟨g, d', zs, hz, lz⟩
    have li : t < rs.length := (List.getElem?_eq_some_iff.mp hx).1
    obtain ⟨r, z, w, rfl, nr, hr, hzn, hw⟩ := tp x (List.mem_of_getElem? hx)
    have e1 : ((wipe σ [j]).set j (some (V.ref r)))[j]? = some (some (.ref r)) := List.getElem?_set_self (by rw [wl]; exact l1)
    refine ⟨wipe_one σ j _, ?_⟩
    refine (⟨_, e1, r, _, _, _, rfl, rfl, SqT.of (g r _ nr hr), rfl, ?_⟩ : tOp (rIxT K) (tVar j) (tC (.int 1)) ((wipe σ [j]).set j (some (V.ref r))) H' _)
    refine ⟨_, hz, small1000 (by rw [List.length_map]; omega), g.grow hD, d'.upd nD, zs ++ [w], ?_, by rw [List.length_append]; exact Nat.add_le_add_right lz 1⟩
    rw [upd_same, List.map_append]
    rfl
  · rintro H' ⟨g, d', zs, hz, lz⟩
    exact q _ H' g d' ⟨D, zs, rfl, nD, hz⟩
theorem flat_strs : ∀ zs : List Str, (zs.map V.str).all flatV = true
  | [] => rfl
  | z :: zs => by
    rw [List.map_cons, List.all_cons, flat_strs zs]
    rfl
theorem g_inKs {K : PySem.W.Frag} {m1 m2 : Nat} {neg : Bool} {ta tb : TE} {f : Str → Prop} (h1 : GE a m1 G ta (tyS a f)) (h2 : GE a m2 G tb (tyKs a)) : GE a (m1 + m2) G (tOp (rIn K neg) ta tb) (tyB a) :=
  g_op h1 h2 fun x y H hx hy n d Q q => by
    obtain ⟨z, rfl, _⟩ := hx
    obtain ⟨p, zs, rfl, np, hp⟩ := hy
    exact ⟨p, _, rfl, .inl (SqL.of hp), rfl, flat_strs zs, q _ H (Gx.refl a H) d ⟨_, rfl⟩⟩
theorem tyNs_le {L M : Nat} (h : L ≤ M) : ∀ v H, (tyNs a L).p v H → (tyNs a M).p v H := fun v H q => by
  obtain ⟨p, rs, e, n, q, l, t⟩ := q
  exact ⟨p, rs, e, n, q, Nat.le_trans l h, t⟩
theorem tyU_le {f g : Nat → Prop} {n m : Nat} (hf : ∀ k, f k → g k) (h : n ≤ m) : ∀ v H, (tyU a f (tyT a n)).p v H → (tyU a g (tyT a m)).p v H := fun v H q => by
  obtain ⟨p, xs, e, np, q, l, t⟩ := q
  exact ⟨p, xs, e, np, q, hf _ l, fun x hx => tyT_le h x H (t x hx)⟩
/-- x not in ['..', '..', '..', '..'] -/
theorem g_notIn4 {K : PySem.W.Frag} {m : Nat} {ta : TE} {f : Str → Prop} {v1 v2 v3 v4 : Str} {b : Bool} (h : GE a m G ta (tyS a f)) (hb : ∀ z, f z → (!inV (.str z) [.str v1, .str v2, .str v3, .str v4]) = b) :
    GE a m G (tOp (rIn K true) ta (tLst (tCons (tC (.str v1)) (tCons (tC (.str v2)) (tCons (tC (.str v3)) (tCons (tC (.str v4)) tNil)))))) (tyIs a (.bl b)) := fun n σ H hn c d Q q =>
  h n σ H hn c d _ fun v H1 g1 d1 p1 => by
    obtain ⟨z, rfl, hz⟩ := p1
    refine ⟨(by show 4 ≤ sizeLine; decide), fun l hl => ⟨l, _, rfl, .inl (SqL.of upd_same), rfl, rfl, ?_⟩⟩
    have e : (V.bl (if true = true then !inV (.str z) [.str v1, .str v2, .str v3, .str v4] else inV (.str z) [.str v1, .str v2, .str v3, .str v4])) = .bl b := by rw [if_pos rfl, hb z hz]
    exact q _ _ (g1.trans (Gx.new hl)) (d1.upd (d1.ne hl)) e
theorem g_intIs {m1 : Nat} {ta : TE} {b : Bool} (ha : GE a m1 G ta (tyIs a (.bl b))) : GE a (m1 + 0) G (tCB (fun xs H Q => (∃ i, xs = [V.int i] ∧ Q (.int i) H) ∨ ∃ k, xs = [V.bl k] ∧ Q (.int (if k then 1 else 0)) H) (tCons ta tNil)) (tyI a fun i => i = if b then 1 else 0) := fun n σ H hn c d K k =>
  ha n σ H (by omega) c d _ fun v H1 g1 d1 p1 => by
    cases p1
    exact .inr ⟨b, rfl, k _ H1 g1 d1 ⟨_, rfl, rfl⟩⟩
def funNames : List Str := ["fx0", "fx1", "fx2"]
theorem fun_term {z : Str} (h : z ∈ funNames) : z ∈ termNames := by
  unfold funNames at h
  unfold termNames
  simp only [List.mem_cons, List.not_mem_nil, or_false] at h ⊢
  rcases h with h | h | h <;> simp [h]
theorem fun_new : ∀ z ∈ funNames, ∀ y ∈ newNames, z ≠ y := by decide +kernel
section
variable {n : Nat} {vs : List V} {H : Hp} {p : Addr}
/-- a tuple of new names -/
theorem strs_of {f : Nat → Prop} {v : V} (h : (tyU a f (tyNew a)).p v H) : ∃ zs : List Str, Dq a H v (.tuple (zs.map .str)) ∧ f zs.length ∧ ∀ z ∈ zs, z ∈ newNames := by
  obtain ⟨q, xs, rfl, nq, hq, l, t⟩ := h
  have key : ∀ (xs : List V), (∀ x ∈ xs, (tyNew a).p x H) → ∃ zs : List Str, DqL a H xs (zs.map .str) ∧ zs.length = xs.length ∧ ∀ z ∈ zs, z ∈ newNames := by
    intro xs
    induction xs with
    | nil => intro _; exact ⟨[], .nil, rfl, fun z hz => by cases hz⟩
    | cons x xs ih =>
      intro h
      obtain ⟨zs, q, l, t⟩ := ih fun y hy => h y (List.mem_cons_of_mem _ hy)
      obtain ⟨z, rfl, hz⟩ := h x List.mem_cons_self
      refine ⟨z :: zs, .cons (.str z) q, by rw [List.length_cons, List.length_cons, l], fun y hy => ?_⟩
      rcases List.mem_cons.mp hy with e | e
      · rw [e]; exact hz
      · exact t y e
  obtain ⟨zs, qs, lz, tz⟩ := key xs t
  exact ⟨zs, .tup nq hq qs, by rw [lz]; exact l, tz⟩
theorem nodup1 {zs : List Str} (h : zs.length ≤ 1) : zs.Nodup := by
  match zs, h with
  | [], _ => exact List.nodup_nil
  | [z], _ => simp
theorem mk_func {f : Nat → Prop} (hf : ∀ k, f k → k ≤ 1) (np : p ≠ a) (hp : H p = some (.tup vs)) (h : TAll a H [tyW a "fun", tyU a f (tyNew a), tyT a n] vs) : (tyT a (n + 1)).p (.ref p) H := by
  obtain ⟨_, _, _, rfl, ⟨_, rfl, rfl⟩, hu, ⟨d, q, t⟩⟩ := all3 h
  obtain ⟨zs, qu, l, ts⟩ := strs_of hu
  have l1 := hf _ l
  exact ⟨_, .tup np hp (.cons (.str _) (.cons qu (.cons q .nil))), .func (fun x hx => new_term (ts x hx)) (nodup1 l1) (by omega) t⟩
theorem mk_recu {f : Nat → Prop} (hf : ∀ k, f k → k ≤ 1) (np : p ≠ a) (hp : H p = some (.tup vs)) (h : TAll a H [tyW a "rec", tyS a fun z => z ∈ funNames, tyU a f (tyNew a), tyT a n] vs) : (tyT a (n + 1)).p (.ref p) H := by
  obtain ⟨_, _, _, _, rfl, ⟨_, rfl, rfl⟩, ⟨y, rfl, hy⟩, hu, ⟨d, q, t⟩⟩ := all4 h
  obtain ⟨zs, qu, l, ts⟩ := strs_of hu
  have l1 := hf _ l
  exact ⟨_, .tup np hp (.cons (.str _) (.cons (.str _) (.cons qu (.cons q .nil)))), .recu (fun_term hy) (fun x hx => new_term (ts x hx)) (List.nodup_cons.mpr ⟨fun hm => fun_new y hy y (ts y hm) rfl, nodup1 l1⟩) (by omega) t⟩
end
end
end Wp
set_option Elab.async false
set_option linter.all false
set_option maxRecDepth 100000
namespace Wp
open PySem L2
def top (i : Nat) : Stmt := PySem.Challenge.pw_windpoints_k01_places_of_terms.main.body.getD i (.Pass ⟨0, 0, 0, 0⟩)
-- _law_next: slots _law_dr 0, _law_turn 1, _law_number 2
abbrev s_law_next : Stmt := top 14
theorem sc_law_next : FnScope ["_law_dr", "_law_turn", "_law_number"] ["_law_dr"] (defScope s_law_next) := ⟨rfl, rfl, rfl, by decide +kernel, rfl, by decide +kernel, by decide +kernel⟩
abbrev sl_law_next : List Str := ["_law_dr", "_law_turn", "_law_number"]
section
variable {P : Program} {w : World} {K : PySem.W.Frag} {mg : Str → Option Value} {base : Heap} {f : Addr} {fd : FuncData}
abbrev spNext : Sp := spG 1 (fun a => [tyIs a (.ref a)]) (fun a => tyI a fun i => 0 ≤ i ∧ i < 2147483648)
theorem ok_next (F : Fun K "_law_next" "_law_next" s_law_next f fd) : FnOk P w K mg base CX0 1 f fd ["_law_dr"] spNext := by
  refine F.ok sc_law_next (fun vs H Q E h => ?_) (fun cdv A outer s H vs Q E hr h => ?_)
  · obtain ⟨a, n, _, _, ps, _⟩ := h
    exact ps.len
  obtain ⟨a, n, hn, ⟨x, c, b, e, h0, h1, h2⟩, ps, q⟩ := h
  obtain ⟨_, rfl, rfl⟩ := all1 ps
  have hb : n + 1 ≤ 1000000000000 := hn
  refine ⟨_, (pss_cons (ps_asg (pe_op op_add (pe_ix ix_list (pv 0) pe_int (fun _ _ => rfl)) pe_int) (pg_sub (pv 0) pe_int set_list))
  (pss_cons (ps_set (i := 1) sc_law_next.nd rfl (.inl rfl) (pe_ix ix_list (pv 0) pe_int (fun _ _ => rfl)))
  (pss_cons (ps_if (pt_val (pe_ix ix_list (pv 0) pe_int (fun _ _ => rfl))) (pss_cons (ps_set (i := 2) sc_law_next.nd rfl (.inl rfl) (pe_op op_mod (pe_ix ix_list (pv 0) pe_int (fun _ _ => rfl)) (pe_op op_pow pe_int pe_int)))
  (pss_cons (ps_asg (pe_op op_fdiv (pe_ix ix_list (pv 0) pe_int (fun _ _ => rfl)) (pe_op op_pow pe_int pe_int)) (pg_sub (pv 0) pe_int set_list))
  (pss_one (ps_ret (pv 2))))) pss_nil)
  (pss_cons (ps_set (i := 2) sc_law_next.nd rfl (.inl rfl) (pe_op op_mod (pe_op op_mul (pe_op op_add (pe_op op_add (pe_op op_mod (pe_ix ix_list (pv 0) pe_int (fun _ _ => rfl)) pe_int) (pe_op op_mul (pe_op op_mul (pv 1) (pv 1)) pe_int)) (pv 1)) pe_int) pe_int))
  (pss_cons (ps_set (i := 2) sc_law_next.nd rfl (.inl rfl) (pe_op op_mod (pe_op op_mul (pv 2) (pv 2)) pe_int))
  (pss_one (ps_ret (pe_op op_fdiv (pe_op op_mod (pe_op op_mul (pv 2) (pe_op op_add (pv 2) pe_int)) pe_int) pe_int)))))))), ?_⟩
  refine ⟨_, rfl, a, _, _, _, rfl, rfl, SqL.of e, rfl, _, _, rfl, rfl, _, rfl, a, _, _, 1, rfl, rfl, e, rfl, ?_⟩
  have e1 : upd H a (.lst [.int x, .int (c + 1), .bl b]) a = some (.lst [.int x, .int (c + 1), .bl b]) := upd_same
  refine ⟨_, rfl, a, _, _, _, rfl, rfl, SqL.of e1, rfl, ?_⟩
  refine ⟨_, rfl, a, _, _, _, rfl, rfl, SqL.of e1, rfl, _, rfl, ?_⟩
  refine ite2 (fun hc => ?_) (fun hc => ?_)
  · refine ⟨_, rfl, a, _, _, _, rfl, rfl, SqL.of e1, rfl, 10, 6, rfl, rfl, ⟨by decide, by decide, by decide⟩, _, _, rfl, rfl, (by show (0 : Int) < 10 ^ 6; decide), ?_⟩
    refine ⟨_, rfl, a, _, _, _, rfl, rfl, SqL.of e1, rfl, 10, 6, rfl, rfl, ⟨by decide, by decide, by decide⟩, _, _, rfl, rfl, ⟨by show (0 : Int) < 10 ^ 6; decide, by show (10 : Int) ^ 6 < 1073741824; decide⟩, _, rfl, a, _, _, 0, rfl, rfl, e1, rfl, ?_⟩
    refine ⟨_, rfl, ?_⟩
    refine q _ _ (fun b' o nb hb' => ?_) ⟨x / 10 ^ 6, c + 1, b, upd_same, Int.ediv_nonneg h0 (by decide), by omega, by omega⟩ ⟨x % 10 ^ 6, rfl, Int.emod_nonneg _ (by decide), ?_⟩
    · rw [upd_ne nb, upd_ne nb]; exact hb'
    · have z : x % 10 ^ 6 < 10 ^ 6 := Int.emod_lt_of_pos _ (by decide)
      have z2 : (10 : Int) ^ 6 = 1000000 := by decide
      omega
  · have m1 : ∀ i : Int, 0 ≤ i % 2147483629 ∧ i % 2147483629 < 2147483629 := fun i => ⟨Int.emod_nonneg _ (by decide), Int.emod_lt_of_pos _ (by decide)⟩
    have m2 : ∀ i : Int, 0 ≤ i % 2147483587 ∧ i % 2147483587 < 2147483587 := fun i => ⟨Int.emod_nonneg _ (by decide), Int.emod_lt_of_pos _ (by decide)⟩
    have m3 : ∀ i : Int, 0 ≤ i % 2147483579 ∧ i % 2147483579 < 2147483579 := fun i => ⟨Int.emod_nonneg _ (by decide), Int.emod_lt_of_pos _ (by decide)⟩
    have lc : -(2 ^ 64) < c + 1 ∧ c + 1 < 2 ^ 64 := by omega
    refine ⟨_, rfl, a, _, _, _, rfl, rfl, SqL.of e1, rfl, _, _, rfl, rfl, (by show (0 : Int) < 1000003; decide), _, rfl, _, rfl, _, _, rfl, rfl, .inl lc, _, _, rfl, rfl, .inr ⟨by decide, by decide⟩, _, _, rfl, rfl, _, rfl, _, _, rfl, rfl, _, _, rfl, rfl, .inr ⟨by decide, by decide⟩, _, _, rfl, rfl, (by show (0 : Int) < 2147483629; decide), ?_⟩
    refine ⟨_, rfl, _, rfl, _, _, rfl, rfl, .inl ⟨?_, ?_⟩, _, _, rfl, rfl, (by show (0 : Int) < 2147483587; decide), ?_⟩
    · exact Int.lt_of_lt_of_le (by decide) (m1 _).1
    · exact Int.lt_trans (m1 _).2 (by decide)
    refine ⟨_, rfl, _, rfl, _, _, rfl, rfl, _, _, rfl, rfl, .inl ⟨?_, ?_⟩, _, _, rfl, rfl, (by show (0 : Int) < 2147483579; decide), _, _, rfl, rfl, ⟨by show (0 : Int) < 7; decide, by show (7 : Int) < 1073741824; decide⟩, ?_⟩
    · exact Int.lt_of_lt_of_le (by decide) (m2 _).1
    · exact Int.lt_trans (m2 _).2 (by decide)
    refine q _ _ (fun b' o nb hb' => ?_) ⟨x, c + 1, b, upd_same, h0, by omega, by omega⟩ ⟨_, rfl, Int.ediv_nonneg (m3 _).1 (by decide), ?_⟩
    · rw [upd_ne nb]; exact hb'
    · have z := m3 ((((((x % 1000003 + (c + 1) * (c + 1) * 7919 + (c + 1)) * 48271 % 2147483629) * ((x % 1000003 + (c + 1) * (c + 1) * 7919 + (c + 1)) * 48271 % 2147483629)) % 2147483587) * ((((x % 1000003 + (c + 1) * (c + 1) * 7919 + (c + 1)) * 48271 % 2147483629) * ((x % 1000003 + (c + 1) * (c + 1) * 7919 + (c + 1)) * 48271 % 2147483629)) % 2147483587 + 2)))
      generalize hy : (((((x % 1000003 + (c + 1) * (c + 1) * 7919 + (c + 1)) * 48271 % 2147483629) * ((x % 1000003 + (c + 1) * (c + 1) * 7919 + (c + 1)) * 48271 % 2147483629)) % 2147483587) * ((((x % 1000003 + (c + 1) * (c + 1) * 7919 + (c + 1)) * 48271 % 2147483629) * ((x % 1000003 + (c + 1) * (c + 1) * 7919 + (c + 1)) * 48271 % 2147483629)) % 2147483587 + 2)) % 2147483579 = y at z ⊢
      omega
end
end Wp
set_option Elab.async false
set_option linter.all false
set_option maxRecDepth 100000
namespace Wp
open PySem L2
-- _law_put: slots _law_ns 0, _law_new 1, _law_kind 2, _law_row 3
abbrev s_law_put : Stmt := top 15
theorem sc_law_put : FnScope ["_law_ns", "_law_new", "_law_kind", "_law_row"] ["_law_ns", "_law_new", "_law_kind"] (defScope s_law_put) := ⟨rfl, rfl, rfl, by decide +kernel, rfl, by decide +kernel, by decide +kernel⟩
abbrev sl_law_put : List Str := ["_law_ns", "_law_new", "_law_kind", "_law_row"]
section
variable {P : Program} {w : World} {K : PySem.W.Frag} {mg : Str → Option Value} {base : Heap} {f : Addr} {fd : FuncData}
abbrev tyKd (a : Addr) : Ty a := tyS a fun z => z ∈ kindNames
abbrev spPut (L : Nat) : Sp := spG 0 (fun a => [tyNs a L, tyNm a, tyKd a]) (fun a => tyNs a (L + 1))
theorem ok_put {L : Nat} (hL : L ≤ 900) (F : Fun K "_law_put" "_law_put" s_law_put f fd) : FnOk P w K mg base CX0 1 f fd ["_law_ns", "_law_new", "_law_kind"] (spPut L) := by
  refine F.ok sc_law_put (fun vs H Q E h => ?_) (fun cdv A outer s H vs Q E hr h => ?_)
  · obtain ⟨a, n, _, _, ps, _⟩ := h
    exact ps.len
  obtain ⟨a, n, hn, d, ps, q⟩ := h
  obtain ⟨_, _, _, rfl, ⟨p, rs, rfl, np, hp, lp, tp⟩, ⟨z, rfl, hz⟩, ⟨k, rfl, hk⟩⟩ := all3 ps
  refine ⟨_, (pss_one (ps_ret (pe_op op_cat (pe_lc (own := [("_law_row", 3)]) (g := gName 3) (tt := (tTest (tOp rNe (tOp (rIxT K) (tVar 3) (tC (.int 0))) (tVar 1)))) (te := (tVar 3)) rfl sc_law_put.nd (pi_list (pv 0)) (blkOk_by (N := sl_law_put) (sc := defScope s_law_put) (by decide +kernel)) (fun _ _ _ _ _ => (pg_name (i := 3) sc_law_put.nd rfl (.inl rfl))) (fun _ _ _ _ _ => (pts_one (pt_cmpR op_ne (pe_ix ix_tup (pv 3) pe_int (fun _ _ => rfl)) (pv 1) (nomark _)))) (fun _ _ _ _ _ => (pv 3))) (pe_lst (pa_cons (pe_tup (pa_cons (pv 1) (pa_cons (pv 2) pa_nil))) pa_nil))))), ?_⟩
  refine ⟨_, rfl, p, rfl, ⟨_, SqL.of hp⟩, fun D hD => ?_⟩
  have nD : D ≠ a := d.ne hD
  refine lc_list (xs := rs) (fun i H' => Gx a H H' ∧ Dr H' a n ∧ ∃ acc, H' D = some (.lst acc) ∧ acc.length ≤ i ∧ ∀ r ∈ acc, RowAt a H' r) ?_ ?_ ?_ ?_
  · exact ⟨Gx.new hD, d.upd nD, [], upd_same, Nat.zero_le _, fun r h => by cases h⟩
  · rintro i H' hi ⟨g, _⟩
    exact SqL.of (g p _ np hp)
  · rintro i x H' hx ⟨g, d', acc, ha, la, ta⟩
    have li : i < rs.length := (List.getElem?_eq_some_iff.mp hx).1
    have rx : RowAt a H' x := (tp x (List.mem_of_getElem? hx)).st fun p xs n e => g p _ n e
    obtain ⟨r, y, u, rfl, nr, hr', hy⟩ := id rx
    refine ⟨rfl, _, rfl, r, _, _, _, rfl, rfl, SqT.of hr', rfl, _, rfl, rfl, _, rfl, ?_⟩
    refine ite2 (fun _ => ?_) (fun _ => ?_)
    · refine ⟨_, rfl, acc, ha, small1000 (by omega), ?_, ?_, acc ++ [.ref r], upd_same, by rw [List.length_append]; exact Nat.add_le_add_right la 1, fun r' h' => ?_⟩
      · exact g.grow hD
      · exact d'.upd nD
      · have k1 : ∀ r', RowAt a H' r' → RowAt a (upd H' D (.lst (acc ++ [.ref r]))) r' := fun r' h => h.st fun p xs n e => by
          rw [upd_ne (ne_of e ha (by intro z; cases z))]
          exact e
        rcases List.mem_append.mp h' with h1 | h1
        · exact k1 r' (ta r' h1)
        · rw [List.mem_singleton.mp h1]
          exact k1 _ rx
    · exact ⟨g, d', acc, ha, Nat.le_succ_of_le la, ta⟩
  · rintro H1 ⟨g, d', acc, ha, la, ta⟩
    refine ⟨_, rfl, _, rfl, (by show 2 ≤ sizeLine; decide), fun t ht => ⟨(by show 1 ≤ sizeLine; decide), fun l hl => ?_⟩⟩
    have nt : t ≠ a := d'.ne ht
    have d2 : Dr (upd H1 t (.tup [.str z, .str k])) a n := d'.upd nt
    have nl : l ≠ a := d2.ne hl
    have g2 : Gx a H1 (upd (upd H1 t (.tup [.str z, .str k])) l (.lst [.ref t])) := (Gx.new ht).trans (Gx.new hl)
    have d3 : Dr (upd (upd H1 t (.tup [.str z, .str k])) l (.lst [.ref t])) a n := d2.upd nl
    refine ⟨D, l, acc, [.ref t], rfl, rfl, g2 D _ nD ha, upd_same, Nat.le_of_lt (small1000 (by show acc.length + 1 ≤ 1000; omega)), fun r hr' => ?_⟩
    have nr : r ≠ a := d3.ne hr'
    have g3 := g2.trans (Gx.new (a := a) (o := .lst (acc ++ [.ref t])) hr')
    refine q _ _ (g.trans g3) (d3.upd nr) ⟨r, _, rfl, nr, upd_same, by rw [List.length_append]; show acc.length + 1 ≤ L + 1; omega, fun x hx => ?_⟩
    rcases List.mem_append.mp hx with h1 | h1
    · exact (ta x h1).st fun p xs n e => g3 p _ n e
    · rw [List.mem_singleton.mp h1]
      have ht2 : upd (upd H1 t (.tup [.str z, .str k])) l (.lst [.ref t]) t = some (.tup [.str z, .str k]) := (Gx.new (a := a) hl) t _ nt upd_same
      exact ⟨t, z, k, rfl, nt, (Gx.new (a := a) hr') t _ nt ht2, hz, hk⟩
end
end Wp
set_option Elab.async false
set_option linter.all false
set_option maxRecDepth 100000
namespace Wp
open PySem L2
-- _law_leaf: slots _law_dr 0, _law_ns 1, _law_pick 2, _law_some_here 3
abbrev s_law_leaf : Stmt := top 16
theorem sc_law_leaf : FnScope ["_law_dr", "_law_ns", "_law_pick", "_law_some_here"] ["_law_dr", "_law_ns"] (defScope s_law_leaf) := ⟨rfl, rfl, rfl, by decide +kernel, rfl, by decide +kernel, by decide +kernel⟩
abbrev sl_law_leaf : List Str := ["_law_dr", "_law_ns", "_law_pick", "_law_some_here"]
-- _law_one_of: slots _law_dr 0, _law_ns 1, _law_kind 2, _law_some_here 3, _law_name 4, _law_what 5
abbrev s_law_one_of : Stmt := top 17
theorem sc_law_one_of : FnScope ["_law_dr", "_law_ns", "_law_kind", "_law_some_here", "_law_name", "_law_what"] ["_law_dr", "_law_ns", "_law_kind"] (defScope s_law_one_of) := ⟨rfl, rfl, rfl, by decide +kernel, rfl, by decide +kernel, by decide +kernel⟩
abbrev sl_law_one_of : List Str := ["_law_dr", "_law_ns", "_law_kind", "_law_some_here", "_law_name", "_law_what"]
-- _law_way: slots _law_dr 0, _law_ns 1, _law_way_here 2, _law_kinds 3, _law_one 4
abbrev s_law_way : Stmt := top 24
theorem sc_law_way : FnScope ["_law_dr", "_law_ns", "_law_way_here", "_law_kinds", "_law_one"] ["_law_dr", "_law_ns", "_law_way_here"] (defScope s_law_way) := ⟨rfl, rfl, rfl, by decide +kernel, rfl, by decide +kernel, by decide +kernel⟩
abbrev sl_law_way : List Str := ["_law_dr", "_law_ns", "_law_way_here", "_law_kinds", "_law_one"]
/-- the most names, the greatest depth, the most draws of a term of a depth, the calls within one another -/
def mostN (n : Nat) : Nat := 900 - 2 * n
def deepD (n : Nat) : Nat := 4 * n + 2
def drawC : Nat → Nat
  | 0 => 1
  | n + 1 => 3 * drawC n + 30
def levT (n : Nat) : Nat := 3 + 3 * n
abbrev spLeaf (L : Nat) : Sp := spG 1 (fun a => [tyIs a (.ref a), tyNs a L]) (fun a => tyT a 0)
abbrev spOne (L : Nat) : Sp := spG 2 (fun a => [tyIs a (.ref a), tyNs a L, tyKd a]) (fun a => tyT a 0)
abbrev spWay (L : Nat) : Sp := spG 1 (fun a => [tyIs a (.ref a), tyNs a L, tyI a fun _ => True]) (fun a => tyI a fun _ => True)
section
variable {P : Program} {w : World} {K : PySem.W.Frag} {mg : Str → Option Value} {base : Heap} {f : Addr} {fd : FuncData}
theorem ok_leaf {L : Nat} (F : Fun K "_law_leaf" "_law_leaf" s_law_leaf f fd) (G_law_next : Has P w K mg base "_law_next" ["_law_dr"] 1 spNext) (m_len : mg "len" = none) : FnOk P w K mg base CX0 2 f fd ["_law_dr", "_law_ns"] (spLeaf L) := by
  refine fun_G F sc_law_leaf (fun _ => rfl) (by decide) fun cdv A outer s H E hr => ⟨_, (pss_cons (ps_set (i := 2) sc_law_leaf.nd rfl (.inl rfl) (pe_has G_law_next (hr.mono (by omega)) (pa_cons (pv 0) pa_nil)))
  (pss_cons (ps_if (PW.pt (pw_and (pt_cmpR (op_neD hr.units) (pv 1) (pe_lst pa_nil) (nomark _)) (pw_and1 (pt_cmpR op_eq (pe_op op_mod (pv 2) pe_int) pe_int (nomark _))))) (pss_one (ps_ret (pe_tup (pa_cons pe_str (pa_cons (pe_ix ix_tup (pe_ix ix_list (pv 1) (pe_op op_mod (pe_op op_fdiv (pv 2) pe_int) (pe_callB call_len_seq rfl m_len PySem.boot_len (pa_cons (pv 1) pa_nil))) (fun _ _ => rfl)) pe_int (fun _ _ => rfl)) pa_nil))))) pss_nil)
  (pss_cons (ps_set (i := 3) sc_law_leaf.nd rfl (.inl rfl) (pe_lst (pa_cons (pe_tup (pa_cons pe_str (pa_cons (pe_op op_mod (pe_op op_fdiv (pv 2) pe_int) pe_int) pa_nil))) (pa_cons (pe_tup (pa_cons pe_str (pa_cons (pe_op op_sub pe_int (pe_op op_mod (pe_op op_fdiv (pv 2) pe_int) pe_int)) pa_nil))) (pa_cons (pe_tup (pa_cons pe_str (pa_cons (pe_ix ix_str pe_str (pe_op op_mod (pe_op op_fdiv (pv 2) pe_int) pe_int) (fun _ _ => rfl)) pa_nil))) pa_nil)))))
  (pss_one (ps_ret (pe_ix ix_list (pe_op op_cat (pv 3) (pe_lst (pa_cons (pe_tup (pa_cons pe_str pa_nil)) (pa_cons (pe_tup (pa_cons pe_str pa_nil)) (pa_cons (pe_tup (pa_cons pe_str pa_nil)) pa_nil))))) (pe_op op_mod (pe_op op_fdiv (pv 2) pe_int) pe_int) (fun _ _ => rfl))))))), fun a => ?_⟩
  have dv : ∀ {G : List (Option (Ty a))} (k : Int), 0 < k ∧ k < 1073741824 → G[2]? = some (some (tyI a fun i => 0 ≤ i ∧ i < 2147483648)) → GE a (0 + 0) G (tOp (rI CDiv fun i j => .int (i / j)) (tVar 2) (tC (.int k))) (tyI a fun _ => True) := fun k hk h => g_div (g_var h) hk fun _ _ => trivial
  refine GS.up (gs_seq (gs_set (g_call (ga_cons (g_var rfl) ga_nil))) (gs_ifR (m3 := 0) (g_andR (g_nsNe rfl) (g_test (g_eqI (g_mod (g_var rfl) (by decide)) (g_int _)))) (gs_ret (g_tup (ga_cons (g_str _) (ga_cons (g_rowName rfl (dv 16 (by decide) rfl)) ga_nil)) fun _ _ _ => mk_name fun _ h => h)) ?_)) ?_
  · refine gs_seq (m1 := 0) (m2 := 0) (gs_set (g_lst (k := 3) (R := tyT a 0) (ga_cons (g_tup (ga_cons (g_str _) (ga_cons (g_mod (dv 16 (by decide) rfl) (by decide)) ga_nil)) fun _ _ _ => mk_num)
      (ga_cons (g_tup (ga_cons (g_str _) (ga_cons (g_I0 (r := fun _ => True) (g_int 0) (g_mod (dv 16 (by decide) rfl) (by decide)) fun _ _ _ _ => trivial) ga_nil)) fun _ _ _ => mk_num)
      (ga_cons (g_tup (ga_cons (g_str _) (ga_cons (g_ixS (g_mod (dv 16 (by decide) rfl) (by decide)) (by decide) ?_ ?_) ga_nil)) fun _ _ _ => mk_text) ga_nil))) (by decide))) ?_
    · intro i hi; exact hi
    · decide +kernel
    · exact gs_ret (g_ixL (k := 6) (g_cat (k := 3) (l := 3) (g_var rfl) (g_lst (k := 3) (ga_cons (g_tup (ga_cons (g_str _) ga_nil) fun _ _ _ => mk_yes) (ga_cons (g_tup (ga_cons (g_str _) ga_nil) fun _ _ _ => mk_no) (ga_cons (g_tup (ga_cons (g_str _) ga_nil) fun _ _ _ => mk_none) ga_nil))) (by decide)) (by decide)) (g_mod (dv 2 (by decide) rfl) (by decide)) fun i hi => hi)
  · decide
theorem ok_one {L : Nat} (hL : L ≤ 900) (F : Fun K "_law_one_of" "_law_one_of" s_law_one_of f fd) (G_law_next : Has P w K mg base "_law_next" ["_law_dr"] 1 spNext) (G_law_leaf : Has P w K mg base "_law_leaf" ["_law_dr", "_law_ns"] 2 (spLeaf L)) (m_len : mg "len" = none) : FnOk P w K mg base CX0 3 f fd ["_law_dr", "_law_ns", "_law_kind"] (spOne L) := by
  refine fun_G F sc_law_one_of (fun _ => rfl) (by decide) fun cdv A outer s H E hr => ⟨_, (pss_cons (ps_setLc (i := 3) (own := [("_law_name", 4), ("_law_what", 5)]) (g := gTup K 2 (gCons (gName 4) (gCons (gName 5) gNil))) (tt := (tTest (tOp rEq (tVar 5) (tVar 2)))) (te := (tVar 4)) rfl sc_law_one_of.nd rfl rfl (sw_true rfl rfl rfl (by decide +kernel)) (pi_list (pv 1)) (blkOk_by (N := sl_law_one_of) (sc := defScope s_law_one_of) (by decide +kernel)) (fun _ _ _ _ _ => (pg_tup rfl (pgs_cons (pg_name (i := 4) sc_law_one_of.nd rfl (.inl rfl)) (pgs_cons (pg_name (i := 5) sc_law_one_of.nd rfl (.inl rfl)) pgs_nil)))) (fun _ _ _ _ _ => (pts_one (pt_cmpR op_eq (pv 5) (pv 2) (nomark _)))) (fun _ _ _ _ _ => (pv 4)))
  (pss_cons (ps_if (PW.pt (pw_or (pt_cmpR (op_eqD hr.units) (pv 3) (pe_lst pa_nil) (nomark _)) (pw_or1 (pt_cmpR op_eq (pe_op op_mod (pe_has G_law_next (hr.mono (by omega)) (pa_cons (pv 0) pa_nil)) pe_int) pe_int (nomark _))))) (pss_one (ps_ret (pe_has G_law_leaf (hr.mono (by omega)) (pa_cons (pv 0) (pa_cons (pv 1) pa_nil))))) pss_nil)
  (pss_one (ps_ret (pe_tup (pa_cons pe_str (pa_cons (pe_ix ix_list (pv 3) (pe_op op_mod (pe_has G_law_next (hr.mono (by omega)) (pa_cons (pv 0) pa_nil)) (pe_callB call_len_seq rfl m_len PySem.boot_len (pa_cons (pv 3) pa_nil))) (fun _ _ => rfl)) pa_nil))))))), fun a => ?_⟩
  refine GS.up (gs_seq (gs_set (g_lcKind rfl rfl (fun P h => by cases h) (fun P h => by cases h) (by decide) (by show 4 < 6; decide) (by show 5 < 6; decide) hL)) (gs_ifR (g_orR (g_ssEq rfl) (g_test (g_eqI (g_mod (g_call (ga_cons (g_var rfl) ga_nil)) (by decide)) (g_int _)))) (gs_ret (g_call (ga_cons (g_var rfl) (ga_cons (g_var rfl) ga_nil))))
    (gs_ret (g_tup (ga_cons (g_str _) (ga_cons (g_ssAt rfl (g_call (ga_cons (g_var rfl) ga_nil))) ga_nil)) fun _ _ _ => mk_name fun _ h => h)))) ?_
  decide
theorem ok_way {L : Nat} (hL : L ≤ 900) (F : Fun K "_law_way" "_law_way" s_law_way f fd) (G_law_next : Has P w K mg base "_law_next" ["_law_dr"] 1 spNext) (m_int : mg "int" = none) : FnOk P w K mg base CX0 2 f fd ["_law_dr", "_law_ns", "_law_way_here"] (spWay L) := by
  refine fun_G F sc_law_way (fun _ => rfl) (by decide) fun cdv A outer s H E hr => ⟨_, (pss_cons (ps_setLc (i := 3) (own := [("_law_one", 4)]) (g := gName 4) (tt := tYes) (te := (tOp (rIxT K) (tVar 4) (tC (.int 1)))) rfl sc_law_way.nd rfl rfl (sw_true rfl rfl rfl (by decide +kernel)) (pi_list (pv 1)) (blkOk_by (N := sl_law_way) (sc := defScope s_law_way) (by decide +kernel)) (fun _ _ _ _ _ => (pg_name (i := 4) sc_law_way.nd rfl (.inl rfl))) (fun _ _ _ _ _ => pts_nil) (fun _ _ _ _ _ => (pe_ix ix_tup (pv 4) pe_int (fun _ _ => rfl))))
  (pss_cons (ps_if (pt_cmpR op_eq (pe_op op_mod (pe_has G_law_next (hr.mono (by omega)) (pa_cons (pv 0) pa_nil)) pe_int) pe_int (nomark _)) (pss_one (ps_ret (pv 2))) pss_nil)
  (pss_cons (ps_if (PW.pt (pw_and (pt_cmpR op_eq (pv 2) pe_int (nomark _)) (pw_and1 (pt_cmpR op_notIn_seq pe_str (pv 3) rfl)))) (pss_one (ps_ret pe_int)) pss_nil)
  (pss_one (ps_ret (pe_ix ix_list (pe_lst (pa_cons (pv 2) (pa_cons pe_int pa_nil))) (pe_callTy call_int1 rfl m_int PyProof.Rows.Boot.«int» (pa_cons (pe_and (pe_cmpR op_eq (pv 2) pe_int (nomark _)) (pe_one (pe_cmpR op_notIn_seq pe_str (pv 3) rfl))) pa_nil)) (fun _ _ => rfl))))))), fun a => ?_⟩
  refine GS.up (gs_seq (gs_set (g_lcKinds rfl (fun P h => by cases h) (by show 4 < 5; decide) hL)) (gs_ifr (g_test (g_eqI (g_mod (g_call (ga_cons (g_var rfl) ga_nil)) (by decide)) (g_int _))) (gs_ret (g_var rfl))
    (gs_ifr (g_andT (g_test (g_eqI (g_var rfl) (g_int _))) (g_test (g_inKs (g_str _) (g_var rfl)))) (gs_ret ((g_int _).sub fun v H ⟨i, e, _⟩ => ⟨i, e, trivial⟩))
    (gs_ret (g_ixL (k := 2) (g_lst (k := 2) (ga_cons (g_var rfl) (ga_cons ((g_int _).sub fun v H ⟨i, e, _⟩ => ⟨i, e, trivial⟩) ga_nil)) (by decide)) (g_intB (g_andV (g_eqI (g_var rfl) (g_int _)) (g_inKs (g_str _) (g_var rfl)))) fun i hi => hi))))) ?_
  decide
end
end Wp
set_option Elab.async false
set_option linter.all false
set_option maxRecDepth 100000
namespace Wp
open PySem L2
-- _law_truth: slots _law_dr 0, _law_ns 1, _law_deep 2
abbrev s_law_truth : Stmt := top 18
theorem sc_law_truth : FnScope ["_law_dr", "_law_ns", "_law_deep"] ["_law_dr", "_law_ns", "_law_deep"] (defScope s_law_truth) := ⟨rfl, rfl, rfl, by decide +kernel, rfl, by decide +kernel, by decide +kernel⟩
abbrev sl_law_truth : List Str := ["_law_dr", "_law_ns", "_law_deep"]
-- _law_op: slots _law_dr 0, _law_ns 1, _law_deep 2, _law_words 3, _law_word 4, _law_many_here 5, _law_turn 6
abbrev s_law_op : Stmt := top 19
theorem sc_law_op : FnScope ["_law_dr", "_law_ns", "_law_deep", "_law_words", "_law_word", "_law_many_here", "_law_turn"] ["_law_dr", "_law_ns", "_law_deep"] (defScope s_law_op) := ⟨rfl, rfl, rfl, by decide +kernel, rfl, by decide +kernel, by decide +kernel⟩
abbrev sl_law_op : List Str := ["_law_dr", "_law_ns", "_law_deep", "_law_words", "_law_word", "_law_many_here", "_law_turn"]
-- _law_loop: slots _law_dr 0, _law_ns 1, _law_deep 2, _law_new 3, _law_count 4, _law_less 5, _law_inner 6, _law_end 7, _law_body 8
abbrev s_law_loop : Stmt := top 20
theorem sc_law_loop : FnScope ["_law_dr", "_law_ns", "_law_deep", "_law_new", "_law_count", "_law_less", "_law_inner", "_law_end", "_law_body"] ["_law_dr", "_law_ns", "_law_deep", "_law_new"] (defScope s_law_loop) := ⟨rfl, rfl, rfl, by decide +kernel, rfl, by decide +kernel, by decide +kernel⟩
abbrev sl_law_loop : List Str := ["_law_dr", "_law_ns", "_law_deep", "_law_new", "_law_count", "_law_less", "_law_inner", "_law_end", "_law_body"]
-- _law_points: slots _law_dr 0, _law_ns 1, _law_deep 2, _law_new 3, _law_way_here 4, _law_parts_here 5, _law_turn 6
abbrev s_law_points : Stmt := top 21
theorem sc_law_points : FnScope ["_law_dr", "_law_ns", "_law_deep", "_law_new", "_law_way_here", "_law_parts_here", "_law_turn"] ["_law_dr", "_law_ns", "_law_deep", "_law_new", "_law_way_here"] (defScope s_law_points) := ⟨rfl, rfl, rfl, by decide +kernel, rfl, by decide +kernel, by decide +kernel⟩
abbrev sl_law_points : List Str := ["_law_dr", "_law_ns", "_law_deep", "_law_new", "_law_way_here", "_law_parts_here", "_law_turn"]
-- _law_cells: slots _law_dr 0, _law_ns 1, _law_deep 2, _law_new 3, _law_way_here 4, _law_kept 5, _law_kind 6
abbrev s_law_cells : Stmt := top 22
theorem sc_law_cells : FnScope ["_law_dr", "_law_ns", "_law_deep", "_law_new", "_law_way_here", "_law_kept", "_law_kind"] ["_law_dr", "_law_ns", "_law_deep", "_law_new", "_law_way_here"] (defScope s_law_cells) := ⟨rfl, rfl, rfl, by decide +kernel, rfl, by decide +kernel, by decide +kernel⟩
abbrev sl_law_cells : List Str := ["_law_dr", "_law_ns", "_law_deep", "_law_new", "_law_way_here", "_law_kept", "_law_kind"]
abbrev tyD (a : Addr) (n : Nat) : Ty a := tyI a fun i => i ≤ (n : Int)
abbrev tyAny (a : Addr) : Ty a := tyI a fun _ => True
abbrev spTerm (n : Nat) : Sp := spG (drawC n) (fun a => [tyIs a (.ref a), tyNs a (mostN n), tyD a n]) (fun a => tyT a (deepD n))
abbrev spTruth (n : Nat) : Sp := spG (drawC n + 4) (fun a => [tyIs a (.ref a), tyNs a (mostN (n + 1)), tyD a n]) (fun a => tyT a (deepD n))
abbrev spOp (n : Nat) : Sp := spG (2 * drawC n + 1) (fun a => [tyIs a (.ref a), tyNs a (mostN (n + 1)), tyD a n]) (fun a => tyT a (deepD n + 1))
abbrev spLoop (n : Nat) : Sp := spG (drawC n + 2) (fun a => [tyIs a (.ref a), tyNs a (mostN (n + 1)), tyD a n, tyNew a]) (fun a => tyT a (deepD n + 4))
abbrev spPart (n : Nat) : Sp := spG (3 * drawC n + 6) (fun a => [tyIs a (.ref a), tyNs a (mostN (n + 1)), tyD a n, tyNew a, tyAny a]) (fun a => tyT a (deepD n + 4))
theorem most_le {n : Nat} (h : n ≤ 100) : mostN (n + 1) + 2 ≤ mostN n ∧ mostN n ≤ 900 := by unfold mostN; omega
theorem opTwo : ∀ z ∈ (["plus", "minus", "times", "less", "same", "joined", "pair"] : List Str), opMany z = some 2 ∧ (!inV (.str z) [.str "first", .str "rest", .str "kind", .str "written"]) = true := by decide +kernel
theorem opOne : ∀ z ∈ (["first", "rest", "kind", "written"] : List Str), opMany z = some 1 ∧ (!inV (.str z) [.str "first", .str "rest", .str "kind", .str "written"]) = false := by decide +kernel
section
variable {a : Addr} {G : List (Option (Ty a))}
theorem g_kd (z : Str) (h : z ∈ kindNames) : GE a 0 G (tC (.str z)) (tyKd a) := (g_str z).sub fun v H ⟨y, e, hy⟩ => ⟨y, e, by rw [hy]; exact h⟩
theorem g_new {i : Nat} (h : G[i]? = some (some (tyNew a))) : GE a 0 G (tVar i) (tyNm a) := (g_var h).sub fun v H ⟨y, e, hy⟩ => ⟨y, e, new_term hy⟩
theorem g_ns {i L M : Nat} (h : G[i]? = some (some (tyNs a L))) (hl : L ≤ M) : GE a 0 G (tVar i) (tyNs a M) := (g_var h).sub (tyNs_le hl)
theorem g_txt (z : Str) (h : z ∈ termTexts) : GE a 0 G (tC (.str z)) (tyS a fun z => z ∈ termTexts) := (g_str z).sub fun v H ⟨y, e, hy⟩ => ⟨y, e, by rw [hy]; exact h⟩
theorem g_op2 (z : Str) (h : opMany z = some 2) : GE a 0 G (tC (.str z)) (tyS a fun z => opMany z = some 2) := (g_str z).sub fun v H ⟨y, e, hy⟩ => ⟨y, e, by rw [hy]; exact h⟩
theorem g_fnew {i : Nat} (h : G[i]? = some (some (tyNew a))) : GE a (0 + 0) G (tOp (fun x y H Q => ∃ i j, x = .str i ∧ y = .str j ∧ i.length + j.length ≤ sizeLine ∧ Q (.str (i ++ j)) H) (tC (.str "f")) (tVar i)) (tyS a fun z => z ∈ funNames) :=
  g_addS (g_str "f") (g_var h) (fun i j hi hj => by
    have k : ∀ j ∈ newNames, ("f" : Str).length + j.length ≤ 1000 := by decide +kernel
    rw [hi]; exact k j hj) (fun i j hi hj => by
    have k : ∀ j ∈ newNames, ("f" : Str) ++ j ∈ funNames := by decide +kernel
    rw [hi]; exact k j hj)
end
section
variable {P : Program} {w : World} {K : PySem.W.Frag} {mg : Str → Option Value} {base : Heap} {f : Addr} {fd : FuncData}
theorem ok_truth {n : Nat} (hn : n ≤ 100) (F : Fun K "_law_truth" "_law_truth" s_law_truth f fd) (G_law_next : Has P w K mg base "_law_next" ["_law_dr"] 1 spNext) (G_law_leaf : Has P w K mg base "_law_leaf" ["_law_dr", "_law_ns"] 2 (spLeaf 900))
    (G_law_term : Has P w K mg base "_law_term" ["_law_dr", "_law_ns", "_law_deep"] (levT n) (spTerm n)) : FnOk P w K mg base CX0 (levT n + 1) f fd ["_law_dr", "_law_ns", "_law_deep"] (spTruth n) := by
  have hl : 3 ≤ levT n := by unfold levT; omega
  have hm := most_le hn
  refine fun_G F sc_law_truth (fun _ => rfl) (by decide) fun cdv A outer s H E hr => ⟨_, (pss_cons (ps_if (pt_cmpR op_eq (pe_op op_mod (pe_has G_law_next (hr.mono (by omega)) (pa_cons (pv 0) pa_nil)) pe_int) pe_int (nomark _)) (pss_one (ps_ret (pe_has G_law_term (hr.mono (by omega)) (pa_cons (pv 0) (pa_cons (pv 1) (pa_cons (pv 2) pa_nil)))))) pss_nil)
  (pss_one (ps_ret (pe_tup (pa_cons pe_str (pa_cons (pe_ix ix_list (pe_lst (pa_cons pe_str (pa_cons pe_str pa_nil))) (pe_op op_mod (pe_has G_law_next (hr.mono (by omega)) (pa_cons (pv 0) pa_nil)) pe_int) (fun _ _ => rfl)) (pa_cons (pe_tup (pa_cons (pe_has G_law_leaf (hr.mono (by omega)) (pa_cons (pv 0) (pa_cons (pv 1) pa_nil))) (pa_cons (pe_has G_law_leaf (hr.mono (by omega)) (pa_cons (pv 0) (pa_cons (pv 1) pa_nil))) pa_nil))) pa_nil))))))), fun a => ?_⟩
  refine GS.up (gs_ifr (g_test (g_eqI (g_mod (g_call (ga_cons (g_var rfl) ga_nil)) (by decide)) (g_int _))) (gs_ret (g_call (ga_cons (g_var rfl) (ga_cons (g_ns rfl (by omega)) (ga_cons (g_var rfl) ga_nil)))))
    (gs_ret (GE.sub (P := tyT a 1) (g_tup (ga_cons (g_str _) (ga_cons (g_ixL (k := 2) (g_lst (k := 2) (ga_cons (g_op2 _ (by decide +kernel)) (ga_cons (g_op2 _ (by decide +kernel)) ga_nil)) (by decide)) (g_mod (g_call (ga_cons (g_var rfl) ga_nil)) (by decide)) fun i hi => hi)
      (ga_cons (g_tup (ga_cons (g_call (ga_cons (g_var rfl) (ga_cons (g_ns rfl (by omega)) ga_nil))) (ga_cons (g_call (ga_cons (g_var rfl) (ga_cons (g_ns rfl (by omega)) ga_nil))) ga_nil)) fun _ _ _ => mk_u2) ga_nil))) fun _ _ _ => mk_op (fun _ h => h) fun _ h => h) (tyT_le (by unfold deepD; omega))))) ?_
  omega
theorem ok_op {n : Nat} (hn : n ≤ 100) (F : Fun K "_law_op" "_law_op" s_law_op f fd) (G_law_next : Has P w K mg base "_law_next" ["_law_dr"] 1 spNext) (m_int : mg "int" = none) (m_tuple : mg "tuple" = none) (m_range : mg "range" = none)
    (G_law_term : Has P w K mg base "_law_term" ["_law_dr", "_law_ns", "_law_deep"] (levT n) (spTerm n)) : FnOk P w K mg base CX0 (levT n + 1) f fd ["_law_dr", "_law_ns", "_law_deep"] (spOp n) := by
  have hl : 3 ≤ levT n := by unfold levT; omega
  have hm := most_le hn
  refine fun_G F sc_law_op (fun _ => rfl) (by decide) fun cdv A outer s H E hr => ⟨_, (pss_cons (ps_set (i := 3) sc_law_op.nd rfl (.inl rfl) (pe_lst (pa_cons pe_str (pa_cons pe_str (pa_cons pe_str (pa_cons pe_str (pa_cons pe_str (pa_cons pe_str (pa_cons pe_str (pa_cons pe_str (pa_cons pe_str (pa_cons pe_str (pa_cons pe_str (pa_cons pe_str pa_nil))))))))))))))
  (pss_cons (ps_set (i := 4) sc_law_op.nd rfl (.inl rfl) (pe_ix ix_list (pv 3) (pe_op op_mod (pe_has G_law_next (hr.mono (by omega)) (pa_cons (pv 0) pa_nil)) pe_int) (fun _ _ => rfl)))
  (pss_cons (ps_set (i := 5) sc_law_op.nd rfl (.inl rfl) (pe_op op_add pe_int (pe_callTy call_int1 rfl m_int PyProof.Rows.Boot.«int» (pa_cons (pe_cmpR op_notIn_seq (pv 4) (pe_lst (pa_cons pe_str (pa_cons pe_str (pa_cons pe_str (pa_cons pe_str pa_nil))))) rfl) pa_nil))))
  (pss_one (ps_ret (pe_tup (pa_cons pe_str (pa_cons (pv 4) (pa_cons (pe_callTy call_tuple_of rfl m_tuple PyProof.Rows.Boot.«tuple» (pa_cons (pe_lc (own := [("_law_turn", 6)]) (g := gName 6) (tt := tYes) (te := (tCall (spTerm n) [] E0 (tCons (tVar 0) (tCons (tVar 1) (tCons (tVar 2) tNil))))) rfl sc_law_op.nd (pi_range1 rfl m_range (pa_cons (pv 5) pa_nil)) (blkOk_by (N := sl_law_op) (sc := defScope s_law_op) (by decide +kernel)) (fun _ _ _ _ _ => (pg_name (i := 6) sc_law_op.nd rfl (.inl rfl))) (fun _ _ _ _ _ => pts_nil) (fun _ _ _ _ _ => (pe_has G_law_term (hr.mono (by omega)) (pa_cons (pv 0) (pa_cons (pv 1) (pa_cons (pv 2) pa_nil)))))) pa_nil)) pa_nil))))))))), fun a => ?_⟩
  have lit : ∀ {G : List (Option (Ty a))} (z : Str), z ∈ (["plus", "minus", "times", "less", "same", "joined", "pair", "first", "rest", "kind", "written"] : List Str) → GE a 0 G (tC (.str z)) (tyS a fun z => z ∈ (["plus", "minus", "times", "less", "same", "joined", "pair", "first", "rest", "kind", "written"] : List Str)) := fun z h => (g_str z).sub fun v H ⟨y, e, hy⟩ => ⟨y, e, by rw [hy]; exact h⟩
  refine GS.up (gs_seq (gs_set (g_lst (k := 12) (ga_cons (lit _ (by decide +kernel)) (ga_cons (lit _ (by decide +kernel)) (ga_cons (lit _ (by decide +kernel)) (ga_cons (lit _ (by decide +kernel)) (ga_cons (lit _ (by decide +kernel)) (ga_cons (lit _ (by decide +kernel)) (ga_cons (lit _ (by decide +kernel)) (ga_cons (lit _ (by decide +kernel)) (ga_cons (lit _ (by decide +kernel)) (ga_cons (lit _ (by decide +kernel)) (ga_cons (lit _ (by decide +kernel)) (ga_cons (lit _ (by decide +kernel)) ga_nil)))))))))))) (by decide)))
    (gs_seq (gs_set (g_ixL (k := 12) (g_var rfl) (g_mod (g_call (ga_cons (g_var rfl) ga_nil)) (by decide)) fun i hi => hi))
    (gs_split (i := 4) (m := 2 * drawC n) (P1 := tyS a fun z => z ∈ (["plus", "minus", "times", "less", "same", "joined", "pair"] : List Str)) (P2 := tyS a fun z => z ∈ (["first", "rest", "kind", "written"] : List Str)) rfl ?_ ?_ ?_))) ?_
  · rintro v H ⟨z, e, hz⟩
    have k : ∀ z ∈ (["plus", "minus", "times", "less", "same", "joined", "pair", "first", "rest", "kind", "written"] : List Str), z ∈ (["plus", "minus", "times", "less", "same", "joined", "pair"] : List Str) ∨ z ∈ (["first", "rest", "kind", "written"] : List Str) := by decide +kernel
    rcases k z hz with h | h
    · exact .inl ⟨z, e, h⟩
    · exact .inr ⟨z, e, h⟩
  · refine GS.up (gs_seq (gs_set (g_I0 (r := fun i => i = 2) (g_int 1) (g_intIs (g_notIn4 (g_var rfl) fun z hz => (opTwo z hz).2)) fun i j hi hj => by rw [hi, hj]; decide))
      (gs_ret (g_tup (ga_cons (g_str _) (ga_cons (g_var rfl) (ga_cons (g_tupOfp (g_lcR (K := 2) (R := tyT a (deepD n)) (ga_cons (g_var rfl) ga_nil) (fun i hi => by omega) (by decide) (fun P h => by cases h) tyT_tp (g_call (ga_cons (g_var rfl) (ga_cons (g_ns rfl (by omega)) (ga_cons (g_var rfl) ga_nil)))))) ga_nil))) fun _ _ _ => mk_op (fun z hz => (opTwo z hz).1) fun j hj => by omega))) ?_
    omega
  · refine GS.up (gs_seq (gs_set (g_I0 (r := fun i => i = 1) (g_int 1) (g_intIs (g_notIn4 (g_var rfl) fun z hz => (opOne z hz).2)) fun i j hi hj => by rw [hi, hj]; decide))
      (gs_ret (g_tup (ga_cons (g_str _) (ga_cons (g_var rfl) (ga_cons (g_tupOfp (g_lcR (K := 1) (R := tyT a (deepD n)) (ga_cons (g_var rfl) ga_nil) (fun i hi => by omega) (by decide) (fun P h => by cases h) tyT_tp (g_call (ga_cons (g_var rfl) (ga_cons (g_ns rfl (by omega)) (ga_cons (g_var rfl) ga_nil)))))) ga_nil))) fun _ _ _ => mk_op (fun z hz => (opOne z hz).1) fun j hj => by omega))) ?_
    omega
  · omega
theorem ok_loop {n : Nat} (hn : n ≤ 100) (F : Fun K "_law_loop" "_law_loop" s_law_loop f fd) (G_law_next : Has P w K mg base "_law_next" ["_law_dr"] 1 spNext) (G_law_leaf : Has P w K mg base "_law_leaf" ["_law_dr", "_law_ns"] 2 (spLeaf 900))
    (G_law_put : Has P w K mg base "_law_put" ["_law_ns", "_law_new", "_law_kind"] 1 (spPut (mostN (n + 1)))) (G_law_put2 : Has P w K mg base "_law_put" ["_law_ns", "_law_new", "_law_kind"] 1 (spPut (mostN (n + 1) + 1)))
    (G_law_term : Has P w K mg base "_law_term" ["_law_dr", "_law_ns", "_law_deep"] (levT n) (spTerm n)) : FnOk P w K mg base CX0 (levT n + 1) f fd ["_law_dr", "_law_ns", "_law_deep", "_law_new"] (spLoop n) := by
  have hl : 3 ≤ levT n := by unfold levT; omega
  have hm := most_le hn
  have hd : 2 ≤ deepD n := by unfold deepD; omega
  refine fun_G F sc_law_loop (fun _ => rfl) (by decide) fun cdv A outer s H E hr => ⟨_, (pss_cons (ps_set (i := 4) sc_law_loop.nd rfl (.inl rfl) (pe_tup (pa_cons pe_str (pa_cons (pv 3) pa_nil))))
  (pss_cons (ps_set (i := 5) sc_law_loop.nd rfl (.inl rfl) (pe_tup (pa_cons pe_str (pa_cons (pe_tup (pa_cons pe_str (pa_cons (pe_op op_add_str pe_str (pv 3)) pa_nil))) (pa_cons (pe_tup (pa_cons (pe_tup (pa_cons pe_str (pa_cons pe_str (pa_cons (pe_tup (pa_cons (pv 4) (pa_cons (pe_tup (pa_cons pe_str (pa_cons pe_int pa_nil))) pa_nil))) pa_nil)))) pa_nil)) pa_nil)))))
  (pss_cons (ps_set (i := 6) sc_law_loop.nd rfl (.inl rfl) (pe_has G_law_put2 (hr.mono (by omega)) (pa_cons (pe_has G_law_put (hr.mono (by omega)) (pa_cons (pv 1) (pa_cons (pv 3) (pa_cons pe_str pa_nil)))) (pa_cons (pe_op op_add_str pe_str (pv 3)) (pa_cons pe_str pa_nil)))))
  (pss_cons (ps_set (i := 7) sc_law_loop.nd rfl (.inl rfl) (pe_has G_law_leaf (hr.mono (by omega)) (pa_cons (pv 0) (pa_cons (pv 6) pa_nil))))
  (pss_cons (ps_set (i := 8) sc_law_loop.nd rfl (.inl rfl) (pe_tup (pa_cons pe_str (pa_cons (pe_tup (pa_cons pe_str (pa_cons pe_str (pa_cons (pe_tup (pa_cons (pv 4) (pa_cons (pe_tup (pa_cons pe_str (pa_cons pe_int pa_nil))) pa_nil))) pa_nil)))) (pa_cons (pv 7) (pa_cons (pe_tup (pa_cons pe_str (pa_cons (pe_tup (pa_cons (pe_has G_law_term (hr.mono (by omega)) (pa_cons (pv 0) (pa_cons (pv 6) (pa_cons (pv 2) pa_nil)))) (pa_cons (pv 5) pa_nil))) pa_nil))) pa_nil))))))
  (pss_one (ps_ret (pe_tup (pa_cons pe_str (pa_cons (pe_tup (pa_cons pe_str (pa_cons (pe_op op_add_str pe_str (pv 3)) (pa_cons (pe_tup (pa_cons (pv 3) pa_nil)) (pa_cons (pv 8) pa_nil))))) (pa_cons (pe_tup (pa_cons (pe_tup (pa_cons pe_str (pa_cons (pe_op op_add pe_int (pe_op op_mod (pe_has G_law_next (hr.mono (by omega)) (pa_cons (pv 0) pa_nil)) pe_int)) pa_nil))) pa_nil)) pa_nil))))))))))), fun a => ?_⟩
  have num1 : ∀ {G : List (Option (Ty a))} {m : Nat}, GE a (0 + (0 + 0)) G (tTup (tCons (tC (.str "num")) (tCons (tC (.int 1)) tNil))) (tyT a m) := fun {G m} => g_tup (ga_cons (g_str _) (ga_cons (g_int _) ga_nil)) fun _ _ _ => mk_num
  have cnt : ∀ {G : List (Option (Ty a))} {z : Str}, opMany z = some 2 → G[4]? = some (some (tyT a 0)) → GE a (0 + (0 + (0 + (0 + (0 + 0) + 0) + 0))) G (tTup (tCons (tC (.str "op")) (tCons (tC (.str z)) (tCons (tTup (tCons (tVar 4) (tCons (tTup (tCons (tC (.str "num")) (tCons (tC (.int 1)) tNil))) tNil))) tNil)))) (tyT a 1) := fun {G z} hz h4 =>
    g_tup (ga_cons (g_str _) (ga_cons (g_op2 z hz) (ga_cons (g_tup (ga_cons (g_var h4) (ga_cons num1 ga_nil)) fun _ _ _ => mk_u2) ga_nil))) fun _ _ _ => mk_op (fun _ h => h) fun _ h => h
  refine GS.up (gs_seq (gs_set (P := tyT a 0) (g_tup (ga_cons (g_str _) (ga_cons (g_var rfl) ga_nil)) fun _ _ _ => mk_name fun _ h => new_term h))
    (gs_seq (gs_set (P := tyT a 2) (g_tup (ga_cons (g_str _) (ga_cons (g_tup (ga_cons (g_str _) (ga_cons (g_fnew rfl) ga_nil)) fun _ _ _ => mk_name (n := 1) fun _ h => fun_term h) (ga_cons (g_tup (ga_cons (cnt (by decide +kernel) rfl) ga_nil) fun _ _ _ => mk_u1) ga_nil))) fun _ _ _ => mk_call fun k h => by omega))
    (gs_seq (gs_set (g_call (ga_cons (g_call (ga_cons (g_var rfl) (ga_cons (g_new rfl) (ga_cons (g_kd _ (by decide +kernel)) ga_nil)))) (ga_cons ((g_fnew rfl).sub fun v H ⟨z, e, hz⟩ => ⟨z, e, fun_term hz⟩) (ga_cons (g_kd _ (by decide +kernel)) ga_nil)))))
    (gs_seq (gs_set (g_call (ga_cons (g_var rfl) (ga_cons (g_ns rfl (by omega)) ga_nil))))
    (gs_seq (gs_set (P := tyT a (deepD n + 2)) (g_tup (ga_cons (g_str _) (ga_cons ((cnt (by decide +kernel) rfl).sub (tyT_le (by omega))) (ga_cons ((g_var rfl).sub (tyT_le (by omega))) (ga_cons (g_tup (ga_cons (g_str _) (ga_cons (g_tup (ga_cons (g_call (ga_cons (g_var rfl) (ga_cons (g_ns rfl (by omega)) (ga_cons (g_var rfl) ga_nil)))) (ga_cons ((g_var rfl).sub (tyT_le (by omega))) ga_nil)) fun _ _ _ => mk_u2) ga_nil)) fun _ _ _ => mk_do fun k h => by omega) ga_nil)))) fun _ _ _ => mk_3 fun _ _ _ => .iff))
    (gs_ret (g_tup (ga_cons (g_str _) (ga_cons (g_tup (ga_cons (g_str _) (ga_cons (g_fnew rfl) (ga_cons (g_tup (ga_cons (g_var rfl) ga_nil) fun _ _ _ => mk_u1) (ga_cons (g_var rfl) ga_nil)))) fun _ _ _ => mk_recu fun k h => by omega)
      (ga_cons (g_tup (ga_cons (g_tup (ga_cons (g_str _) (ga_cons (g_I0 (r := fun _ => True) (g_int 1) (g_mod (g_call (ga_cons (g_var rfl) ga_nil)) (by decide)) fun _ _ _ _ => trivial) ga_nil)) fun _ _ _ => mk_num) ga_nil) fun _ _ _ => mk_u1) ga_nil))) fun _ _ _ => mk_call fun k h => by omega))))))) ?_
  omega
theorem ok_points {n : Nat} (hn : n ≤ 100) (F : Fun K "_law_points" "_law_points" s_law_points f fd) (G_law_next : Has P w K mg base "_law_next" ["_law_dr"] 1 spNext) (G_law_one_of : Has P w K mg base "_law_one_of" ["_law_dr", "_law_ns", "_law_kind"] 3 (spOne 900))
    (G_law_put : Has P w K mg base "_law_put" ["_law_ns", "_law_new", "_law_kind"] 1 (spPut (mostN (n + 1)))) (m_range : mg "range" = none)
    (G_law_term : Has P w K mg base "_law_term" ["_law_dr", "_law_ns", "_law_deep"] (levT n) (spTerm n)) : FnOk P w K mg base CX0 (levT n + 1) f fd ["_law_dr", "_law_ns", "_law_deep", "_law_new", "_law_way_here"] (spPart n) := by
  have hl : 3 ≤ levT n := by unfold levT; omega
  have hm := most_le hn
  have hd : 2 ≤ deepD n := by unfold deepD; omega
  refine fun_G F sc_law_points (fun _ => rfl) (by decide) fun cdv A outer s H E hr => ⟨_, (pss_cons (ps_if (pt_cmpR op_eq (pv 4) pe_int (nomark _)) (pss_one (ps_ret (pe_tup (pa_cons pe_str (pa_cons (pv 3) (pa_cons (pe_has G_law_term (hr.mono (by omega)) (pa_cons (pv 0) (pa_cons (pe_has G_law_put (hr.mono (by omega)) (pa_cons (pv 1) (pa_cons (pv 3) (pa_cons pe_str pa_nil)))) (pa_cons (pv 2) pa_nil)))) pa_nil)))))) pss_nil)
  (pss_cons (ps_if (pt_cmpR op_eq (pv 4) pe_int (nomark _)) (pss_one (ps_ret (pe_tup (pa_cons pe_str (pa_cons (pe_has G_law_one_of (hr.mono (by omega)) (pa_cons (pv 0) (pa_cons (pv 1) (pa_cons pe_str pa_nil)))) (pa_cons (pe_has G_law_term (hr.mono (by omega)) (pa_cons (pv 0) (pa_cons (pv 1) (pa_cons (pv 2) pa_nil)))) pa_nil)))))) pss_nil)
  (pss_cons (ps_if (pt_cmpR op_eq (pv 4) pe_int (nomark _)) (pss_one (ps_ret (pe_tup (pa_cons pe_str (pa_cons (pe_ix ix_str pe_str (pe_op op_mod (pe_has G_law_next (hr.mono (by omega)) (pa_cons (pv 0) pa_nil)) pe_int) (fun _ _ => rfl)) (pa_cons (pe_has G_law_term (hr.mono (by omega)) (pa_cons (pv 0) (pa_cons (pv 1) (pa_cons (pv 2) pa_nil)))) pa_nil)))))) pss_nil)
  (pss_cons (ps_if (pt_cmpR op_eq (pv 4) pe_int (nomark _)) (pss_one (ps_ret (pe_tup (pa_cons pe_str (pa_cons (pe_ix ix_str pe_str (pe_op op_mod (pe_has G_law_next (hr.mono (by omega)) (pa_cons (pv 0) pa_nil)) pe_int) (fun _ _ => rfl)) (pa_cons (pv 3) (pa_cons (pe_has G_law_term (hr.mono (by omega)) (pa_cons (pv 0) (pa_cons (pe_has G_law_put (hr.mono (by omega)) (pa_cons (pv 1) (pa_cons (pv 3) (pa_cons pe_str pa_nil)))) (pa_cons (pv 2) pa_nil)))) pa_nil))))))) pss_nil)
  (pss_cons (ps_if (pt_cmpR op_eq (pv 4) pe_int (nomark _)) (pss_one (ps_ret (pe_tup (pa_cons pe_str (pa_cons (pe_has G_law_one_of (hr.mono (by omega)) (pa_cons (pv 0) (pa_cons (pv 1) (pa_cons pe_str pa_nil)))) (pa_cons (pe_has G_law_term (hr.mono (by omega)) (pa_cons (pv 0) (pa_cons (pv 1) (pa_cons (pv 2) pa_nil)))) pa_nil)))))) pss_nil)
  (pss_cons (ps_setLc (i := 5) (own := [("_law_turn", 6)]) (g := gName 6) (tt := tYes) (te := (tCall (spTerm n) [] E0 (tCons (tVar 0) (tCons (tVar 1) (tCons (tOp (rIxL K) (tLst (tCons (tC (.int 0)) (tCons (tVar 2) tNil))) (tOp (rI CDiv fun i j => .int (i / j)) (tOp (rI (fun _ j => 0 < j) fun i j => .int (i % j)) (tCall (spNext) [] E0 (tCons (tVar 0) tNil)) (tC (.int 3))) (tC (.int 2)))) tNil))))) rfl sc_law_points.nd rfl rfl (sw_true rfl rfl rfl (by decide +kernel)) (pi_range1 rfl m_range (pa_cons pe_int pa_nil)) (blkOk_by (N := sl_law_points) (sc := defScope s_law_points) (by decide +kernel)) (fun _ _ _ _ _ => (pg_name (i := 6) sc_law_points.nd rfl (.inl rfl))) (fun _ _ _ _ _ => pts_nil) (fun _ _ _ _ _ => (pe_has G_law_term (hr.mono (by omega)) (pa_cons (pv 0) (pa_cons (pv 1) (pa_cons (pe_ix ix_list (pe_lst (pa_cons pe_int (pa_cons (pv 2) pa_nil))) (pe_op op_fdiv (pe_op op_mod (pe_has G_law_next (hr.mono (by omega)) (pa_cons (pv 0) pa_nil)) pe_int) pe_int) (fun _ _ => rfl)) pa_nil))))))
  (pss_cons (ps_if (pt_cmpR op_eq (pe_op op_mod (pe_has G_law_next (hr.mono (by omega)) (pa_cons (pv 0) pa_nil)) pe_int) pe_int (nomark _)) (pss_one (ps_set (i := 5) sc_law_points.nd rfl (.inl rfl) (pe_lst (pa_cons (pe_tup (pa_cons pe_str (pa_cons (pe_tup (pa_cons pe_str (pa_cons pe_str pa_nil))) pa_nil))) (pa_cons (pe_tup (pa_cons pe_str (pa_cons (pe_tup (pa_cons pe_str (pa_cons pe_str pa_nil))) pa_nil))) pa_nil))))) pss_nil)
  (pss_one (ps_ret (pe_tup (pa_cons pe_str (pa_cons (pe_ix ix_list (pv 5) pe_int (fun _ _ => rfl)) (pa_cons (pe_has G_law_term (hr.mono (by omega)) (pa_cons (pv 0) (pa_cons (pv 1) (pa_cons (pv 2) pa_nil)))) (pa_cons (pe_ix ix_list (pv 5) pe_int (fun _ _ => rfl)) pa_nil)))))))))))))), fun a => ?_⟩
  have tst : ∀ {G : List (Option (Ty a))} (k : Int), G[4]? = some (some (tyAny a)) → GT a (0 + 0) G (tTest (tOp rEq (tVar 4) (tC (.int k)))) := fun k h => g_test (g_eqI (g_var h) (g_int k))
  have trm : ∀ {G : List (Option (Ty a))}, G[0]? = some (some (tyIs a (.ref a))) → G[1]? = some (some (tyNs a (mostN (n + 1)))) → G[2]? = some (some (tyD a n)) → GE a (0 + (0 + (0 + 0)) + drawC n) G (tCall (spTerm n) [] E0 (tCons (tVar 0) (tCons (tVar 1) (tCons (tVar 2) tNil)))) (tyT a (deepD n)) := fun h0 h1 h2 => g_call (ga_cons (g_var h0) (ga_cons (g_ns h1 (by omega)) (ga_cons (g_var h2) ga_nil)))
  have trp : ∀ {G : List (Option (Ty a))} (z : Str), z ∈ kindNames → G[0]? = some (some (tyIs a (.ref a))) → G[1]? = some (some (tyNs a (mostN (n + 1)))) → G[2]? = some (some (tyD a n)) → G[3]? = some (some (tyNew a)) → GE a (0 + ((0 + (0 + (0 + 0)) + 0) + (0 + 0)) + drawC n) G (tCall (spTerm n) [] E0 (tCons (tVar 0) (tCons (tCall (spPut (mostN (n + 1))) [] E0 (tCons (tVar 1) (tCons (tVar 3) (tCons (tC (.str z)) tNil)))) (tCons (tVar 2) tNil)))) (tyT a (deepD n)) := fun z hz h0 h1 h2 h3 => g_call (ga_cons (g_var h0) (ga_cons (GE.sub (g_call (ga_cons (g_var h1) (ga_cons (g_new h3) (ga_cons (g_kd z hz) ga_nil)))) (tyNs_le (by omega))) (ga_cons (g_var h2) ga_nil)))
  have one : ∀ {G : List (Option (Ty a))} (z : Str), z ∈ kindNames → G[0]? = some (some (tyIs a (.ref a))) → G[1]? = some (some (tyNs a (mostN (n + 1)))) → GE a (0 + (0 + (0 + 0)) + 2) G (tCall (spOne 900) [] E0 (tCons (tVar 0) (tCons (tVar 1) (tCons (tC (.str z)) tNil)))) (tyT a (deepD n)) := fun z hz h0 h1 => (g_call (ga_cons (g_var h0) (ga_cons (g_ns h1 (by omega)) (ga_cons (g_kd z hz) ga_nil)))).sub (tyT_le (by omega))
  have up : ∀ {G : List (Option (Ty a))} {m k : Nat} {te : TE}, GE a m G te (tyT a k) → k ≤ deepD n + 4 → GS a m G (tRet te) none (tyT a (deepD n + 4)) := fun h hk => gs_ret (h.sub (tyT_le hk))
  refine GS.up (gs_ifr (tst 0 rfl) (up (k := deepD n + 1) (g_tup (ga_cons (g_str _) (ga_cons (g_var rfl) (ga_cons (trp _ (by decide +kernel) rfl rfl rfl rfl) ga_nil))) fun _ _ _ => mk_s1 fun z d hz => .catc (new_term hz)) (by omega))
    (gs_ifr (tst 1 rfl) (up (k := deepD n + 1) (g_tup (ga_cons (g_str _) (ga_cons (one _ (by decide +kernel) rfl rfl) (ga_cons (trm rfl rfl rfl) ga_nil))) fun _ _ _ => mk_2 fun _ _ => .go) (by omega))
    (gs_ifr (tst 2 rfl) (up (k := deepD n + 1) (g_tup (ga_cons (g_str _) (ga_cons (g_ixS (f := fun z => z ∈ termTags) (g_mod (g_call (ga_cons (g_var rfl) ga_nil)) (by decide)) (by decide) (fun i hi => hi) (by decide +kernel)) (ga_cons (trm rfl rfl rfl) ga_nil))) fun _ _ _ => mk_s1 fun z d hz => .mark hz) (by omega))
    (gs_ifr (tst 3 rfl) (up (k := deepD n + 1) (g_tup (ga_cons (g_str _) (ga_cons (g_ixS (f := fun z => z ∈ termTags) (g_mod (g_call (ga_cons (g_var rfl) ga_nil)) (by decide)) (by decide) (fun i hi => hi) (by decide +kernel)) (ga_cons (g_var rfl) (ga_cons (trp _ (by decide +kernel) rfl rfl rfl rfl) ga_nil)))) fun _ _ _ => mk_ss1 fun z y d hz hy => .take hz (new_term hy)) (by omega))
    (gs_ifr (tst 4 rfl) (up (k := deepD n + 1) (g_tup (ga_cons (g_str _) (ga_cons (one _ (by decide +kernel) rfl rfl) (ga_cons (trm rfl rfl rfl) ga_nil))) fun _ _ _ => mk_2 fun _ _ => .use) (by omega))
    (gs_seq (gs_set (P := tyL a 2 (tyT a (deepD n))) (GE.sub (g_lcR (K := 2) (R := tyT a (deepD n)) (ga_cons (g_int 2) ga_nil) (fun i hi => by omega) (by decide) (fun P h => by cases h) tyT_tp (g_call (ga_cons (g_var rfl) (ga_cons (g_ns rfl (by omega)) (ga_cons (g_ixL (k := 2) (R := tyD a n) (g_lst (k := 2) (ga_cons ((g_int 0).sub fun v H ⟨i, e, hi⟩ => ⟨i, e, by omega⟩) (ga_cons (g_var rfl) ga_nil)) (by decide)) (g_div (r := fun i => 0 ≤ i ∧ i < 2) (g_mod (g_call (ga_cons (g_var rfl) ga_nil)) (by decide)) (by decide) fun i hi => by omega) fun i hi => hi) ga_nil))))) fun v H ⟨k, hk, h⟩ => by
        have e : k = 2 := by omega
        rw [← e]; exact h))
    (gs_seq (gs_ifs (g_test (g_eqI (g_mod (g_call (ga_cons (g_var rfl) ga_nil)) (by decide)) (g_int _))) (gs_set (P := tyL a 2 (tyT a (deepD n))) (g_lst (k := 2) (ga_cons (GE.sub (P := tyT a 1) (g_tup (ga_cons (g_str _) (ga_cons (g_tup (ga_cons (g_str _) (ga_cons (g_txt _ (by decide +kernel)) ga_nil)) fun _ _ _ => mk_text) ga_nil)) fun _ _ _ => mk_1 fun _ => .say) (tyT_le (by omega))) (ga_cons (GE.sub (P := tyT a 1) (g_tup (ga_cons (g_str _) (ga_cons (g_tup (ga_cons (g_str _) (ga_cons (g_txt _ (by decide +kernel)) ga_nil)) fun _ _ _ => mk_text) ga_nil)) fun _ _ _ => mk_1 fun _ => .say) (tyT_le (by omega))) ga_nil)) (by decide))))
    (up (k := deepD n + 1) (g_tup (ga_cons (g_str _) (ga_cons (g_ixL (k := 2) (g_var rfl) (g_int 0) fun i hi => by omega) (ga_cons (trm rfl rfl rfl) (ga_cons (g_ixL (k := 2) (g_var rfl) (g_int 1) fun i hi => by omega) ga_nil)))) fun _ _ _ => mk_3 fun _ _ _ => .wind) (by omega))))))))) ?_
  omega
theorem ok_cells {n : Nat} (hn : n ≤ 100) (F : Fun K "_law_cells" "_law_cells" s_law_cells f fd) (G_law_next : Has P w K mg base "_law_next" ["_law_dr"] 1 spNext) (G_law_leaf : Has P w K mg base "_law_leaf" ["_law_dr", "_law_ns"] 2 (spLeaf 900)) (G_law_one_of : Has P w K mg base "_law_one_of" ["_law_dr", "_law_ns", "_law_kind"] 3 (spOne 900))
    (G_law_put : Has P w K mg base "_law_put" ["_law_ns", "_law_new", "_law_kind"] 1 (spPut (mostN (n + 1))))
    (G_law_term : Has P w K mg base "_law_term" ["_law_dr", "_law_ns", "_law_deep"] (levT n) (spTerm n)) : FnOk P w K mg base CX0 (levT n + 1) f fd ["_law_dr", "_law_ns", "_law_deep", "_law_new", "_law_way_here"] (spPart n) := by
  have hl : 3 ≤ levT n := by unfold levT; omega
  have hm := most_le hn
  have hd : 2 ≤ deepD n := by unfold deepD; omega
  refine fun_G F sc_law_cells (fun _ => rfl) (by decide) fun cdv A outer s H E hr => ⟨_, (pss_cons (ps_if (pt_cmpR op_eq (pv 4) pe_int (nomark _)) (pss_cons (ps_set (i := 5) sc_law_cells.nd rfl (.inl rfl) (pe_has G_law_term (hr.mono (by omega)) (pa_cons (pv 0) (pa_cons (pv 1) (pa_cons (pv 2) pa_nil)))))
  (pss_one (ps_ret (pe_tup (pa_cons pe_str (pa_cons (pv 3) (pa_cons (pe_tup (pa_cons pe_str (pa_cons (pv 5) pa_nil))) (pa_cons (pe_has G_law_term (hr.mono (by omega)) (pa_cons (pv 0) (pa_cons (pe_has G_law_put (hr.mono (by omega)) (pa_cons (pv 1) (pa_cons (pv 3) (pa_cons pe_str pa_nil)))) (pa_cons (pv 2) pa_nil)))) pa_nil)))))))) pss_nil)
  (pss_cons (ps_if (pt_cmpR op_eq (pv 4) pe_int (nomark _)) (pss_cons (ps_set (i := 6) sc_law_cells.nd rfl (.inl rfl) (pe_ix ix_list (pe_lst (pa_cons pe_str (pa_cons pe_str (pa_cons pe_str pa_nil)))) (pe_op op_mod (pe_has G_law_next (hr.mono (by omega)) (pa_cons (pv 0) pa_nil)) pe_int) (fun _ _ => rfl)))
  (pss_one (ps_ret (pe_tup (pa_cons pe_str (pa_cons (pe_has G_law_one_of (hr.mono (by omega)) (pa_cons (pv 0) (pa_cons (pv 1) (pa_cons pe_str pa_nil)))) (pa_cons (pe_has G_law_one_of (hr.mono (by omega)) (pa_cons (pv 0) (pa_cons (pv 1) (pa_cons (pv 6) pa_nil)))) pa_nil))))))) pss_nil)
  (pss_cons (ps_if (pt_cmpR op_eq (pv 4) pe_int (nomark _)) (pss_one (ps_ret (pe_tup (pa_cons pe_str (pa_cons (pe_tup (pa_cons pe_str (pa_cons (pe_has G_law_one_of (hr.mono (by omega)) (pa_cons (pv 0) (pa_cons (pv 1) (pa_cons pe_str pa_nil)))) pa_nil))) (pa_cons (pe_has G_law_leaf (hr.mono (by omega)) (pa_cons (pv 0) (pa_cons (pv 1) pa_nil))) pa_nil)))))) pss_nil)
  (pss_one (ps_ret (pe_tup (pa_cons pe_str (pa_cons (pe_has G_law_one_of (hr.mono (by omega)) (pa_cons (pv 0) (pa_cons (pv 1) (pa_cons pe_str pa_nil)))) pa_nil)))))))), fun a => ?_⟩
  have tst : ∀ {G : List (Option (Ty a))} (k : Int), G[4]? = some (some (tyAny a)) → GT a (0 + 0) G (tTest (tOp rEq (tVar 4) (tC (.int k)))) := fun k h => g_test (g_eqI (g_var h) (g_int k))
  have up : ∀ {G : List (Option (Ty a))} {m k : Nat} {te : TE}, GE a m G te (tyT a k) → k ≤ deepD n + 4 → GS a m G (tRet te) none (tyT a (deepD n + 4)) := fun h hk => gs_ret (h.sub (tyT_le hk))
  refine GS.up (gs_ifr (tst 0 rfl) (gs_seq (gs_set (g_call (ga_cons (g_var rfl) (ga_cons (g_ns rfl (by omega)) (ga_cons (g_var rfl) ga_nil))))) (up (k := deepD n + 2) (g_tup (ga_cons (g_str _) (ga_cons (g_var rfl) (ga_cons (g_tup (ga_cons (g_str _) (ga_cons (g_var rfl) ga_nil)) fun _ _ _ => mk_1 fun _ => .cell) (ga_cons (GE.sub (g_call (ga_cons (g_var rfl) (ga_cons (GE.sub (g_call (ga_cons (g_var rfl) (ga_cons (g_new rfl) (ga_cons (g_kd _ (by decide +kernel)) ga_nil)))) (tyNs_le (by omega))) (ga_cons (g_var rfl) ga_nil)))) (tyT_le (by omega))) ga_nil)))) fun _ _ _ => mk_s2 fun z d e hz => .lett (new_term hz)) (by omega)))
    (gs_ifr (tst 1 rfl) (gs_seq (gs_set (g_ixL (k := 3) (R := tyKd a) (g_lst (k := 3) (ga_cons (g_kd _ (by decide +kernel)) (ga_cons (g_kd _ (by decide +kernel)) (ga_cons (g_kd _ (by decide +kernel)) ga_nil))) (by decide)) (g_mod (g_call (ga_cons (g_var rfl) ga_nil)) (by decide)) fun i hi => hi)) (up (k := 1) (g_tup (ga_cons (g_str _) (ga_cons (g_call (ga_cons (g_var rfl) (ga_cons (g_ns rfl (by omega)) (ga_cons (g_kd _ (by decide +kernel)) ga_nil)))) (ga_cons (g_call (ga_cons (g_var rfl) (ga_cons (g_ns rfl (by omega)) (ga_cons (g_var rfl) ga_nil)))) ga_nil))) fun _ _ _ => mk_2 fun _ _ => .sett) (by omega)))
    (gs_ifr (tst 2 rfl) (up (k := 2) (g_tup (ga_cons (g_str _) (ga_cons (g_tup (ga_cons (g_str _) (ga_cons (g_call (ga_cons (g_var rfl) (ga_cons (g_ns rfl (by omega)) (ga_cons (g_kd _ (by decide +kernel)) ga_nil)))) ga_nil)) fun _ _ _ => mk_1 fun _ => .get) (ga_cons (GE.sub (g_call (ga_cons (g_var rfl) (ga_cons (g_ns rfl (by omega)) ga_nil))) (tyT_le (by omega))) ga_nil))) fun _ _ _ => mk_2 fun _ _ => .go) (by omega))
    (up (k := 1) (g_tup (ga_cons (g_str _) (ga_cons (g_call (ga_cons (g_var rfl) (ga_cons (g_ns rfl (by omega)) (ga_cons (g_kd _ (by decide +kernel)) ga_nil)))) ga_nil)) fun _ _ _ => mk_1 fun _ => .get) (by omega))))) ?_
  omega
end
end Wp
set_option Elab.async false
set_option linter.all false
set_option maxRecDepth 100000
namespace Wp
open PySem L2
-- _law_plain: slots _law_dr 0, _law_ns 1, _law_deep 2, _law_new 3, _law_way_here 4, _law_kept 5, _law_one 6, _law_two 7, _law_body 8, _law_others 9, _law_turn 10
abbrev s_law_plain : Stmt := top 23
theorem sc_law_plain : FnScope ["_law_dr", "_law_ns", "_law_deep", "_law_new", "_law_way_here", "_law_kept", "_law_one", "_law_two", "_law_body", "_law_others", "_law_turn"] ["_law_dr", "_law_ns", "_law_deep", "_law_new", "_law_way_here"] (defScope s_law_plain) := ⟨rfl, rfl, rfl, by decide +kernel, rfl, by decide +kernel, by decide +kernel⟩
abbrev sl_law_plain : List Str := ["_law_dr", "_law_ns", "_law_deep", "_law_new", "_law_way_here", "_law_kept", "_law_one", "_law_two", "_law_body", "_law_others", "_law_turn"]
-- _law_term: slots _law_dr 0, _law_ns 1, _law_deep 2, _law_pick 3, _law_new 4, _law_handler 5, _law_row 6
abbrev s_law_term : Stmt := top 25
theorem sc_law_term : FnScope ["_law_dr", "_law_ns", "_law_deep", "_law_pick", "_law_new", "_law_handler", "_law_row"] ["_law_dr", "_law_ns", "_law_deep"] (defScope s_law_term) := ⟨rfl, rfl, rfl, by decide +kernel, rfl, by decide +kernel, by decide +kernel⟩
abbrev sl_law_term : List Str := ["_law_dr", "_law_ns", "_law_deep", "_law_pick", "_law_new", "_law_handler", "_law_row"]
section
variable {P : Program} {w : World} {K : PySem.W.Frag} {mg : Str → Option Value} {base : Heap} {f : Addr} {fd : FuncData}
theorem ok_plain {n : Nat} (hn : n ≤ 100) (F : Fun K "_law_plain" "_law_plain" s_law_plain f fd) (G_law_next : Has P w K mg base "_law_next" ["_law_dr"] 1 spNext) (G_law_leaf : Has P w K mg base "_law_leaf" ["_law_dr", "_law_ns"] 2 (spLeaf 900))
    (G_law_put : Has P w K mg base "_law_put" ["_law_ns", "_law_new", "_law_kind"] 1 (spPut (mostN (n + 1)))) (m_range : mg "range" = none) (m_tuple : mg "tuple" = none)
    (G_law_truth : Has P w K mg base "_law_truth" ["_law_dr", "_law_ns", "_law_deep"] (levT n + 1) (spTruth n)) (G_law_op : Has P w K mg base "_law_op" ["_law_dr", "_law_ns", "_law_deep"] (levT n + 1) (spOp n)) (G_law_loop : Has P w K mg base "_law_loop" ["_law_dr", "_law_ns", "_law_deep", "_law_new"] (levT n + 1) (spLoop n))
    (G_law_term : Has P w K mg base "_law_term" ["_law_dr", "_law_ns", "_law_deep"] (levT n) (spTerm n)) : FnOk P w K mg base CX0 (levT n + 1 + 1) f fd ["_law_dr", "_law_ns", "_law_deep", "_law_new", "_law_way_here"] (spPart n) := by
  have hl : 3 ≤ levT n := by unfold levT; omega
  have hm := most_le hn
  have hd : 2 ≤ deepD n := by unfold deepD; omega
  refine fun_G F sc_law_plain (fun _ => rfl) (by decide) fun cdv A outer s H E hr => ⟨_, (pss_cons (ps_if (pt_cmpR op_eq (pv 4) pe_int (nomark _)) (pss_cons (ps_set (i := 5) sc_law_plain.nd rfl (.inl rfl) (pe_has G_law_term (hr.mono (by omega)) (pa_cons (pv 0) (pa_cons (pv 1) (pa_cons (pv 2) pa_nil)))))
  (pss_one (ps_ret (pe_tup (pa_cons pe_str (pa_cons (pv 3) (pa_cons (pv 5) (pa_cons (pe_has G_law_term (hr.mono (by omega)) (pa_cons (pv 0) (pa_cons (pe_has G_law_put (hr.mono (by omega)) (pa_cons (pv 1) (pa_cons (pv 3) (pa_cons pe_str pa_nil)))) (pa_cons (pv 2) pa_nil)))) pa_nil)))))))) pss_nil)
  (pss_cons (ps_if (pt_cmpR op_eq (pv 4) pe_int (nomark _)) (pss_cons (ps_par (i := 6) (j := 7) rfl sc_law_plain.nd rfl rfl (by decide) rfl rfl (pa_cons (pe_has G_law_term (hr.mono (by omega)) (pa_cons (pv 0) (pa_cons (pv 1) (pa_cons (pv 2) pa_nil)))) (pa_cons (pe_has G_law_term (hr.mono (by omega)) (pa_cons (pv 0) (pa_cons (pv 1) (pa_cons (pv 2) pa_nil)))) pa_nil)) rfl)
  (pss_one (ps_ret (pe_tup (pa_cons pe_str (pa_cons (pe_has G_law_truth (hr.mono (by omega)) (pa_cons (pv 0) (pa_cons (pv 1) (pa_cons (pv 2) pa_nil)))) (pa_cons (pv 6) (pa_cons (pv 7) pa_nil)))))))) pss_nil)
  (pss_cons (ps_if (pt_cmpR op_eq (pv 4) pe_int (nomark _)) (pss_one (ps_ret (pe_tup (pa_cons pe_str (pa_cons (pe_callTy call_tuple_of rfl m_tuple PyProof.Rows.Boot.«tuple» (pa_cons (pe_lc (own := [("_law_turn", 10)]) (g := gName 10) (tt := tYes) (te := (tCall (spTerm n) [] E0 (tCons (tVar 0) (tCons (tVar 1) (tCons (tVar 2) tNil))))) rfl sc_law_plain.nd (pi_range1 rfl m_range (pa_cons (pe_op op_add pe_int (pe_op op_mod (pe_has G_law_next (hr.mono (by omega)) (pa_cons (pv 0) pa_nil)) pe_int)) pa_nil)) (blkOk_by (N := sl_law_plain) (sc := defScope s_law_plain) (by decide +kernel)) (fun _ _ _ _ _ => (pg_name (i := 10) sc_law_plain.nd rfl (.inl rfl))) (fun _ _ _ _ _ => pts_nil) (fun _ _ _ _ _ => (pe_has G_law_term (hr.mono (by omega)) (pa_cons (pv 0) (pa_cons (pv 1) (pa_cons (pv 2) pa_nil)))))) pa_nil)) pa_nil))))) pss_nil)
  (pss_cons (ps_if (pt_cmpR op_eq (pv 4) pe_int (nomark _)) (pss_one (ps_ret (pe_has G_law_op (hr.mono (by omega)) (pa_cons (pv 0) (pa_cons (pv 1) (pa_cons (pv 2) pa_nil)))))) pss_nil)
  (pss_cons (ps_if (pt_cmpR op_eq (pv 4) pe_int (nomark _)) (pss_cons (ps_set (i := 8) sc_law_plain.nd rfl (.inl rfl) (pe_has G_law_term (hr.mono (by omega)) (pa_cons (pv 0) (pa_cons (pe_has G_law_put (hr.mono (by omega)) (pa_cons (pv 1) (pa_cons (pv 3) (pa_cons pe_str pa_nil)))) (pa_cons (pv 2) pa_nil)))))
  (pss_one (ps_ret (pe_tup (pa_cons pe_str (pa_cons (pe_tup (pa_cons pe_str (pa_cons (pe_tup (pa_cons (pv 3) pa_nil)) (pa_cons (pv 8) pa_nil)))) (pa_cons (pe_tup (pa_cons (pe_has G_law_term (hr.mono (by omega)) (pa_cons (pv 0) (pa_cons (pv 1) (pa_cons (pv 2) pa_nil)))) pa_nil)) pa_nil))))))) pss_nil)
  (pss_cons (ps_if (pt_cmpR op_eq (pv 4) pe_int (nomark _)) (pss_one (ps_ret (pe_has G_law_loop (hr.mono (by omega)) (pa_cons (pv 0) (pa_cons (pv 1) (pa_cons (pv 2) (pa_cons (pv 3) pa_nil))))))) pss_nil)
  (pss_cons (ps_if (pt_cmpR op_eq (pv 4) pe_int (nomark _)) (pss_cons (ps_set (i := 9) sc_law_plain.nd rfl (.inl rfl) (pe_ix ix_list (pe_lst (pa_cons (pe_tup pa_nil) (pa_cons (pe_tup pa_nil) (pa_cons (pe_tup pa_nil) (pa_cons (pe_tup (pa_cons (pe_has G_law_leaf (hr.mono (by omega)) (pa_cons (pv 0) (pa_cons (pv 1) pa_nil))) pa_nil)) pa_nil))))) (pe_op op_mod (pe_has G_law_next (hr.mono (by omega)) (pa_cons (pv 0) pa_nil)) pe_int) (fun _ _ => rfl)))
  (pss_one (ps_ret (pe_tup (pa_cons pe_str (pa_cons (pv 3) (pa_cons (pe_tup (pa_cons pe_str (pa_cons (pe_tup pa_nil) (pa_cons (pe_has G_law_term (hr.mono (by omega)) (pa_cons (pv 0) (pa_cons (pv 1) (pa_cons (pv 2) pa_nil)))) pa_nil)))) (pa_cons (pe_tup (pa_cons pe_str (pa_cons (pe_tup (pa_cons pe_str (pa_cons (pv 3) pa_nil))) (pa_cons (pv 9) pa_nil)))) pa_nil)))))))) pss_nil)
  (pss_one (ps_ret (pe_tup (pa_cons pe_str (pa_cons (pe_has G_law_term (hr.mono (by omega)) (pa_cons (pv 0) (pa_cons (pv 1) (pa_cons (pv 2) pa_nil)))) pa_nil)))))))))))), fun a => ?_⟩
  have tst : ∀ {G : List (Option (Ty a))} (k : Int), G[4]? = some (some (tyAny a)) → GT a (0 + 0) G (tTest (tOp rEq (tVar 4) (tC (.int k)))) := fun k h => g_test (g_eqI (g_var h) (g_int k))
  have trm : ∀ {G : List (Option (Ty a))}, G[0]? = some (some (tyIs a (.ref a))) → G[1]? = some (some (tyNs a (mostN (n + 1)))) → G[2]? = some (some (tyD a n)) → GE a (0 + (0 + (0 + 0)) + drawC n) G (tCall (spTerm n) [] E0 (tCons (tVar 0) (tCons (tVar 1) (tCons (tVar 2) tNil)))) (tyT a (deepD n)) := fun h0 h1 h2 => g_call (ga_cons (g_var h0) (ga_cons (g_ns h1 (by omega)) (ga_cons (g_var h2) ga_nil)))
  have trp : ∀ {G : List (Option (Ty a))} (z : Str), z ∈ kindNames → G[0]? = some (some (tyIs a (.ref a))) → G[1]? = some (some (tyNs a (mostN (n + 1)))) → G[2]? = some (some (tyD a n)) → G[3]? = some (some (tyNew a)) → GE a (0 + ((0 + (0 + (0 + 0)) + 0) + (0 + 0)) + drawC n) G (tCall (spTerm n) [] E0 (tCons (tVar 0) (tCons (tCall (spPut (mostN (n + 1))) [] E0 (tCons (tVar 1) (tCons (tVar 3) (tCons (tC (.str z)) tNil)))) (tCons (tVar 2) tNil)))) (tyT a (deepD n)) := fun z hz h0 h1 h2 h3 => g_call (ga_cons (g_var h0) (ga_cons (GE.sub (g_call (ga_cons (g_var h1) (ga_cons (g_new h3) (ga_cons (g_kd z hz) ga_nil)))) (tyNs_le (by omega))) (ga_cons (g_var h2) ga_nil)))
  have up : ∀ {G : List (Option (Ty a))} {m k : Nat} {te : TE}, GE a m G te (tyT a k) → k ≤ deepD n + 4 → GS a m G (tRet te) none (tyT a (deepD n + 4)) := fun h hk => gs_ret (h.sub (tyT_le hk))
  refine GS.up (gs_ifr (tst 0 rfl) (gs_seq (gs_set (trm rfl rfl rfl)) (up (k := deepD n + 1) (g_tup (ga_cons (g_str _) (ga_cons (g_var rfl) (ga_cons (g_var rfl) (ga_cons (trp _ (by decide +kernel) rfl rfl rfl rfl) ga_nil)))) fun _ _ _ => mk_s2 fun z d e hz => .lett (new_term hz)) (by omega)))
    (gs_ifr (tst 1 rfl) (gs_seq (gs_par (ga_cons (trm rfl rfl rfl) (ga_cons (trm rfl rfl rfl) ga_nil))) (up (k := deepD n + 1) (g_tup (ga_cons (g_str _) (ga_cons (g_call (ga_cons (g_var rfl) (ga_cons (g_var rfl) (ga_cons (g_var rfl) ga_nil)))) (ga_cons (g_var rfl) (ga_cons (g_var rfl) ga_nil)))) fun _ _ _ => mk_3 fun _ _ _ => .iff) (by omega)))
    (gs_ifr (tst 2 rfl) (up (k := deepD n + 1) (g_tup (ga_cons (g_str _) (ga_cons (g_tupOfp (g_lcR (K := 3) (R := tyT a (deepD n)) (ga_cons (g_I0 (r := fun i => 1 ≤ i ∧ i ≤ 3) (g_int 1) (g_mod (g_call (ga_cons (g_var rfl) ga_nil)) (by decide)) fun i j hi hj => by omega) ga_nil) (fun i hi => by omega) (by decide) (fun P h => by cases h) tyT_tp (trm rfl rfl rfl))) ga_nil)) fun _ _ _ => mk_do fun k hk => by omega) (by omega))
    (gs_ifr (tst 3 rfl) (up (k := deepD n + 1) (g_call (ga_cons (g_var rfl) (ga_cons (g_var rfl) (ga_cons (g_var rfl) ga_nil)))) (by omega))
    (gs_ifr (tst 4 rfl) (gs_seq (gs_set (trp _ (by decide +kernel) rfl rfl rfl rfl)) (up (k := deepD n + 2) (g_tup (ga_cons (g_str _) (ga_cons (g_tup (ga_cons (g_str _) (ga_cons (g_tup (ga_cons (g_var rfl) ga_nil) fun _ _ _ => mk_u1) (ga_cons (g_var rfl) ga_nil))) fun _ _ _ => mk_func fun k h => by omega) (ga_cons (g_tup (ga_cons ((trm rfl rfl rfl).sub (tyT_le (by omega))) ga_nil) fun _ _ _ => mk_u1) ga_nil))) fun _ _ _ => mk_call fun k h => by omega) (by omega)))
    (gs_ifr (tst 5 rfl) (up (k := deepD n + 4) (g_call (ga_cons (g_var rfl) (ga_cons (g_var rfl) (ga_cons (g_var rfl) (ga_cons (g_var rfl) ga_nil))))) (by omega))
    (gs_ifr (tst 6 rfl) (gs_seq (gs_set (g_ixL (k := 4) (R := tyU a (fun k => k ≤ 1) (tyT a 0)) (g_lst (k := 4) (ga_cons (GE.sub (g_tup ga_nil fun _ _ _ => mk_u0 (R := tyT a 0)) (tyU_le (fun k h => by omega) (Nat.le_refl _))) (ga_cons (GE.sub (g_tup ga_nil fun _ _ _ => mk_u0 (R := tyT a 0)) (tyU_le (fun k h => by omega) (Nat.le_refl _))) (ga_cons (GE.sub (g_tup ga_nil fun _ _ _ => mk_u0 (R := tyT a 0)) (tyU_le (fun k h => by omega) (Nat.le_refl _))) (ga_cons (GE.sub (g_tup (ga_cons (g_call (ga_cons (g_var rfl) (ga_cons (g_ns rfl (by omega)) ga_nil))) ga_nil) fun _ _ _ => mk_u1) (tyU_le (fun k h => by omega) (Nat.le_refl _))) ga_nil)))) (by decide)) (g_mod (g_call (ga_cons (g_var rfl) ga_nil)) (by decide)) fun i hi => hi))
      (up (k := deepD n + 2) (g_tup (ga_cons (g_str _) (ga_cons (g_var rfl) (ga_cons (g_tup (ga_cons (g_str _) (ga_cons (g_tup ga_nil fun _ _ _ => mk_u0 (R := tyNew a)) (ga_cons (trm rfl rfl rfl) ga_nil))) fun _ _ _ => mk_func fun k h => by omega) (ga_cons (GE.sub (P := tyT a 1) (g_tup (ga_cons (g_str _) (ga_cons (g_tup (ga_cons (g_str _) (ga_cons (g_var rfl) ga_nil)) fun _ _ _ => mk_name (n := 0) fun _ h => new_term h) (ga_cons (g_var rfl) ga_nil))) fun _ _ _ => mk_call fun k h => by omega) (tyT_le (by omega))) ga_nil)))) fun _ _ _ => mk_s2 fun z d e hz => .lett (new_term hz)) (by omega)))
    (up (k := deepD n + 1) (g_tup (ga_cons (g_str _) (ga_cons (trm rfl rfl rfl) ga_nil)) fun _ _ _ => mk_1 fun _ => .say) (by omega))))))))) ?_
  omega
theorem ok_term0 (F : Fun K "_law_term" "_law_term" s_law_term f fd) (G_law_leaf : Has P w K mg base "_law_leaf" ["_law_dr", "_law_ns"] 2 (spLeaf 900)) : FnOk P w K mg base CX0 (levT 0) f fd ["_law_dr", "_law_ns", "_law_deep"] (spTerm 0) := by
  refine F.ok sc_law_term (fun vs H Q E h => ?_) (fun cdv A outer s H vs Q E hr h => ?_)
  · obtain ⟨a, n, _, _, ps, _⟩ := h
    exact ps.len
  obtain ⟨a, n, hn, d, ps, q⟩ := h
  obtain ⟨_, _, _, rfl, rfl, hns, ⟨i, rfl, hi⟩⟩ := all3 ps
  refine ⟨_, pss_cons (ps_if (pt_cmpR op_lt (pv 2) pe_int (nomark _)) (pss_one (ps_ret (pe_has G_law_leaf (hr.mono (by decide)) (pa_cons (pv 0) (pa_cons (pv 1) pa_nil))))) pss_nil) pss_never, ?_⟩
  refine ⟨_, rfl, _, _, rfl, rfl, _, rfl, ?_⟩
  have hi' : i ≤ 0 := hi
  refine ite2 (fun _ => ?_) (fun c => absurd (decide_eq_true (by omega : i < 1)) c)
  refine ⟨_, rfl, _, rfl, a, n, hn, d, .cons rfl (.cons (tyNs_le (by decide) _ _ hns) .nil), fun v H' g d' p => q v H' g d' (tyT_le (by decide) _ _ p)⟩
theorem x_new : ∀ i : Int, 0 ≤ i ∧ i < 3 → ((toString i : String) : Str) ∈ (["0", "1", "2"] : List Str) := by
  intro i hi
  have h : i = 0 ∨ i = 1 ∨ i = 2 := by omega
  rcases h with h | h | h <;> rw [h] <;> decide +kernel
theorem ok_term {n : Nat} (hn : n ≤ 100) (F : Fun K "_law_term" "_law_term" s_law_term f fd) (G_law_next : Has P w K mg base "_law_next" ["_law_dr"] 1 spNext) (G_law_leaf : Has P w K mg base "_law_leaf" ["_law_dr", "_law_ns"] 2 (spLeaf 900)) (G_law_way : Has P w K mg base "_law_way" ["_law_dr", "_law_ns", "_law_way_here"] 2 (spWay 900))
    (G_law_put : Has P w K mg base "_law_put" ["_law_ns", "_law_new", "_law_kind"] 1 (spPut (mostN (n + 1)))) (m_str : mg "str" = none) (m_int : mg "int" = none)
    (G_law_points : Has P w K mg base "_law_points" ["_law_dr", "_law_ns", "_law_deep", "_law_new", "_law_way_here"] (levT n + 1) (spPart n)) (G_law_cells : Has P w K mg base "_law_cells" ["_law_dr", "_law_ns", "_law_deep", "_law_new", "_law_way_here"] (levT n + 1) (spPart n)) (G_law_plain : Has P w K mg base "_law_plain" ["_law_dr", "_law_ns", "_law_deep", "_law_new", "_law_way_here"] (levT n + 1 + 1) (spPart n))
    (G_law_term : Has P w K mg base "_law_term" ["_law_dr", "_law_ns", "_law_deep"] (levT n) (spTerm n)) : FnOk P w K mg base CX0 (levT n + 2 + 1) f fd ["_law_dr", "_law_ns", "_law_deep"] (spTerm (n + 1)) := by
  have hl : 3 ≤ levT n := by unfold levT; omega
  have hm := most_le hn
  have hd : 2 ≤ deepD n := by unfold deepD; omega
  have he : deepD (n + 1) = deepD n + 4 := by unfold deepD; omega
  refine fun_G F sc_law_term (fun _ => rfl) (by decide) fun cdv A outer s H E hr => ⟨_, (pss_cons (ps_if (pt_cmpR op_lt (pv 2) pe_int (nomark _)) (pss_one (ps_ret (pe_has G_law_leaf (hr.mono (by omega)) (pa_cons (pv 0) (pa_cons (pv 1) pa_nil))))) pss_nil)
  (pss_cons (ps_set (i := 3) sc_law_term.nd rfl (.inl rfl) (pe_has G_law_next (hr.mono (by omega)) (pa_cons (pv 0) pa_nil)))
  (pss_cons (ps_set (i := 4) sc_law_term.nd rfl (.inl rfl) (pe_op op_add_str pe_str (pe_callTy call_str_int rfl m_str PyProof.Rows.Boot.«str» (pa_cons (pe_op op_mod (pe_has G_law_next (hr.mono (by omega)) (pa_cons (pv 0) pa_nil)) pe_int) pa_nil))))
  (pss_cons (ps_if (pt_cmpR op_lt (pe_op op_mod (pv 3) pe_int) pe_int (nomark _)) (pss_one (ps_ret (pe_has G_law_points (hr.mono (by omega)) (pa_cons (pv 0) (pa_cons (pv 1) (pa_cons (pe_op op_sub (pv 2) pe_int) (pa_cons (pv 4) (pa_cons (pe_has G_law_way (hr.mono (by omega)) (pa_cons (pv 0) (pa_cons (pv 1) (pa_cons (pe_op op_mod (pe_op op_fdiv (pv 3) pe_int) pe_int) pa_nil)))) pa_nil)))))))) pss_nil)
  (pss_cons (ps_if (pt_cmpR op_lt (pe_op op_mod (pv 3) pe_int) pe_int (nomark _)) (pss_one (ps_ret (pe_has G_law_cells (hr.mono (by omega)) (pa_cons (pv 0) (pa_cons (pv 1) (pa_cons (pe_op op_sub (pv 2) pe_int) (pa_cons (pv 4) (pa_cons (pe_op op_mul (pe_op op_mod (pe_op op_fdiv (pv 3) pe_int) pe_int) (pe_callTy call_int1 rfl m_int PyProof.Rows.Boot.«int» (pa_cons (pe_cmpR op_in_seq pe_str (pe_lc (own := [("_law_row", 6)]) (g := gName 6) (tt := tYes) (te := (tOp (rIxT K) (tVar 6) (tC (.int 1)))) rfl sc_law_term.nd (pi_list (pv 1)) (blkOk_by (N := sl_law_term) (sc := defScope s_law_term) (by decide +kernel)) (fun _ _ _ _ _ => (pg_name (i := 6) sc_law_term.nd rfl (.inl rfl))) (fun _ _ _ _ _ => pts_nil) (fun _ _ _ _ _ => (pe_ix ix_tup (pv 6) pe_int (fun _ _ => rfl)))) rfl) pa_nil))) pa_nil)))))))) pss_nil)
  (pss_cons (ps_if (pt_cmpR op_lt (pe_op op_mod (pv 3) pe_int) pe_int (nomark _)) (pss_one (ps_ret (pe_has G_law_plain (hr.mono (by omega)) (pa_cons (pv 0) (pa_cons (pv 1) (pa_cons (pe_op op_sub (pv 2) pe_int) (pa_cons (pv 4) (pa_cons (pe_op op_mod (pe_op op_fdiv (pv 3) pe_int) pe_int) pa_nil)))))))) pss_nil)
  (pss_cons (ps_if (pt_cmpR op_eq (pe_op op_mod (pe_op op_fdiv (pv 3) pe_int) pe_int) pe_int (nomark _)) (pss_one (ps_ret (pe_tup (pa_cons pe_str (pa_cons (pe_has G_law_term (hr.mono (by omega)) (pa_cons (pv 0) (pa_cons (pv 1) (pa_cons (pe_op op_sub (pv 2) pe_int) pa_nil)))) pa_nil))))) pss_nil)
  (pss_cons (ps_set (i := 5) sc_law_term.nd rfl (.inl rfl) (pe_has G_law_term (hr.mono (by omega)) (pa_cons (pv 0) (pa_cons (pe_has G_law_put (hr.mono (by omega)) (pa_cons (pv 1) (pa_cons (pv 4) (pa_cons pe_str pa_nil)))) (pa_cons (pe_op op_sub (pv 2) pe_int) pa_nil)))))
  (pss_one (ps_ret (pe_tup (pa_cons pe_str (pa_cons (pe_has G_law_term (hr.mono (by omega)) (pa_cons (pv 0) (pa_cons (pv 1) (pa_cons (pe_op op_sub (pv 2) pe_int) pa_nil)))) (pa_cons (pv 4) (pa_cons (pv 5) pa_nil))))))))))))))), fun a => ?_⟩
  have up : ∀ {G : List (Option (Ty a))} {m k : Nat} {te : TE}, GE a m G te (tyT a k) → k ≤ deepD n + 4 → GS a m G (tRet te) none (tyT a (deepD (n + 1))) := fun h hk => gs_ret (h.sub (tyT_le (by omega)))
  have dec : ∀ {G : List (Option (Ty a))}, G[2]? = some (some (tyD a (n + 1))) → GE a (0 + 0) G (tOp (rI0 fun i j => .int (i - j)) (tVar 2) (tC (.int 1))) (tyD a n) := fun h => g_I0 (g_var h) (g_int 1) fun i j hi hj => by omega
  have md : ∀ {G : List (Option (Ty a))} (k : Int), 0 < k → G[3]? = some (some (tyI a fun i => 0 ≤ i ∧ i < 2147483648)) → GE a (0 + 0) G (tOp (rI (fun _ j => 0 < j) fun i j => .int (i % j)) (tVar 3) (tC (.int k))) (tyI a fun i => 0 ≤ i ∧ i < k) := fun k hk h => g_mod (g_var h) hk
  have dm : ∀ {G : List (Option (Ty a))} (k : Int), 0 < k → G[3]? = some (some (tyI a fun i => 0 ≤ i ∧ i < 2147483648)) → GE a (0 + 0 + 0) G (tOp (rI (fun _ j => 0 < j) fun i j => .int (i % j)) (tOp (rI CDiv fun i j => .int (i / j)) (tVar 3) (tC (.int 8))) (tC (.int k))) (tyI a fun i => 0 ≤ i ∧ i < k) := fun k hk h => g_mod (g_div (r := fun _ => True) (g_var h) (by decide) fun _ _ => trivial) hk
  have trd : ∀ {G : List (Option (Ty a))}, G[0]? = some (some (tyIs a (.ref a))) → G[1]? = some (some (tyNs a (mostN (n + 1)))) → G[2]? = some (some (tyD a (n + 1))) → GE a (0 + (0 + (0 + 0 + 0)) + drawC n) G (tCall (spTerm n) [] E0 (tCons (tVar 0) (tCons (tVar 1) (tCons (tOp (rI0 fun i j => .int (i - j)) (tVar 2) (tC (.int 1))) tNil)))) (tyT a (deepD n)) := fun h0 h1 h2 => g_call (ga_cons (g_var h0) (ga_cons (g_ns h1 (by omega)) (ga_cons (dec h2) ga_nil)))
  refine GS.up (gs_ifr (g_cmpI (g_var rfl) (g_int 1)) (up (k := 0) (g_call (ga_cons (g_var rfl) (ga_cons (g_ns rfl (by omega)) ga_nil))) (by omega))
    (gs_seq (gs_set (g_call (ga_cons (g_var rfl) ga_nil)))
    (gs_seq (gs_set (P := tyNew a) (g_addS (g_str "x") (g_strI (r := fun z => z ∈ (["0", "1", "2"] : List Str)) (g_mod (g_call (ga_cons (g_var rfl) ga_nil)) (by decide)) (fun i hi => ?_) x_new) (fun i j hi hj => ?_) (fun i j hi hj => ?_)))
    (gs_ifr (g_cmpI (md 8 (by decide) rfl) (g_int 3)) (up (k := deepD n + 4) (g_call (ga_cons (g_var rfl) (ga_cons (g_var rfl) (ga_cons (dec rfl) (ga_cons (g_var rfl) (ga_cons (g_call (ga_cons (g_var rfl) (ga_cons (g_ns rfl (by omega)) (ga_cons ((dm 6 (by decide) rfl).sub fun v H ⟨i, e, _⟩ => ⟨i, e, trivial⟩) ga_nil)))) ga_nil)))))) (by omega))
    (gs_ifr (g_cmpI (md 8 (by decide) rfl) (g_int 4)) (up (k := deepD n + 4) (g_call (ga_cons (g_var rfl) (ga_cons (g_var rfl) (ga_cons (dec rfl) (ga_cons (g_var rfl) (ga_cons (g_I (r := fun _ => True) (dm 4 (by decide) rfl) (g_intB (g_inKs (g_str _) (g_lcKinds rfl (fun P h => by cases h) (by show 6 < 7; decide) (by omega)))) (fun i j hi hj => .inl (by omega)) fun _ _ _ _ => trivial) ga_nil)))))) (by omega))
    (gs_ifr (g_cmpI (md 8 (by decide) rfl) (g_int 7)) (up (k := deepD n + 4) (g_call (ga_cons (g_var rfl) (ga_cons (g_var rfl) (ga_cons (dec rfl) (ga_cons (g_var rfl) (ga_cons ((dm 8 (by decide) rfl).sub fun v H ⟨i, e, _⟩ => ⟨i, e, trivial⟩) ga_nil)))))) (by omega))
    (gs_ifr (g_test (g_eqI (dm 3 (by decide) rfl) (g_int 0))) (up (k := deepD n + 1) (g_tup (ga_cons (g_str _) (ga_cons (trd rfl rfl rfl) ga_nil)) fun _ _ _ => mk_1 fun _ => .fault) (by omega))
    (gs_seq (gs_set (g_call (ga_cons (g_var rfl) (ga_cons (GE.sub (g_call (ga_cons (g_var rfl) (ga_cons (g_new rfl) (ga_cons (g_kd _ (by decide +kernel)) ga_nil)))) (tyNs_le (by omega))) (ga_cons (dec rfl) ga_nil)))))
    (up (k := deepD n + 1) (g_tup (ga_cons (g_str _) (ga_cons (trd rfl rfl rfl) (ga_cons (g_var rfl) (ga_cons (g_var rfl) ga_nil)))) fun _ _ _ => mk_1s1 fun z d e hz hd he => .guard hd (new_term hz) he) (by omega)))))))))) ?_
  · have h : i = 0 ∨ i = 1 ∨ i = 2 := by omega
    rcases h with h | h | h <;> rw [h] <;> decide +kernel
  · have k : ∀ j ∈ (["0", "1", "2"] : List Str), ("x" : Str).length + j.length ≤ 1000 := by decide +kernel
    rw [hi]; exact k j hj
  · have k : ∀ j ∈ (["0", "1", "2"] : List Str), ("x" : Str) ++ j ∈ newNames := by decide +kernel
    rw [hi]; exact k j hj
  · show _ ≤ 3 * drawC n + 30
    omega
end
end Wp
set_option Elab.async false
set_option linter.all false
set_option maxRecDepth 100000
namespace Wp
open PySem L2
-- _law_many: slots _law_thing 0, _law_part 1
abbrev s_law_many : Stmt := top 26
theorem sc_law_many : FnScope ["_law_thing", "_law_part"] ["_law_thing"] (defScope s_law_many) := ⟨rfl, rfl, rfl, by decide +kernel, rfl, by decide +kernel, by decide +kernel⟩
abbrev sl_law_many : List Str := ["_law_thing", "_law_part"]
-- _law_some: slots _law_dr 0, _law_ns 1, _law_deep 2, _law_a_term 3
abbrev s_law_some : Stmt := top 27
theorem sc_law_some : FnScope ["_law_dr", "_law_ns", "_law_deep", "_law_a_term"] ["_law_dr", "_law_ns", "_law_deep"] (defScope s_law_some) := ⟨rfl, rfl, rfl, by decide +kernel, rfl, by decide +kernel, by decide +kernel⟩
abbrev sl_law_some : List Str := ["_law_dr", "_law_ns", "_law_deep", "_law_a_term"]
-- _law_draws: slots _law_cell 0, _law_cut 1, _law_turn 2
abbrev s_law_draws : Stmt := top 13
theorem sc_law_draws : FnScope ["_law_cell", "_law_cut", "_law_turn"] ["_law_cell"] (defScope s_law_draws) := ⟨rfl, rfl, rfl, by decide +kernel, rfl, by decide +kernel, by decide +kernel⟩
abbrev sl_law_draws : List Str := ["_law_cell", "_law_cut", "_law_turn"]
mutual
def cntD : PyData → Nat
  | .tuple ds => 1 + cntL ds
  | .none => 0
  | .bool _ => 0
  | .int _ => 0
  | .str _ => 0
  | .list _ => 0
  | .dict _ => 0
def cntL : List PyData → Nat
  | [] => 0
  | d :: ds => cntD d + cntL ds
end
theorem cntL_app (xs ys : List PyData) : cntL (xs ++ ys) = cntL xs + cntL ys := by
  induction xs with
  | nil => simp [cntL]
  | cons x xs ih => simp only [List.cons_append, cntL, ih]; omega
/-- data of tuples of at most twelve things, so deep -/
inductive Nar : Nat → PyData → Prop
  | none {n : Nat} : Nar n .none
  | bool {n : Nat} (b : Bool) : Nar n (.bool b)
  | int {n : Nat} (i : Int) : Nar n (.int i)
  | str {n : Nat} (z : Str) : Nar n (.str z)
  | tup {n : Nat} {ds : List PyData} : ds.length ≤ 12 → (∀ d ∈ ds, Nar n d) → Nar (n + 1) (.tuple ds)
theorem Nar.up {n : Nat} {d : PyData} (h : Nar n d) : Nar (n + 1) d := by
  induction h with
  | none => exact .none
  | bool b => exact .bool b
  | int i => exact .int i
  | str z => exact .str z
  | tup h _ ih => exact .tup h ih
theorem Nar.all0 {n : Nat} : ∀ d ∈ ([] : List PyData), Nar n d := fun d h => by cases h
theorem Nar.all1 {n : Nat} {e : PyData} {ds : List PyData} (h : Nar n e) (t : ∀ d ∈ ds, Nar n d) : ∀ d ∈ e :: ds, Nar n d := fun d hd => by
  rcases List.mem_cons.mp hd with z | z
  · rw [z]; exact h
  · exact t d z
theorem Nar.strs {n : Nat} (xs : List Str) : ∀ d ∈ xs.map PyData.str, Nar n d := fun d hd => by
  obtain ⟨x, _, rfl⟩ := List.mem_map.mp hd
  exact .str x
theorem opMany_le {w : Str} {k : Nat} (h : opMany w = some k) : k ≤ 2 := by
  unfold opMany at h
  split at h
  · cases h; decide
  · split at h
    · cases h; decide
    · cases h
theorem Tm.nar {n : Nat} {d : PyData} (h : Tm n d) : Nar (2 * n + 2) d := by
  induction h with
  | num i => exact .tup (show 2 ≤ 12 by decide) (.all1 (.str _) (.all1 (.int _) .all0))
  | text _ => exact .tup (show 2 ≤ 12 by decide) (.all1 (.str _) (.all1 (.str _) .all0))
  | yes => exact .tup (by decide) (.all1 (.str _) .all0)
  | no => exact .tup (by decide) (.all1 (.str _) .all0)
  | none => exact .tup (by decide) (.all1 (.str _) .all0)
  | name _ => exact .tup (show 2 ≤ 12 by decide) (.all1 (.str _) (.all1 (.str _) .all0))
  | @func n xs e _ _ l _ i1 => exact .tup (show 3 ≤ 12 by decide) (.all1 (.str _) (.all1 (.tup (by rw [List.length_map]; omega) (.strs xs)) (.all1 i1.up .all0)))
  | @recu n f xs e _ _ _ l _ i1 => exact .tup (show 4 ≤ 12 by decide) (.all1 (.str _) (.all1 (.str _) (.all1 (.tup (by rw [List.length_map]; omega) (.strs xs)) (.all1 i1.up .all0))))
  | call _ _ l i1 i2 => exact .tup (show 3 ≤ 12 by decide) (.all1 (.str _) (.all1 i1.up (.all1 (.tup (by omega) i2) .all0)))
  | lett _ _ _ i1 i2 => exact .tup (show 4 ≤ 12 by decide) (.all1 (.str _) (.all1 (.str _) (.all1 i1.up (.all1 i2.up .all0))))
  | iff _ _ _ i1 i2 i3 => exact .tup (show 4 ≤ 12 by decide) (.all1 (.str _) (.all1 i1.up (.all1 i2.up (.all1 i3.up .all0))))
  | doo _ _ l i1 => exact .tup (show 2 ≤ 12 by decide) (.all1 (.str _) (.all1 (.tup (by omega) i1) .all0))
  | op h0 _ l i1 => exact .tup (show 3 ≤ 12 by decide) (.all1 (.str _) (.all1 (.str _) (.all1 (.tup (by have := opMany_le h0; omega) i1) .all0)))
  | cell _ i1 => exact .tup (show 2 ≤ 12 by decide) (.all1 (.str _) (.all1 i1.up .all0))
  | get _ i1 => exact .tup (show 2 ≤ 12 by decide) (.all1 (.str _) (.all1 i1.up .all0))
  | sett _ _ i1 i2 => exact .tup (show 3 ≤ 12 by decide) (.all1 (.str _) (.all1 i1.up (.all1 i2.up .all0)))
  | say _ i1 => exact .tup (show 2 ≤ 12 by decide) (.all1 (.str _) (.all1 i1.up .all0))
  | fault _ i1 => exact .tup (show 2 ≤ 12 by decide) (.all1 (.str _) (.all1 i1.up .all0))
  | guard _ _ _ i1 i2 => exact .tup (show 4 ≤ 12 by decide) (.all1 (.str _) (.all1 i1.up (.all1 (.str _) (.all1 i2.up .all0))))
  | wind _ _ _ i1 i2 i3 => exact .tup (show 4 ≤ 12 by decide) (.all1 (.str _) (.all1 i1.up (.all1 i2.up (.all1 i3.up .all0))))
  | catc _ _ i1 => exact .tup (show 3 ≤ 12 by decide) (.all1 (.str _) (.all1 (.str _) (.all1 i1.up .all0)))
  | go _ _ i1 i2 => exact .tup (show 3 ≤ 12 by decide) (.all1 (.str _) (.all1 i1.up (.all1 i2.up .all0)))
  | mark _ _ i1 => exact .tup (show 3 ≤ 12 by decide) (.all1 (.str _) (.all1 (.str _) (.all1 i1.up .all0)))
  | take _ _ _ i1 => exact .tup (show 4 ≤ 12 by decide) (.all1 (.str _) (.all1 (.str _) (.all1 (.str _) (.all1 i1.up .all0))))
  | use _ _ i1 i2 => exact .tup (show 3 ≤ 12 by decide) (.all1 (.str _) (.all1 i1.up (.all1 i2.up .all0)))
theorem DqL.get {a : Addr} {H : Hp} : ∀ {vs : List V} {ds : List PyData}, DqL a H vs ds → ∀ {i : Nat} {v : V}, vs[i]? = some v → ∃ d, ds[i]? = some d ∧ Dq a H v d
  | _, _, .nil, _, _, h => by simp at h
  | _, _, .cons q t, 0, _, h => by
    simp at h
    subst h
    exact ⟨_, rfl, q⟩
  | _, _, .cons q t, i + 1, v, h => by
    obtain ⟨d, e, q2⟩ := DqL.get t (i := i) (v := v) (by simpa using h)
    exact ⟨d, by simpa using e, q2⟩
theorem DqL.len {a : Addr} {H : Hp} : ∀ {vs : List V} {ds : List PyData}, DqL a H vs ds → vs.length = ds.length
  | _, _, .nil => rfl
  | _, _, .cons _ t => by rw [List.length_cons, List.length_cons, DqL.len t]
theorem same_gx {a : Addr} {H H' : Hp} (s : Same H H') : Gx a H H' := fun b o _ h => s b o h
theorem same_new {H : Hp} {p : Addr} {o : HO} (h : H p = none) : Same H (upd H p o) := fun b u q => by rw [upd_ne (ne_of_none q h)]; exact q
theorem same_grow {H H' : Hp} {p : Addr} {o : HO} (s : Same H H') (h : H p = none) : Same H (upd H' p o) := fun b u q => by rw [upd_ne (ne_of_none q h)]; exact s b u q
theorem same_dr {a : Addr} {H H' : Hp} {n : Nat} (s : Same H H') (d : Dr H a n) : Dr H' a n := by
  obtain ⟨x, c, b, e, q⟩ := d
  exact ⟨x, c, b, s _ _ e, q⟩
def spMany (n : Nat) : Sp := fun vs H Q _ => ∃ (a : Addr) (v : V) (d : PyData), vs = [v] ∧ Dq a H v d ∧ Nar n d ∧ ∀ H', Same H H' → Q (.int (cntD d)) H'
section
variable {P : Program} {w : World} {K : PySem.W.Frag} {mg : Str → Option Value} {base : Heap} {f : Addr} {fd : FuncData}
theorem many_step {n : Nat} (F : Fun K "_law_many" "_law_many" s_law_many f fd) (G_law_many : ∀ m, n = m + 1 → Has P w K mg base "_law_many" ["_law_thing"] n (spMany m)) (m_isinstance : mg "isinstance" = none) (m_tuple : mg "tuple" = none) (m_sum : mg "sum" = none) : FnOk P w K mg base CX0 (n + 1) f fd ["_law_thing"] (spMany n) := by
  refine F.ok sc_law_many (fun vs H Q E h => ?_) (fun cdv A outer s H vs Q E hr h => ?_)
  · obtain ⟨a, v, d, rfl, _⟩ := h
    rfl
  obtain ⟨a, v, d, rfl, hd, hn, q⟩ := h
  have plain : ∀ t : Value, TyX K H v t → PySem.W.kitOne K t (.type "tuple") = some false → cntD d = 0 → ∃ t, PSs (cxOf CX0 P w K mg base sl_law_many "_law_many" (defScope s_law_many) f cdv A outer s H E).nox (defBody s_law_many) t ∧ t { nx := fun _ H' => Q .non H', rt := Q } (L2.start sl_law_many [v]) H := by
    intro t ht hk h0
    refine ⟨_, pss_cons (ps_if (pt_not (pt_val (pe_callB call_isi rfl m_isinstance PyProof.Rows.Boot.isinstance (pa_cons (pv 0) (pa_cons (pe_bltn (v := .ty "tuple") rfl m_tuple PyProof.Rows.Boot.«tuple» rfl) pa_nil))))) (pss_one (ps_ret pe_int)) pss_nil) pss_never, ?_⟩
    refine ⟨_, rfl, _, _, _, _, _, rfl, .ty "tuple", ht, hk, _, rfl, ?_⟩
    refine iteT ?_
    have q' := q H (Same.refl H)
    rw [h0] at q'
    exact q'
  cases hd with
  | non => exact plain _ (.base .non) (kit_ty (by decide +kernel)) (by simp [cntD])
  | bl b => exact plain _ (.base (.bl b)) (kit_ty (by decide +kernel)) (by simp [cntD])
  | int i => exact plain _ (.base (.int i)) (kit_ty (by decide +kernel)) (by simp [cntD])
  | str z => exact plain _ (.base (.str z)) (kit_ty (by decide +kernel)) (by simp [cntD])
  | @tup p xs ds np hp hx =>
    cases hn with
    | @tup m _ hl hm =>
      have G_law_many := G_law_many m rfl
      refine ⟨_, (pss_cons (ps_if (pt_not (pt_val (pe_callB call_isi rfl m_isinstance PyProof.Rows.Boot.isinstance (pa_cons (pv 0) (pa_cons (pe_bltn (v := .ty "tuple") rfl m_tuple PyProof.Rows.Boot.«tuple» rfl) pa_nil))))) (pss_one (ps_ret pe_int)) pss_nil)
  (pss_one (ps_ret (pe_op op_add pe_int (pe_callB (cr_sum rfl) rfl m_sum PyProof.Rows.Boot.sum (pa_cons (pe_lc (own := [("_law_part", 1)]) (g := gName 1) (tt := tYes) (te := (tCall (spMany m) [] E0 (tCons (tVar 1) tNil))) rfl sc_law_many.nd (pi_tup (pv 0)) (blkOk_by (N := sl_law_many) (sc := defScope s_law_many) (by decide +kernel)) (fun _ _ _ _ _ => (pg_name (i := 1) sc_law_many.nd rfl (.inl rfl))) (fun _ _ _ _ _ => pts_nil) (fun _ _ _ _ _ => (pe_has G_law_many (hr.mono (by omega)) (pa_cons (pv 1) pa_nil)))) pa_nil)))))), ?_⟩
      refine ⟨_, rfl, _, _, _, _, _, rfl, .ty "tuple", .base (.tup hp), kit_ty (r := true) (by decide +kernel), _, rfl, ?_⟩
      refine iteF ?_
      refine ⟨_, rfl, p, rfl, ⟨_, .inl (.inl hp)⟩, fun D hD => ?_⟩
      have lx : xs.length = ds.length := hx.len
      refine lc_tup (xs := xs) (fun i H' => Same H H' ∧ H' D = some (.lst (((ds.take i).map fun d => (cntD d : Int)).map V.int))) ?_ ?_ ?_ ?_
      · exact ⟨same_new hD, upd_same⟩
      · rintro i H' hi ⟨g, _⟩
        exact .inl (.inl (g p _ hp))
      · rintro i x H' hx' ⟨g, ha⟩
        obtain ⟨e, he, qe⟩ := hx.get hx'
        have li : i < ds.length := (List.getElem?_eq_some_iff.mp he).1
        refine ⟨wipe_one _ 1 _, ?_⟩
        refine (⟨_, rfl, a, x, e, rfl, qe.st fun p xs _ h => g p _ h, hm e (List.mem_of_getElem? he), fun H2 g2 => ?_⟩ : tCall (spMany m) [] E0 (tCons (tVar 1) tNil) ((wipe (L2.start sl_law_many [.ref p]) [1]).set 1 (some x)) H' _)
        have ha2 := g2 D _ ha
        refine ⟨_, ha2, small1000 (by rw [List.length_map, List.length_map, List.length_take]; omega), same_grow (g.trans g2) hD, ?_⟩
        rw [upd_same, List.take_add_one, he, List.map_append, List.map_append]
        rfl
      · rintro H' ⟨g, ha⟩
        rw [lx, List.take_length] at ha
        refine ⟨D, _, rfl, SqL.of ha, _, _, rfl, rfl, ?_⟩
        have e : (1 : Int) + ((ds.map fun d => (cntD d : Int))).sum = (cntD (.tuple ds) : Nat) := by
          have k : ∀ ds : List PyData, (ds.map fun d => (cntD d : Int)).sum = (cntL ds : Nat) := by
            intro ds
            induction ds with
            | nil => simp [cntL]
            | cons d ds ih => rw [List.map_cons, List.sum_cons, ih, cntL]; omega
          rw [k, cntD]
          omega
        show Q (.int (1 + ((ds.map fun d => (cntD d : Int))).sum)) H'
        rw [e]
        exact q H' g
theorem many_ok (F : Fun K "_law_many" "_law_many" s_law_many f fd) (bF : Binds K fd ["_law_thing"] []) (mF : mg "_law_many" = some (.ref f)) (m_isinstance : mg "isinstance" = none) (m_tuple : mg "tuple" = none) (m_sum : mg "sum" = none) : ∀ n : Nat, Has P w K mg base "_law_many" ["_law_thing"] (n + 1) (spMany n)
  | 0 => ⟨f, fd, many_step F (fun m h => by cases h) m_isinstance m_tuple m_sum, mF, F.kp, bF⟩
  | n + 1 => ⟨f, fd, many_step F (fun m h => by cases h; exact many_ok F bF mF m_isinstance m_tuple m_sum n) m_isinstance m_tuple m_sum, mF, F.kp, bF⟩
/-- a drawn term of at most so many tuples -/
def tyTc (a : Addr) (n : Nat) : Ty a := ⟨fun v H => ∃ d, Dq a H v d ∧ Tm n d ∧ cntD d ≤ 390, fun v H H' g h => by
  obtain ⟨d, q, t⟩ := h
  exact ⟨d, q.gx g, t⟩⟩
abbrev spSome (n : Nat) : Sp := spG (drawC n) (fun a => [tyIs a (.ref a), tyNs a (mostN n), tyD a n]) (fun a => tyTc a (deepD n))
theorem ok_some {n : Nat} (hn : n ≤ 10) (F : Fun K "_law_some" "_law_some" s_law_some f fd) (G_law_many : Has P w K mg base "_law_many" ["_law_thing"] (2 * deepD n + 3) (spMany (2 * deepD n + 2))) (G_law_term : Has P w K mg base "_law_term" ["_law_dr", "_law_ns", "_law_deep"] (levT n) (spTerm n)) : FnOk P w K mg base CX0 200 f fd ["_law_dr", "_law_ns", "_law_deep"] (spSome n) := by
  have l1 : 2 * deepD n + 3 ≤ 199 := by unfold deepD; omega
  have l2 : levT n ≤ 199 := by unfold levT; omega
  refine F.ok sc_law_some (fun vs H Q E h => ?_) (fun cdv A outer s H vs Q E hr h => ?_)
  · obtain ⟨a, n, _, _, ps, _⟩ := h
    exact ps.len
  obtain ⟨a, m, hm, d, ps, q⟩ := h
  obtain ⟨v0, v1, v2, rfl, h0, h1, h2⟩ := all3 ps
  refine ⟨_, (pss_cons (ps_set (i := 3) sc_law_some.nd rfl (.inl rfl) (pe_has G_law_term (hr.mono (by omega)) (pa_cons (pv 0) (pa_cons (pv 1) (pa_cons (pv 2) pa_nil)))))
  (pss_cons (ps_if (pt_cmpR op_gt (pe_has G_law_many (hr.mono (by omega)) (pa_cons (pv 3) pa_nil)) pe_int (nomark _)) (pss_one (ps_ret (pe_tup (pa_cons pe_str (pa_cons (pe_tup (pa_cons pe_str (pa_cons pe_int pa_nil))) pa_nil))))) pss_nil)
  (pss_one (ps_ret (pv 3))))), ?_⟩
  refine ⟨_, rfl, _, rfl, _, rfl, a, m, hm, d, .cons h0 (.cons h1 (.cons h2 .nil)), fun v H1 g1 d1 hv => ?_⟩
  obtain ⟨e, qe, te⟩ := hv
  refine ⟨_, rfl, a, v, e, rfl, qe, te.nar, fun H2 g2 => ⟨_, _, rfl, rfl, _, rfl, ?_⟩⟩
  have d2 := same_dr g2 d1
  refine ite2 (fun c => ?_) (fun c => ?_)
  · refine ⟨(by show 2 ≤ sizeLine; decide), fun p hp => ⟨(by show 2 ≤ sizeLine; decide), fun r hr' => ?_⟩⟩
    have np := d2.ne hp
    have d3 := d2.upd (o := .tup [.str "num", .int 1]) np
    have nr := d3.ne hr'
    refine q _ _ (g1.trans ((same_gx g2).trans ((Gx.new hp).trans (Gx.new hr')))) (d3.upd nr) ⟨.tuple [.str "say", .tuple [.str "num", .int 1]], .tup nr upd_same (.cons (.str _) (.cons (.tup np (Gx.new (a := a) hr' p _ np upd_same) (.cons (.str _) (.cons (.int _) .nil))) .nil)), (Tm.say (n := 0) (.num 1)).le (by unfold deepD; omega), by decide⟩
  · have c' : ¬ (390 : Int) < (cntD e : Nat) := fun z => c (decide_eq_true z)
    refine ⟨_, rfl, q _ _ (g1.trans (same_gx g2)) d2 ⟨e, qe.gx (same_gx g2), te, by omega⟩⟩
def spDraws : Sp := fun vs H Q _ => ∃ c : Int, vs = [.int c] ∧ ∀ p H', Same H H' → H p = none → Dr H' p 0 → Q (.ref p) H'
theorem ok_draws (F : Fun K "_law_draws" "_law_draws" s_law_draws f fd) (m_range : mg "range" = none) : FnOk P w K mg base CX0 1 f fd ["_law_cell"] spDraws := by
  refine F.ok sc_law_draws (fun vs H Q E h => ?_) (fun cdv A outer s H vs Q E hr h => ?_)
  · obtain ⟨c, rfl, _⟩ := h
    rfl
  obtain ⟨c, rfl, q⟩ := h
  refine ⟨_, (pss_cons (ps_set (i := 1) sc_law_draws.nd rfl (.inl rfl) (pe_op op_pow pe_int pe_int))
  (pss_cons (ps_for PassesOwn.never rfl (pi_range1 rfl m_range (pa_cons pe_int pa_nil)) (pg_name (i := 2) sc_law_draws.nd rfl (.inl rfl)) (pss_one (ps_set (i := 1) sc_law_draws.nd rfl (.inl rfl) (pe_op op_mulW (pv 1) (pv 1)))))
  (pss_one (ps_ret (pe_lst (pa_cons (pe_op op_mod (pv 0) (pv 1)) (pa_cons pe_int (pa_cons (pe_cmpR op_ge (pv 0) (pe_op op_pow pe_int pe_int) (nomark _)) pa_nil)))))))), ?_⟩
  refine ⟨10, 60, rfl, rfl, ⟨by decide, by decide, by decide⟩, ?_⟩
  refine ⟨7, rfl, by decide, by decide, for_range (n := 7) (fun i σ H' => H' = H ∧ ∃ (k : Int) (t : Option V), σ = [some (.int c), some (.int k), t] ∧ 0 < k ∧ k.natAbs < 2 ^ (200 * 2 ^ i)) ?_ ?_ ?_⟩
  · exact ⟨rfl, 10 ^ 60, none, rfl, by decide +kernel, by decide +kernel⟩
  · rintro i σ H' hi ⟨rfl, k, t, rfl, h0, hk⟩
    have hp : 200 * 2 ^ i ≤ 200 * 2 ^ 6 := Nat.mul_le_mul_left _ (Nat.pow_le_pow_right (by decide) (by omega))
    have hp0 : 0 < 200 * 2 ^ i := Nat.mul_pos (by decide) (Nat.pow_pos (by decide))
    refine ⟨_, rfl, _, rfl, _, _, rfl, rfl, wide_mul hk hk hp0 hp0 (by omega), ?_⟩
    refine ⟨rfl, k * k, _, rfl, Int.mul_pos h0 h0, ?_⟩
    have e : 200 * 2 ^ (i + 1) = 200 * 2 ^ i + 200 * 2 ^ i := by rw [Nat.pow_succ]; omega
    rw [e]
    exact wide_lt hk hk
  · rintro σ H' ⟨rfl, k, t, rfl, h0, hk⟩
    refine ⟨_, rfl, _, rfl, _, _, rfl, rfl, h0, _, rfl, 10, 18, rfl, rfl, ⟨by decide, by decide, by decide⟩, _, _, rfl, rfl, (by show 3 ≤ sizeLine; decide), fun p hp => q p _ (same_new hp) hp ⟨_, _, _, upd_same, Int.emod_nonneg _ (by omega), by decide, by decide⟩⟩
end
end Wp
set_option Elab.async false
set_option linter.all false
set_option maxRecDepth 100000
set_option maxHeartbeats 4000000
namespace Wp
open PySem PySem.Spec PyProof.Rows L2
/-! ### two methods more: d.update(a dict), l.extend(a tuple) -/
def rUpd : V → List V → Hp → VK → Prop := fun x vs H Q => ∃ (a b : Addr) (kvs more : List (Key × V)), x = .ref a ∧ vs = [.ref b] ∧ a ≠ b ∧ H a = some (.dK kvs) ∧ H b = some (.dK more) ∧ kvs.length + more.length ≤ 1000 ∧ Q .non (upd H a (.dK (mergeK kvs more)))
theorem mt_upd {X : Cx} : MtR X "dict.update" rUpd := by
  intro pins s σ H x vs v us Q I rx rv h
  obtain ⟨a, b, kvs, more, rfl, rfl, hab, ea, eb, hl, q⟩ := h
  cases rx
  obtain ⟨u, rfl, ru⟩ := rv.one
  cases ru
  obtain ⟨z, hd, ws, rel, dd⟩ := dk_of I.hok ea
  obtain ⟨z2, hd2, ws2, rel2, dd2⟩ := dk_of I.hok eb
  have l1 := rel.length
  have l2 := rel2.length
  refine call_meetsIn PySem.F.slot_dict_update dd.typeIs PySem.F.entry_dict_update (PySem.F.args_dict_update_2 _ _) (meets_dict_update (mixKind X.prog X.w) a b hab hd2) ⟨ws, ws2, dd, dd2, ?_, fun h' da db hs => ?_⟩
  · rw [← l1, ← l2]
    exact Nat.le_of_lt (small1000 hl)
  · have he : ∃ o, h'.get? a = some o := let ⟨o, _, _, ho, _⟩ := da; ⟨o, ho⟩
    have hz : (mergeK kvs more).length ≤ sizeLine := Nat.le_trans (length_mergeK more kvs) (Nat.le_of_lt (small1000 (by omega)))
    exact ⟨.non, _, d_write (t' := s.toks) I (by rw [ea]; exact True.intro) hs he (dk_new hz hd (KV.merge rel2 rel) da), rfl, q⟩
theorem ext_tup (l : Addr) (its : Array Value) (n : Nat) (b : Addr) (more : Array Value) (m : Nat) (od : Option Addr) (sl : Array (Option Value)) (c0 : ¬(!its.isEmpty && Builtin.List.listTooLong (its.size + more.size)) = true) (c1 : its.size ≤ sizeLine) (c2 : its.size + more.size ≤ sizeLine + 1) :
    Meets (Builtin.«list.extend» ⟨[.ref l, .ref b], []⟩) (fun _ R s => s.heap.get? l = some { cls := .type "list", dict := none, data := .seq its n, slots := #[] } ∧ s.heap.get? b = some { cls := .type "tuple", dict := od, data := .seq more m, slots := sl } ∧ R (.ok (.ret Value.none)) { s with heap := s.heap.update l (Obj.mapSeq fun x => x ++ more), toks := s.toks }) :=
  .of_wp fun prog w A R s hh => by
    obtain ⟨hp, g, d, tk, os⟩ := s
    obtain ⟨hl, hb, h⟩ := hh
    have i1 := PySem.AutoSeq1.idx_int
    have i2 := PySem.AutoSeq1.sub_tuple_tuple
    have i3 := PySem.AutoSeq1.sub_list_list
    have i4 := PySem.AutoSeq1.sub_tuple_list
    have i5 := PySem.AutoSeq1.sub_list_tuple
    have hz : (its ++ more).size ≤ sizeLine + 1 := by rw [Array.size_append]; exact c2
    wp_walk using (wpAny_updateSeq hl rfl (hz := c1) (_hz' := hz)), wpAny_loadPart' hl, wpAny_loadPart' hb
    exact ⟨_, rfl, h⟩
def rExtT : V → List V → Hp → VK → Prop := fun x vs H Q => ∃ (l b : Addr) (xs zs : List V), x = .ref l ∧ vs = [.ref b] ∧ H l = some (.lst xs) ∧ H b = some (.tup zs) ∧ xs.length + zs.length ≤ 1000 ∧ Q .non (upd H l (.lst (xs ++ zs)))
theorem mt_extT {X : Cx} : MtM X "list.extend" rExtT := by
  intro pins s σ H x vs v us Q I rx rv h
  obtain ⟨l, b, xs, zs, rfl, rfl, hH, hB, hl, q⟩ := h
  cases rx
  obtain ⟨u, rfl, ru⟩ := rv.one
  cases ru
  obtain ⟨z, its, n, r, hl1, e⟩ := I.lstM hH
  obtain ⟨z2, its2, r2, ⟨oc, od, dt, sl⟩, e2, hc, n2, hd⟩ := (show ObjOk X.prog X.w H s.heap b (.tup zs) from I.hok b _ hB)
  dsimp only at hc hd
  subst hc hd
  have k1 : its.length = xs.length := r.length.symm
  have k2 : its2.length = zs.length := r2.length.symm
  have lim := small1000 hl
  have hsz : its.toArray.size + its2.toArray.size ≤ sizeLine := by rw [List.size_toArray, List.size_toArray, k1, k2]; exact Nat.le_of_lt lim
  have hlong : ¬ (!its.toArray.isEmpty && Builtin.List.listTooLong (its.toArray.size + its2.toArray.size)) = true := by
    rw [notLongL hsz, Bool.and_false]
    exact Bool.false_ne_true
  refine call_meets F.slot_list_extend ⟨_, e, rfl⟩ F.entry_list_extend (F.args_list_extend_2 _ _) (ext_tup l its.toArray n b its2.toArray n2 od sl hlong (by omega) (by omega)) ⟨e, e2, ?_⟩
  refine ⟨.non, _, I.lset (its' := its ++ its2) hH e (by simp) (r.append r2) ?_, rfl, q⟩
  rw [List.length_append]
  exact Nat.le_of_lt lim

/-! ### the parts of a term -/
def tupItems : PyData → List PyData
  | .tuple ds => ds
  | .none => []
  | .bool _ => []
  | .int _ => []
  | .str _ => []
  | .list _ => []
  | .dict _ => []
/-- by the kinds of things behind the word -/
def partsF : List Str → List PyData → List PyData
  | k :: ks, x :: xs => (if k = "part" then [x] else if k ∈ (["handed parts", "row parts", "op parts"] : List Str) then tupItems x else []) ++ partsF ks xs
  | _, _ => []
def forms : List (Str × List Str) := [("num", ["number"]), ("text", ["text"]), ("yes", []), ("no", []), ("none", []), ("name", ["name"]), ("fun", ["binders", "part"]), ("rec", ["binder", "binders", "part"]), ("call", ["part", "handed parts"]), ("let", ["binder", "part", "part"]), ("if", ["part", "part", "part"]), ("do", ["row parts"]), ("op", ["word", "op parts"]), ("cell", ["part"]), ("get", ["part"]), ("set", ["part", "part"]), ("say", ["part"]), ("fault", ["part"]), ("guard", ["part", "binder", "part"]), ("wind", ["part", "part", "part"]), ("catch", ["binder", "part"]), ("go", ["part", "part"]), ("mark", ["tag", "part"]), ("take", ["tag", "binder", "part"]), ("use", ["part", "part"])]
def formOf (w : Str) : List Str := (forms.lookup w).getD []
/-- the law's own places -/
def places : List (Str × List Int) := [("cell", [1]), ("get", [1]), ("say", [1]), ("fault", [1]), ("fun", [2]), ("rec", [3]), ("catch", [2]), ("mark", [2]), ("let", [2, 3]), ("set", [1, 2]), ("guard", [1, 3]), ("go", [1, 2]), ("use", [1, 2]), ("take", [3]), ("if", [1, 2, 3]), ("wind", [1, 2, 3])]
def partsD : PyData → List PyData
  | .tuple (.str w :: its) => partsF (formOf w) its
  | _ => []
/-- a thing that is to be laid out is a tuple -/
def Fits : List Str → List PyData → Prop
  | k :: ks, x :: xs => (k ∈ (["handed parts", "row parts", "op parts"] : List Str) → ∃ ds, x = .tuple ds ∧ ds.length ≤ 12) ∧ Fits ks xs
  | [], [] => True
  | _, _ => False
theorem fo_num : formOf "num" = (["number"] : List Str) := by decide +kernel
theorem fo_text : formOf "text" = (["text"] : List Str) := by decide +kernel
theorem fo_yes : formOf "yes" = ([] : List Str) := by decide +kernel
theorem fo_no : formOf "no" = ([] : List Str) := by decide +kernel
theorem fo_none : formOf "none" = ([] : List Str) := by decide +kernel
theorem fo_name : formOf "name" = (["name"] : List Str) := by decide +kernel
theorem fo_fun : formOf "fun" = (["binders", "part"] : List Str) := by decide +kernel
theorem fo_rec : formOf "rec" = (["binder", "binders", "part"] : List Str) := by decide +kernel
theorem fo_call : formOf "call" = (["part", "handed parts"] : List Str) := by decide +kernel
theorem fo_let : formOf "let" = (["binder", "part", "part"] : List Str) := by decide +kernel
theorem fo_if : formOf "if" = (["part", "part", "part"] : List Str) := by decide +kernel
theorem fo_do : formOf "do" = (["row parts"] : List Str) := by decide +kernel
theorem fo_op : formOf "op" = (["word", "op parts"] : List Str) := by decide +kernel
theorem fo_cell : formOf "cell" = (["part"] : List Str) := by decide +kernel
theorem fo_get : formOf "get" = (["part"] : List Str) := by decide +kernel
theorem fo_set : formOf "set" = (["part", "part"] : List Str) := by decide +kernel
theorem fo_say : formOf "say" = (["part"] : List Str) := by decide +kernel
theorem fo_fault : formOf "fault" = (["part"] : List Str) := by decide +kernel
theorem fo_guard : formOf "guard" = (["part", "binder", "part"] : List Str) := by decide +kernel
theorem fo_wind : formOf "wind" = (["part", "part", "part"] : List Str) := by decide +kernel
theorem fo_catch : formOf "catch" = (["binder", "part"] : List Str) := by decide +kernel
theorem fo_go : formOf "go" = (["part", "part"] : List Str) := by decide +kernel
theorem fo_mark : formOf "mark" = (["tag", "part"] : List Str) := by decide +kernel
theorem fo_take : formOf "take" = (["tag", "binder", "part"] : List Str) := by decide +kernel
theorem fo_use : formOf "use" = (["part", "part"] : List Str) := by decide +kernel
theorem km_part : (("part" : Str) ∈ (["handed parts", "row parts", "op parts"] : List Str)) = False := eq_false (by decide +kernel)
theorem kp_number : (("number" : Str) = "part") = False := eq_false (by decide +kernel)
theorem km_number : (("number" : Str) ∈ (["handed parts", "row parts", "op parts"] : List Str)) = False := eq_false (by decide +kernel)
theorem kp_text : (("text" : Str) = "part") = False := eq_false (by decide +kernel)
theorem km_text : (("text" : Str) ∈ (["handed parts", "row parts", "op parts"] : List Str)) = False := eq_false (by decide +kernel)
theorem kp_name : (("name" : Str) = "part") = False := eq_false (by decide +kernel)
theorem km_name : (("name" : Str) ∈ (["handed parts", "row parts", "op parts"] : List Str)) = False := eq_false (by decide +kernel)
theorem kp_binders : (("binders" : Str) = "part") = False := eq_false (by decide +kernel)
theorem km_binders : (("binders" : Str) ∈ (["handed parts", "row parts", "op parts"] : List Str)) = False := eq_false (by decide +kernel)
theorem kp_binder : (("binder" : Str) = "part") = False := eq_false (by decide +kernel)
theorem km_binder : (("binder" : Str) ∈ (["handed parts", "row parts", "op parts"] : List Str)) = False := eq_false (by decide +kernel)
theorem kp_handed_parts : (("handed parts" : Str) = "part") = False := eq_false (by decide +kernel)
theorem km_handed_parts : (("handed parts" : Str) ∈ (["handed parts", "row parts", "op parts"] : List Str)) = True := eq_true (by decide +kernel)
theorem kp_row_parts : (("row parts" : Str) = "part") = False := eq_false (by decide +kernel)
theorem km_row_parts : (("row parts" : Str) ∈ (["handed parts", "row parts", "op parts"] : List Str)) = True := eq_true (by decide +kernel)
theorem kp_word : (("word" : Str) = "part") = False := eq_false (by decide +kernel)
theorem km_word : (("word" : Str) ∈ (["handed parts", "row parts", "op parts"] : List Str)) = False := eq_false (by decide +kernel)
theorem kp_op_parts : (("op parts" : Str) = "part") = False := eq_false (by decide +kernel)
theorem km_op_parts : (("op parts" : Str) ∈ (["handed parts", "row parts", "op parts"] : List Str)) = True := eq_true (by decide +kernel)
theorem kp_tag : (("tag" : Str) = "part") = False := eq_false (by decide +kernel)
theorem km_tag : (("tag" : Str) ∈ (["handed parts", "row parts", "op parts"] : List Str)) = False := eq_false (by decide +kernel)
/-- what each term's parts are; they are terms; the things fit -/
theorem tm_parts {n : Nat} {d : PyData} (h : Tm n d) : ∃ (w : Str) (its : List PyData), d = .tuple (.str w :: its) ∧ (w, formOf w) ∈ forms ∧ Fits (formOf w) its ∧ ∀ p ∈ partsF (formOf w) its, ∃ m, n = m + 1 ∧ Tm m p := by
  cases h with
  | num i =>
    refine ⟨"num", _, rfl, by decide +kernel, ?_, ?_⟩
    · simp only [fo_num, Fits, kp_number, kp_text, kp_name, kp_binders, kp_binder, kp_handed_parts, kp_row_parts, kp_word, kp_op_parts, kp_tag, km_part, km_number, km_text, km_name, km_binders, km_binder, km_handed_parts, km_row_parts, km_word, km_op_parts, km_tag, false_imp_iff, true_imp_iff, true_and, and_true]
    · intro p hp; simp only [fo_num, partsF, kp_number, kp_text, kp_name, kp_binders, kp_binder, kp_handed_parts, kp_row_parts, kp_word, kp_op_parts, kp_tag, km_part, km_number, km_text, km_name, km_binders, km_binder, km_handed_parts, km_row_parts, km_word, km_op_parts, km_tag, if_true, if_false, tupItems, List.append_nil, List.nil_append] at hp; try simp only [List.mem_append, List.mem_cons, List.not_mem_nil, or_false, false_or] at hp
  | text h =>
    refine ⟨"text", _, rfl, by decide +kernel, ?_, ?_⟩
    · simp only [fo_text, Fits, kp_number, kp_text, kp_name, kp_binders, kp_binder, kp_handed_parts, kp_row_parts, kp_word, kp_op_parts, kp_tag, km_part, km_number, km_text, km_name, km_binders, km_binder, km_handed_parts, km_row_parts, km_word, km_op_parts, km_tag, false_imp_iff, true_imp_iff, true_and, and_true]
    · intro p hp; simp only [fo_text, partsF, kp_number, kp_text, kp_name, kp_binders, kp_binder, kp_handed_parts, kp_row_parts, kp_word, kp_op_parts, kp_tag, km_part, km_number, km_text, km_name, km_binders, km_binder, km_handed_parts, km_row_parts, km_word, km_op_parts, km_tag, if_true, if_false, tupItems, List.append_nil, List.nil_append] at hp; try simp only [List.mem_append, List.mem_cons, List.not_mem_nil, or_false, false_or] at hp
  | yes =>
    refine ⟨"yes", _, rfl, by decide +kernel, ?_, ?_⟩
    · simp only [fo_yes, Fits, kp_number, kp_text, kp_name, kp_binders, kp_binder, kp_handed_parts, kp_row_parts, kp_word, kp_op_parts, kp_tag, km_part, km_number, km_text, km_name, km_binders, km_binder, km_handed_parts, km_row_parts, km_word, km_op_parts, km_tag, false_imp_iff, true_imp_iff, true_and, and_true]
    · intro p hp; simp only [fo_yes, partsF, kp_number, kp_text, kp_name, kp_binders, kp_binder, kp_handed_parts, kp_row_parts, kp_word, kp_op_parts, kp_tag, km_part, km_number, km_text, km_name, km_binders, km_binder, km_handed_parts, km_row_parts, km_word, km_op_parts, km_tag, if_true, if_false, tupItems, List.append_nil, List.nil_append] at hp; try simp only [List.mem_append, List.mem_cons, List.not_mem_nil, or_false, false_or] at hp
  | no =>
    refine ⟨"no", _, rfl, by decide +kernel, ?_, ?_⟩
    · simp only [fo_no, Fits, kp_number, kp_text, kp_name, kp_binders, kp_binder, kp_handed_parts, kp_row_parts, kp_word, kp_op_parts, kp_tag, km_part, km_number, km_text, km_name, km_binders, km_binder, km_handed_parts, km_row_parts, km_word, km_op_parts, km_tag, false_imp_iff, true_imp_iff, true_and, and_true]
    · intro p hp; simp only [fo_no, partsF, kp_number, kp_text, kp_name, kp_binders, kp_binder, kp_handed_parts, kp_row_parts, kp_word, kp_op_parts, kp_tag, km_part, km_number, km_text, km_name, km_binders, km_binder, km_handed_parts, km_row_parts, km_word, km_op_parts, km_tag, if_true, if_false, tupItems, List.append_nil, List.nil_append] at hp; try simp only [List.mem_append, List.mem_cons, List.not_mem_nil, or_false, false_or] at hp
  | none =>
    refine ⟨"none", _, rfl, by decide +kernel, ?_, ?_⟩
    · simp only [fo_none, Fits, kp_number, kp_text, kp_name, kp_binders, kp_binder, kp_handed_parts, kp_row_parts, kp_word, kp_op_parts, kp_tag, km_part, km_number, km_text, km_name, km_binders, km_binder, km_handed_parts, km_row_parts, km_word, km_op_parts, km_tag, false_imp_iff, true_imp_iff, true_and, and_true]
    · intro p hp; simp only [fo_none, partsF, kp_number, kp_text, kp_name, kp_binders, kp_binder, kp_handed_parts, kp_row_parts, kp_word, kp_op_parts, kp_tag, km_part, km_number, km_text, km_name, km_binders, km_binder, km_handed_parts, km_row_parts, km_word, km_op_parts, km_tag, if_true, if_false, tupItems, List.append_nil, List.nil_append] at hp; try simp only [List.mem_append, List.mem_cons, List.not_mem_nil, or_false, false_or] at hp
  | name h =>
    refine ⟨"name", _, rfl, by decide +kernel, ?_, ?_⟩
    · simp only [fo_name, Fits, kp_number, kp_text, kp_name, kp_binders, kp_binder, kp_handed_parts, kp_row_parts, kp_word, kp_op_parts, kp_tag, km_part, km_number, km_text, km_name, km_binders, km_binder, km_handed_parts, km_row_parts, km_word, km_op_parts, km_tag, false_imp_iff, true_imp_iff, true_and, and_true]
    · intro p hp; simp only [fo_name, partsF, kp_number, kp_text, kp_name, kp_binders, kp_binder, kp_handed_parts, kp_row_parts, kp_word, kp_op_parts, kp_tag, km_part, km_number, km_text, km_name, km_binders, km_binder, km_handed_parts, km_row_parts, km_word, km_op_parts, km_tag, if_true, if_false, tupItems, List.append_nil, List.nil_append] at hp; try simp only [List.mem_append, List.mem_cons, List.not_mem_nil, or_false, false_or] at hp
  | func h1 h2 h3 h4 =>
    refine ⟨"fun", _, rfl, by decide +kernel, ?_, ?_⟩
    · simp only [fo_fun, Fits, kp_number, kp_text, kp_name, kp_binders, kp_binder, kp_handed_parts, kp_row_parts, kp_word, kp_op_parts, kp_tag, km_part, km_number, km_text, km_name, km_binders, km_binder, km_handed_parts, km_row_parts, km_word, km_op_parts, km_tag, false_imp_iff, true_imp_iff, true_and, and_true]
    · intro p hp; simp only [fo_fun, partsF, kp_number, kp_text, kp_name, kp_binders, kp_binder, kp_handed_parts, kp_row_parts, kp_word, kp_op_parts, kp_tag, km_part, km_number, km_text, km_name, km_binders, km_binder, km_handed_parts, km_row_parts, km_word, km_op_parts, km_tag, if_true, if_false, tupItems, List.append_nil, List.nil_append] at hp; try simp only [List.mem_append, List.mem_cons, List.not_mem_nil, or_false, false_or] at hp
      exact ⟨_, rfl, hp ▸ h4⟩
  | recu h0 h1 h2 h3 h4 =>
    refine ⟨"rec", _, rfl, by decide +kernel, ?_, ?_⟩
    · simp only [fo_rec, Fits, kp_number, kp_text, kp_name, kp_binders, kp_binder, kp_handed_parts, kp_row_parts, kp_word, kp_op_parts, kp_tag, km_part, km_number, km_text, km_name, km_binders, km_binder, km_handed_parts, km_row_parts, km_word, km_op_parts, km_tag, false_imp_iff, true_imp_iff, true_and, and_true]
    · intro p hp; simp only [fo_rec, partsF, kp_number, kp_text, kp_name, kp_binders, kp_binder, kp_handed_parts, kp_row_parts, kp_word, kp_op_parts, kp_tag, km_part, km_number, km_text, km_name, km_binders, km_binder, km_handed_parts, km_row_parts, km_word, km_op_parts, km_tag, if_true, if_false, tupItems, List.append_nil, List.nil_append] at hp; try simp only [List.mem_append, List.mem_cons, List.not_mem_nil, or_false, false_or] at hp
      exact ⟨_, rfl, hp ▸ h4⟩
  | call h1 h2 h3 =>
    refine ⟨"call", _, rfl, by decide +kernel, ?_, ?_⟩
    · simp only [fo_call, Fits, kp_number, kp_text, kp_name, kp_binders, kp_binder, kp_handed_parts, kp_row_parts, kp_word, kp_op_parts, kp_tag, km_part, km_number, km_text, km_name, km_binders, km_binder, km_handed_parts, km_row_parts, km_word, km_op_parts, km_tag, false_imp_iff, true_imp_iff, true_and, and_true]; exact ⟨_, rfl, by omega⟩
    · intro p hp; simp only [fo_call, partsF, kp_number, kp_text, kp_name, kp_binders, kp_binder, kp_handed_parts, kp_row_parts, kp_word, kp_op_parts, kp_tag, km_part, km_number, km_text, km_name, km_binders, km_binder, km_handed_parts, km_row_parts, km_word, km_op_parts, km_tag, if_true, if_false, tupItems, List.append_nil, List.nil_append] at hp; try simp only [List.mem_append, List.mem_cons, List.not_mem_nil, or_false, false_or] at hp
      rcases hp with hp | hp
      · exact ⟨_, rfl, hp ▸ h1⟩
      · exact ⟨_, rfl, h2 p hp⟩
  | lett h h1 h2 =>
    refine ⟨"let", _, rfl, by decide +kernel, ?_, ?_⟩
    · simp only [fo_let, Fits, kp_number, kp_text, kp_name, kp_binders, kp_binder, kp_handed_parts, kp_row_parts, kp_word, kp_op_parts, kp_tag, km_part, km_number, km_text, km_name, km_binders, km_binder, km_handed_parts, km_row_parts, km_word, km_op_parts, km_tag, false_imp_iff, true_imp_iff, true_and, and_true]
    · intro p hp; simp only [fo_let, partsF, kp_number, kp_text, kp_name, kp_binders, kp_binder, kp_handed_parts, kp_row_parts, kp_word, kp_op_parts, kp_tag, km_part, km_number, km_text, km_name, km_binders, km_binder, km_handed_parts, km_row_parts, km_word, km_op_parts, km_tag, if_true, if_false, tupItems, List.append_nil, List.nil_append] at hp; try simp only [List.mem_append, List.mem_cons, List.not_mem_nil, or_false, false_or] at hp
      rcases hp with hp | hp
      · exact ⟨_, rfl, hp ▸ h1⟩
      · exact ⟨_, rfl, hp ▸ h2⟩
  | iff h1 h2 h3 =>
    refine ⟨"if", _, rfl, by decide +kernel, ?_, ?_⟩
    · simp only [fo_if, Fits, kp_number, kp_text, kp_name, kp_binders, kp_binder, kp_handed_parts, kp_row_parts, kp_word, kp_op_parts, kp_tag, km_part, km_number, km_text, km_name, km_binders, km_binder, km_handed_parts, km_row_parts, km_word, km_op_parts, km_tag, false_imp_iff, true_imp_iff, true_and, and_true]
    · intro p hp; simp only [fo_if, partsF, kp_number, kp_text, kp_name, kp_binders, kp_binder, kp_handed_parts, kp_row_parts, kp_word, kp_op_parts, kp_tag, km_part, km_number, km_text, km_name, km_binders, km_binder, km_handed_parts, km_row_parts, km_word, km_op_parts, km_tag, if_true, if_false, tupItems, List.append_nil, List.nil_append] at hp; try simp only [List.mem_append, List.mem_cons, List.not_mem_nil, or_false, false_or] at hp
      rcases hp with hp | hp | hp
      · exact ⟨_, rfl, hp ▸ h1⟩
      · exact ⟨_, rfl, hp ▸ h2⟩
      · exact ⟨_, rfl, hp ▸ h3⟩
  | doo h1 h2 h3 =>
    refine ⟨"do", _, rfl, by decide +kernel, ?_, ?_⟩
    · simp only [fo_do, Fits, kp_number, kp_text, kp_name, kp_binders, kp_binder, kp_handed_parts, kp_row_parts, kp_word, kp_op_parts, kp_tag, km_part, km_number, km_text, km_name, km_binders, km_binder, km_handed_parts, km_row_parts, km_word, km_op_parts, km_tag, false_imp_iff, true_imp_iff, true_and, and_true]; exact ⟨_, rfl, by omega⟩
    · intro p hp; simp only [fo_do, partsF, kp_number, kp_text, kp_name, kp_binders, kp_binder, kp_handed_parts, kp_row_parts, kp_word, kp_op_parts, kp_tag, km_part, km_number, km_text, km_name, km_binders, km_binder, km_handed_parts, km_row_parts, km_word, km_op_parts, km_tag, if_true, if_false, tupItems, List.append_nil, List.nil_append] at hp; try simp only [List.mem_append, List.mem_cons, List.not_mem_nil, or_false, false_or] at hp
      exact ⟨_, rfl, h1 p hp⟩
  | op h0 h1 h2 =>
    refine ⟨"op", _, rfl, by decide +kernel, ?_, ?_⟩
    · simp only [fo_op, Fits, kp_number, kp_text, kp_name, kp_binders, kp_binder, kp_handed_parts, kp_row_parts, kp_word, kp_op_parts, kp_tag, km_part, km_number, km_text, km_name, km_binders, km_binder, km_handed_parts, km_row_parts, km_word, km_op_parts, km_tag, false_imp_iff, true_imp_iff, true_and, and_true]; exact ⟨_, rfl, by have := opMany_le h0; omega⟩
    · intro p hp; simp only [fo_op, partsF, kp_number, kp_text, kp_name, kp_binders, kp_binder, kp_handed_parts, kp_row_parts, kp_word, kp_op_parts, kp_tag, km_part, km_number, km_text, km_name, km_binders, km_binder, km_handed_parts, km_row_parts, km_word, km_op_parts, km_tag, if_true, if_false, tupItems, List.append_nil, List.nil_append] at hp; try simp only [List.mem_append, List.mem_cons, List.not_mem_nil, or_false, false_or] at hp
      exact ⟨_, rfl, h1 p hp⟩
  | cell h1 =>
    refine ⟨"cell", _, rfl, by decide +kernel, ?_, ?_⟩
    · simp only [fo_cell, Fits, kp_number, kp_text, kp_name, kp_binders, kp_binder, kp_handed_parts, kp_row_parts, kp_word, kp_op_parts, kp_tag, km_part, km_number, km_text, km_name, km_binders, km_binder, km_handed_parts, km_row_parts, km_word, km_op_parts, km_tag, false_imp_iff, true_imp_iff, true_and, and_true]
    · intro p hp; simp only [fo_cell, partsF, kp_number, kp_text, kp_name, kp_binders, kp_binder, kp_handed_parts, kp_row_parts, kp_word, kp_op_parts, kp_tag, km_part, km_number, km_text, km_name, km_binders, km_binder, km_handed_parts, km_row_parts, km_word, km_op_parts, km_tag, if_true, if_false, tupItems, List.append_nil, List.nil_append] at hp; try simp only [List.mem_append, List.mem_cons, List.not_mem_nil, or_false, false_or] at hp
      exact ⟨_, rfl, hp ▸ h1⟩
  | get h1 =>
    refine ⟨"get", _, rfl, by decide +kernel, ?_, ?_⟩
    · simp only [fo_get, Fits, kp_number, kp_text, kp_name, kp_binders, kp_binder, kp_handed_parts, kp_row_parts, kp_word, kp_op_parts, kp_tag, km_part, km_number, km_text, km_name, km_binders, km_binder, km_handed_parts, km_row_parts, km_word, km_op_parts, km_tag, false_imp_iff, true_imp_iff, true_and, and_true]
    · intro p hp; simp only [fo_get, partsF, kp_number, kp_text, kp_name, kp_binders, kp_binder, kp_handed_parts, kp_row_parts, kp_word, kp_op_parts, kp_tag, km_part, km_number, km_text, km_name, km_binders, km_binder, km_handed_parts, km_row_parts, km_word, km_op_parts, km_tag, if_true, if_false, tupItems, List.append_nil, List.nil_append] at hp; try simp only [List.mem_append, List.mem_cons, List.not_mem_nil, or_false, false_or] at hp
      exact ⟨_, rfl, hp ▸ h1⟩
  | sett h1 h2 =>
    refine ⟨"set", _, rfl, by decide +kernel, ?_, ?_⟩
    · simp only [fo_set, Fits, kp_number, kp_text, kp_name, kp_binders, kp_binder, kp_handed_parts, kp_row_parts, kp_word, kp_op_parts, kp_tag, km_part, km_number, km_text, km_name, km_binders, km_binder, km_handed_parts, km_row_parts, km_word, km_op_parts, km_tag, false_imp_iff, true_imp_iff, true_and, and_true]
    · intro p hp; simp only [fo_set, partsF, kp_number, kp_text, kp_name, kp_binders, kp_binder, kp_handed_parts, kp_row_parts, kp_word, kp_op_parts, kp_tag, km_part, km_number, km_text, km_name, km_binders, km_binder, km_handed_parts, km_row_parts, km_word, km_op_parts, km_tag, if_true, if_false, tupItems, List.append_nil, List.nil_append] at hp; try simp only [List.mem_append, List.mem_cons, List.not_mem_nil, or_false, false_or] at hp
      rcases hp with hp | hp
      · exact ⟨_, rfl, hp ▸ h1⟩
      · exact ⟨_, rfl, hp ▸ h2⟩
  | say h1 =>
    refine ⟨"say", _, rfl, by decide +kernel, ?_, ?_⟩
    · simp only [fo_say, Fits, kp_number, kp_text, kp_name, kp_binders, kp_binder, kp_handed_parts, kp_row_parts, kp_word, kp_op_parts, kp_tag, km_part, km_number, km_text, km_name, km_binders, km_binder, km_handed_parts, km_row_parts, km_word, km_op_parts, km_tag, false_imp_iff, true_imp_iff, true_and, and_true]
    · intro p hp; simp only [fo_say, partsF, kp_number, kp_text, kp_name, kp_binders, kp_binder, kp_handed_parts, kp_row_parts, kp_word, kp_op_parts, kp_tag, km_part, km_number, km_text, km_name, km_binders, km_binder, km_handed_parts, km_row_parts, km_word, km_op_parts, km_tag, if_true, if_false, tupItems, List.append_nil, List.nil_append] at hp; try simp only [List.mem_append, List.mem_cons, List.not_mem_nil, or_false, false_or] at hp
      exact ⟨_, rfl, hp ▸ h1⟩
  | fault h1 =>
    refine ⟨"fault", _, rfl, by decide +kernel, ?_, ?_⟩
    · simp only [fo_fault, Fits, kp_number, kp_text, kp_name, kp_binders, kp_binder, kp_handed_parts, kp_row_parts, kp_word, kp_op_parts, kp_tag, km_part, km_number, km_text, km_name, km_binders, km_binder, km_handed_parts, km_row_parts, km_word, km_op_parts, km_tag, false_imp_iff, true_imp_iff, true_and, and_true]
    · intro p hp; simp only [fo_fault, partsF, kp_number, kp_text, kp_name, kp_binders, kp_binder, kp_handed_parts, kp_row_parts, kp_word, kp_op_parts, kp_tag, km_part, km_number, km_text, km_name, km_binders, km_binder, km_handed_parts, km_row_parts, km_word, km_op_parts, km_tag, if_true, if_false, tupItems, List.append_nil, List.nil_append] at hp; try simp only [List.mem_append, List.mem_cons, List.not_mem_nil, or_false, false_or] at hp
      exact ⟨_, rfl, hp ▸ h1⟩
  | guard h1 h h2 =>
    refine ⟨"guard", _, rfl, by decide +kernel, ?_, ?_⟩
    · simp only [fo_guard, Fits, kp_number, kp_text, kp_name, kp_binders, kp_binder, kp_handed_parts, kp_row_parts, kp_word, kp_op_parts, kp_tag, km_part, km_number, km_text, km_name, km_binders, km_binder, km_handed_parts, km_row_parts, km_word, km_op_parts, km_tag, false_imp_iff, true_imp_iff, true_and, and_true]
    · intro p hp; simp only [fo_guard, partsF, kp_number, kp_text, kp_name, kp_binders, kp_binder, kp_handed_parts, kp_row_parts, kp_word, kp_op_parts, kp_tag, km_part, km_number, km_text, km_name, km_binders, km_binder, km_handed_parts, km_row_parts, km_word, km_op_parts, km_tag, if_true, if_false, tupItems, List.append_nil, List.nil_append] at hp; try simp only [List.mem_append, List.mem_cons, List.not_mem_nil, or_false, false_or] at hp
      rcases hp with hp | hp
      · exact ⟨_, rfl, hp ▸ h1⟩
      · exact ⟨_, rfl, hp ▸ h2⟩
  | wind h1 h2 h3 =>
    refine ⟨"wind", _, rfl, by decide +kernel, ?_, ?_⟩
    · simp only [fo_wind, Fits, kp_number, kp_text, kp_name, kp_binders, kp_binder, kp_handed_parts, kp_row_parts, kp_word, kp_op_parts, kp_tag, km_part, km_number, km_text, km_name, km_binders, km_binder, km_handed_parts, km_row_parts, km_word, km_op_parts, km_tag, false_imp_iff, true_imp_iff, true_and, and_true]
    · intro p hp; simp only [fo_wind, partsF, kp_number, kp_text, kp_name, kp_binders, kp_binder, kp_handed_parts, kp_row_parts, kp_word, kp_op_parts, kp_tag, km_part, km_number, km_text, km_name, km_binders, km_binder, km_handed_parts, km_row_parts, km_word, km_op_parts, km_tag, if_true, if_false, tupItems, List.append_nil, List.nil_append] at hp; try simp only [List.mem_append, List.mem_cons, List.not_mem_nil, or_false, false_or] at hp
      rcases hp with hp | hp | hp
      · exact ⟨_, rfl, hp ▸ h1⟩
      · exact ⟨_, rfl, hp ▸ h2⟩
      · exact ⟨_, rfl, hp ▸ h3⟩
  | catc h h1 =>
    refine ⟨"catch", _, rfl, by decide +kernel, ?_, ?_⟩
    · simp only [fo_catch, Fits, kp_number, kp_text, kp_name, kp_binders, kp_binder, kp_handed_parts, kp_row_parts, kp_word, kp_op_parts, kp_tag, km_part, km_number, km_text, km_name, km_binders, km_binder, km_handed_parts, km_row_parts, km_word, km_op_parts, km_tag, false_imp_iff, true_imp_iff, true_and, and_true]
    · intro p hp; simp only [fo_catch, partsF, kp_number, kp_text, kp_name, kp_binders, kp_binder, kp_handed_parts, kp_row_parts, kp_word, kp_op_parts, kp_tag, km_part, km_number, km_text, km_name, km_binders, km_binder, km_handed_parts, km_row_parts, km_word, km_op_parts, km_tag, if_true, if_false, tupItems, List.append_nil, List.nil_append] at hp; try simp only [List.mem_append, List.mem_cons, List.not_mem_nil, or_false, false_or] at hp
      exact ⟨_, rfl, hp ▸ h1⟩
  | go h1 h2 =>
    refine ⟨"go", _, rfl, by decide +kernel, ?_, ?_⟩
    · simp only [fo_go, Fits, kp_number, kp_text, kp_name, kp_binders, kp_binder, kp_handed_parts, kp_row_parts, kp_word, kp_op_parts, kp_tag, km_part, km_number, km_text, km_name, km_binders, km_binder, km_handed_parts, km_row_parts, km_word, km_op_parts, km_tag, false_imp_iff, true_imp_iff, true_and, and_true]
    · intro p hp; simp only [fo_go, partsF, kp_number, kp_text, kp_name, kp_binders, kp_binder, kp_handed_parts, kp_row_parts, kp_word, kp_op_parts, kp_tag, km_part, km_number, km_text, km_name, km_binders, km_binder, km_handed_parts, km_row_parts, km_word, km_op_parts, km_tag, if_true, if_false, tupItems, List.append_nil, List.nil_append] at hp; try simp only [List.mem_append, List.mem_cons, List.not_mem_nil, or_false, false_or] at hp
      rcases hp with hp | hp
      · exact ⟨_, rfl, hp ▸ h1⟩
      · exact ⟨_, rfl, hp ▸ h2⟩
  | mark h h1 =>
    refine ⟨"mark", _, rfl, by decide +kernel, ?_, ?_⟩
    · simp only [fo_mark, Fits, kp_number, kp_text, kp_name, kp_binders, kp_binder, kp_handed_parts, kp_row_parts, kp_word, kp_op_parts, kp_tag, km_part, km_number, km_text, km_name, km_binders, km_binder, km_handed_parts, km_row_parts, km_word, km_op_parts, km_tag, false_imp_iff, true_imp_iff, true_and, and_true]
    · intro p hp; simp only [fo_mark, partsF, kp_number, kp_text, kp_name, kp_binders, kp_binder, kp_handed_parts, kp_row_parts, kp_word, kp_op_parts, kp_tag, km_part, km_number, km_text, km_name, km_binders, km_binder, km_handed_parts, km_row_parts, km_word, km_op_parts, km_tag, if_true, if_false, tupItems, List.append_nil, List.nil_append] at hp; try simp only [List.mem_append, List.mem_cons, List.not_mem_nil, or_false, false_or] at hp
      exact ⟨_, rfl, hp ▸ h1⟩
  | take h h0 h1 =>
    refine ⟨"take", _, rfl, by decide +kernel, ?_, ?_⟩
    · simp only [fo_take, Fits, kp_number, kp_text, kp_name, kp_binders, kp_binder, kp_handed_parts, kp_row_parts, kp_word, kp_op_parts, kp_tag, km_part, km_number, km_text, km_name, km_binders, km_binder, km_handed_parts, km_row_parts, km_word, km_op_parts, km_tag, false_imp_iff, true_imp_iff, true_and, and_true]
    · intro p hp; simp only [fo_take, partsF, kp_number, kp_text, kp_name, kp_binders, kp_binder, kp_handed_parts, kp_row_parts, kp_word, kp_op_parts, kp_tag, km_part, km_number, km_text, km_name, km_binders, km_binder, km_handed_parts, km_row_parts, km_word, km_op_parts, km_tag, if_true, if_false, tupItems, List.append_nil, List.nil_append] at hp; try simp only [List.mem_append, List.mem_cons, List.not_mem_nil, or_false, false_or] at hp
      exact ⟨_, rfl, hp ▸ h1⟩
  | use h1 h2 =>
    refine ⟨"use", _, rfl, by decide +kernel, ?_, ?_⟩
    · simp only [fo_use, Fits, kp_number, kp_text, kp_name, kp_binders, kp_binder, kp_handed_parts, kp_row_parts, kp_word, kp_op_parts, kp_tag, km_part, km_number, km_text, km_name, km_binders, km_binder, km_handed_parts, km_row_parts, km_word, km_op_parts, km_tag, false_imp_iff, true_imp_iff, true_and, and_true]
    · intro p hp; simp only [fo_use, partsF, kp_number, kp_text, kp_name, kp_binders, kp_binder, kp_handed_parts, kp_row_parts, kp_word, kp_op_parts, kp_tag, km_part, km_number, km_text, km_name, km_binders, km_binder, km_handed_parts, km_row_parts, km_word, km_op_parts, km_tag, if_true, if_false, tupItems, List.append_nil, List.nil_append] at hp; try simp only [List.mem_append, List.mem_cons, List.not_mem_nil, or_false, false_or] at hp
      rcases hp with hp | hp
      · exact ⟨_, rfl, hp ▸ h1⟩
      · exact ⟨_, rfl, hp ▸ h2⟩
end Wp
set_option Elab.async false
set_option linter.all false
set_option maxRecDepth 100000
namespace Wp
open PySem PySem.Spec PyProof.Rows L2
-- parts_of: slots term 0, parts 1, what 2, thing 3
abbrev sparts_of : Stmt := top 8
theorem scparts_of : FnScope ["term", "parts", "what", "thing"] ["term"] (defScope sparts_of) := ⟨rfl, rfl, rfl, by decide +kernel, rfl, by decide +kernel, by decide +kernel⟩
abbrev slparts_of : List Str := ["term", "parts", "what", "thing"]
/-- the table of the program, as it stands behind the top -/
def FormsOk (K : PySem.W.Frag) (w : World) (fo : Addr) : Prop := ∀ p ∈ forms, ∃ t, KDct K w fo p.1 (.ref t) ∧ ∀ H, SqT K H t (p.2.map V.str)
def spPartsOf : Sp := fun vs H Q _ => ∃ (a : Addr) (v : V) (d : PyData) (n : Nat), vs = [v] ∧ Dq a H v d ∧ Tm n d ∧ ∀ p xs H', Same H H' → H p = none → H' p = some (.lst xs) → DqL a H xs (partsD d) → Q (.ref p) H'
theorem Fits.len : ∀ {ks : List Str} {xs : List PyData}, Fits ks xs → ks.length = xs.length
  | [], [], _ => rfl
  | k :: ks, x :: xs, h => by rw [List.length_cons, List.length_cons, Fits.len h.2]
  | [], x :: xs, h => h.elim
  | k :: ks, [], h => h.elim
theorem Fits.at_ : ∀ {ks : List Str} {xs : List PyData}, Fits ks xs → ∀ {i : Nat} {k : Str} {x : PyData}, ks[i]? = some k → xs[i]? = some x → k ∈ (["handed parts", "row parts", "op parts"] : List Str) → ∃ ds, x = .tuple ds ∧ ds.length ≤ 12
  | k :: ks, x :: xs, h, 0, _, _, e1, e2, hm => by
    simp at e1 e2
    subst e1 e2
    exact h.1 hm
  | k :: ks, x :: xs, h, i + 1, _, _, e1, e2, hm => Fits.at_ h.2 (i := i) (by simpa using e1) (by simpa using e2) hm
  | [], [], h, i, _, _, e1, _, _ => by simp at e1
  | [], x :: xs, h, _, _, _, _, _, _ => h.elim
  | k :: ks, [], h, _, _, _, _, _, _ => h.elim
/-- one thing more -/
theorem partsF_take : ∀ {ks : List Str} {xs : List PyData} {i : Nat} {k : Str} {x : PyData}, ks[i]? = some k → xs[i]? = some x → partsF (ks.take (i + 1)) (xs.take (i + 1)) = partsF (ks.take i) (xs.take i) ++ (if k = "part" then [x] else if k ∈ (["handed parts", "row parts", "op parts"] : List Str) then tupItems x else [])
  | k :: ks, x :: xs, 0, _, _, e1, e2 => by
    simp at e1 e2
    subst e1 e2
    simp only [List.take_succ_cons, List.take_zero, partsF, List.append_nil, List.nil_append]
  | k :: ks, x :: xs, i + 1, _, _, e1, e2 => by
    have ih := partsF_take (ks := ks) (xs := xs) (i := i) (by simpa using e1) (by simpa using e2)
    rw [List.take_succ_cons, List.take_succ_cons, partsF, ih, List.take_succ_cons, List.take_succ_cons, partsF, List.append_assoc]
  | [], _, _, _, _, e1, _ => by simp at e1
  | _ :: _, [], _, _, _, _, e2 => by simp at e2
theorem inV_strs {k : Str} : ∀ {ks : List Str}, inV (.str k) (ks.map V.str) = decide (k ∈ ks)
  | [] => by simp [inV]
  | z :: ks => by
    have ih := inV_strs (k := k) (ks := ks)
    unfold inV at ih ⊢
    rw [List.map_cons, List.any_cons, ih]
    by_cases h : z = k
    · subst h
      simp [eqV]
    · have h' : ¬ k = z := fun e => h e.symm
      simp [eqV, h, h']
theorem DqL.app {a : Addr} {H : Hp} : ∀ {xs ys : List V} {ds es : List PyData}, DqL a H xs ds → DqL a H ys es → DqL a H (xs ++ ys) (ds ++ es)
  | _, _, _, _, .nil, h => h
  | _, _, _, _, .cons q t, h => .cons q (DqL.app t h)
theorem Dq.same {a : Addr} {H H' : Hp} {v : V} {d : PyData} (h : Dq a H v d) (s : Same H H') : Dq a H' v d := h.st fun p xs _ e => s p _ e
theorem DqL.same {a : Addr} {H H' : Hp} {v : List V} {d : List PyData} (h : DqL a H v d) (s : Same H H') : DqL a H' v d := h.st fun p xs _ e => s p _ e
theorem cut1 (x : V) (xs : List V) : cutV (x :: xs) (some 1) none = xs := by
  unfold cutV
  have e : HT.sIx (x :: xs).length 0 (some 1) = 1 := by
    show min 1 (xs.length + 1) = 1
    omega
  rw [e]
  show ((x :: xs).drop 1).take ((x :: xs).length - 1) = xs
  simp
section
variable {P : Program} {w : World} {K : PySem.W.Frag} {mg : Str → Option Value} {base : Heap} {f fo : Addr} {fd : FuncData}
theorem ok_partsOf (F : Fun K "parts_of" "parts_of" sparts_of f fd) (m_zip : mg "zip" = none) (m_FORMS : mg "FORMS" = some (.ref fo)) (hF : FormsOk K w fo) : FnOk P w K mg base CX0 1 f fd ["term"] spPartsOf := by
  refine F.ok scparts_of (fun vs H Q E h => ?_) (fun cdv A outer s H vs Q E hr h => ?_)
  · obtain ⟨a, v, d, n, rfl, _⟩ := h
    rfl
  obtain ⟨a, v, d, n, rfl, hd, ht, q⟩ := h
  obtain ⟨z, its, rfl, hin, hfit, _⟩ := tm_parts ht
  cases hd with
  | @tup p xs _ np hp hx =>
    cases hx with
    | @cons x0 xr _ _ h0 hxr =>
      cases h0
      obtain ⟨t, hk, hsq⟩ := hF _ hin
      refine ⟨_, (pss_cons (ps_set (i := 1) scparts_of.nd rfl (.inl rfl) (pe_lst pa_nil))
  (pss_cons (ps_for PassesOwn.never rfl (RZ.pi_zipA rfl m_zip (pa_cons (pe_ix ix_kdict (pe_glob (v := .ref fo) rfl m_FORMS rfl) (pe_ix ix_tup (pv 0) pe_int (fun _ _ => rfl)) (fun _ _ => rfl)) (pa_cons (pe_slice sl_tupA (pv 0) (po_some pe_int) po_none) pa_nil))) (pg_tup rfl (pgs_cons (pg_name (i := 2) scparts_of.nd rfl (.inl rfl)) (pgs_cons (pg_name (i := 3) scparts_of.nd rfl (.inl rfl)) pgs_nil))) (pss_one (ps_if (pt_cmpR op_eq (pv 2) pe_str (nomark _)) (pss_one (ps_expr (pe_bm PySem.F.plainAttrs_list PySem.F.slot_list_append PySem.F.type_list_append mt_append (pv 1) (pa_cons (pv 3) pa_nil)))) (pss_one (ps_if (pt_cmpR op_in_seq (pv 2) (pe_tup (pa_cons pe_str (pa_cons pe_str (pa_cons pe_str pa_nil)))) rfl) (pss_one (ps_expr (pe_bm PySem.F.plainAttrs_list PySem.F.slot_list_extend PySem.F.type_list_extend mt_extT (pv 1) (pa_cons (pv 3) pa_nil)))) pss_nil)))))
  (pss_one (ps_ret (pv 1))))), ?_⟩
      refine ⟨(by show 0 ≤ sizeLine; decide), fun D hD => ?_⟩
      have s1 : Same H (upd H D (.lst [])) := same_new hD
      have hp1 := s1 _ _ hp
      refine ⟨_, rfl, p, _, _, _, rfl, rfl, SqT.of hp1, atI_nat (j := 0) rfl, fo, z, .ref t, rfl, rfl, hk, _, rfl, 1, rfl, p, _, rfl, SqT.of hp1, ?_, ?_⟩
      · intro c
        have e : HT.sIx (V.str z :: xr).length 0 (some 1) = 1 := by
          show min 1 (xr.length + 1) = 1
          omega
        rw [e] at c
        exact absurd c.1 (by decide)
      intro _ tp htp
      rw [cut1]
      have s2 : Same H (upd (upd H D (.lst [])) tp (.tup xr)) := s1.trans (same_new htp)
      have hl : its.length = (formOf z).length := hfit.len.symm
      have hl2 : xr.length = its.length := hxr.len
      have nDt : D ≠ tp := fun e => by rw [← e, upd_same] at htp; cases htp
      refine ⟨t, tp, (formOf z).map V.str, xr, rfl, .inr ⟨hsq _, SqT.of upd_same, RZ.for_zipT (K := K) (xs := (formOf z).map V.str) (ys := xr) (by rw [List.length_map]; omega)
        (fun i σ H' => Same H H' ∧ H' tp = some (.tup xr) ∧ (∃ t2 t3, σ = [some (.ref p), some (.ref D), t2, t3]) ∧ ∃ ys, H' D = some (.lst ys) ∧ ys.length ≤ 12 * i ∧ DqL a H ys (partsF ((formOf z).take i) (its.take i))) ?_ ?_ ?_ ?_⟩⟩
      · exact ⟨s2, upd_same, ⟨none, none, rfl⟩, [], by rw [upd_ne nDt]; exact upd_same, by decide, by rw [List.take_zero]; exact .nil⟩
      · rintro i σ H' ⟨s3, h3, _⟩
        exact ⟨hsq _, SqT.of h3⟩
      · rintro i x y T σ H' ex ey ⟨s3, h3, ⟨t2, t3, rfl⟩, ys, hys, lys, dys⟩ hT
        rw [List.getElem?_map] at ex
        obtain ⟨k, ek, rfl⟩ := Option.map_eq_some_iff.mp ex
        obtain ⟨e, ee, qe⟩ := hxr.get ey
        have li : i < (formOf z).length := (List.getElem?_eq_some_iff.mp ek).1
        have l3 : (formOf z).length ≤ 3 := by
          have k3 : ∀ p ∈ forms, p.2.length ≤ 3 := by decide +kernel
          exact k3 _ hin
        have pt := partsF_take ek ee
        have sT := s3.trans (same_new (o := .tup [.str k, y]) hT)
        have hT3 : upd H' T (.tup [.str k, y]) tp = some (.tup xr) := same_new hT _ _ h3
        have hTD : upd H' T (.tup [.str k, y]) D = some (.lst ys) := same_new hT _ _ hys
        refine ⟨T, _, rfl, SqT.of upd_same, rfl, _, _, rfl, _, _, rfl, rfl, ?_⟩
        refine ⟨_, rfl, rfl, _, rfl, ?_⟩
        refine ite2 (fun c => ?_) (fun c => ?_)
        · have ck : k = "part" := V.str.inj (of_decide_eq_true c)
          rw [if_pos ck] at pt
          refine ⟨_, rfl, .inl ⟨rfl, _, SqL.of hTD⟩, _, rfl, D, ys, y, rfl, rfl, hTD, small1000 (by omega), ?_⟩
          refine ⟨same_grow sT hD, by rw [upd_ne (Ne.symm nDt)]; exact hT3, ⟨_, _, rfl⟩, ys ++ [y], upd_same, by rw [List.length_append]; show ys.length + 1 ≤ _; omega, ?_⟩
          rw [pt]
          exact dys.app (.cons qe .nil)
        · have ck : ¬ k = "part" := fun e => c (decide_eq_true (by rw [e]))
          rw [if_neg ck] at pt
          refine ⟨_, rfl, (by show 3 ≤ sizeLine; decide), fun u hu => ⟨u, _, rfl, .inr (SqT.of upd_same), rfl, rfl, _, rfl, ?_⟩⟩
          have sU := sT.trans (same_new (o := .tup [.str "handed parts", .str "row parts", .str "op parts"]) hu)
          have hU3 := same_new (o := .tup [.str "handed parts", .str "row parts", .str "op parts"]) hu _ _ hT3
          have hUD := same_new (o := .tup [.str "handed parts", .str "row parts", .str "op parts"]) hu _ _ hTD
          have ei : inV (.str k) [.str "handed parts", .str "row parts", .str "op parts"] = decide (k ∈ (["handed parts", "row parts", "op parts"] : List Str)) := inV_strs (ks := ["handed parts", "row parts", "op parts"])
          refine ite2 (fun c2 => ?_) (fun c2 => ?_)
          · have c3 : inV (.str k) [.str "handed parts", .str "row parts", .str "op parts"] = true := c2
            rw [ei] at c3
            have cm := of_decide_eq_true c3
            rw [if_pos cm] at pt
            obtain ⟨es, rfl, les⟩ := hfit.at_ ek ee cm
            cases qe with
            | @tup r zs _ nr hr' hz =>
              have lz : zs.length = es.length := hz.len
              refine ⟨_, rfl, .inl ⟨rfl, _, SqL.of hUD⟩, _, rfl, D, r, ys, zs, rfl, rfl, hUD, sU _ _ hr', by omega, ?_⟩
              refine ⟨same_grow sU hD, by rw [upd_ne (Ne.symm nDt)]; exact hU3, ⟨_, _, rfl⟩, ys ++ zs, upd_same, by rw [List.length_append]; omega, ?_⟩
              rw [pt]
              exact dys.app hz
          · have c3 : ¬ inV (.str k) [.str "handed parts", .str "row parts", .str "op parts"] = true := c2
            rw [ei] at c3
            have cm : ¬ k ∈ (["handed parts", "row parts", "op parts"] : List Str) := fun e => c3 (decide_eq_true e)
            rw [if_neg cm, List.append_nil] at pt
            exact ⟨sU, hU3, ⟨_, _, rfl⟩, ys, hUD, by omega, by rw [pt]; exact dys⟩
      · rintro σ H' ⟨s3, h3, ⟨t2, t3, rfl⟩, ys, hys, lys, dys⟩
        rw [List.length_map, List.take_length, List.take_of_length_le (by omega)] at dys
        exact ⟨_, rfl, q D ys H' s3 hD hys dys⟩
end
end Wp
set_option Elab.async false
set_option linter.all false
set_option maxRecDepth 100000
namespace Wp
open PySem PySem.Spec PyProof.Rows L2
-- _law_places: slots _law_one 0, _law_two 1
abbrev s_law_places : Stmt := top 28
theorem sc_law_places : FnScope ["_law_one", "_law_two"] [] (defScope s_law_places) := ⟨rfl, rfl, rfl, by decide +kernel, rfl, by decide +kernel, by decide +kernel⟩
abbrev sl_law_places : List Str := ["_law_one", "_law_two"]
-- _law_parts: slots _law_a_term 0, _law_at_here 1
abbrev s_law_parts : Stmt := top 29
theorem sc_law_parts : FnScope ["_law_a_term", "_law_at_here"] ["_law_a_term"] (defScope s_law_parts) := ⟨rfl, rfl, rfl, by decide +kernel, rfl, by decide +kernel, by decide +kernel⟩
abbrev sl_law_parts : List Str := ["_law_a_term", "_law_at_here"]
theorem pe_has0 {X : Cx} {x : Str} {ps : List Str} {k : Nat} {sp : Sp} {p pos : Pos} (h : Has X.prog X.w X.K X.mg X.base x ps k sp) (hr : Room k X.A) (hg : Gl X x := by rfl) (hdb : (x == ("__debug__" : Str)) = false := by decide) : PE X (.Call (.Name x p) [] [] pos) (tCall sp [] E0 tNil) := by
  obtain ⟨f, fd, F, m, kp, b⟩ := h
  exact pe_call0 F hr hg m kp b .nil pass0 hdb
/-! ### a written dict of lists of ints -/
def tInts : List Int → TA
  | [] => tNil
  | i :: is => tCons (tC (.int i)) (tInts is)
theorem tInts_ok : ∀ (is : List Int) {σ : L2.St} {H : Hp} {Q : List V → Hp → Prop}, Q (is.map V.int) H → tInts is σ H Q
  | [], _, _, _, h => h
  | i :: is, _, _, _, h => tInts_ok is h
def tRow (pr : Str × List Int) : TE × TE := (tC (.str pr.1), tLst (tInts pr.2))
inductive PrAt (H : Hp) : List (Str × List Int) → List Addr → Prop
  | nil : PrAt H [] []
  | cons {pr : Str × List Int} {prs : List (Str × List Int)} {q : Addr} {qs : List Addr} : H q = some (.lst (pr.2.map V.int)) → PrAt H prs qs → PrAt H (pr :: prs) (q :: qs)
theorem PrAt.same {H H' : Hp} {prs : List (Str × List Int)} {qs : List Addr} (h : PrAt H prs qs) (s : Same H H') : PrAt H' prs qs := by
  induction h with
  | nil => exact .nil
  | cons e _ ih => exact .cons (s _ _ e) ih
theorem PrAt.app {H : Hp} {prs prs2 : List (Str × List Int)} {qs qs2 : List Addr} (h : PrAt H prs qs) (h2 : PrAt H prs2 qs2) : PrAt H (prs ++ prs2) (qs ++ qs2) := by
  induction h with
  | nil => exact h2
  | cons e _ ih => exact .cons e ih
theorem PrAt.over {H : Hp} {p : Addr} {kvs : List (Key × V)} {o : HO} {prs : List (Str × List Int)} {qs : List Addr} (h : PrAt H prs qs) (e : H p = some (.dK kvs)) : PrAt (upd H p o) prs qs := by
  induction h with
  | nil => exact .nil
  | cons e1 _ ih => exact .cons (by rw [upd_ne (ne_of e1 e (by intro z; cases z))]; exact e1) ih
def krow (prs : List (Str × List Int)) (qs : List Addr) : List (Key × V) := List.zipWith (fun pr q => (Sum.inr pr.1, V.ref q)) prs qs
def prow (prs : List (Str × List Int)) (qs : List Addr) : List (V × V) := List.zipWith (fun pr q => (V.str pr.1, V.ref q)) prs qs
theorem prow_krow : ∀ (prs : List (Str × List Int)) (qs : List Addr), prow prs qs = (krow prs qs).map fun kv => (kV kv.1, kv.2)
  | [], _ => rfl
  | _ :: _, [] => rfl
  | pr :: prs, q :: qs => by
    show (V.str pr.1, V.ref q) :: prow prs qs = (kV (Sum.inr pr.1), V.ref q) :: (krow prs qs).map fun kv => (kV kv.1, kv.2)
    rw [prow_krow prs qs]
    rfl
theorem krow_len : ∀ (prs : List (Str × List Int)) (qs : List Addr), (krow prs qs).length ≤ prs.length
  | [], _ => by simp [krow]
  | _ :: _, [] => by simp [krow]
  | pr :: prs, q :: qs => by
    have ih := krow_len prs qs
    show (krow prs qs).length + 1 ≤ prs.length + 1
    omega
theorem pairs_ints : ∀ (prs : List (Str × List Int)) {σ : L2.St} {H : Hp} {Q : List (V × V) → Hp → Prop}, (∀ pr ∈ prs, pr.2.length ≤ 1000) → (∀ qs H', Same H H' → PrAt H' prs qs → Q (prow prs qs) H') → tPairs (prs.map tRow) σ H Q
  | [], _, H, _, _, h => h [] H (Same.refl H) .nil
  | pr :: prs, σ, H, Q, hl, h => by
    show tLst (tInts pr.2) σ H fun y H2 => tPairs (prs.map tRow) σ H2 fun ps H3 => Q ((V.str pr.1, y) :: ps) H3
    refine tInts_ok pr.2 ⟨by rw [List.length_map]; exact Nat.le_of_lt (small1000 (hl pr List.mem_cons_self)), fun q hq => ?_⟩
    refine pairs_ints prs (fun p hp => hl p (List.mem_cons_of_mem _ hp)) fun qs H' s hp => ?_
    exact h (q :: qs) H' ((same_new hq).trans s) (.cons (s _ _ upd_same) hp)
def prs1 : List (Str × List Int) := [("cell", [1]), ("get", [1]), ("say", [1]), ("fault", [1]), ("fun", [2]), ("rec", [3]), ("catch", [2]), ("mark", [2])]
def prs2 : List (Str × List Int) := [("let", [2, 3]), ("set", [1, 2]), ("guard", [1, 3]), ("go", [1, 2]), ("use", [1, 2]), ("take", [3])]
def prs3 : List (Str × List Int) := [("if", [1, 2, 3]), ("wind", [1, 2, 3])]
theorem PrAt.eight {H : Hp} {qs : List Addr} (h : PrAt H prs1 qs) : ∃ x1 x2 x3 x4 x5 x6 x7 x8, qs = [x1, x2, x3, x4, x5, x6, x7, x8] := by
  cases h with | cons _ h => cases h with | cons _ h => cases h with | cons _ h => cases h with | cons _ h => cases h with | cons _ h => cases h with | cons _ h => cases h with | cons _ h => cases h with | cons _ h => cases h; exact ⟨_, _, _, _, _, _, _, _, rfl⟩
theorem PrAt.six {H : Hp} {qs : List Addr} (h : PrAt H prs2 qs) : ∃ x1 x2 x3 x4 x5 x6, qs = [x1, x2, x3, x4, x5, x6] := by
  cases h with | cons _ h => cases h with | cons _ h => cases h with | cons _ h => cases h with | cons _ h => cases h with | cons _ h => cases h with | cons _ h => cases h; exact ⟨_, _, _, _, _, _, rfl⟩
theorem PrAt.two {H : Hp} {qs : List Addr} (h : PrAt H prs3 qs) : ∃ x1 x2, qs = [x1, x2] := by
  cases h with | cons _ h => cases h with | cons _ h => cases h; exact ⟨_, _, rfl⟩
def spPlaces : Sp := fun vs H Q _ => vs = [] ∧ ∀ p qs H', Same H H' → H p = none → PrAt H' places qs → H' p = some (.dK (krow places qs)) → Q (.ref p) H'
section
variable {P : Program} {w : World} {K : PySem.W.Frag} {mg : Str → Option Value} {base : Heap} {f fo : Addr} {fd : FuncData}
theorem ok_places (F : Fun K "_law_places" "_law_places" s_law_places f fd) : FnOk P w K mg base CX0 1 f fd [] spPlaces := by
  refine F.ok sc_law_places (fun vs H Q E h => ?_) (fun cdv A outer s H vs Q E hr h => ?_)
  · rw [h.1]
    rfl
  obtain ⟨rfl, q⟩ := h
  refine ⟨_, (pss_cons (ps_set (i := 0) sc_law_places.nd rfl (.inl rfl) (pe_disp (pps_cons pe_str (pe_lst (pa_cons pe_int pa_nil)) (pps_cons pe_str (pe_lst (pa_cons pe_int pa_nil)) (pps_cons pe_str (pe_lst (pa_cons pe_int pa_nil)) (pps_cons pe_str (pe_lst (pa_cons pe_int pa_nil)) (pps_cons pe_str (pe_lst (pa_cons pe_int pa_nil)) (pps_cons pe_str (pe_lst (pa_cons pe_int pa_nil)) (pps_cons pe_str (pe_lst (pa_cons pe_int pa_nil)) (pps_cons pe_str (pe_lst (pa_cons pe_int pa_nil)) pps_nil)))))))) rfl rfl (List.cons_ne_nil _ _) (by decide)))
  (pss_cons (ps_set (i := 1) sc_law_places.nd rfl (.inl rfl) (pe_disp (pps_cons pe_str (pe_lst (pa_cons pe_int (pa_cons pe_int pa_nil))) (pps_cons pe_str (pe_lst (pa_cons pe_int (pa_cons pe_int pa_nil))) (pps_cons pe_str (pe_lst (pa_cons pe_int (pa_cons pe_int pa_nil))) (pps_cons pe_str (pe_lst (pa_cons pe_int (pa_cons pe_int pa_nil))) (pps_cons pe_str (pe_lst (pa_cons pe_int (pa_cons pe_int pa_nil))) (pps_cons pe_str (pe_lst (pa_cons pe_int pa_nil)) pps_nil)))))) rfl rfl (List.cons_ne_nil _ _) (by decide)))
  (pss_cons (ps_expr (pe_bm PySem.F.plainAttrs_dict PySem.F.slot_dict_update PySem.F.type_dict_update mt_upd (pv 0) (pa_cons (pv 1) pa_nil)))
  (pss_cons (ps_expr (pe_bm PySem.F.plainAttrs_dict PySem.F.slot_dict_update PySem.F.type_dict_update mt_upd (pv 0) (pa_cons (pe_disp (pps_cons pe_str (pe_lst (pa_cons pe_int (pa_cons pe_int (pa_cons pe_int pa_nil)))) (pps_cons pe_str (pe_lst (pa_cons pe_int (pa_cons pe_int (pa_cons pe_int pa_nil)))) pps_nil)) rfl rfl (List.cons_ne_nil _ _) (by decide)) pa_nil)))
  (pss_one (ps_ret (pv 0))))))), ?_⟩
  intro p1 n1
  refine pairs_ints prs1 (by decide +kernel) fun qs1 H1 s1 a1 => ?_
  refine ⟨s1 _ _ upd_same, krow prs1 qs1, prow_krow _ _, Nat.le_trans (krow_len _ _) (by decide), ?_⟩
  intro p2 n2
  refine pairs_ints prs2 (by decide +kernel) fun qs2 H2 s2 a2 => ?_
  refine ⟨s2 _ _ upd_same, krow prs2 qs2, prow_krow _ _, Nat.le_trans (krow_len _ _) (by decide), ?_⟩
  have n12 : p1 ≠ p2 := fun z => by rw [← z, upd_same] at n2; cases n2
  have k1 := Nat.le_trans (length_mergeK (krow prs1 qs1) []) (Nat.add_le_add_left (krow_len prs1 qs1) _)
  have k2 := Nat.le_trans (length_mergeK (krow prs2 qs2) []) (Nat.add_le_add_left (krow_len prs2 qs2) _)
  have k3 := length_mergeK (mergeK [] (krow prs2 qs2)) (mergeK [] (krow prs1 qs1))
  rw [List.length_nil, show prs1.length = 8 from rfl] at k1
  rw [List.length_nil, show prs2.length = 6 from rfl] at k2
  have e1 : upd H2 p2 (.dK (mergeK [] (krow prs2 qs2))) p1 = some (.dK (mergeK [] (krow prs1 qs1))) := by
    rw [upd_ne n12]
    refine s2 _ _ ?_
    rw [upd_ne n12]
    exact upd_same
  have ea1 : PrAt (upd H2 p2 (.dK (mergeK [] (krow prs2 qs2)))) prs1 qs1 := ((a1.over (s1 _ _ upd_same)).same ((same_new n2).trans s2)).over (s2 _ _ upd_same)
  have ea2 : PrAt (upd H2 p2 (.dK (mergeK [] (krow prs2 qs2)))) prs2 qs2 := a2.over (s2 _ _ upd_same)
  have sH2 : Same H (upd H2 p2 (.dK (mergeK [] (krow prs2 qs2)))) := fun b o hb => by
    have b1 : b ≠ p1 := fun z => by rw [z, n1] at hb; cases hb
    have hb1 : upd H1 p1 (.dK (mergeK [] (krow prs1 qs1))) b = some o := by
      rw [upd_ne b1]
      exact s1 b o (by rw [upd_ne b1]; exact hb)
    have b2 : b ≠ p2 := fun z => by rw [← z, hb1] at n2; cases n2
    rw [upd_ne b2]
    exact s2 b o (by rw [upd_ne b2]; exact hb1)
  have e2 : upd H2 p2 (.dK (mergeK [] (krow prs2 qs2))) p2 = some (.dK (mergeK [] (krow prs2 qs2))) := upd_same
  generalize upd H2 p2 (.dK (mergeK [] (krow prs2 qs2))) = HA at e1 e2 ea1 ea2 sH2 ⊢
  refine ⟨_, rfl, .inr (.inr (.inl ⟨rfl, .inl ⟨_, e1⟩⟩)), _, rfl, p1, p2, _, _, rfl, rfl, n12, e1, e2, by omega, ?_⟩
  refine ⟨_, rfl, .inr (.inr (.inl ⟨rfl, .inl ⟨_, upd_same⟩⟩)), ?_⟩
  intro p3 n3
  refine pairs_ints prs3 (by decide +kernel) fun qs3 H3 s3 a3 => ?_
  refine ⟨s3 _ _ upd_same, krow prs3 qs3, prow_krow _ _, Nat.le_trans (krow_len _ _) (by decide), ?_⟩
  have n13 : p1 ≠ p3 := fun z => by rw [← z, upd_same] at n3; cases n3
  have k4 := Nat.le_trans (length_mergeK (krow prs3 qs3) []) (Nat.add_le_add_left (krow_len prs3 qs3) _)
  rw [List.length_nil, show prs3.length = 2 from rfl] at k4
  have e3 : upd H3 p3 (.dK (mergeK [] (krow prs3 qs3))) p1 = some (.dK (mergeK (mergeK [] (krow prs1 qs1)) (mergeK [] (krow prs2 qs2)))) := by
    rw [upd_ne n13]
    refine s3 _ _ ?_
    rw [upd_ne n13]
    exact upd_same
  have e4 : upd H3 p3 (.dK (mergeK [] (krow prs3 qs3))) p3 = some (.dK (mergeK [] (krow prs3 qs3))) := upd_same
  have fa1 : PrAt (upd H3 p3 (.dK (mergeK [] (krow prs3 qs3)))) prs1 qs1 := ((ea1.over e1).same ((same_new n3).trans s3)).over (s3 _ _ upd_same)
  have fa2 : PrAt (upd H3 p3 (.dK (mergeK [] (krow prs3 qs3)))) prs2 qs2 := ((ea2.over e1).same ((same_new n3).trans s3)).over (s3 _ _ upd_same)
  have fa3 : PrAt (upd H3 p3 (.dK (mergeK [] (krow prs3 qs3)))) prs3 qs3 := a3.over (s3 _ _ upd_same)
  have sH3 : ∀ b o, H b = some o → upd H3 p3 (.dK (mergeK [] (krow prs3 qs3))) b = some o := fun b o hb => by
    have b1 : b ≠ p1 := fun z => by rw [z, n1] at hb; cases hb
    have hb1 : upd HA p1 (.dK (mergeK (mergeK [] (krow prs1 qs1)) (mergeK [] (krow prs2 qs2)))) b = some o := by
      rw [upd_ne b1]
      exact sH2 b o hb
    have b2 : b ≠ p3 := fun z => by rw [← z, hb1] at n3; cases n3
    rw [upd_ne b2]
    exact s3 b o (by rw [upd_ne b2]; exact hb1)
  generalize upd H3 p3 (.dK (mergeK [] (krow prs3 qs3))) = HB at e3 e4 fa1 fa2 fa3 sH3 ⊢
  refine ⟨p1, p3, _, _, rfl, rfl, n13, e3, e4, by omega, _, rfl, ?_⟩
  have ea := (fa1.app (fa2.app fa3)).over (o := .dK (mergeK (mergeK (mergeK [] (krow prs1 qs1)) (mergeK [] (krow prs2 qs2))) (mergeK [] (krow prs3 qs3)))) e3
  have em : mergeK (mergeK (mergeK [] (krow prs1 qs1)) (mergeK [] (krow prs2 qs2))) (mergeK [] (krow prs3 qs3)) = krow places (qs1 ++ (qs2 ++ qs3)) := by
    obtain ⟨x1, x2, x3, x4, x5, x6, x7, x8, rfl⟩ := fa1.eight
    obtain ⟨y1, y2, y3, y4, y5, y6, rfl⟩ := fa2.six
    obtain ⟨z1, z2, rfl⟩ := fa3.two
    clear ea fa1 fa2 fa3 e3 e4
    kernel_rfl
  refine q p1 _ _ (fun b o hb => ?_) n1 ea (by rw [em]; exact upd_same)
  rw [upd_ne (fun z => by rw [z, n1] at hb; cases hb)]
  exact sH3 b o hb
end
end Wp
set_option Elab.async false
set_option linter.all false
set_option maxRecDepth 100000
namespace Wp
open PySem PySem.Spec PyProof.Rows L2
def placesOf (w : Str) : List Int := (places.lookup w).getD []
theorem pl_num : placesOf "num" = ([] : List Int) := by decide +kernel
theorem pl_text : placesOf "text" = ([] : List Int) := by decide +kernel
theorem pl_yes : placesOf "yes" = ([] : List Int) := by decide +kernel
theorem pl_no : placesOf "no" = ([] : List Int) := by decide +kernel
theorem pl_none : placesOf "none" = ([] : List Int) := by decide +kernel
theorem pl_name : placesOf "name" = ([] : List Int) := by decide +kernel
theorem pl_cell : placesOf "cell" = ([1] : List Int) := by decide +kernel
theorem pl_get : placesOf "get" = ([1] : List Int) := by decide +kernel
theorem pl_say : placesOf "say" = ([1] : List Int) := by decide +kernel
theorem pl_fault : placesOf "fault" = ([1] : List Int) := by decide +kernel
theorem pl_fun : placesOf "fun" = ([2] : List Int) := by decide +kernel
theorem pl_rec : placesOf "rec" = ([3] : List Int) := by decide +kernel
theorem pl_catch : placesOf "catch" = ([2] : List Int) := by decide +kernel
theorem pl_mark : placesOf "mark" = ([2] : List Int) := by decide +kernel
theorem pl_let : placesOf "let" = ([2, 3] : List Int) := by decide +kernel
theorem pl_set : placesOf "set" = ([1, 2] : List Int) := by decide +kernel
theorem pl_guard : placesOf "guard" = ([1, 3] : List Int) := by decide +kernel
theorem pl_go : placesOf "go" = ([1, 2] : List Int) := by decide +kernel
theorem pl_use : placesOf "use" = ([1, 2] : List Int) := by decide +kernel
theorem pl_take : placesOf "take" = ([3] : List Int) := by decide +kernel
theorem pl_if : placesOf "if" = ([1, 2, 3] : List Int) := by decide +kernel
theorem pl_wind : placesOf "wind" = ([1, 2, 3] : List Int) := by decide +kernel
/-- how the law finds the parts -/
theorem tm_law {n : Nat} {d : PyData} (h : Tm n d) : ∃ (w : Str) (its : List PyData), d = .tuple (.str w :: its) ∧
    ((w = "call" ∧ ∃ e ds, its = [e, .tuple ds] ∧ partsD d = e :: ds ∧ ds.length ≤ 12) ∨ (w = "do" ∧ ∃ ds, its = [.tuple ds] ∧ partsD d = ds ∧ ds.length ≤ 12) ∨ (w = "op" ∧ ∃ e ds, its = [e, .tuple ds] ∧ partsD d = ds ∧ ds.length ≤ 12) ∨
      (¬ w = "call" ∧ ¬ w = "do" ∧ ¬ w = "op" ∧ partsD d = (placesOf w).map (fun i => ((PyData.str w :: its)[i.toNat]?).getD .none) ∧ (∀ i ∈ placesOf w, 0 ≤ i ∧ i < ((its.length + 1 : Nat) : Int)) ∧ (placesOf w).length ≤ 3)) := by
  cases h with
  | num i =>
    refine ⟨"num", _, rfl, .inr (.inr (.inr ⟨by decide +kernel, by decide +kernel, by decide +kernel, ?_, ?_, by rw [pl_num]; decide⟩))⟩
    · simp only [partsD, fo_num, partsF, kp_number, kp_text, kp_name, kp_binders, kp_binder, kp_handed_parts, kp_row_parts, kp_word, kp_op_parts, kp_tag, km_part, km_number, km_text, km_name, km_binders, km_binder, km_handed_parts, km_row_parts, km_word, km_op_parts, km_tag, if_true, if_false, tupItems, List.append_nil, List.nil_append, List.cons_append]; rw [pl_num]; rfl
    · rw [pl_num]; intro i hi; simp only [List.mem_cons, List.not_mem_nil, or_false] at hi
  | text h =>
    refine ⟨"text", _, rfl, .inr (.inr (.inr ⟨by decide +kernel, by decide +kernel, by decide +kernel, ?_, ?_, by rw [pl_text]; decide⟩))⟩
    · simp only [partsD, fo_text, partsF, kp_number, kp_text, kp_name, kp_binders, kp_binder, kp_handed_parts, kp_row_parts, kp_word, kp_op_parts, kp_tag, km_part, km_number, km_text, km_name, km_binders, km_binder, km_handed_parts, km_row_parts, km_word, km_op_parts, km_tag, if_true, if_false, tupItems, List.append_nil, List.nil_append, List.cons_append]; rw [pl_text]; rfl
    · rw [pl_text]; intro i hi; simp only [List.mem_cons, List.not_mem_nil, or_false] at hi
  | yes =>
    refine ⟨"yes", _, rfl, .inr (.inr (.inr ⟨by decide +kernel, by decide +kernel, by decide +kernel, ?_, ?_, by rw [pl_yes]; decide⟩))⟩
    · simp only [partsD, fo_yes, partsF, kp_number, kp_text, kp_name, kp_binders, kp_binder, kp_handed_parts, kp_row_parts, kp_word, kp_op_parts, kp_tag, km_part, km_number, km_text, km_name, km_binders, km_binder, km_handed_parts, km_row_parts, km_word, km_op_parts, km_tag, if_true, if_false, tupItems, List.append_nil, List.nil_append, List.cons_append]; rw [pl_yes]; rfl
    · rw [pl_yes]; intro i hi; simp only [List.mem_cons, List.not_mem_nil, or_false] at hi
  | no =>
    refine ⟨"no", _, rfl, .inr (.inr (.inr ⟨by decide +kernel, by decide +kernel, by decide +kernel, ?_, ?_, by rw [pl_no]; decide⟩))⟩
    · simp only [partsD, fo_no, partsF, kp_number, kp_text, kp_name, kp_binders, kp_binder, kp_handed_parts, kp_row_parts, kp_word, kp_op_parts, kp_tag, km_part, km_number, km_text, km_name, km_binders, km_binder, km_handed_parts, km_row_parts, km_word, km_op_parts, km_tag, if_true, if_false, tupItems, List.append_nil, List.nil_append, List.cons_append]; rw [pl_no]; rfl
    · rw [pl_no]; intro i hi; simp only [List.mem_cons, List.not_mem_nil, or_false] at hi
  | none =>
    refine ⟨"none", _, rfl, .inr (.inr (.inr ⟨by decide +kernel, by decide +kernel, by decide +kernel, ?_, ?_, by rw [pl_none]; decide⟩))⟩
    · simp only [partsD, fo_none, partsF, kp_number, kp_text, kp_name, kp_binders, kp_binder, kp_handed_parts, kp_row_parts, kp_word, kp_op_parts, kp_tag, km_part, km_number, km_text, km_name, km_binders, km_binder, km_handed_parts, km_row_parts, km_word, km_op_parts, km_tag, if_true, if_false, tupItems, List.append_nil, List.nil_append, List.cons_append]; rw [pl_none]; rfl
    · rw [pl_none]; intro i hi; simp only [List.mem_cons, List.not_mem_nil, or_false] at hi
  | name h =>
    refine ⟨"name", _, rfl, .inr (.inr (.inr ⟨by decide +kernel, by decide +kernel, by decide +kernel, ?_, ?_, by rw [pl_name]; decide⟩))⟩
    · simp only [partsD, fo_name, partsF, kp_number, kp_text, kp_name, kp_binders, kp_binder, kp_handed_parts, kp_row_parts, kp_word, kp_op_parts, kp_tag, km_part, km_number, km_text, km_name, km_binders, km_binder, km_handed_parts, km_row_parts, km_word, km_op_parts, km_tag, if_true, if_false, tupItems, List.append_nil, List.nil_append, List.cons_append]; rw [pl_name]; rfl
    · rw [pl_name]; intro i hi; simp only [List.mem_cons, List.not_mem_nil, or_false] at hi
  | func h1 h2 h3 h4 =>
    refine ⟨"fun", _, rfl, .inr (.inr (.inr ⟨by decide +kernel, by decide +kernel, by decide +kernel, ?_, ?_, by rw [pl_fun]; decide⟩))⟩
    · simp only [partsD, fo_fun, partsF, kp_number, kp_text, kp_name, kp_binders, kp_binder, kp_handed_parts, kp_row_parts, kp_word, kp_op_parts, kp_tag, km_part, km_number, km_text, km_name, km_binders, km_binder, km_handed_parts, km_row_parts, km_word, km_op_parts, km_tag, if_true, if_false, tupItems, List.append_nil, List.nil_append, List.cons_append]; rw [pl_fun]; rfl
    · rw [pl_fun]; intro i hi; simp only [List.mem_cons, List.not_mem_nil, or_false] at hi; simp only [List.length_cons, List.length_nil]; omega
  | recu h0 h1 h2 h3 h4 =>
    refine ⟨"rec", _, rfl, .inr (.inr (.inr ⟨by decide +kernel, by decide +kernel, by decide +kernel, ?_, ?_, by rw [pl_rec]; decide⟩))⟩
    · simp only [partsD, fo_rec, partsF, kp_number, kp_text, kp_name, kp_binders, kp_binder, kp_handed_parts, kp_row_parts, kp_word, kp_op_parts, kp_tag, km_part, km_number, km_text, km_name, km_binders, km_binder, km_handed_parts, km_row_parts, km_word, km_op_parts, km_tag, if_true, if_false, tupItems, List.append_nil, List.nil_append, List.cons_append]; rw [pl_rec]; rfl
    · rw [pl_rec]; intro i hi; simp only [List.mem_cons, List.not_mem_nil, or_false] at hi; simp only [List.length_cons, List.length_nil]; omega
  | call h1 h2 h3 =>
    exact ⟨"call", _, rfl, .inl ⟨rfl, _, _, rfl, by simp only [partsD, fo_call, partsF, kp_number, kp_text, kp_name, kp_binders, kp_binder, kp_handed_parts, kp_row_parts, kp_word, kp_op_parts, kp_tag, km_part, km_number, km_text, km_name, km_binders, km_binder, km_handed_parts, km_row_parts, km_word, km_op_parts, km_tag, if_true, if_false, tupItems, List.append_nil, List.nil_append, List.cons_append], by omega⟩⟩
  | lett h h1 h2 =>
    refine ⟨"let", _, rfl, .inr (.inr (.inr ⟨by decide +kernel, by decide +kernel, by decide +kernel, ?_, ?_, by rw [pl_let]; decide⟩))⟩
    · simp only [partsD, fo_let, partsF, kp_number, kp_text, kp_name, kp_binders, kp_binder, kp_handed_parts, kp_row_parts, kp_word, kp_op_parts, kp_tag, km_part, km_number, km_text, km_name, km_binders, km_binder, km_handed_parts, km_row_parts, km_word, km_op_parts, km_tag, if_true, if_false, tupItems, List.append_nil, List.nil_append, List.cons_append]; rw [pl_let]; rfl
    · rw [pl_let]; intro i hi; simp only [List.mem_cons, List.not_mem_nil, or_false] at hi; simp only [List.length_cons, List.length_nil]; omega
  | iff h1 h2 h3 =>
    refine ⟨"if", _, rfl, .inr (.inr (.inr ⟨by decide +kernel, by decide +kernel, by decide +kernel, ?_, ?_, by rw [pl_if]; decide⟩))⟩
    · simp only [partsD, fo_if, partsF, kp_number, kp_text, kp_name, kp_binders, kp_binder, kp_handed_parts, kp_row_parts, kp_word, kp_op_parts, kp_tag, km_part, km_number, km_text, km_name, km_binders, km_binder, km_handed_parts, km_row_parts, km_word, km_op_parts, km_tag, if_true, if_false, tupItems, List.append_nil, List.nil_append, List.cons_append]; rw [pl_if]; rfl
    · rw [pl_if]; intro i hi; simp only [List.mem_cons, List.not_mem_nil, or_false] at hi; simp only [List.length_cons, List.length_nil]; omega
  | doo h1 h2 h3 =>
    exact ⟨"do", _, rfl, .inr (.inl ⟨rfl, _, rfl, by simp only [partsD, fo_do, partsF, kp_number, kp_text, kp_name, kp_binders, kp_binder, kp_handed_parts, kp_row_parts, kp_word, kp_op_parts, kp_tag, km_part, km_number, km_text, km_name, km_binders, km_binder, km_handed_parts, km_row_parts, km_word, km_op_parts, km_tag, if_true, if_false, tupItems, List.append_nil, List.nil_append, List.cons_append], by omega⟩)⟩
  | op h0 h1 h2 =>
    exact ⟨"op", _, rfl, .inr (.inr (.inl ⟨rfl, _, _, rfl, by simp only [partsD, fo_op, partsF, kp_number, kp_text, kp_name, kp_binders, kp_binder, kp_handed_parts, kp_row_parts, kp_word, kp_op_parts, kp_tag, km_part, km_number, km_text, km_name, km_binders, km_binder, km_handed_parts, km_row_parts, km_word, km_op_parts, km_tag, if_true, if_false, tupItems, List.append_nil, List.nil_append, List.cons_append], by have := opMany_le h0; omega⟩))⟩
  | cell h1 =>
    refine ⟨"cell", _, rfl, .inr (.inr (.inr ⟨by decide +kernel, by decide +kernel, by decide +kernel, ?_, ?_, by rw [pl_cell]; decide⟩))⟩
    · simp only [partsD, fo_cell, partsF, kp_number, kp_text, kp_name, kp_binders, kp_binder, kp_handed_parts, kp_row_parts, kp_word, kp_op_parts, kp_tag, km_part, km_number, km_text, km_name, km_binders, km_binder, km_handed_parts, km_row_parts, km_word, km_op_parts, km_tag, if_true, if_false, tupItems, List.append_nil, List.nil_append, List.cons_append]; rw [pl_cell]; rfl
    · rw [pl_cell]; intro i hi; simp only [List.mem_cons, List.not_mem_nil, or_false] at hi; simp only [List.length_cons, List.length_nil]; omega
  | get h1 =>
    refine ⟨"get", _, rfl, .inr (.inr (.inr ⟨by decide +kernel, by decide +kernel, by decide +kernel, ?_, ?_, by rw [pl_get]; decide⟩))⟩
    · simp only [partsD, fo_get, partsF, kp_number, kp_text, kp_name, kp_binders, kp_binder, kp_handed_parts, kp_row_parts, kp_word, kp_op_parts, kp_tag, km_part, km_number, km_text, km_name, km_binders, km_binder, km_handed_parts, km_row_parts, km_word, km_op_parts, km_tag, if_true, if_false, tupItems, List.append_nil, List.nil_append, List.cons_append]; rw [pl_get]; rfl
    · rw [pl_get]; intro i hi; simp only [List.mem_cons, List.not_mem_nil, or_false] at hi; simp only [List.length_cons, List.length_nil]; omega
  | sett h1 h2 =>
    refine ⟨"set", _, rfl, .inr (.inr (.inr ⟨by decide +kernel, by decide +kernel, by decide +kernel, ?_, ?_, by rw [pl_set]; decide⟩))⟩
    · simp only [partsD, fo_set, partsF, kp_number, kp_text, kp_name, kp_binders, kp_binder, kp_handed_parts, kp_row_parts, kp_word, kp_op_parts, kp_tag, km_part, km_number, km_text, km_name, km_binders, km_binder, km_handed_parts, km_row_parts, km_word, km_op_parts, km_tag, if_true, if_false, tupItems, List.append_nil, List.nil_append, List.cons_append]; rw [pl_set]; rfl
    · rw [pl_set]; intro i hi; simp only [List.mem_cons, List.not_mem_nil, or_false] at hi; simp only [List.length_cons, List.length_nil]; omega
  | say h1 =>
    refine ⟨"say", _, rfl, .inr (.inr (.inr ⟨by decide +kernel, by decide +kernel, by decide +kernel, ?_, ?_, by rw [pl_say]; decide⟩))⟩
    · simp only [partsD, fo_say, partsF, kp_number, kp_text, kp_name, kp_binders, kp_binder, kp_handed_parts, kp_row_parts, kp_word, kp_op_parts, kp_tag, km_part, km_number, km_text, km_name, km_binders, km_binder, km_handed_parts, km_row_parts, km_word, km_op_parts, km_tag, if_true, if_false, tupItems, List.append_nil, List.nil_append, List.cons_append]; rw [pl_say]; rfl
    · rw [pl_say]; intro i hi; simp only [List.mem_cons, List.not_mem_nil, or_false] at hi; simp only [List.length_cons, List.length_nil]; omega
  | fault h1 =>
    refine ⟨"fault", _, rfl, .inr (.inr (.inr ⟨by decide +kernel, by decide +kernel, by decide +kernel, ?_, ?_, by rw [pl_fault]; decide⟩))⟩
    · simp only [partsD, fo_fault, partsF, kp_number, kp_text, kp_name, kp_binders, kp_binder, kp_handed_parts, kp_row_parts, kp_word, kp_op_parts, kp_tag, km_part, km_number, km_text, km_name, km_binders, km_binder, km_handed_parts, km_row_parts, km_word, km_op_parts, km_tag, if_true, if_false, tupItems, List.append_nil, List.nil_append, List.cons_append]; rw [pl_fault]; rfl
    · rw [pl_fault]; intro i hi; simp only [List.mem_cons, List.not_mem_nil, or_false] at hi; simp only [List.length_cons, List.length_nil]; omega
  | guard h1 h h2 =>
    refine ⟨"guard", _, rfl, .inr (.inr (.inr ⟨by decide +kernel, by decide +kernel, by decide +kernel, ?_, ?_, by rw [pl_guard]; decide⟩))⟩
    · simp only [partsD, fo_guard, partsF, kp_number, kp_text, kp_name, kp_binders, kp_binder, kp_handed_parts, kp_row_parts, kp_word, kp_op_parts, kp_tag, km_part, km_number, km_text, km_name, km_binders, km_binder, km_handed_parts, km_row_parts, km_word, km_op_parts, km_tag, if_true, if_false, tupItems, List.append_nil, List.nil_append, List.cons_append]; rw [pl_guard]; rfl
    · rw [pl_guard]; intro i hi; simp only [List.mem_cons, List.not_mem_nil, or_false] at hi; simp only [List.length_cons, List.length_nil]; omega
  | wind h1 h2 h3 =>
    refine ⟨"wind", _, rfl, .inr (.inr (.inr ⟨by decide +kernel, by decide +kernel, by decide +kernel, ?_, ?_, by rw [pl_wind]; decide⟩))⟩
    · simp only [partsD, fo_wind, partsF, kp_number, kp_text, kp_name, kp_binders, kp_binder, kp_handed_parts, kp_row_parts, kp_word, kp_op_parts, kp_tag, km_part, km_number, km_text, km_name, km_binders, km_binder, km_handed_parts, km_row_parts, km_word, km_op_parts, km_tag, if_true, if_false, tupItems, List.append_nil, List.nil_append, List.cons_append]; rw [pl_wind]; rfl
    · rw [pl_wind]; intro i hi; simp only [List.mem_cons, List.not_mem_nil, or_false] at hi; simp only [List.length_cons, List.length_nil]; omega
  | catc h h1 =>
    refine ⟨"catch", _, rfl, .inr (.inr (.inr ⟨by decide +kernel, by decide +kernel, by decide +kernel, ?_, ?_, by rw [pl_catch]; decide⟩))⟩
    · simp only [partsD, fo_catch, partsF, kp_number, kp_text, kp_name, kp_binders, kp_binder, kp_handed_parts, kp_row_parts, kp_word, kp_op_parts, kp_tag, km_part, km_number, km_text, km_name, km_binders, km_binder, km_handed_parts, km_row_parts, km_word, km_op_parts, km_tag, if_true, if_false, tupItems, List.append_nil, List.nil_append, List.cons_append]; rw [pl_catch]; rfl
    · rw [pl_catch]; intro i hi; simp only [List.mem_cons, List.not_mem_nil, or_false] at hi; simp only [List.length_cons, List.length_nil]; omega
  | go h1 h2 =>
    refine ⟨"go", _, rfl, .inr (.inr (.inr ⟨by decide +kernel, by decide +kernel, by decide +kernel, ?_, ?_, by rw [pl_go]; decide⟩))⟩
    · simp only [partsD, fo_go, partsF, kp_number, kp_text, kp_name, kp_binders, kp_binder, kp_handed_parts, kp_row_parts, kp_word, kp_op_parts, kp_tag, km_part, km_number, km_text, km_name, km_binders, km_binder, km_handed_parts, km_row_parts, km_word, km_op_parts, km_tag, if_true, if_false, tupItems, List.append_nil, List.nil_append, List.cons_append]; rw [pl_go]; rfl
    · rw [pl_go]; intro i hi; simp only [List.mem_cons, List.not_mem_nil, or_false] at hi; simp only [List.length_cons, List.length_nil]; omega
  | mark h h1 =>
    refine ⟨"mark", _, rfl, .inr (.inr (.inr ⟨by decide +kernel, by decide +kernel, by decide +kernel, ?_, ?_, by rw [pl_mark]; decide⟩))⟩
    · simp only [partsD, fo_mark, partsF, kp_number, kp_text, kp_name, kp_binders, kp_binder, kp_handed_parts, kp_row_parts, kp_word, kp_op_parts, kp_tag, km_part, km_number, km_text, km_name, km_binders, km_binder, km_handed_parts, km_row_parts, km_word, km_op_parts, km_tag, if_true, if_false, tupItems, List.append_nil, List.nil_append, List.cons_append]; rw [pl_mark]; rfl
    · rw [pl_mark]; intro i hi; simp only [List.mem_cons, List.not_mem_nil, or_false] at hi; simp only [List.length_cons, List.length_nil]; omega
  | take h h0 h1 =>
    refine ⟨"take", _, rfl, .inr (.inr (.inr ⟨by decide +kernel, by decide +kernel, by decide +kernel, ?_, ?_, by rw [pl_take]; decide⟩))⟩
    · simp only [partsD, fo_take, partsF, kp_number, kp_text, kp_name, kp_binders, kp_binder, kp_handed_parts, kp_row_parts, kp_word, kp_op_parts, kp_tag, km_part, km_number, km_text, km_name, km_binders, km_binder, km_handed_parts, km_row_parts, km_word, km_op_parts, km_tag, if_true, if_false, tupItems, List.append_nil, List.nil_append, List.cons_append]; rw [pl_take]; rfl
    · rw [pl_take]; intro i hi; simp only [List.mem_cons, List.not_mem_nil, or_false] at hi; simp only [List.length_cons, List.length_nil]; omega
  | use h1 h2 =>
    refine ⟨"use", _, rfl, .inr (.inr (.inr ⟨by decide +kernel, by decide +kernel, by decide +kernel, ?_, ?_, by rw [pl_use]; decide⟩))⟩
    · simp only [partsD, fo_use, partsF, kp_number, kp_text, kp_name, kp_binders, kp_binder, kp_handed_parts, kp_row_parts, kp_word, kp_op_parts, kp_tag, km_part, km_number, km_text, km_name, km_binders, km_binder, km_handed_parts, km_row_parts, km_word, km_op_parts, km_tag, if_true, if_false, tupItems, List.append_nil, List.nil_append, List.cons_append]; rw [pl_use]; rfl
    · rw [pl_use]; intro i hi; simp only [List.mem_cons, List.not_mem_nil, or_false] at hi; simp only [List.length_cons, List.length_nil]; omega
end Wp
set_option Elab.async false
set_option linter.all false
set_option maxRecDepth 100000
namespace Wp
open PySem PySem.Spec PyProof.Rows L2
theorem val_krow {H : Hp} {z : Str} : ∀ {prs : List (Str × List Int)} {qs : List Addr}, PrAt H prs qs → (∀ is, prs.lookup z = some is → ∃ q, valV (krow prs qs) (Sum.inr z : Key) = some (.ref q) ∧ H q = some (.lst (is.map V.int))) ∧ (prs.lookup z = none → valV (krow prs qs) (Sum.inr z : Key) = none)
  | _, _, .nil => ⟨fun is h => by simp at h, fun _ => rfl⟩
  | (k, js) :: prs, q :: qs, .cons e t => by
    have ih := val_krow (z := z) t
    have ek : krow ((k, js) :: prs) (q :: qs) = (Sum.inr k, V.ref q) :: krow prs qs := rfl
    by_cases hk : k = z
    · subst hk
      have l1 : ((k, js) :: prs).lookup k = some js := by simp [List.lookup]
      refine ⟨fun is h => ?_, fun h => by rw [l1] at h; cases h⟩
      rw [l1] at h
      cases h
      exact ⟨q, by rw [ek]; exact valV_pos rfl, e⟩
    · have l1 : ((k, js) :: prs).lookup z = prs.lookup z := by
        have : (z == k) = false := by simpa using fun e => hk e.symm
        simp [List.lookup, this]
      have v1 : valV (krow ((k, js) :: prs) (q :: qs)) (Sum.inr z : Key) = valV (krow prs qs) (Sum.inr z) := by
        rw [ek]
        unfold valV
        rw [List.find?_cons, decide_eq_false (fun h => hk (Sum.inr.inj h))]
      rw [l1, v1]
      exact ih
section
variable {P : Program} {w : World} {K : PySem.W.Frag} {mg : Str → Option Value} {base : Heap} {f fo : Addr} {fd : FuncData}
theorem ok_parts (F : Fun K "_law_parts" "_law_parts" s_law_parts f fd) (G_law_places : Has P w K mg base "_law_places" [] 1 spPlaces) (m_list : mg "list" = none) : FnOk P w K mg base CX0 2 f fd ["_law_a_term"] spPartsOf := by
  refine F.ok sc_law_parts (fun vs H Q E h => ?_) (fun cdv A outer s H vs Q E hr h => ?_)
  · obtain ⟨a, v, d, n, rfl, _⟩ := h
    rfl
  obtain ⟨a, v, d, n, rfl, hd, ht, q⟩ := h
  obtain ⟨z, its, rfl, hc⟩ := tm_law ht
  cases hd with
  | @tup p xs _ np hp hx =>
    cases hx with
    | @cons x0 xr _ _ h0 hxr =>
      cases h0
      refine ⟨_, (pss_cons (ps_if (pt_cmpR op_eq (pe_ix ix_tup (pv 0) pe_int (fun _ _ => rfl)) pe_str (nomark _)) (pss_one (ps_ret (pe_op op_cat (pe_lst (pa_cons (pe_ix ix_tup (pv 0) pe_int (fun _ _ => rfl)) pa_nil)) (pe_callTy call_list_of rfl m_list PyProof.Rows.Boot.«list» (pa_cons (pe_ix ix_tup (pv 0) pe_int (fun _ _ => rfl)) pa_nil))))) pss_nil)
  (pss_cons (ps_if (pt_cmpR op_eq (pe_ix ix_tup (pv 0) pe_int (fun _ _ => rfl)) pe_str (nomark _)) (pss_one (ps_ret (pe_callTy call_list_of rfl m_list PyProof.Rows.Boot.«list» (pa_cons (pe_ix ix_tup (pv 0) pe_int (fun _ _ => rfl)) pa_nil)))) pss_nil)
  (pss_cons (ps_if (pt_cmpR op_eq (pe_ix ix_tup (pv 0) pe_int (fun _ _ => rfl)) pe_str (nomark _)) (pss_one (ps_ret (pe_callTy call_list_of rfl m_list PyProof.Rows.Boot.«list» (pa_cons (pe_ix ix_tup (pv 0) pe_int (fun _ _ => rfl)) pa_nil)))) pss_nil)
  (pss_one (ps_ret (pe_lc (own := [("_law_at_here", 1)]) (g := gName 1) (tt := tYes) (te := (tOp (rIxT K) (tVar 0) (tVar 1))) rfl sc_law_parts.nd (pi_list (pe_dget2 (hu_of hr) (pe_has0 G_law_places (hr.mono (by omega))) (pe_ix ix_tup (pv 0) pe_int (fun _ _ => rfl)) (pe_lst pa_nil) ⟨rfl, rfl, rfl, rfl⟩)) (blkOk_by (N := sl_law_parts) (sc := defScope s_law_parts) (by decide +kernel)) (fun _ _ _ _ _ => (pg_name (i := 1) sc_law_parts.nd rfl (.inl rfl))) (fun _ _ _ _ _ => pts_nil) (fun _ _ _ _ _ => (pe_ix ix_tup (pv 0) (pv 1) (fun _ _ => rfl))))))))), ?_⟩
      have sq : SqT K H p (.str z :: xr) := SqT.of hp
      have sl : 1 ≤ sizeLine := by decide
      refine ⟨_, rfl, p, _, _, _, rfl, rfl, sq, atI_nat (j := 0) rfl, rfl, _, rfl, ?_⟩
      rcases hc with ⟨rfl, e, ds, rfl, ep, ld⟩ | ⟨rfl, ds, rfl, ep, ld⟩ | ⟨rfl, e, ds, rfl, ep, ld⟩ | ⟨c1, c2, c3, ep, hb, hl3⟩
      · refine iteT ?_
        cases hxr with
        | @cons x1 xr1 _ _ h1 hxr =>
          cases hxr with
          | @cons x2 xr2 _ _ h2 hxr =>
            cases hxr
            cases h2 with
            | @tup r ys _ nr hr' hy =>
              refine ⟨_, rfl, p, _, _, _, rfl, rfl, sq, atI_nat (j := 1) rfl, sl, fun l hl => ?_⟩
              have s1 : Same H (upd H l (.lst [x1])) := same_new hl
              refine ⟨_, rfl, p, _, _, _, rfl, rfl, SqT.of (s1 _ _ hp), atI_nat (j := 2) rfl, r, ys, rfl, .inr (SqT.of (s1 _ _ hr')), fun m hm => ?_⟩
              have s2 := s1.trans (same_new (o := .lst ys) hm)
              have ly : ys.length = ds.length := hy.len
              refine ⟨l, m, [x1], ys, rfl, rfl, same_new hm _ _ upd_same, upd_same, Nat.le_of_lt (small1000 (by show 1 + ys.length ≤ 1000; omega)), fun u hu => ?_⟩
              have hu0 : H u = none := s2.free hu
              exact q u _ _ (s2.trans (same_new hu)) hu0 upd_same (by rw [ep]; exact .cons h1 hy)
      · refine iteF ?_
        refine ⟨_, rfl, p, _, _, _, rfl, rfl, sq, atI_nat (j := 0) rfl, rfl, _, rfl, ?_⟩
        refine iteT ?_
        cases hxr with
        | @cons x1 xr1 _ _ h1 hxr =>
          cases hxr
          cases h1 with
          | @tup r ys _ nr hr' hy =>
            refine ⟨_, rfl, p, _, _, _, rfl, rfl, sq, atI_nat (j := 1) rfl, r, ys, rfl, .inr (SqT.of hr'), fun m hm => ?_⟩
            exact q m _ _ (same_new hm) hm upd_same (by rw [ep]; exact hy)
      · refine iteF ?_
        refine ⟨_, rfl, p, _, _, _, rfl, rfl, sq, atI_nat (j := 0) rfl, rfl, _, rfl, ?_⟩
        refine iteF ?_
        refine ⟨_, rfl, p, _, _, _, rfl, rfl, sq, atI_nat (j := 0) rfl, rfl, _, rfl, ?_⟩
        refine iteT ?_
        cases hxr with
        | @cons x1 xr1 _ _ h1 hxr =>
          cases hxr with
          | @cons x2 xr2 _ _ h2 hxr =>
            cases hxr
            cases h2 with
            | @tup r ys _ nr hr' hy =>
              refine ⟨_, rfl, p, _, _, _, rfl, rfl, sq, atI_nat (j := 2) rfl, r, ys, rfl, .inr (SqT.of hr'), fun m hm => ?_⟩
              exact q m _ _ (same_new hm) hm upd_same (by rw [ep]; exact hy)
      · have no : ∀ {y : Str}, ¬ z = y → ¬ decide (V.str z = V.str y) = true := fun hn e => hn (V.str.inj (of_decide_eq_true e))
        refine ite2 (fun c => absurd c (no c1)) (fun _ => ?_)
        refine ⟨_, rfl, p, _, _, _, rfl, rfl, sq, atI_nat (j := 0) rfl, rfl, _, rfl, ?_⟩
        refine ite2 (fun c => absurd c (no c2)) (fun _ => ?_)
        refine ⟨_, rfl, p, _, _, _, rfl, rfl, sq, atI_nat (j := 0) rfl, rfl, _, rfl, ?_⟩
        refine ite2 (fun c => absurd c (no c3)) (fun _ => ?_)
        refine ⟨rfl, fun dp qs H1 s1 n1 at1 e1 => ?_⟩
        refine ⟨dp, rfl, .inl ⟨_, .inl e1⟩, _, rfl, p, _, _, _, rfl, rfl, SqT.of (s1 _ _ hp), atI_nat (j := 0) rfl, (by show 0 ≤ sizeLine; decide), fun l hl => ?_⟩
        have s2 := s1.trans (same_new (o := .lst []) hl)
        refine ⟨valV (krow places qs) (Sum.inr z : Key), DGet.k (k := Sum.inr z) (same_new hl _ _ e1), ?_⟩
        obtain ⟨rq, erq, hrq⟩ : ∃ rq, (valV (krow places qs) (Sum.inr z : Key)).getD (.ref l) = .ref rq ∧ upd H1 l (.lst []) rq = some (.lst ((placesOf z).map V.int)) := by
          have vk := val_krow (z := z) at1
          cases hz : places.lookup z with
          | none => exact ⟨l, by rw [vk.2 hz]; rfl, by rw [upd_same]; unfold placesOf; rw [hz]; rfl⟩
          | some is =>
            obtain ⟨rq, e, h⟩ := vk.1 is hz
            refine ⟨rq, by rw [e]; rfl, ?_⟩
            rw [same_new hl _ _ h]
            unfold placesOf
            rw [hz]
            rfl
        rw [erq]
        refine ⟨rq, rfl, ⟨_, SqL.of hrq⟩, fun D hD => ?_⟩
        have hD0 : H D = none := s2.free hD
        have lx : xr.length = its.length := hxr.len
        have hAll : DqL a H (.str z :: xr) (.str z :: its) := .cons (.str z) hxr
        refine lc_list (xs := (placesOf z).map V.int) (fun i H' => Same (upd H1 l (.lst [])) H' ∧ ∃ ys, H' D = some (.lst ys) ∧ DqL a H ys (((placesOf z).take i).map (fun i => ((PyData.str z :: its)[i.toNat]?).getD .none))) ?_ ?_ ?_ ?_
        · exact ⟨same_new hD, [], upd_same, by rw [List.take_zero]; exact .nil⟩
        · rintro i H' hi ⟨g, _⟩
          exact SqL.of (g _ _ hrq)
        · rintro i x H' hx' ⟨g, ys, hys, dys⟩
          rw [List.getElem?_map] at hx'
          obtain ⟨k, ek, rfl⟩ := Option.map_eq_some_iff.mp hx'
          have bk := hb k (List.mem_of_getElem? ek)
          have lk : k.toNat < (V.str z :: xr).length := by rw [List.length_cons, lx]; omega
          have e2 : (V.str z :: xr)[k.toNat]? = some ((V.str z :: xr)[k.toNat]) := List.getElem?_eq_getElem lk
          obtain ⟨d2, ed2, qd2⟩ := hAll.get e2
          have li : i < (placesOf z).length := (List.getElem?_eq_some_iff.mp ek).1
          have ly : ys.length ≤ 3 := by rw [dys.len, List.length_map, List.length_take]; omega
          refine ⟨wipe_one _ 1 _, ?_⟩
          refine (⟨_, rfl, _, rfl, p, _, _, _, rfl, rfl, SqT.of (g _ _ (s2 _ _ hp)), at_of (j := k.toNat) (by omega) e2, ?_⟩ : tOp (rIxT K) (tVar 0) (tVar 1) ((wipe (L2.start sl_law_parts [.ref p]) [1]).set 1 (some (.int k))) H' _)
          refine ⟨ys, hys, small1000 (by omega), same_grow g hD, ys ++ [_], upd_same, ?_⟩
          rw [List.take_add_one, ek, List.map_append]
          refine dys.app (.cons ?_ .nil)
          show Dq a H _ (((PyData.str z :: its)[k.toNat]?).getD .none)
          rw [ed2]
          exact qd2
        · rintro H' ⟨g, ys, hys, dys⟩
          rw [List.length_map, List.take_length] at dys
          exact q D ys H' (s2.trans g) hD0 hys (by rw [ep]; exact dys)
end
end Wp
set_option Elab.async false
set_option linter.all false
set_option maxRecDepth 100000
namespace Wp
open PySem PySem.Spec PyProof.Rows L2
/-! ### the paths of a term -/
def goP (f : PyData → List (List Int)) : Nat → List PyData → List (List Int)
  | _, [] => []
  | i, p :: ps => ((f p).map fun js => ((i : Nat) : Int) :: js) ++ goP f (i + 1) ps
def pathsD : Nat → PyData → List (List Int)
  | 0, _ => []
  | n + 1, d => [] :: goP (pathsD n) 0 (partsD d)
theorem goP_app (f : PyData → List (List Int)) : ∀ (i : Nat) (ps qs : List PyData), goP f i (ps ++ qs) = goP f i ps ++ goP f (i + ps.length) qs
  | i, [], qs => by simp [goP]
  | i, p :: ps, qs => by
    rw [List.cons_append, goP, goP, goP_app f (i + 1) ps qs, List.append_assoc, List.length_cons, show i + 1 + ps.length = i + (ps.length + 1) by omega]
theorem goP_take (f : PyData → List (List Int)) {ps : List PyData} {i : Nat} {p : PyData} (h : ps[i]? = some p) : goP f 0 (ps.take (i + 1)) = goP f 0 (ps.take i) ++ (f p).map fun js => ((i : Nat) : Int) :: js := by
  have hi : i < ps.length := (List.getElem?_eq_some_iff.mp h).1
  rw [List.take_add_one, h, goP_app]
  show goP f 0 (ps.take i) ++ (((f p).map fun js => ((0 + (ps.take i).length : Nat) : Int) :: js) ++ []) = _
  rw [List.append_nil, Nat.zero_add, List.length_take, Nat.min_eq_left (by omega)]
theorem goP_len_take (f : PyData → List (List Int)) (ps : List PyData) (i : Nat) : (goP f 0 (ps.take i)).length ≤ (goP f 0 ps).length := by
  conv => rhs; rw [← List.take_append_drop i ps]
  rw [goP_app, List.length_append]
  omega
theorem cnt_items (x : PyData) : cntL (tupItems x) ≤ cntD x := by
  cases x with
  | tuple ds => simp only [tupItems, cntD]; omega
  | _ => simp [tupItems, cntL]
theorem cnt_partsF : ∀ (ks : List Str) (its : List PyData), cntL (partsF ks its) ≤ cntL its
  | [], _ => by simp [partsF, cntL]
  | _ :: _, [] => by simp [partsF, cntL]
  | k :: ks, x :: xs => by
    have ih := cnt_partsF ks xs
    have hx := cnt_items x
    rw [partsF, cntL_app]
    show _ ≤ cntD x + cntL xs
    by_cases h1 : k = "part"
    · rw [if_pos h1]
      simp only [cntL]
      omega
    · rw [if_neg h1]
      by_cases h2 : k ∈ (["handed parts", "row parts", "op parts"] : List Str)
      · rw [if_pos h2]; omega
      · rw [if_neg h2]; simp only [cntL]; omega
theorem cnt_parts {n : Nat} {d : PyData} (h : Tm n d) : cntL (partsD d) + 1 ≤ cntD d := by
  obtain ⟨w, its, rfl, _⟩ := tm_parts h
  have q := cnt_partsF (formOf w) its
  show cntL (partsF (formOf w) its) + 1 ≤ cntD (.tuple (.str w :: its))
  rw [cntD, cntL, cntD]
  omega
theorem tm_part {n : Nat} {d p : PyData} (h : Tm n d) (hp : p ∈ partsD d) : ∃ m, n = m + 1 ∧ Tm m p := by
  obtain ⟨w, its, rfl, _, _, k⟩ := tm_parts h
  exact k p hp
theorem goP_len {f : PyData → List (List Int)} : ∀ (i : Nat) (ps : List PyData), (∀ p ∈ ps, (f p).length ≤ cntD p) → (goP f i ps).length ≤ cntL ps
  | _, [], _ => by simp [goP, cntL]
  | i, p :: ps, h => by
    have ih := goP_len (i + 1) ps fun q hq => h q (List.mem_cons_of_mem _ hq)
    have h1 := h p List.mem_cons_self
    rw [goP, List.length_append, List.length_map, cntL]
    omega
theorem paths_len : ∀ {n : Nat} {d : PyData}, Tm n d → (pathsD (n + 1) d).length ≤ cntD d
  | n, d, h => by
    have c := cnt_parts h
    have k : (goP (pathsD n) 0 (partsD d)).length ≤ cntL (partsD d) := goP_len 0 _ fun p hp => by
      obtain ⟨m, e, t⟩ := tm_part h hp
      subst e
      exact paths_len t
    rw [pathsD, List.length_cons]
    omega
theorem cnt_mem : ∀ {ds : List PyData} {d : PyData}, d ∈ ds → cntD d ≤ cntL ds
  | e :: ds, d, h => by
    rcases List.mem_cons.mp h with z | z
    · rw [z, cntL]; omega
    · have := cnt_mem z
      rw [cntL]; omega
theorem parts_few {n : Nat} {d : PyData} (h : Tm n d) : (partsD d).length ≤ 13 := by
  obtain ⟨w, its, rfl, hc⟩ := tm_law h
  rcases hc with ⟨_, e, ds, rfl, ep, ld⟩ | ⟨_, ds, rfl, ep, ld⟩ | ⟨_, e, ds, rfl, ep, ld⟩ | ⟨_, _, _, ep, _, ld⟩
  · rw [ep, List.length_cons]
    omega
  · rw [ep]; omega
  · rw [ep]; omega
  · rw [ep, List.length_map]; omega
/-- a list of paths -/
inductive PsAt (H : Hp) : List V → List (List Int) → Prop
  | nil : PsAt H [] []
  | cons {t : Addr} {js : List Int} {rs : List V} {ps : List (List Int)} : H t = some (.tup (js.map V.int)) → PsAt H rs ps → PsAt H (.ref t :: rs) (js :: ps)
theorem PsAt.same {H H' : Hp} {rs : List V} {ps : List (List Int)} (h : PsAt H rs ps) (s : ∀ t xs, H t = some (.tup xs) → H' t = some (.tup xs)) : PsAt H' rs ps := by
  induction h with
  | nil => exact .nil
  | cons e _ ih => exact .cons (s _ _ e) ih
theorem PsAt.len {H : Hp} {rs : List V} {ps : List (List Int)} (h : PsAt H rs ps) : rs.length = ps.length := by
  induction h with
  | nil => rfl
  | cons _ _ ih => rw [List.length_cons, List.length_cons, ih]
theorem PsAt.app {H : Hp} {rs rs2 : List V} {ps ps2 : List (List Int)} (h : PsAt H rs ps) (h2 : PsAt H rs2 ps2) : PsAt H (rs ++ rs2) (ps ++ ps2) := by
  induction h with
  | nil => exact h2
  | cons e _ ih => exact .cons e ih
theorem PsAt.get {H : Hp} {rs : List V} {ps : List (List Int)} (h : PsAt H rs ps) : ∀ {i : Nat} {r : V}, rs[i]? = some r → ∃ t js, r = .ref t ∧ ps[i]? = some js ∧ H t = some (.tup (js.map V.int)) := by
  induction h with
  | nil => intro i r e; simp at e
  | @cons t js rs ps e _ ih =>
    intro i r er
    cases i with
    | zero =>
      simp at er
      exact ⟨t, js, er.symm, rfl, e⟩
    | succ i =>
      obtain ⟨t2, js2, e1, e2, e3⟩ := ih (i := i) (by simpa using er)
      exact ⟨t2, js2, e1, by simpa using e2, e3⟩
end Wp
set_option Elab.async false
set_option linter.all false
set_option maxRecDepth 100000
namespace Wp
open PySem PySem.Spec PyProof.Rows L2
-- _law_paths: slots _law_a_term 0, _law_told 1, _law_number 2, _law_part 3, _law_a_path 4
abbrev s_law_paths : Stmt := top 30
theorem sc_law_paths : FnScope ["_law_a_term", "_law_told", "_law_number", "_law_part", "_law_a_path"] ["_law_a_term"] (defScope s_law_paths) := ⟨rfl, rfl, rfl, by decide +kernel, rfl, by decide +kernel, by decide +kernel⟩
abbrev sl_law_paths : List Str := ["_law_a_term", "_law_told", "_law_number", "_law_part", "_law_a_path"]
theorem mem_goP {f : PyData → List (List Int)} : ∀ {i : Nat} {ps : List PyData} {js : List Int}, js ∈ goP f i ps → ∃ p ∈ ps, ∃ ks ∈ f p, js.length = ks.length + 1
  | _, [], _, h => by simp [goP] at h
  | i, p :: ps, js, h => by
    rw [goP] at h
    rcases List.mem_append.mp h with h | h
    · obtain ⟨ks, hk, rfl⟩ := List.mem_map.mp h
      exact ⟨p, List.mem_cons_self, ks, hk, rfl⟩
    · obtain ⟨q, hq, r⟩ := mem_goP h
      exact ⟨q, List.mem_cons_of_mem _ hq, r⟩
theorem path_short : ∀ {k : Nat} {d : PyData} {js : List Int}, js ∈ pathsD k d → js.length ≤ k
  | 0, _, _, h => by simp [pathsD] at h
  | k + 1, d, js, h => by
    rw [pathsD] at h
    rcases List.mem_cons.mp h with h | h
    · rw [h]; exact Nat.zero_le _
    · obtain ⟨p, _, ks, hk, e⟩ := mem_goP h
      have := path_short hk
      omega
def spP (k : Nat) : Sp := fun vs H Q _ => ∃ (a : Addr) (v : V) (d : PyData) (n : Nat), k = n + 1 ∧ vs = [v] ∧ Dq a H v d ∧ Tm n d ∧ cntD d ≤ 390 ∧ ∀ p rs H', Same H H' → H p = none → H' p = some (.lst rs) → PsAt H' rs (pathsD k d) → Q (.ref p) H'
section
variable {P : Program} {w : World} {K : PySem.W.Frag} {mg : Str → Option Value} {base : Heap} {f : Addr} {fd : FuncData}
theorem paths_step {k : Nat} (hk : k ≤ 100) (F : Fun K "_law_paths" "_law_paths" s_law_paths f fd) (G_law_parts : Has P w K mg base "_law_parts" ["_law_a_term"] 2 spPartsOf) (G_law_paths : Has P w K mg base "_law_paths" ["_law_a_term"] (k + 2) (spP k)) (m_enumerate : mg "enumerate" = none) : FnOk P w K mg base CX0 (k + 2 + 1) f fd ["_law_a_term"] (spP (k + 1)) := by
  refine F.ok sc_law_paths (fun vs H Q E h => ?_) (fun cdv A outer s H vs Q E hr h => ?_)
  · obtain ⟨a, v, d, n, _, rfl, _⟩ := h
    rfl
  obtain ⟨a, v, d, n, ek, rfl, hd, ht, hc, q⟩ := h
  have en : n = k := by omega
  subst en
  have tot := paths_len ht
  rw [pathsD, List.length_cons] at tot
  have few := parts_few ht
  refine ⟨_, (pss_cons (ps_set (i := 1) sc_law_paths.nd rfl (.inl rfl) (pe_lst (pa_cons (pe_tup pa_nil) pa_nil)))
  (pss_cons (ps_for PassesOwn.never rfl (pi_enum rfl m_enumerate (pa_cons (pe_has G_law_parts (hr.mono (by omega)) (pa_cons (pv 0) pa_nil)) pa_nil)) (pg_tup rfl (pgs_cons (pg_name (i := 2) sc_law_paths.nd rfl (.inr rfl)) (pgs_cons (pg_name (i := 3) sc_law_paths.nd rfl (.inl rfl)) pgs_nil))) (pss_one (ps_set (i := 1) sc_law_paths.nd rfl (.inl rfl) (pe_op op_cat (pv 1) (pe_lc (own := [("_law_a_path", 4)]) (g := gName 4) (tt := tYes) (te := (tOp (rCatA K) (tTup (tCons (tVar 2) tNil)) (tVar 4))) rfl sc_law_paths.nd (pi_list (pe_has G_law_paths (hr.mono (by omega)) (pa_cons (pv 3) pa_nil))) (blkOk_by (N := sl_law_paths) (sc := defScope s_law_paths) (by decide +kernel)) (fun _ _ _ _ _ => (pg_name (i := 4) sc_law_paths.nd rfl (.inl rfl))) (fun _ _ _ _ _ => pts_nil) (fun _ _ _ _ _ => (pe_op op_catA (pe_tup (pa_cons (pv 2) pa_nil)) (pv 4))))))))
  (pss_one (ps_ret (pv 1))))), ?_⟩
  refine ⟨(by show 0 ≤ sizeLine; decide), fun t0 ht0 => ⟨(by show 1 ≤ sizeLine; decide), fun c0 hc0 => ?_⟩⟩
  have s1 : Same H (upd (upd H t0 (.tup [])) c0 (.lst [.ref t0])) := (same_new ht0).trans (same_new hc0)
  have et0 : upd (upd H t0 (.tup [])) c0 (.lst [.ref t0]) t0 = some (.tup []) := same_new hc0 _ _ upd_same
  have ec0 : upd (upd H t0 (.tup [])) c0 (.lst [.ref t0]) c0 = some (.lst [.ref t0]) := upd_same
  generalize upd (upd H t0 (.tup [])) c0 (.lst [.ref t0]) = H1 at s1 et0 ec0 ⊢
  refine ⟨_, rfl, a, v, d, n, rfl, hd.same s1, ht, fun lp xs H2 s2 n2 e2 dx => ⟨lp, xs, rfl, SqL.of e2, ?_⟩⟩
  have lx : xs.length = (partsD d).length := dx.len
  refine for_it (walk_enum (K := K) (a := lp) (xs := xs)) (fun i σ H' => Same H2 H' ∧ ∃ (cur : Addr) (t2 t3 : Option V) (rs : List V), σ = [some v, some (.ref cur), t2, t3, none] ∧ H cur = none ∧ H' cur = some (.lst rs) ∧ PsAt H' rs ([] :: goP (pathsD n) 0 ((partsD d).take i))) ?_ ?_ ?_ ?_
  · refine ⟨Same.refl _, c0, none, none, [.ref t0], rfl, ?_, s2 _ _ ec0, .cons (s2 _ _ et0) .nil⟩
    exact (same_new ht0).free hc0
  · rintro i σ H' hi ⟨g, _⟩
    exact SqL.of (g _ _ e2)
  · rintro i x σ H3 H4 hi ⟨g3, cur, t2, t3, rs, rfl, ncur, ecur, prs⟩ ⟨T, x1, y, rfl, hT, rfl, ex1, ey⟩
    cases ex1
    obtain ⟨p, ep, qp⟩ := dx.get ey
    have mp : p ∈ partsD d := List.mem_of_getElem? ep
    obtain ⟨m, em, tm⟩ := tm_part ht mp
    have cp : cntD p ≤ 390 := by
      have := cnt_mem mp
      have := cnt_parts ht
      omega
    have gT := g3.trans (same_new (o := .tup [.int (i : Nat), y]) hT)
    refine ⟨T, _, rfl, SqT.of upd_same, rfl, _, _, rfl, _, _, rfl, rfl, ?_⟩
    refine ⟨_, rfl, _, rfl, a, y, p, m, em, rfl, (qp.same s2).same gT, tm, cp, fun lq rs2 H5 s5 n5 e5 ps5 => ?_⟩
    refine ⟨lq, rfl, ⟨_, SqL.of e5⟩, fun D hD => ?_⟩
    have hD0 : upd H3 T (.tup [.int (i : Nat), y]) D = none := s5.free hD
    refine lc_list (xs := rs2) (fun j H' => Same H5 H' ∧ ∃ acc, H' D = some (.lst acc) ∧ PsAt H' acc (((pathsD n p).take j).map fun js => ((i : Nat) : Int) :: js)) ?_ ?_ ?_ ?_
    · exact ⟨same_new hD, [], upd_same, by rw [List.take_zero]; exact .nil⟩
    · rintro j H' hj ⟨g, _⟩
      exact SqL.of (g _ _ e5)
    · rintro j x H' hx ⟨g, acc, ha, pa⟩
      obtain ⟨t, js, rfl, ejs, ht'⟩ := ps5.get hx
      have ljs := path_short (List.mem_of_getElem? ejs)
      have lacc : acc.length ≤ 390 := by
        rw [pa.len, List.length_map, List.length_take]
        have l1 : j < (pathsD n p).length := (List.getElem?_eq_some_iff.mp ejs).1
        subst em
        have l2 := paths_len tm
        omega
      have keep : ∀ {Hn : Hp} {o : HO}, Same H' Hn → PsAt Hn acc (((pathsD n p).take j).map fun js => ((i : Nat) : Int) :: js) := fun s => pa.same fun t xs e => s _ _ e
      have fin : ∀ (u : Addr) (Hn : Hp), Same H' Hn → Hn u = some (.tup ((((i : Nat) : Int) :: js).map V.int)) → ∃ acc, Hn D = some (.lst acc) ∧ acc.length < sizeLine ∧ (Same H5 (upd Hn D (.lst (acc ++ [.ref u]))) ∧ ∃ acc', upd Hn D (.lst (acc ++ [.ref u])) D = some (.lst acc') ∧ PsAt (upd Hn D (.lst (acc ++ [.ref u]))) acc' (((pathsD n p).take (j + 1)).map fun js => ((i : Nat) : Int) :: js)) := by
        intro u Hn sn eu
        have hDn := sn _ _ ha
        refine ⟨acc, hDn, small1000 (by omega), same_grow (g.trans sn) hD, _, upd_same, ?_⟩
        have st : ∀ t xs, Hn t = some (.tup xs) → upd Hn D (.lst (acc ++ [.ref u])) t = some (.tup xs) := fun t xs e => by
          rw [upd_ne (ne_of e hDn (by intro z; cases z))]
          exact e
        rw [List.take_add_one, ejs, List.map_append]
        exact ((pa.same fun t xs e => sn _ _ e).same st).app (.cons (st _ _ eu) .nil)
      refine ⟨wipe_one _ 4 _, ?_⟩
      refine (⟨_, rfl, (by show 1 ≤ sizeLine; decide), fun u hu => ?_⟩ : tOp (rCatA K) (tTup (tCons (tVar 2) tNil)) (tVar 4) ((wipe [some v, some (.ref cur), some (.int (i : Nat)), some y, none] [4]).set 4 (some (.ref t))) H' _)
      refine ⟨_, rfl, u, t, [.int (i : Nat)], js.map V.int, rfl, rfl, SqT.of upd_same, SqT.of (same_new hu _ _ (g _ _ ht')), Nat.le_of_lt (small1000 (by rw [List.length_map]; show 1 + js.length ≤ 1000; omega)), fun z => (by cases z), fun _ z => ?_, fun _ _ r hr' => ?_⟩
      · have zj : js = [] := List.map_eq_nil_iff.mp z
        exact fin u _ (same_new hu) (by rw [upd_same, zj]; rfl)
      · exact fin r _ ((same_new hu).trans (same_new hr')) upd_same
    · rintro H6 ⟨g6, acc, ha, pa⟩
      rw [ps5.len, List.take_length] at pa
      have sAll := (same_new (o := .tup [.int (i : Nat), y]) hT).trans (s5.trans g6)
      have pt := goP_take (pathsD n) ep
      have lt := goP_len_take (pathsD n) (partsD d) (i + 1)
      rw [pt, List.length_append, List.length_map] at lt
      have lr := prs.len
      rw [List.length_cons] at lr
      have la := pa.len
      rw [List.length_map] at la
      refine ⟨cur, D, rs, acc, rfl, rfl, sAll _ _ ecur, ha, Nat.le_of_lt (small1000 (by omega)), fun u hu => ?_⟩
      have su := (g3.trans sAll).trans (same_new (o := .lst (rs ++ acc)) hu)
      refine ⟨su, u, _, _, rs ++ acc, rfl, ?_, upd_same, ?_⟩
      · exact ((s1.trans s2).trans (g3.trans sAll)).free hu
      · rw [pt, ← List.cons_append]
        exact ((prs.same fun t xs e => sAll _ _ e).same fun t xs e => same_new hu _ _ e).app (pa.same fun t xs e => same_new hu _ _ e)
  · rintro σ H' ⟨g, cur, t2, t3, rs, rfl, ncur, ecur, prs⟩
    rw [lx, List.take_length] at prs
    exact ⟨_, rfl, q cur rs H' ((s1.trans s2).trans g) ncur ecur prs⟩
theorem paths_ok (F : Fun K "_law_paths" "_law_paths" s_law_paths f fd) (bF : Binds K fd ["_law_a_term"] []) (mF : mg "_law_paths" = some (.ref f)) (G_law_parts : Has P w K mg base "_law_parts" ["_law_a_term"] 2 spPartsOf) (m_enumerate : mg "enumerate" = none) : ∀ k : Nat, k ≤ 100 → Has P w K mg base "_law_paths" ["_law_a_term"] (k + 2) (spP k)
  | 0, _ => by
    have no : ∀ vs H Q E, ¬ spP 0 vs H Q E := fun vs H Q E h => by
      obtain ⟨_, _, _, n, e, _⟩ := h
      omega
    exact ⟨f, fd, ⟨fun vs H Q E h => absurd h (no vs H Q E), fun A outer s H args us vs Q E _ _ _ _ h => absurd h (no vs H Q E)⟩, mF, F.kp, bF⟩
  | k + 1, h => ⟨f, fd, paths_step (by omega) F G_law_parts (paths_ok F bF mF G_law_parts m_enumerate k (by omega)) m_enumerate, mF, F.kp, bF⟩
end
end Wp
set_option Elab.async false
set_option linter.all false
set_option maxRecDepth 100000
namespace Wp
open PySem PySem.Spec PyProof.Rows L2
-- placed_parts: slots path 0, term 1, number 2, part 3
abbrev splaced_parts : Stmt := top 9
theorem scplaced_parts : FnScope ["path", "term", "number", "part"] ["path", "term"] (defScope splaced_parts) := ⟨rfl, rfl, rfl, by decide +kernel, rfl, by decide +kernel, by decide +kernel⟩
abbrev slplaced_parts : List Str := ["path", "term", "number", "part"]
-- paths: slots term 0, told 1, waiting 2, path 3, part 4
abbrev spaths : Stmt := top 10
theorem scpaths : FnScope ["term", "told", "waiting", "path", "part"] ["term"] (defScope spaths) := ⟨rfl, rfl, rfl, by decide +kernel, rfl, by decide +kernel, by decide +kernel⟩
abbrev slpaths : List Str := ["term", "told", "waiting", "path", "part"]
/-- what waits: a path, a term there, its depth -/
def kidsF (js : List Int) (m : Nat) : Nat → List PyData → List (List Int × PyData × Nat)
  | _, [] => []
  | i, p :: ps => (js ++ [((i : Nat) : Int)], p, m) :: kidsF js m (i + 1) ps
def flatE (es : List (List Int × PyData × Nat)) : List (List Int) := es.flatMap fun e => (pathsD (e.2.2 + 1) e.2.1).map fun ks => e.1 ++ ks
theorem flat_cons (e : List Int × PyData × Nat) (es : List (List Int × PyData × Nat)) : flatE (e :: es) = ((pathsD (e.2.2 + 1) e.2.1).map fun ks => e.1 ++ ks) ++ flatE es := by
  unfold flatE
  rw [List.flatMap_cons]
theorem flat_app (es gs : List (List Int × PyData × Nat)) : flatE (es ++ gs) = flatE es ++ flatE gs := by
  unfold flatE
  rw [List.flatMap_append]
theorem flat_kids {n : Nat} {js : List Int} : ∀ (i : Nat) (ps : List PyData), (∀ p ∈ ps, ∃ m, n = m + 1) → flatE (kidsF js (n - 1) i ps) = (goP (pathsD n) i ps).map fun ks => js ++ ks
  | _, [], _ => rfl
  | i, p :: ps, h => by
    obtain ⟨m, e⟩ := h p List.mem_cons_self
    have ih := flat_kids (n := n) (js := js) (i + 1) ps fun q hq => h q (List.mem_cons_of_mem _ hq)
    rw [kidsF, flat_cons, ih, goP, List.map_append, List.map_map]
    have e2 : n - 1 + 1 = n := by omega
    show ((pathsD (n - 1 + 1) p).map fun ks => (js ++ [((i : Nat) : Int)]) ++ ks) ++ _ = _
    rw [e2]
    congr 1
    refine List.map_congr_left fun ks _ => ?_
    show (js ++ [((i : Nat) : Int)]) ++ ks = js ++ (((i : Nat) : Int) :: ks)
    rw [List.append_assoc]
    rfl
theorem flat_one {n : Nat} {d : PyData} (h : Tm n d) (js : List Int) : ((pathsD (n + 1) d).map fun ks => js ++ ks) = js :: flatE (kidsF js (n - 1) 0 (partsD d)) := by
  rw [flat_kids 0 (partsD d) fun p hp => by
    obtain ⟨m, e, _⟩ := tm_part h hp
    exact ⟨m, e⟩]
  rw [pathsD, List.map_cons, List.append_nil]
theorem kidsF_app (js : List Int) (m : Nat) : ∀ (i : Nat) (ps qs : List PyData), kidsF js m i (ps ++ qs) = kidsF js m i ps ++ kidsF js m (i + ps.length) qs
  | i, [], qs => by simp [kidsF]
  | i, p :: ps, qs => by
    rw [List.cons_append, kidsF, kidsF, kidsF_app js m (i + 1) ps qs, List.length_cons, show i + 1 + ps.length = i + (ps.length + 1) by omega]
    rfl
theorem kidsF_take (js : List Int) (m : Nat) {ps : List PyData} {i : Nat} {p : PyData} (h : ps[i]? = some p) : kidsF js m 0 (ps.take (i + 1)) = kidsF js m 0 (ps.take i) ++ [(js ++ [((i : Nat) : Int)], p, m)] := by
  have hi : i < ps.length := (List.getElem?_eq_some_iff.mp h).1
  rw [List.take_add_one, h, kidsF_app]
  show kidsF js m 0 (ps.take i) ++ [(js ++ [((0 + (ps.take i).length : Nat) : Int)], p, m)] = _
  rw [Nat.zero_add, List.length_take, Nat.min_eq_left (by omega)]
inductive StAt (a : Addr) (H : Hp) : List V → List (List Int × PyData × Nat) → Prop
  | nil : StAt a H [] []
  | cons {t u : Addr} {x : V} {js : List Int} {d : PyData} {n : Nat} {rs : List V} {es : List (List Int × PyData × Nat)} : H t = some (.tup [.ref u, x]) → H u = some (.tup (js.map V.int)) → Dq a H x d → Tm n d → StAt a H rs es → StAt a H (.ref t :: rs) ((js, d, n) :: es)
theorem StAt.tp {a : Addr} {H H' : Hp} {rs : List V} {es : List (List Int × PyData × Nat)} (h : StAt a H rs es) (s : Tp H H') : StAt a H' rs es := by
  induction h with
  | nil => exact .nil
  | cons e1 e2 q t _ ih => exact .cons (s _ _ e1) (s _ _ e2) (q.tp s) t ih
theorem StAt.len {a : Addr} {H : Hp} {rs : List V} {es : List (List Int × PyData × Nat)} (h : StAt a H rs es) : rs.length = es.length := by
  induction h with
  | nil => rfl
  | cons _ _ _ _ _ ih => rw [List.length_cons, List.length_cons, ih]
theorem StAt.app {a : Addr} {H : Hp} {rs rs2 : List V} {es es2 : List (List Int × PyData × Nat)} (h : StAt a H rs es) (h2 : StAt a H rs2 es2) : StAt a H (rs ++ rs2) (es ++ es2) := by
  induction h with
  | nil => exact h2
  | cons e1 e2 q t _ ih => exact .cons e1 e2 q t ih
theorem StAt.rev {a : Addr} {H : Hp} {rs : List V} {es : List (List Int × PyData × Nat)} (h : StAt a H rs es) : StAt a H rs.reverse es.reverse := by
  induction h with
  | nil => exact .nil
  | cons e1 e2 q t _ ih =>
    rw [List.reverse_cons, List.reverse_cons]
    exact ih.app (.cons e1 e2 q t .nil)
theorem same_tp {H H' : Hp} (s : Same H H') : Tp H H' := fun b xs e => s _ _ e
def spPlaced : Sp := fun vs H Q _ => ∃ (a pt : Addr) (js : List Int) (v : V) (d : PyData) (n : Nat), vs = [.ref pt, v] ∧ H pt = some (.tup (js.map V.int)) ∧ js.length ≤ 200 ∧ Dq a H v d ∧ Tm n d ∧ ∀ p rs H', Same H H' → H p = none → H' p = some (.lst rs) → StAt a H' rs (kidsF js (n - 1) 0 (partsD d)) → Q (.ref p) H'
section
variable {P : Program} {w : World} {K : PySem.W.Frag} {mg : Str → Option Value} {base : Heap} {f : Addr} {fd : FuncData}
theorem ok_placed (F : Fun K "placed_parts" "placed_parts" splaced_parts f fd) (Gparts_of : Has P w K mg base "parts_of" ["term"] 1 spPartsOf) (m_enumerate : mg "enumerate" = none) : FnOk P w K mg base CX0 2 f fd ["path", "term"] spPlaced := by
  refine F.ok scplaced_parts (fun vs H Q E h => ?_) (fun cdv A outer s H vs Q E hr h => ?_)
  · obtain ⟨a, pt, js, v, d, n, rfl, _⟩ := h
    rfl
  obtain ⟨a, pt, js, v, d, n, rfl, hpt, ljs, hd, ht, q⟩ := h
  have few := parts_few ht
  refine ⟨_, (pss_one (ps_ret (pe_lc (own := [("number", 2), ("part", 3)]) (g := gTup K 2 (gCons (gName 2) (gCons (gName 3) gNil))) (tt := tYes) (te := (tTup (tCons (tOp (rCatA K) (tVar 0) (tTup (tCons (tVar 2) tNil))) (tCons (tVar 3) tNil)))) rfl scplaced_parts.nd (pi_enum rfl m_enumerate (pa_cons (pe_has Gparts_of (hr.mono (by omega)) (pa_cons (pv 1) pa_nil)) pa_nil)) (blkOk_by (N := slplaced_parts) (sc := defScope splaced_parts) (by decide +kernel)) (fun _ _ _ _ _ => (pg_tup rfl (pgs_cons (pg_name (i := 2) scplaced_parts.nd rfl (.inl rfl)) (pgs_cons (pg_name (i := 3) scplaced_parts.nd rfl (.inl rfl)) pgs_nil)))) (fun _ _ _ _ _ => pts_nil) (fun _ _ _ _ _ => (pe_tup (pa_cons (pe_op op_catA (pv 0) (pe_tup (pa_cons (pv 2) pa_nil))) (pa_cons (pv 3) pa_nil))))))), ?_⟩
  refine ⟨_, rfl, a, v, d, n, rfl, hd, ht, fun lp xs H2 s2 n2 e2 dx => ⟨lp, xs, rfl, SqL.of e2, fun D hD => ?_⟩⟩
  have lx : xs.length = (partsD d).length := dx.len
  have hD0 : H D = none := s2.free hD
  refine lc_it (walk_enum (K := K) (a := lp) (xs := xs)) (fun i H' => Same H2 H' ∧ ∃ acc, H' D = some (.lst acc) ∧ StAt a H' acc (kidsF js (n - 1) 0 ((partsD d).take i))) ?_ ?_ ?_ ?_
  · exact ⟨same_new hD, [], upd_same, by rw [List.take_zero]; exact .nil⟩
  · rintro i H' hi ⟨g, _⟩
    exact SqL.of (g _ _ e2)
  · rintro i x H3 H4 hi ⟨g3, acc, ha, sa⟩ ⟨T, x1, y, rfl, hT, rfl, ex1, ey⟩
    cases ex1
    obtain ⟨p, ep, qp⟩ := dx.get ey
    have mp : p ∈ partsD d := List.mem_of_getElem? ep
    obtain ⟨m, em, tm⟩ := tm_part ht mp
    have lacc : acc.length ≤ 13 := by
      have h1 := sa.len
      have h2 : ∀ (i : Nat) (ps : List PyData), (kidsF js (n - 1) i ps).length = ps.length := by
        intro i ps
        induction ps generalizing i with
        | nil => rfl
        | cons p ps ih => rw [kidsF, List.length_cons, List.length_cons, ih]
      rw [h2, List.length_take] at h1
      omega
    have sT := same_new (o := .tup [.int (i : Nat), y]) hT
    refine ⟨T, _, rfl, SqT.of upd_same, rfl, _, _, rfl, _, _, rfl, rfl, rfl, ?_⟩
    unfold tYes
    dsimp only
    rw [if_pos rfl]
    refine ⟨_, rfl, _, rfl, (by show 1 ≤ sizeLine; decide), fun u hu => ?_⟩
    have done : ∀ (r : Addr) (Hn : Hp), Same (upd H3 T (.tup [.int (i : Nat), y])) Hn → Hn r = some (.tup ((js ++ [((i : Nat) : Int)]).map V.int)) → ∃ v_1, (((wipe (L2.start slplaced_parts [.ref pt, v]) [2, 3]).set 2 (some (.int (i : Nat)))).set 3 (some y))[3]? = some (some v_1) ∧ ([V.ref r, v_1].length ≤ sizeLine ∧ ∀ p, Hn p = none → ∃ acc, upd Hn p (.tup [.ref r, v_1]) D = some (.lst acc) ∧ acc.length < sizeLine ∧ (Same H2 (upd (upd Hn p (.tup [.ref r, v_1])) D (.lst (acc ++ [.ref p]))) ∧ ∃ acc', upd (upd Hn p (.tup [.ref r, v_1])) D (.lst (acc ++ [.ref p])) D = some (.lst acc') ∧ StAt a (upd (upd Hn p (.tup [.ref r, v_1])) D (.lst (acc ++ [.ref p]))) acc' (kidsF js (n - 1) 0 ((partsD d).take (i + 1))))) := by
      intro r Hn sn er
      refine ⟨y, rfl, (by show 2 ≤ sizeLine; decide), fun b hb => ?_⟩
      have sb := (sT.trans sn).trans (same_new (o := .tup [.ref r, y]) hb)
      have hDb := sb _ _ ha
      refine ⟨acc, hDb, small1000 (by omega), same_grow (g3.trans sb) hD, _, upd_same, ?_⟩
      have st : Tp (upd Hn b (.tup [.ref r, y])) (upd (upd Hn b (.tup [.ref r, y])) D (.lst (acc ++ [.ref b]))) := fun t xs e => by
        rw [upd_ne (ne_of e hDb (by intro z; cases z))]
        exact e
      rw [kidsF_take js (n - 1) ep]
      refine ((sa.tp (same_tp sb)).tp st).app (.cons (st _ _ upd_same) (st _ _ (same_new hb _ _ er)) ?_ ?_ .nil)
      · exact (((qp.same s2).same g3).same sb).tp st
      · have e1 : n - 1 = m := by omega
        rw [e1]
        exact tm
    refine ⟨pt, u, js.map V.int, [.int (i : Nat)], rfl, rfl, SqT.of (same_new hu _ _ (sT _ _ (g3 _ _ (s2 _ _ hpt)))), SqT.of upd_same, Nat.le_of_lt (small1000 (by rw [List.length_map]; show js.length + 1 ≤ 1000; omega)), fun z => ?_, fun _ z => (by cases z), fun _ _ r hr' => ?_⟩
    · have zj : js = [] := List.map_eq_nil_iff.mp z
      exact done u _ (same_new hu) (by rw [upd_same, zj]; rfl)
    · exact done r _ ((same_new hu).trans (same_new hr')) (by rw [upd_same, List.map_append]; rfl)
  · rintro H' ⟨g, acc, ha, sa⟩
    rw [lx, List.take_length] at sa
    exact q D acc H' (s2.trans g) hD0 ha sa
end
end Wp
set_option Elab.async false
set_option linter.all false
set_option maxRecDepth 100000
namespace Wp
open PySem PySem.Spec PyProof.Rows L2
theorem StAt.last {a : Addr} {H : Hp} {rs : List V} {es : List (List Int × PyData × Nat)} (h : StAt a H rs es) (hn : rs ≠ []) : ∃ rs' t u x es' js d n, rs = rs' ++ [.ref t] ∧ es = es' ++ [(js, d, n)] ∧ StAt a H rs' es' ∧ H t = some (.tup [.ref u, x]) ∧ H u = some (.tup (js.map V.int)) ∧ Dq a H x d ∧ Tm n d := by
  induction h with
  | nil => exact absurd rfl hn
  | @cons t u x js d n rs es e1 e2 q t' hr ih =>
    cases hr with
    | nil => exact ⟨[], t, u, x, [], js, d, n, rfl, rfl, .nil, e1, e2, q, t'⟩
    | cons f1 f2 f3 f4 f5 =>
      obtain ⟨rs', t1, u1, x1, es', js1, d1, n1, g1, g2, g3, g4⟩ := ih (List.cons_ne_nil _ _)
      exact ⟨.ref t :: rs', t1, u1, x1, (js, d, n) :: es', js1, d1, n1, by rw [g1]; rfl, by rw [g2]; rfl, .cons e1 e2 q t' g3, g4⟩
theorem len_flat : ∀ (es : List (List Int × PyData × Nat)), es.length ≤ (flatE es).length
  | [] => by simp [flatE]
  | e :: es => by
    have ih := len_flat es
    rw [flat_cons, List.length_append, List.length_map, List.length_cons, pathsD, List.length_cons]
    omega
def spPathsP : Sp := fun vs H Q _ => ∃ (a : Addr) (v : V) (d : PyData) (n : Nat), vs = [v] ∧ Dq a H v d ∧ Tm n d ∧ n ≤ 100 ∧ cntD d ≤ 390 ∧ ∀ p rs H', Same H H' → H p = none → H' p = some (.lst rs) → PsAt H' rs (pathsD (n + 1) d) → Q (.ref p) H'
section
variable {P : Program} {w : World} {K : PySem.W.Frag} {mg : Str → Option Value} {base : Heap} {f : Addr} {fd : FuncData}
theorem ok_pathsP (F : Fun K "paths" "paths" spaths f fd) (Gplaced_parts : Has P w K mg base "placed_parts" ["path", "term"] 2 spPlaced) : FnOk P w K mg base CX0 3 f fd ["term"] spPathsP := by
  refine F.ok scpaths (fun vs H Q E h => ?_) (fun cdv A outer s H vs Q E hr h => ?_)
  · obtain ⟨a, v, d, n, rfl, _⟩ := h
    rfl
  obtain ⟨a, v, d, n, rfl, hd, ht, hn, hc, q⟩ := h
  have tot := paths_len ht
  refine ⟨_, (pss_cons (ps_set (i := 1) scpaths.nd rfl (.inl rfl) (pe_lst pa_nil))
  (pss_cons (ps_set (i := 2) scpaths.nd rfl (.inl rfl) (pe_lst (pa_cons (pe_tup (pa_cons (pe_tup pa_nil) (pa_cons (pv 0) pa_nil))) pa_nil)))
  (pss_cons (ps_while PassesOwn.never (pt_truth (pv 2) (fun _ => rfl)) (pss_cons (ps_asg (pe_bm0 PySem.F.plainAttrs_list PySem.F.slot_list_pop PySem.F.type_list_pop mt_pop (pv 2)) (pg_tup rfl (pgs_cons (pg_name (i := 3) scpaths.nd rfl (.inl rfl)) (pgs_cons (pg_name (i := 4) scpaths.nd rfl (.inl rfl)) pgs_nil))))
  (pss_cons (ps_expr (pe_bm PySem.F.plainAttrs_list PySem.F.slot_list_append PySem.F.type_list_append mt_append (pv 1) (pa_cons (pv 3) pa_nil)))
  (pss_one (ps_expr (pe_bm PySem.F.plainAttrs_list PySem.F.slot_list_extend PySem.F.type_list_extend mt_extend (pv 2) (pa_cons (pe_revL (pe_has Gplaced_parts (hr.mono (by omega)) (pa_cons (pv 3) (pa_cons (pv 4) pa_nil)))) pa_nil)))))))
  (pss_one (ps_ret (pv 1)))))), ?_⟩
  refine ⟨(by show 0 ≤ sizeLine; decide), fun D hD => ?_⟩
  refine ⟨(by show 0 ≤ sizeLine; decide), fun t0 h0 => ⟨_, rfl, (by show 2 ≤ sizeLine; decide), fun t1 h1 => ⟨(by show 1 ≤ sizeLine; decide), fun wq hwq => ?_⟩⟩⟩
  have sA : Same (upd H D (.lst [])) (upd (upd (upd (upd H D (.lst [])) t0 (.tup [])) t1 (.tup [.ref t0, v])) wq (.lst [.ref t1])) := (same_new h0).trans ((same_new h1).trans (same_new hwq))
  have eD := sA D _ upd_same
  have et0 : upd (upd (upd (upd H D (.lst [])) t0 (.tup [])) t1 (.tup [.ref t0, v])) wq (.lst [.ref t1]) t0 = some (.tup []) := same_new hwq _ _ (same_new h1 _ _ upd_same)
  have et1 : upd (upd (upd (upd H D (.lst [])) t0 (.tup [])) t1 (.tup [.ref t0, v])) wq (.lst [.ref t1]) t1 = some (.tup [.ref t0, v]) := same_new hwq _ _ upd_same
  have ewq : upd (upd (upd (upd H D (.lst [])) t0 (.tup [])) t1 (.tup [.ref t0, v])) wq (.lst [.ref t1]) wq = some (.lst [.ref t1]) := upd_same
  have nwq : H wq = none := ((same_new hD).trans ((same_new h0).trans (same_new h1))).free hwq
  have nDw : D ≠ wq := ne_of_none (((same_new h0).trans (same_new (o := .tup [.ref t0, v]) h1)) D _ (upd_same (H := H) (o := .lst []))) hwq
  have s0 : Same H (upd (upd (upd (upd H D (.lst [])) t0 (.tup [])) t1 (.tup [.ref t0, v])) wq (.lst [.ref t1])) := (same_new hD).trans sA
  generalize upd (upd (upd (upd H D (.lst [])) t0 (.tup [])) t1 (.tup [.ref t0, v])) wq (.lst [.ref t1]) = H1 at eD et0 et1 ewq s0 ⊢
  clear sA
  refine ⟨fun m σ H' => ∃ (told : List V) (ps : List (List Int)) (st : List V) (es : List (List Int × PyData × Nat)) (t3 t4 : Option V), σ = [some v, some (.ref D), some (.ref wq), t3, t4] ∧ Same H H' ∧ H' D = some (.lst told) ∧ PsAt H' told ps ∧ H' wq = some (.lst st) ∧ StAt a H' st es ∧ ps ++ flatE es.reverse = pathsD (n + 1) d ∧ m = (flatE es.reverse).length,
    ⟨_, [], [], [.ref t1], [([], d, n)], none, none, rfl, s0, eD, .nil, ewq, .cons et1 et0 (hd.same s0) ht .nil, ?_, rfl⟩, ?_⟩
  · show [] ++ (((pathsD (n + 1) d).map fun ks => [] ++ ks) ++ []) = _
    rw [List.nil_append, List.append_nil]
    show (pathsD (n + 1) d).map (fun ks => ks) = _
    exact List.map_id' _
  rintro m σ H' ⟨told, ps, st, es, t3, t4, rfl, sH, hD', pt, hw', sa, eq, em⟩
  have lenT : ps.length + (flatE es.reverse).length ≤ 390 := by
    have := congrArg List.length eq
    rw [List.length_append] at this
    omega
  have lt := pt.len
  have ls := sa.len
  have lf := len_flat es.reverse
  rw [List.length_reverse] at lf
  refine ⟨_, rfl, _, .inl ⟨st, SqL.of hw', rfl⟩, ?_⟩
  cases hst : st with
  | nil =>
    refine iteF ?_
    rw [hst] at ls
    have e0 : es = [] := List.length_eq_zero_iff.mp ls.symm
    rw [e0] at eq
    have eq2 : ps = pathsD (n + 1) d := by rw [← eq]; simp [flatE]
    rw [eq2] at pt
    exact ⟨_, rfl, q D told H' sH hD hD' pt⟩
  | cons s1 sr =>
    refine iteT ?_
    obtain ⟨rs', t, u, x, es', js, d1, n1, g1, g2, g3, g4, g5, g6, g7⟩ := sa.last (by rw [hst]; exact List.cons_ne_nil _ _)
    subst g1 g2
    rw [List.reverse_append, List.reverse_singleton, List.singleton_append, flat_cons, flat_one g7 js] at eq em lenT lf
    have ljs : js.length ≤ 200 := by
      have hm : js ∈ pathsD (n + 1) d := by
        rw [← eq]
        exact List.mem_append_right _ (List.mem_append_left _ List.mem_cons_self)
      have := path_short hm
      omega
    have few := parts_few g7
    rw [List.length_append] at ls
    refine ⟨fun σ' H'' => ∃ m', m' < m ∧ ∃ (told : List V) (ps : List (List Int)) (st : List V) (es : List (List Int × PyData × Nat)) (t3 t4 : Option V), σ' = [some v, some (.ref D), some (.ref wq), t3, t4] ∧ Same H H'' ∧ H'' D = some (.lst told) ∧ PsAt H'' told ps ∧ H'' wq = some (.lst st) ∧ StAt a H'' st es ∧ ps ++ flatE es.reverse = pathsD (n + 1) d ∧ m' = (flatE es.reverse).length, fun σ' H'' h => h, ?_⟩
    refine ⟨_, rfl, .inl ⟨rfl, _, SqL.of hw'⟩, wq, rs' ++ [.ref t], .ref t, rfl, rfl, hw', ?_, ?_⟩
    · rw [List.length_append, List.length_singleton, Nat.add_sub_cancel, List.getElem?_append_right (Nat.le_refl _), Nat.sub_self]
      rfl
    rw [List.dropLast_concat]
    have tp1 : Tp H' (upd H' wq (.lst rs')) := fun b xs e => by
      rw [upd_ne (ne_of e hw' (by intro z; cases z))]
      exact e
    have sH1 : Same H (upd H' wq (.lst rs')) := same_grow sH nwq
    have hD1 : upd H' wq (.lst rs') D = some (.lst told) := by rw [upd_ne nDw]; exact hD'
    have hw1 : upd H' wq (.lst rs') wq = some (.lst rs') := upd_same
    have pt1 := pt.same tp1
    have sa1 := g3.tp tp1
    have g4' := tp1 _ _ g4
    have g5' := tp1 _ _ g5
    have g6' := g6.tp tp1
    generalize upd H' wq (.lst rs') = H2 at tp1 sH1 hD1 hw1 pt1 sa1 g4' g5' g6' ⊢
    refine ⟨t, _, rfl, SqT.of g4', rfl, _, _, rfl, _, _, rfl, rfl, ?_⟩
    refine ⟨_, rfl, .inl ⟨rfl, _, SqL.of hD1⟩, _, rfl, D, told, _, rfl, rfl, hD1, small1000 (by omega), ?_⟩
    have tp2 : Tp H2 (upd H2 D (.lst (told ++ [.ref u]))) := fun b xs e => by
      rw [upd_ne (ne_of e hD1 (by intro z; cases z))]
      exact e
    have sH2 : Same H (upd H2 D (.lst (told ++ [.ref u]))) := same_grow sH1 hD
    have hD2 : upd H2 D (.lst (told ++ [.ref u])) D = some (.lst (told ++ [.ref u])) := upd_same
    have hw2 : upd H2 D (.lst (told ++ [.ref u])) wq = some (.lst rs') := by rw [upd_ne (Ne.symm nDw)]; exact hw1
    have pt2 := (pt1.same tp2).app (.cons (tp2 _ _ g5') .nil)
    have sa2 := sa1.tp tp2
    have g5'' := tp2 _ _ g5'
    have g6'' := g6'.tp tp2
    generalize upd H2 D (.lst (told ++ [.ref u])) = H3 at tp2 sH2 hD2 hw2 pt2 sa2 g5'' g6'' ⊢
    refine ⟨_, rfl, .inl ⟨rfl, _, SqL.of hw2⟩, _, rfl, _, rfl, a, u, js, x, d1, n1, rfl, g5'', ljs, g6'', g7, fun p rs2 H4 s4 n4 e4 st4 => ⟨p, rs2, rfl, SqL.of e4, fun r hr' => ?_⟩⟩
    have s5 := s4.trans (same_new (o := .lst rs2.reverse) hr')
    have lk : rs2.length = (partsD d1).length := by
      rw [st4.len]
      have h2 : ∀ (i : Nat) (ps : List PyData), (kidsF js (n1 - 1) i ps).length = ps.length := by
        intro i ps
        induction ps generalizing i with
        | nil => rfl
        | cons p ps ih => rw [kidsF, List.length_cons, List.length_cons, ih]
      exact h2 0 _
    refine ⟨wq, r, rs', rs2.reverse, rfl, rfl, s5 _ _ hw2, upd_same, Nat.le_of_lt (small1000 (by rw [List.length_reverse]; omega)), ?_⟩
    have hw5 := s5 _ _ hw2
    have tp3 : Tp (upd H4 r (.lst rs2.reverse)) (upd (upd H4 r (.lst rs2.reverse)) wq (.lst (rs' ++ rs2.reverse))) := fun b xs e => by
      rw [upd_ne (ne_of e hw5 (by intro z; cases z))]
      exact e
    refine ⟨_, ?_, told ++ [.ref u], ps ++ [js], rs' ++ rs2.reverse, es' ++ (kidsF js (n1 - 1) 0 (partsD d1)).reverse, _, _, rfl, same_grow (sH2.trans s5) nwq, by rw [upd_ne nDw]; exact s5 _ _ hD2, ?_, upd_same, ?_, ?_, rfl⟩
    · rw [List.reverse_append, List.reverse_reverse, flat_app, em, List.length_append, List.length_append, List.length_cons]
      omega
    · exact (pt2.same fun t xs e => s5 _ _ e).same tp3
    · exact (((sa2.tp (same_tp s5))).app ((st4.rev.tp (same_tp (same_new hr'))))).tp tp3
    · rw [List.reverse_append, List.reverse_reverse, flat_app, ← eq, List.append_assoc]
      rfl
end
end Wp
set_option Elab.async false
set_option linter.all false
set_option maxRecDepth 100000
set_option maxHeartbeats 4000000
namespace Wp
open PySem PySem.Spec PyProof.Rows L2
/-! ### errors over a built-in class other than the hand layer's: made, stored to -/
abbrev leTail : List Value := [.type "LookupError", .type "Exception", .type "BaseException", .type "object"]
section
open Builtin Builtin.ObjectAttr PySem.HandSPX PySem.W
variable {pr : Program} {wo : World} {Ar : Around} {Rs : Result → Shared → Prop} {h0 : Heap} {gs : Array GenState} {dn : Drawn} {tk0 : Nat} {oz : OsState}
theorem exc_store {K : PySem.W.Frag} {nm : Str} {tk : Tok} {u : Value} {e C : Addr} {fv : Array Value} {cd : ClassData} {bmB : List Value}
    (kin : K.In h0) (he : h0.get? e = some { cls := .ref C, data := .fields fv }) (hcd : PySem.W.clsIn K C = some cd) (hm : PySem.W.excTail bmB cd.mro = true) (hob : bmB.contains (.type "object") = true) (hps : ∀ self, refuseLoop self "__setattr__" bmB = pure ()) (hh : cd.hasDict = true) (ha : PySem.W.findIn K (.ref C) nm = some none)
    (k : ∀ h1 tk1 dx, (∀ b o, b ≠ e → h0.get? b = some o → h1.get? b = some o) → h0.objs.size ≤ dx → dx ≠ e → h1.get? e = some { cls := .ref C, dict := some dx, data := .fields fv } →
      h1.Ns1 dx (fun y => if y = nm then some u else none) → Rs (.ok (.ret .none)) ⟨h1, gs, dn, tk1, oz⟩) :
    codeAny (model pr wo) Ar (.call (.builtin "object.__setattr__") ⟨[.ref e, .str nm tk, u], []⟩) Rs ⟨h0, gs, dn, tk0, oz⟩ := by
  have at_ : PySem.W.InstAt h0 e { cls := .ref C, data := .fields fv } C none := ⟨he, rfl, rfl, trivial⟩
  have sf := F.store_object
  have hobj : cd.mro.contains (.type "object") = true := (PySem.W.excTail_contains "object" _ hm).trans hob
  have nemp : cd.mro.isEmpty = false := by
    cases q : cd.mro with
    | nil => rw [q] at hobj; cases hobj
    | cons _ _ => rfl
  have hes : e ≠ h0.objs.size := Nat.ne_of_lt (Heap.lt_size he)
  have isO : PySem.W.Looks (model pr wo) h0 (isInstance (.ref e) (.type "object")) true :=
    at_.type.andThen (PySem.W.looks_mroIn kin (by unfold PySem.W.mroIn; rw [hcd, Option.bind_some, if_neg (by rw [nemp]; decide), hobj]))
  refine codeAny_call_builtin sf.slot.plain sf.entry
    (@PySem.W.check_slot (model pr wo) _ _ ⟨h0, gs, dn, tk0, oz⟩ "object.__setattr__" "object" "__setattr__" (.ref e) [.str nm tk, u] [] _ sf.kind sf.split isO (sf.args (.ref e) (.str nm tk) u) ?_)
  have lm : PySem.W.Looks (model pr wo) h0 (mroOf (.ref C)) cd.mro := (PySem.W.looks_clsIn kin hcd).andThen .now
  have ln : PySem.W.Looks (model pr wo) h0 (storeTaker? none) none := .now
  have lc : PySem.W.Looks (model pr wo) h0 (classData C) cd := PySem.W.looks_clsIn kin hcd
  rw [PySem.W.osa_eq, refuse_eq]
  refine wpAny_bind (wpAny_bind (at_.type.at (wpAny_bind (lm.at ?_))))
  rw [PySem.W.excTail_pass _ (hps _) _ hm]
  refine wpAny_pure (wpAny_bind (at_.type.at (wpAny_bind ((PySem.W.looks_findIn kin ha).at (wpAny_bind (ln.at ?_))))))
  show wpAny _ _ (storeInOwnDict (.ref e) (.ref C) (.str nm tk) nm u false) _ _ _
  obtain ⟨n1, n2, n3, n4, n5, n6, n7, n8, n9, n10, n11⟩ := cd
  dsimp only at hh
  subst hh
  unfold storeInOwnDict ownDictForStores
  repeat (first | with_reducible refine store_in_new ?_ ?_ | with_reducible refine wpAny_loadPart_at he ?_ | with_reducible refine lc.at ?_ | wp_step)
  · exact ⟨_, #[], _, (Heap.get?_update_ne _ _ _ _ hes.symm).trans (Heap.get?_push_at rfl rfl), rfl, fun z hz => absurd hz (by simp), fun _ => rfl⟩
  · intro h1 tk1 ns1 same
    have he1 : (h0.push { cls := .type "dict", data := .dict #[] }).get? e = some { cls := .ref C, data := .fields fv } := Heap.get?_push_of_some _ he
    refine k h1 tk1 h0.objs.size (fun b o nb hb => ?_) (Nat.le_refl _) hes.symm ?_ ns1
    · exact (same.2 b (Nat.ne_of_lt (Heap.lt_size hb))).trans ((Heap.get?_update_ne _ _ _ _ nb).trans (Heap.get?_push_of_some _ hb))
    · exact (same.2 e hes).trans (Heap.get?_update_self _ he1 rfl)
end
/-- what the written part says of such a class -/
structure LeC (K : PySem.W.Frag) (C : Addr) : Prop where
  cls : ∃ nm q N bs bm sn sub ab col dd k0 k1 k2 k3 k5, K.lookup C = some (excClassObj nm q C N bs bm true sn sub ab col dd k0 k1 k2 k3 k5 "LookupError.__new__") ∧ PySem.W.excTail leTail bm = true
  sa : PySem.W.findIn K (.ref C) "__setattr__" = some (some (.builtin "object.__setattr__"))
  exC : PySem.W.subIn K (.ref C) (.type "BaseException") = some true
  tyC : PySem.W.typeIn K (.ref C) = some (.type "type")
  kC : PySem.W.keepIn K (.ref C) = true
section
variable {X : Cx} {pins : List (Addr × Obj)} {σ : L2.St} {H : Hp} {s : Shared} {a C : Addr} {f : Str} {y : V} {u : Value} {Q : Unit → Shared → Prop} {E : Value → Shared → Prop} {A : Around}
theorem le_store (T : LeC X.K C) (I : Inv X pins σ H s) (e : H a = some (exo a C none)) (hno : PySem.W.findIn X.K (.ref C) f = some none) (ry : RelV y u)
    (k : ∀ dx s1, H dx = none → dx ≠ a → Inv X pins σ (upd (upd H dx (exd dx [(f, y)])) a (exo a C (some dx))) s1 → Q () s1) : wpAny (model X.prog X.w) A (setAttr (.ref a) f u) Q E s := by
  obtain ⟨nm, q, N, bs, bm, sn, sub, ab, col, dd, k0, k1, k2, k3, k5, hC, hbm⟩ := T.cls
  have hcl : PySem.W.clsIn X.K C = some { name := nm, bases := bs, mro := .ref C :: bm, ns := N, qualname := q, hasDict := true, slotNames := sn, subclasses := sub, abstract := ab, collection := col, hasDel := false } := by unfold PySem.W.clsIn; rw [hC] <;> rfl
  obtain ⟨t1, ho⟩ := exo_at I.hok e
  obtain ⟨hp, g, d, t, os⟩ := s
  refine PySem.W.set_plain I.kIn (ox := { cls := .ref C, dict := none, data := .fields #[.ref t1, .none, .none, .none, .bool false, .none] }) (od := none) ⟨ho, rfl, rfl, trivial⟩ T.sa ?_
  refine exc_store (bmB := leTail) I.kIn ho hcl hbm (by decide +kernel) (fun self => F.store_LookupError.passes self) rfl hno (fun h1 tk1 dx kp dn dne hx hn => ?_)
  have hnd : H dx = none := I.hok.fresh dn
  have nd : ∀ {b : Addr} {o : Obj}, hp.get? b = some o → b ≠ dx := fun {b o} w => Nat.ne_of_lt (Nat.lt_of_lt_of_le (Heap.lt_size w) dn)
  have na : ∀ {b : Addr}, H b = none → b ≠ a := fun {b} n z => by
    rw [z, e] at n
    cases n
  have un : Un X.fs [] H (upd (upd H dx (exd dx [(f, y)])) a (exo a C (some dx))) hp h1 :=
    { keep := fun b o w n _ _ => kp b o (na n) w
      slot := fun b o w n _ _ => ⟨o.slots, kp b o (na n) w⟩
      free := fun b o w n _ => by rw [upd_ne (na n), upd_ne (nd w)]; exact n
      there := fun b o w _ => by
        by_cases hb : b = a
        · exact ⟨_, by rw [hb]; exact hx⟩
        · exact ⟨o, kp b o hb w⟩
      tups := fun b xs w => by rw [upd_ne (at_ne e w exo_tup), upd_ne (ne_of_none w hnd)]; exact w
      frzs := fun b o v w => by rw [upd_ne (at_ne e w exo_frz), upd_ne (ne_of_none w hnd)]; exact w
      tbls := fun b ps w => ⟨#[], by rw [upd_ne (at_ne e w exo_tbl), upd_ne (ne_of_none w hnd), w]; simp⟩ }
  refine k dx _ hnd dne (I.un (t' := tk1) un fun b o w => ?_)
  by_cases hb : b = a
  · subst hb
    rw [upd_same] at w
    cases w
    exact exo_ok hx
  rw [upd_ne hb] at w
  by_cases hd : b = dx
  · subst hd
    rw [upd_same] at w
    cases w
    exact exd_ok hn (relO_put (fs := []) ry fun _ => True.intro)
  rw [upd_ne hd] at w
  refine (I.hok b o w).stay (fun c v hc z => kp c v ?_ z) (fun c hc => ?_) (fun c xs hc => ?_)
  · rcases hc with hc | hc
    · rw [hc]; exact hb
    · exact at_ne e hc exo_own
  · rw [upd_ne (at_ne e hc exo_own), upd_ne (ne_of_none hc hnd)]; exact hc
  · rw [upd_ne (at_ne e hc exo_tup), upd_ne (ne_of_none hc hnd)]; exact hc
theorem le_init {us : List Value} {Q : Value → Shared → Prop} (T : LeC X.K C) (I : Inv X pins σ H s) (e : H a = some (exo a C none)) (hl : us.length ≤ sizeLine) (k : ∀ s1, Inv X pins σ H s1 → Q .none s1) :
    wpAny (model X.prog X.w) A (call (.builtin "LookupError.__init__") (.ref a :: us)) Q E s := by
  obtain ⟨nm, q, N, bs, bm, sn, sub, ab, col, dd, k0, k1, k2, k3, k5, hC, hbm⟩ := T.cls
  obtain ⟨t1, ho⟩ := exo_at I.hok e
  obtain ⟨hp, g, d, t, os⟩ := s
  refine wpAny_call (PySem.HandSPX.init_base F.excBase_LookupError (fun Y => PySem.W.excTail_contains Y bm hbm) (I.kIn _ _ hC) ho hl fun h1 t2 kp hx => ?_)
  have J := I.write (t' := t) (x := a) (e := a) (o := exo a C none) (by rw [e]; exact True.intro) (.inl rfl) kp ⟨_, hx⟩ (exo_ok hx)
  have same : upd H a (exo a C none) = H := funext fun b => by
    by_cases hb : b = a
    · rw [hb, upd_same, e]
    · rw [upd_ne hb]
  rw [same] at J
  exact k _ J
end
def tLeI (K : PySem.W.Frag) (ta : TA) : TE := fun σ H Q => ta σ H fun vs H1 => ∃ (a C : Addr) (ws : List V), vs = .ref a :: ws ∧ ws.length ≤ 1000 ∧ LeC K C ∧ H1 a = some (exo a C none) ∧ Q .non H1
def tLeS (K : PySem.W.Frag) (f : Str) (to te : TE) : TS := fun D σ H => te σ H fun y H1 => to σ H1 fun x H2 => ∃ a C : Addr, x = .ref a ∧ LeC K C ∧ PySem.W.findIn K (.ref C) f = some none ∧ H2 a = some (exo a C none) ∧
  ∀ dx, H2 dx = none → dx ≠ a → D.nx σ (upd (upd H2 dx (exd dx [(f, y)])) a (exo a C (some dx)))
theorem typ_LE : typeOf (.type "LookupError") = pure (.type "type") := by kernel_rfl
section
variable {X : Cx} {o e : Expr} {es : List Expr} {to te : TE} {ta : TA} {f : Str} {p p' p1 p2 pos : Pos}
theorem pe_leinit {pl : Sem Bool} (hg : Gl X "LookupError") (hm : X.mg "LookupError" = none) (vV : PySem.W.findCls X.K (.type "LookupError") (.type "type") "__init__" = some (.val (.builtin "LookupError.__init__"))) (ha : PA X (e :: es) ta)
    (hc : eval (.Call (.Attribute (.Name "LookupError" p1) "__init__" p2) (e :: es) [] pos) X.env = (do
      let ov ← eval (.Name "LookupError" p1) X.env
      standAt p2.atName
      let (f, first) ← holding [ov] (getMethod ov "__init__" pl)
      callWith pos f first (backTo pos (starEach (e :: es) X.env)) (backToKw pos (keywordEach [] X.env))) := by rfl)
    (he : starEach (e :: es) X.env = (false, eval e X.env) :: starEach es X.env := by rfl) (hpl : (backTo pos (starEach es X.env)).any (·.1) = false := by rfl) :
    PE X (.Call (.Attribute (.Name "LookupError" p1) "__init__" p2) (e :: es) [] pos) (tLeI X.K ta) := by
  refine ⟨fun pins s σ H Q I h => ?_⟩
  refine PySem.W.methodCall_KW (ld_blt I hg hm PyProof.Rows.Boot.«LookupError» ?_ (by decide) (by decide)) hc
  obtain ⟨m, fr⟩ := I.fr
  refine PySem.W.method_type fr I.ok.mod.kin typ_LE (by decide +kernel) vV (by decide +kernel) ?_
  show wpAny _ _ (callWith pos (Value.builtin "LookupError.__init__") [] (backTo pos (starEach (e :: es) X.env)) []) _ _ _
  refine PyProof.Rows.callWith_method1 (thn (ha.run pos pins _ σ H _ (I.tok _) h) fun us s1 hh => ?_) he hpl
  obtain ⟨vs, H1, I1, r1, a, C, ws, ev, hl, T, ea, q⟩ := hh
  subst ev
  cases r1 with
  | @cons _ u0 _ ur ra rw' =>
    obtain rfl : u0 = Value.ref a := ra
    refine le_init T I1 ea ?_ fun s1 J => ⟨.non, H1, J, rfl, q⟩
    rw [← Paired.length rw', sizeLine_eq]
    omega
theorem ps_lest (ho : PE X o to) (he : PE X e te) (hs : swapsWith e (some (.Attribute o f p')) pos.line X.env = pure false := by rfl) : PS X (.Assign [.Attribute o f p'] e pos) (tLeS X.K f to te) := by
  refine ⟨fun pins s σ H D I h => ?_⟩
  refine plainObj_wpAny_Assign_Attribute (thn (he.run pins s σ H _ I h) fun v s1 h1 => ?_) hs
  obtain ⟨y, H1, I1, r1, q1⟩ := h1
  refine thn (ho.run pins s1 σ H1 _ I1 q1) fun u s2 h2 => ?_
  obtain ⟨x, H2, I2, r2, a, C, ex, T, hno, ea, q⟩ := h2
  subst ex
  obtain rfl : u = Value.ref a := r2
  exact le_store T I2 ea hno r1 fun dx s3 n ne J => ⟨σ, _, J, q dx n ne⟩
theorem pmk_le {CX : CXT} {x : Str} {C fI : Addr} {k : Nat} {fd : FuncData} {ps : List Str} {sp : Sp} (T : LeC X.K C) (iC : PySem.W.findIn X.K (.ref C) "__init__" = some (some (.ref fI))) (tI : PySem.W.typeIn X.K (.ref fI) = some (.type "function"))
    (F1 : FnOk X.prog X.w X.K X.mg X.base CX k fI fd ps sp) (hr : Room (k + 1) X.A) (hb : Binds X.K fd ps []) (hx : Passes CX X (fun _ _ _ => False)) (hg : Gl X x) (hm : X.mg x = some (.ref C)) (ha : PA X (e :: es) ta)
    (hdb : (x == ("__debug__" : Str)) = false := by decide) (he : starEach (e :: es) X.env = (false, eval e X.env) :: starEach es X.env := by rfl) (hpl : (backTo pos (starEach es X.env)).any (·.1) = false := by rfl) :
    PMk X (.Call (.Name x p) (e :: es) [] pos) (tMkO C sp [] ta) := by
  intro pins s σ H Q I h
  obtain ⟨nm, q, N, bs, bm, sn, sub, ab, col, dd, k0, k1, k2, k3, k5, hC, hbm⟩ := T.cls
  refine wpAny_Call_Name_kw (ld_glob I hg hm ?_ hdb)
  refine PySem.W.callWith_K (h₀ := X.base) I.ok.mod.kin T.kC (thn (ha.run pos pins s σ H _ I h) fun us s1 hh => ?_) he hpl
  obtain ⟨vs, H1, I1, r1, hz, q1⟩ := hh
  refine ⟨I1.kIn, ?_⟩
  show wpAny _ _ (call (.ref C) us) _ _ _
  obtain ⟨hp, g, dr, tk, os⟩ := s1
  have hsz : hp.objs.size ≤ hp.objs.size + 1 := Nat.le_succ _
  have hn : H1 (hp.objs.size + 1) = none := I1.hok.fresh hsz
  have hq := q1 (hp.objs.size + 1) hn
  have kk : ∀ b o, hp.get? b = some o → ((hp.push (PySem.W.kdv_tup us)).push (PySem.HandSPX.excO C hp.objs.size)).get? b = some o := fun b o z => Heap.get?_push_of_some _ (Heap.get?_push_of_some _ z)
  have hget : ((hp.push (PySem.W.kdv_tup us)).push (PySem.HandSPX.excO C hp.objs.size)).get? (hp.objs.size + 1) = some (PySem.HandSPX.excO C hp.objs.size) := by heap_get
  have I2 : Inv X pins σ (upd H1 (hp.objs.size + 1) (exo (hp.objs.size + 1) C none)) ⟨(hp.push (PySem.W.kdv_tup us)).push (PySem.HandSPX.excO C hp.objs.size), g, dr, tk, os⟩ :=
    I1.laid (t' := tk) (a := hp.objs.size + 1) (o := exo (hp.objs.size + 1) C none) (h' := (hp.push (PySem.W.kdv_tup us)).push (PySem.HandSPX.excO C hp.objs.size)) kk hsz (exo_ok hget)
  have r2 : Vals (V.ref (hp.objs.size + 1) :: (vs ++ [])) (Value.ref (hp.objs.size + 1) :: (us ++ [])) := .cons rfl (r1.append .nil)
  have hl : (Value.ref (hp.objs.size + 1) :: us ++ []).length = ps.length := by
    have z := r2.length
    rw [F1.len _ _ _ _ hq] at z
    exact z.symm
  have hus : us.length ≤ sizeLine := by
    rw [← Paired.length r1, sizeLine_eq]
    omega
  refine wpAny_call (PySem.HandSPX.call_own F.excBase_LookupError (fun Y => PySem.W.excTail_contains Y bm hbm) (I1.kIn _ _ hC) (PySem.W.looks_findIn I1.kIn iC) (fun self => PySem.W.bind_fn I1.kIn self tI) hus
    (codeAny_mono (F1.run _ X.stack _ _ ⟨Value.ref (hp.objs.size + 1) :: us, []⟩ (Value.ref (hp.objs.size + 1) :: (us ++ [])) _ _ (fun _ _ _ => False) (hr.make C us []) (I2.env0.make C us []) (show BindsTo _ fd _ (ps.zip (Value.ref (hp.objs.size + 1) :: (us ++ []))) from hb _ (Value.ref (hp.objs.size + 1) :: us) I2.kIn hl) r2 hq) fun r s2 back => ?_))
  cases r with
  | error er => exact hx pins σ _ _ er s2 I2 back
  | ok fl =>
    cases fl with
    | ret u =>
      obtain ⟨v, H2, os2, bare2, un2, hok2, rv, ev, d, fs, ea, ed, hd1, q2⟩ := back
      subst ev
      obtain ⟨h2, g2, d2, t2, os'⟩ := s2
      exact ⟨rv, mk_end (raises_own T.exC T.tyC) I1 hsz kk un2 hok2 os2 bare2 ea ed hd1 q2⟩
    | next => exact False.elim back
    | brk => exact False.elim back
    | cont => exact False.elim back
end
end Wp
set_option Elab.async false
set_option linter.all false
set_option maxRecDepth 100000
set_option maxHeartbeats 4000000
namespace Wp
open PySem PySem.Spec PyProof.Rows L2
/-- a caught error that is kept: its class, its dict -/
def exK (e : Addr) (cls : Value) (d : Option Addr) : HO := .ext fun h => ∃ (oe : Obj) (vs : Array Value), h.get? e = some oe ∧ Zc cls d oe ∧ oe.data = .fields vs
theorem exK_ok {P : Program} {w : World} {H : Hp} {h : Heap} {e : Addr} {cls : Value} {d : Option Addr} {oe : Obj} {vs : Array Value} (g : h.get? e = some oe) (z : Zc cls d oe) (q : oe.data = .fields vs) : ObjOk P w H h e (exK e cls d) :=
  ⟨⟨oe, vs, g, z, q⟩, ⟨oe, g⟩, fun _ _ ⟨o, v, g, r⟩ k => ⟨o, v, k o g, r⟩⟩
theorem exK_at {P : Program} {w : World} {H : Hp} {h : Heap} {e : Addr} {cls : Value} {d : Option Addr} (hok : HOk P w H h) (q : H e = some (exK e cls d)) : ∃ (oe : Obj) (vs : Array Value), h.get? e = some oe ∧ Zc cls d oe ∧ oe.data = .fields vs :=
  (show ObjOk P w H h e (.ext fun h => ∃ (oe : Obj) (vs : Array Value), h.get? e = some oe ∧ Zc cls d oe ∧ oe.data = .fields vs) from hok e _ q).1
section
variable {X : Cx} {pins : List (Addr × Obj)} {σ : L2.St} {H : Hp} {s : Shared}
/-- an object of ours that is new since the entry is tracked from now on -/
theorem inv_track {a : Addr} {o : HO} (I : Inv X pins σ H s) (n0 : X.s_0.heap.get? a = none) (na : H a = none) (nL : a ≠ X.env.locals) (nC : ∀ x c, X.env.cells.lookup x = some c → c ≠ a) (np : ∀ p ∈ X.pn ++ pins, p.1 ≠ a) (new : ObjOk X.prog X.w (upd H a o) s.heap a o) :
    Inv X pins σ (upd H a o) s where
  ok := I.ok
  os := I.os
  bare := I.bare
  base :=
    { keep := I.base.keep
      slot := I.base.slot
      free := fun b u e n x => by
        rw [upd_ne (fun z => by rw [z, n0] at e; cases e)]
        exact I.base.free b u e n x
      there := I.base.there
      tups := fun b xs e => by
        have q := I.base.tups b xs e
        rw [upd_ne (ne_of_none q na)]
        exact q
      frzs := fun b u v e => by
        have q := I.base.frzs b u v e
        rw [upd_ne (ne_of_none q na)]
        exact q
      tbls := fun b ps e => by
        obtain ⟨m, q⟩ := I.base.tbls b ps e
        exact ⟨m, by rw [upd_ne (ne_of_none q na)]; exact q⟩ }
  loc := I.loc
  cell := I.cell
  free := by rw [upd_ne (Ne.symm nL)]; exact I.free
  freeC := fun x c e => by rw [upd_ne (nC x c e)]; exact I.freeC x c e
  pin := fun p hp => by
    obtain ⟨e, n, r⟩ := I.pin p hp
    exact ⟨e, by rw [upd_ne (np p hp)]; exact n, r⟩
  hok := fun b u e => by
    by_cases hb : b = a
    · subst hb
      rw [upd_same] at e
      cases e
      exact new
    · rw [upd_ne hb] at e
      exact (I.hok b u e).stay (fun _ _ _ q => q) (fun c q => by rw [upd_ne (ne_of_none q na)]; exact q) fun c xs q => by rw [upd_ne (ne_of_none q na)]; exact q
  len := I.len
end
/-- more objects: the flight goes on -/
theorem fly_keep {B h h' : Heap} {l : List Env} {e : Addr} {Z : Obj → Prop} (f : HandSPX.FlyingZ B l e Z h) (k : ∀ b o, h.get? b = some o → h'.get? b = some o) : HandSPX.FlyingZ B l e Z h' := by
  obtain ⟨f1, f2, f3, oe, vs, T, oT, ts, g1, g2, g3, g4, g5, g6, g7, g8, g9⟩ := f
  exact ⟨fun b o q => k b o (f1 b o q), f2, PySem.Heap.FunFrames.of_keeps (fun b o q _ => ⟨o, k b o q, rfl⟩) f3, oe, vs, T, oT, ts, k _ _ g1, g2, g3, g4, g5, g6, k _ _ g7, g8, g9⟩
/-- what «except (x1, x2, x3) as n» wishes, the error being kept behind it -/
def wKeep (K : PySem.W.Frag) (c1 c2 c3 : Value) (i : Nat) (ts : Addr → Value → Option Addr → TS) (D : Ends) : WX := fun cls d σ H =>
  PySem.W.exmAny K cls [c1, c2, c3] = some true ∧ ∀ a, H a = none → ts a cls d { nx := fun σ' H' => D.nx (σ'.set i none) (upd H' a (exK a cls d)), rt := fun _ _ => False, bk := fun _ _ => False, ct := fun _ _ => False } (σ.set i (some (.ref a))) H
section
variable {X : Cx} {x1 x2 x3 n : Str} {C1 C2 C3 : Addr} {i : Nat} {body suite : List Stmt} {b0 : Stmt} {p1 p2 p3 tp pos pos' : Pos} {kk : Nat} {tb : WX → TS} {ts : Addr → Value → Option Addr → TS}
theorem ps_try_keep (hs : X.stack = X.env :: X.outer) (hf : X.env.frame = some X.env.locals) (hex : X.ex = []) (hN : X.N.Nodup) (hi : X.N[i]? = some n) (hln : X.env.kindOf n = some .local)
    (g1 : Gl X x1) (m1 : X.mg x1 = some (.ref C1)) (g2 : Gl X x2) (m2 : X.mg x2 = some (.ref C2)) (g3 : Gl X x3) (m3 : X.mg x3 = some (.ref C3))
    (hb : ∀ (W : WX) (pn : List (Addr × Obj)) (xe : Value → Shared → Prop), Takes (X.tr pn xe) W → PassesOwn (model X.prog X.w) X.A X.env xe → PSs (X.tr pn xe) body (tb W))
    (hsu : ∀ (a : Addr) (oe : Obj) (cls : Value) (d : Option Addr) (pn : List (Addr × Obj)), Zc cls d oe → (∃ vs, oe.data = .fields vs) → PSs (X.suite a ((a, oe) :: pn)) (b0 :: suite) (ts a cls d))
    (d1 : (x1 == ("__debug__" : Str)) = false := by decide) (d2 : (x2 == ("__debug__" : Str)) = false := by decide) (d3 : (x3 == ("__debug__" : Str)) = false := by decide) :
    PS X (.Try body [.ExceptHandler (some (.Tuple [.Name x1 p1, .Name x2 p2, .Name x3 p3] kk tp)) (some n) (b0 :: suite) pos'] [] [] pos) (fun D σ H => tb (wKeep X.K (.ref C1) (.ref C2) (.ref C3) i ts D) D σ H) := by
  refine ⟨fun pins s σ H D I h => ?_⟩
  have ok := I.ok
  have hfr : X.A.frames = some (X.env :: X.outer) := by rw [ok.frames, hs]
  have hloc : Loc X.env.scope n := .inl hln
  refine wpAny_Try_except ?_
  refine wpAny_mono ((hb (wKeep X.K (.ref C1) (.ref C2) (.ref C3) i ts D) (X.pn ++ pins)
    (fun e s1 => wpAny (model X.prog X.w) X.A (noteFrame e X.env) (fun _ s2 => wpAny (model X.prog X.w) X.A (setFlight e none) (fun _ s3 =>
      wpAny (model X.prog X.w) X.A (handleBy e X.env [.ExceptHandler (some (.Tuple [.Name x1 p1, .Name x2 p2, .Name x3 p3] kk tp)) (some n) (b0 :: suite) pos']) (SP X pins D) X.xe s3) X.xe s2) X.xe s1)
    (fun u s' xx => ?_) PassesOwn.looking).run [] s σ H D (I.toTry _) h) (fun fl s1 hsp => ?_) (fun e s1 he => he)
  · obtain ⟨a, B, sI, pins', σ', H', cls, d, rfl, J', nb, up, sky, na, os, ag, hb1, hyes⟩ := xx
    have J : Inv X pins σ' H' sI := J'.ofTry ok
    have sky' : Sky B (X.env :: X.outer) a (Zc cls d) X.env.locals s'.heap := by rw [← hs]; exact sky
    show wpAny (model X.prog X.w) X.A (noteFrame (.ref a) X.env) _ _ _
    refine Sky.land Zc.steady hfr hf sky' fun h3 fl3 up3 => ?_
    have J3 : Inv X pins σ' H' { s' with heap := h3 } := J.landed nb fl3.1 (up.trans up3) os ag
    obtain ⟨oe3, vs3, he3, hz3, hd3⟩ := fl3.there
    have nfr : a ∉ frs (X.env :: X.outer) := fun hm => by
      obtain ⟨_, o', e', hnf⟩ := fl3.2.2.1.mem hm
      rw [he3] at e'
      cases e'
      exact hnf _ hd3
    have nL : a ≠ X.env.locals := fun z => nfr (List.mem_filterMap.mpr ⟨X.env, List.mem_cons_self, by rw [hf, z]⟩)
    have nF : a ∉ X.fs := fun hm => by
      obtain ⟨e, he, q⟩ := List.mem_filterMap.mp hm
      exact nfr (List.mem_filterMap.mpr ⟨e, List.mem_cons_of_mem _ he, q⟩)
    have nI : sI.heap.get? a = none := by
      cases q : sI.heap.get? a with
      | none => rfl
      | some o =>
        have z := nb a o q (by rw [hs]; exact nfr)
        rw [fl3.2.1] at z
        cases z
    have n0 : X.s_0.heap.get? a = none := by
      cases q : X.s_0.heap.get? a with
      | none => rfl
      | some o =>
        obtain ⟨o', z⟩ := J.base.there a o q (by rw [hex]; exact fun z => nomatch z)
        rw [nI] at z
        cases z
    have nP : ∀ p ∈ X.pn ++ pins, p.1 ≠ a := fun p hp z => by
      have q := (J.pin p hp).1
      rw [z, nI] at q
      cases q
    have S3 := J3.suite he3 hd3 na nL nF
    refine wpAny_handleBy_cons (codeAny_handlers_test ?_) (by intro q; cases q)
    have LT : PySem.W.Looks (model X.prog X.w) h3 (typeOf (.ref a)) cls := fun A Q E s k q => wpAny_typeOf_ref (k _ _ he3) (by rw [hz3.1]; exact q)
    have nm : ∀ {x : Str} {C : Addr} {p : Pos} {Q : Value → Shared → Prop} {E : Value → Shared → Prop}, Gl X x → X.mg x = some (.ref C) → (x == ("__debug__" : Str)) = false → Q (.ref C) { s' with heap := h3 } → wpAny (model X.prog X.w) (X.A.mark (some (.ref a))) (eval (.Name x p) X.env) Q E { s' with heap := h3 } :=
      fun {x C p Q E} hg hm hd q => ld_glob (X := X.suite a ((a, oe3) :: (X.pn ++ pins))) S3 hg hm q hd
    refine wpAny_Tuple ?_
    refine wpAny_items_cons (nm g1 m1 d1 ?_)
    refine wpAny_items_cons (nm g2 m2 d2 ?_)
    refine wpAny_items_cons (nm g3 m3 d3 ?_)
    refine wpAny_items_nil ⟨(by show 3 ≤ sizeLine; decide), ?_⟩
    have kp : ∀ q o, h3.get? q = some o → (h3.push { cls := .type "tuple", data := .seq [Value.ref C1, Value.ref C2, Value.ref C3].toArray }).get? q = some o := fun _ _ z => Heap.get?_push_of_some _ z
    refine (PySem.W.exm_tup3 (J3.kIn.keeps kp) (LT.keeps kp) (Heap.get?_push_size h3 rfl) hb1).here ?_
    refine codeAny_handlers_suite_as ?_
    refine HandSPX.lands_againZ (fly_keep fl3 kp) fun h4 fl4 up4 => ?_
    have st : B.StaysIn h4 := fl4.1
    have up3' : sI.heap.UpToSlots (h3.push { cls := .type "tuple", data := .seq [Value.ref C1, Value.ref C2, Value.ref C3].toArray }) := fun b o e n => by
      obtain ⟨sl, z⟩ := (up.trans up3) b o e n
      exact ⟨sl, kp _ _ z⟩
    have J4 : Inv X pins σ' H' { s' with heap := h4 } := J.landed nb st (up3'.trans up4) os ag
    obtain ⟨oe4, vs4, he4, hz4, hd4⟩ := fl4.there
    have S4 := J4.suite he4 hd4 na nL nF
    refine store_ok (X := X.suite a ((a, oe4) :: (X.pn ++ pins))) (v := .ref a) S4 hN hi hloc rfl (fun s5 S5 => ?_) (.inr hln)
    refine wpAny_mono ((hsu a oe4 cls d (X.pn ++ pins) hz4 ⟨_, hd4⟩).run [] s5 _ H' _ S5 (hyes a na)) (fun fl s6 hsp => ?_) (fun _ _ z => False.elim z)
    cases fl with
    | next =>
      obtain ⟨σ6, H6, S6, q6⟩ := hsp
      obtain ⟨e6, n6, _⟩ := S6.pin (a, oe4) (List.mem_append_left _ List.mem_cons_self)
      have T6 := S6.unsuite ok
      have nC : ∀ x c, X.env.cells.lookup x = some c → c ≠ a := fun x c e z => by
        obtain ⟨v, o, ho, hc⟩ := T6.cell x c e
        rw [z] at ho
        have e7 : s6.heap.get? a = some oe4 := e6
        rw [e7] at ho
        cases ho
        rw [hd4] at hc
        cases hc
      have T7 := inv_track (o := exK a cls d) T6 n0 n6 nL nC nP (exK_ok e6 hz4 hd4)
      exact gone_ok T7 hN hi hln fun s7 J7 => ⟨_, _, J7, q6⟩
    | brk =>
      obtain ⟨_, _, _, q6⟩ := hsp
      exact q6.elim
    | cont =>
      obtain ⟨_, _, _, q6⟩ := hsp
      exact q6.elim
    | ret u =>
      obtain ⟨_, _, _, _, _, q6⟩ := hsp
      exact q6.elim
  · cases fl with
    | next =>
      obtain ⟨σ', H', J', q⟩ := hsp
      exact wpAny_execs_nil ⟨σ', H', J'.ofTry ok, q⟩
    | brk =>
      obtain ⟨σ', H', J', q⟩ := hsp
      exact ⟨σ', H', J'.ofTry ok, q⟩
    | cont =>
      obtain ⟨σ', H', J', q⟩ := hsp
      exact ⟨σ', H', J'.ofTry ok, q⟩
    | ret u =>
      obtain ⟨v, σ', H', J', r, q⟩ := hsp
      exact ⟨v, σ', H', J'.ofTry ok, r, q⟩
end
/-- kept.f -/
def tKf (K : PySem.W.Frag) (f : Str) (te : TE) : TE := fun σ H Q => te σ H fun x H1 => ∃ (a C dd : Addr) (fs : List (Str × V)) (v : V), x = .ref a ∧ H1 a = some (exK a (.ref C) (some dd)) ∧ XfC K C ∧ PySem.W.findIn K (.ref C) f = some none ∧ H1 dd = some (.xd fs) ∧ fs.lookup f = some v ∧ Q v H1
theorem pe_kf {X : Cx} {e : Expr} {te : TE} {pos : Pos} {f : Str} (he : PE X e te) (hb : attributeBase e f X.env (eval e X.env) = eval e X.env := by rfl) : PE X (.Attribute e f pos) (tKf X.K f te) := by
  refine ⟨fun pins s σ H Q I h => ?_⟩
  refine attr_of hb (thn (he.run pins s σ H _ I h) fun u s1 hh => ?_)
  obtain ⟨x, H1, I1, rx, a, C, dd, fs, v, ex, ea, T, hno, ed, l, q⟩ := hh
  subst ex
  obtain rfl : u = Value.ref a := rx
  obtain ⟨oe, vs, ho, hz, hd⟩ := exK_at I1.hok ea
  obtain ⟨mA, hns, hr⟩ := (show ObjOk X.prog X.w H1 s1.heap dd (.xd fs) from I1.hok dd _ ed)
  obtain ⟨od, hod, hl⟩ := lookIn_ns hns
  obtain ⟨u, hu, ru⟩ := RelO.some_of (v := v) (o := mA f) (by rw [← l]; exact hr f)
  have J : PySem.W.InstAt s1.heap a oe C (some od) := ⟨ho, hz.1, by unfold PySem.W.notCls; rw [hd] <;> rfl, by rw [hz.2]; exact hod⟩
  exact HandSPX.exc_get I1.kIn J T.ga T.gg T.exC (PySem.W.findObj_own T.hdC hno rfl (by rw [hl, hu])) (handed_of ru) ⟨v, H1, I1.tok _, ru, q⟩
/-- what isinstance asks of the class of a kept error -/
structure IsC (K : PySem.W.Frag) (C : Addr) : Prop where
  cl : (PySem.W.clsIn K C).isSome = true
  ga : PySem.W.findIn K (.ref C) "__getattribute__" = some (some (.builtin "BaseException.__getattribute__"))
  gg : PySem.W.findIn K (.ref C) "__getattr__" = some none
  su : PySem.W.subIn K (.ref C) (.type "BaseException") = some true
  hc : PySem.W.findIn K (.ref C) "__class__" = some (some (.builtin "object.__class__"))
  hn : PySem.W.specialIn K (.builtin "object.__class__") "__get__" = some (some (.builtin "getset_descriptor.__get__"))
  ht : PySem.W.takesIn K (.builtin "object.__class__") = some true
  hm : PySem.W.mroIn K C (.type "object") = some true
/-- isinstance(kept, c) -/
def rIsK (K : PySem.W.Frag) : List V → Hp → VK → Prop := fun xs H Q => ∃ (a C dd : Addr) (fs : List (Str × V)) (c : V) (u : Value) (b : Bool), xs = [.ref a, c] ∧ ClsV c u ∧ H a = some (exK a (.ref C) (some dd)) ∧ H dd = some (.xd fs) ∧ IsC K C ∧ PySem.W.kitOne K (.ref C) u = some b ∧ Q (.bl b) H
theorem call_isK {X : Cx} : CallR X (.builtin "isinstance") (rIsK X.K) := by
  intro pins s σ H xs us Q I r h
  obtain ⟨a, C, dd, fs, c, u, b, rfl, hc, ea, ed, T, e, q⟩ := h
  obtain ⟨u1, u2, rfl, r1, r2⟩ := vals2 r
  have e2 := hc.eq r2
  subst e2
  obtain rfl : u1 = Value.ref a := r1
  obtain ⟨oe, vs, ho, hz, hd⟩ := exK_at I.hok ea
  obtain ⟨mA, hns, hr⟩ := (show ObjOk X.prog X.w H s.heap dd (.xd fs) from I.hok dd _ ed)
  obtain ⟨od, hod, hl⟩ := lookIn_ns hns
  have J : PySem.W.InstAt s.heap a oe C (some od) := ⟨ho, hz.1, by unfold PySem.W.notCls; rw [hd] <;> rfl, by rw [hz.2]; exact hod⟩
  exact PySem.W.kia_one (PySem.W.kitx_exc T.cl T.ga T.gg T.su T.hc T.hn T.ht T.hm) I.kIn J e (fun z => nomatch z) fun tk => ⟨.bl b, H, I.tok tk, rfl, q⟩
end Wp
set_option Elab.async false
set_option linter.all false
set_option maxRecDepth 100000
namespace Wp
open PySem PySem.Spec PyProof.Rows L2
-- _law_at: slots _law_a_term 0, _law_a_path 1, _law_number 2
abbrev s_law_at : Stmt := top 31
theorem sc_law_at : FnScope ["_law_a_term", "_law_a_path", "_law_number"] ["_law_a_term", "_law_a_path"] (defScope s_law_at) := ⟨rfl, rfl, rfl, by decide +kernel, rfl, by decide +kernel, by decide +kernel⟩
abbrev sl_law_at : List Str := ["_law_a_term", "_law_a_path", "_law_number"]
-- is_whole: slots thing 0
abbrev sis_whole : Stmt := top 5
theorem scis_whole : FnScope ["thing"] ["thing"] (defScope sis_whole) := ⟨rfl, rfl, rfl, by decide +kernel, rfl, by decide +kernel, by decide +kernel⟩
abbrev slis_whole : List Str := ["thing"]
-- part_at: slots term 0, path 1, part 2, number 3, parts 4
abbrev spart_at : Stmt := top 11
theorem scpart_at : FnScope ["term", "path", "part", "number", "parts"] ["term", "path"] (defScope spart_at) := ⟨rfl, rfl, rfl, by decide +kernel, rfl, by decide +kernel, by decide +kernel⟩
abbrev slpart_at : List Str := ["term", "path", "part", "number", "parts"]
def atD : PyData → List Int → Option PyData
  | d, [] => some d
  | d, j :: js => if 0 ≤ j then ((partsD d)[j.toNat]?).bind fun e => atD e js else none
theorem atD_app : ∀ (js ks : List Int) (d : PyData), atD d (js ++ ks) = (atD d js).bind fun e => atD e ks
  | [], ks, d => rfl
  | j :: js, ks, d => by
    rw [List.cons_append, atD, atD]
    split
    · cases h : (partsD d)[j.toNat]? with
      | none => rfl
      | some e => exact atD_app js ks e
    · rfl
theorem atD_one (d : PyData) (j : Int) : atD d [j] = if 0 ≤ j then (partsD d)[j.toNat]? else none := by
  rw [atD]
  split
  · cases (partsD d)[j.toNat]? <;> rfl
  · rfl
theorem atD_tm : ∀ {js : List Int} {n : Nat} {d e : PyData}, Tm n d → atD d js = some e → ∃ m, m ≤ n ∧ Tm m e
  | [], n, d, e, h, q => by
    cases q
    exact ⟨n, Nat.le_refl _, h⟩
  | j :: js, n, d, e, h, q => by
    rw [atD] at q
    split at q
    · cases hp : (partsD d)[j.toNat]? with
      | none => rw [hp] at q; cases q
      | some p =>
        rw [hp] at q
        obtain ⟨m, em, t⟩ := tm_part h (List.mem_of_getElem? hp)
        obtain ⟨m', l, t'⟩ := atD_tm t q
        exact ⟨m', by omega, t'⟩
    · cases q
/-- what the drawn paths lead to -/
theorem goP_at {f : PyData → List (List Int)} : ∀ (i : Nat) (ps : List PyData) {js : List Int}, js ∈ goP f i ps → ∃ k p ks, js = (((i + k : Nat) : Int)) :: ks ∧ ps[k]? = some p ∧ ks ∈ f p
  | _, [], _, h => by simp [goP] at h
  | i, p :: ps, js, h => by
    rw [goP] at h
    rcases List.mem_append.mp h with h | h
    · obtain ⟨ks, hk, rfl⟩ := List.mem_map.mp h
      exact ⟨0, p, ks, rfl, rfl, hk⟩
    · obtain ⟨k, q, ks, e1, e2, e3⟩ := goP_at (i + 1) ps h
      exact ⟨k + 1, q, ks, by rw [e1, show i + 1 + k = i + (k + 1) by omega], by simpa using e2, e3⟩
theorem path_at : ∀ {k : Nat} {d : PyData} {js : List Int}, js ∈ pathsD k d → ∃ e, atD d js = some e
  | 0, _, _, h => by simp [pathsD] at h
  | k + 1, d, js, h => by
    rw [pathsD] at h
    rcases List.mem_cons.mp h with h | h
    · rw [h]; exact ⟨d, rfl⟩
    · obtain ⟨i, p, ks, e1, e2, e3⟩ := goP_at 0 _ h
      obtain ⟨e, he⟩ := path_at e3
      refine ⟨e, ?_⟩
      rw [e1, atD, if_pos (by omega), show ((0 + i : Nat) : Int).toNat = i by omega, e2]
      exact he
def spAt : Sp := fun vs H Q _ => ∃ (a pt : Addr) (v : V) (d e : PyData) (n : Nat) (js : List Int), vs = [v, .ref pt] ∧ Dq a H v d ∧ Tm n d ∧ H pt = some (.tup (js.map V.int)) ∧ atD d js = some e ∧ ∀ x H', Same H H' → Dq a H' x e → Q x H'
/-- a step at which no part stands -/
def Bad (e : PyData) (k : V) : Prop := (∃ b, k = .bl b) ∨ ∃ i : Int, k = .int i ∧ ¬ (0 ≤ i ∧ i < ((partsD e).length : Int))
def spWhole : Sp := fun vs H Q _ => ∃ x, vs = [x] ∧ ((∃ i, x = .int i ∧ Q (.bl true) H) ∨ ∃ b, x = .bl b ∧ Q (.bl false) H)
def spPartAt (C : Addr) : Sp := fun vs H Q E => ∃ (a pt : Addr) (v : V) (d : PyData) (n : Nat), vs = [v, .ref pt] ∧ Dq a H v d ∧ Tm n d ∧
  ((∃ js e, H pt = some (.tup (js.map V.int)) ∧ atD d js = some e ∧ ∀ x H', Same H H' → Dq a H' x e → Q x H') ∨
    ∃ xs js k rest e, H pt = some (.tup xs) ∧ xs = js.map V.int ++ k :: rest ∧ atD d js = some e ∧ Bad e k ∧ ∀ dd H', Same H H' → H dd = none → H' dd = some (.xd [("at", .ref pt)]) → E (.ref C) (some dd) H')
theorem ite_t {c : Bool} {A B : Prop} (h : c = true) (k : A) : if c = true then A else B := by rw [if_pos h]; exact k
theorem ite_f {c : Bool} {A B : Prop} (h : c = false) (k : B) : if c = true then A else B := by rw [if_neg (by rw [h]; decide)]; exact k
theorem at_part {d e ei : PyData} {js : List Int} {i : Nat} {j : Int} (he : atD d js = some e) (ej : js[i]? = some j) (ey : atD d (js.take i) = some ei) : ∃ e2, atD d (js.take (i + 1)) = some e2 ∧ 0 ≤ j ∧ (partsD ei)[j.toNat]? = some e2 := by
  have e1 : js.take (i + 1) = js.take i ++ [j] := by rw [List.take_add_one, ej]; rfl
  have e0 : atD d (js.take (i + 1) ++ js.drop (i + 1)) = some e := by rw [List.take_append_drop]; exact he
  rw [atD_app] at e0
  cases h2 : atD d (js.take (i + 1)) with
  | none => rw [h2] at e0; cases e0
  | some e2 =>
    refine ⟨e2, rfl, ?_⟩
    rw [e1, atD_app, ey] at h2
    have h3 : atD ei [j] = some e2 := h2
    rw [atD_one] at h3
    split at h3
    · exact ⟨by assumption, h3⟩
    · cases h3
theorem same_err {H H2 : Hp} {e dx : Addr} {o : HO} (n1 : H e = none) (n2 : H dx = none) (s : ∀ b u, b ≠ e → b ≠ dx → H b = some u → H2 b = some u) : Same H (upd (del H2 e) dx o) := fun b u q => by
  rw [upd_ne (ne_of_none q n2), del_ne (ne_of_none q n1)]
  exact s b u (ne_of_none q n1) (ne_of_none q n2) q
abbrev sInit : Stmt := inClass (top 3) 0
theorem scInit : FnScope ["self", "at"] ["self", "at"] (defScope sInit) := ⟨rfl, rfl, rfl, by decide +kernel, rfl, by decide +kernel, by decide +kernel⟩
def spInit (K : PySem.W.Frag) : Sp := fun vs H Q _ => ∃ (e C : Addr) (y : V), vs = [.ref e, y] ∧ H e = some (exo e C none) ∧ LeC K C ∧ PySem.W.findIn K (.ref C) "at" = some none ∧ ∀ dx, H dx = none → dx ≠ e → Q .non (upd (upd H dx (exd dx [("at", y)])) e (exo e C (some dx)))
section
variable {P : Program} {w : World} {K : PySem.W.Frag} {mg : Str → Option Value} {base : Heap} {f C fI : Addr} {fd fdI : FuncData}
theorem ok_at (F : Fun K "_law_at" "_law_at" s_law_at f fd) (G_law_parts : Has P w K mg base "_law_parts" ["_law_a_term"] 2 spPartsOf) : FnOk P w K mg base CX0 3 f fd ["_law_a_term", "_law_a_path"] spAt := by
  refine F.ok sc_law_at (fun vs H Q E h => ?_) (fun cdv A outer s H vs Q E hr h => ?_)
  · obtain ⟨a, pt, v, d, e, n, js, rfl, _⟩ := h
    rfl
  obtain ⟨a, pt, v, d, e, n, js, rfl, hd, ht, hp, he, q⟩ := h
  refine ⟨_, (pss_cons (ps_for PassesOwn.never rfl (pi_tup (pv 1)) (pg_name (i := 2) sc_law_at.nd rfl (.inl rfl)) (pss_one (ps_set (i := 0) sc_law_at.nd rfl (.inl rfl) (pe_ix ix_list (pe_has G_law_parts (hr.mono (by omega)) (pa_cons (pv 0) pa_nil)) (pv 2) (fun _ _ => rfl)))))
  (pss_one (ps_ret (pv 0)))), ?_⟩
  refine ⟨_, rfl, pt, rfl, ⟨_, SqT.of hp⟩, for_tup (xs := js.map V.int) (fun i σ H' => Same H H' ∧ ∃ x t2 ei, σ = [some x, some (.ref pt), t2] ∧ Dq a H' x ei ∧ atD d (js.take i) = some ei) ?_ ?_ ?_ ?_⟩
  · exact ⟨Same.refl H, v, none, d, rfl, hd, by rw [List.take_zero]; rfl⟩
  · rintro i σ H' hi ⟨g, _⟩
    exact SqT.of (g _ _ hp)
  · rintro i x σ H' hx ⟨g, y, t2, ei, rfl, hy, ey⟩
    rw [List.getElem?_map] at hx
    obtain ⟨j, ej, rfl⟩ := Option.map_eq_some_iff.mp hx
    obtain ⟨m, _, tm⟩ := atD_tm ht ey
    have nx : ∃ e2, atD d (js.take (i + 1)) = some e2 ∧ 0 ≤ j ∧ (partsD ei)[j.toNat]? = some e2 := by
      have e1 : js.take (i + 1) = js.take i ++ [j] := by rw [List.take_add_one, ej]; rfl
      have e0 : atD d (js.take (i + 1) ++ js.drop (i + 1)) = some e := by rw [List.take_append_drop]; exact he
      rw [atD_app] at e0
      cases h2 : atD d (js.take (i + 1)) with
      | none => rw [h2] at e0; cases e0
      | some e2 =>
        refine ⟨e2, rfl, ?_⟩
        rw [e1, atD_app, ey] at h2
        have h3 : atD ei [j] = some e2 := h2
        rw [atD_one] at h3
        split at h3
        · exact ⟨by assumption, h3⟩
        · cases h3
    obtain ⟨e2, n1, n2, n3⟩ := nx
    refine ⟨_, rfl, a, y, ei, m, rfl, hy, tm, fun lp xs H2 s2 _ e5 dx => ?_⟩
    have lx : xs.length = (partsD ei).length := dx.len
    have lj : j.toNat < xs.length := by rw [lx]; exact (List.getElem?_eq_some_iff.mp n3).1
    have ex : xs[j.toNat]? = some xs[j.toNat] := List.getElem?_eq_getElem lj
    obtain ⟨e3, e4, q3⟩ := dx.get ex
    rw [n3] at e4
    cases e4
    refine ⟨_, rfl, lp, xs, j, _, rfl, rfl, SqL.of e5, at_of (j := j.toNat) (by omega) ex, g.trans s2, _, _, e2, rfl, q3.same s2, n1⟩
  · rintro σ H' ⟨g, y, t2, ei, rfl, hy, ey⟩
    rw [List.length_map, List.take_length, he] at ey
    cases ey
    exact ⟨_, rfl, q y H' g hy⟩
theorem ok_whole (F : Fun K "is_whole" "is_whole" sis_whole f fd) (m_isinstance : mg "isinstance" = none) (m_int : mg "int" = none) (m_bool : mg "bool" = none) : FnOk P w K mg base CX0 1 f fd ["thing"] spWhole := by
  refine F.ok scis_whole (fun vs H Q E h => ?_) (fun cdv A outer s H vs Q E hr h => ?_)
  · obtain ⟨x, rfl, _⟩ := h
    rfl
  obtain ⟨x, rfl, h⟩ := h
  refine ⟨_, (pss_one (ps_ret (pe_and (pe_callB call_isi rfl m_isinstance PyProof.Rows.Boot.isinstance (pa_cons (pv 0) (pa_cons (pe_bltn (v := .ty "int") rfl m_int PyProof.Rows.Boot.«int» rfl) pa_nil))) (pe_one (pe_not (pe_callB call_isi rfl m_isinstance PyProof.Rows.Boot.isinstance (pa_cons (pv 0) (pa_cons (pe_bltn (v := .ty "bool") rfl m_bool PyProof.Rows.Boot.«bool» rfl) pa_nil)))))))), ?_⟩
  rcases h with ⟨i, rfl, q⟩ | ⟨b, rfl, q⟩
  · refine ⟨_, rfl, _, _, _, _, true, rfl, .ty "int", .base (.int i), kit_ty (by decide +kernel), _, rfl, ?_⟩
    refine iteT ?_
    exact ⟨_, rfl, _, _, _, _, false, rfl, .ty "bool", .base (.int i), kit_ty (by decide +kernel), _, rfl, q⟩
  · refine ⟨_, rfl, _, _, _, _, true, rfl, .ty "int", .base (.bl b), kit_ty (by decide +kernel), _, rfl, ?_⟩
    refine iteT ?_
    exact ⟨_, rfl, _, _, _, _, true, rfl, .ty "bool", .base (.bl b), kit_ty (by decide +kernel), _, rfl, q⟩
theorem ok_init (F : Fun K "__init__" "NoPath.__init__" sInit f fd) (m_LookupError : mg "LookupError" = none) (vV : PySem.W.findCls K (.type "LookupError") (.type "type") "__init__" = some (.val (.builtin "LookupError.__init__"))) : FnOk P w K mg base CX0 1 f fd ["self", "at"] (spInit K) := by
  refine F.ok scInit (fun vs H Q E h => ?_) (fun cdv A outer s H vs Q E hr h => ?_)
  · obtain ⟨e, C, y, rfl, _⟩ := h
    rfl
  obtain ⟨e, C, y, rfl, he, T, hno, q⟩ := h
  refine ⟨_, pss_cons (ps_expr (pe_leinit rfl m_LookupError vV (pa_cons (pv 0) (pa_cons pe_str pa_nil)))) (pss_one (ps_lest (pv 0) (pv 1))), ?_⟩
  refine ⟨_, rfl, e, C, _, rfl, (by show 1 ≤ 1000; decide), T, he, ?_⟩
  exact ⟨_, rfl, _, rfl, e, C, rfl, T, hno, he, q⟩
theorem ok_partAt (F : Fun K "part_at" "part_at" spart_at f fd) (Gparts_of : Has P w K mg base "parts_of" ["term"] 1 spPartsOf) (Gis_whole : Has P w K mg base "is_whole" ["thing"] 1 spWhole) (m_len : mg "len" = none)
    (T : LeC K C) (mC : mg "NoPath" = some (.ref C)) (hno : PySem.W.findIn K (.ref C) "at" = some none) (iC : PySem.W.findIn K (.ref C) "__init__" = some (some (.ref fI))) (tI : PySem.W.typeIn K (.ref fI) = some (.type "function")) (FI : FnOk P w K mg base CX0 1 fI fdI ["self", "at"] (spInit K)) (bI : Binds K fdI ["self", "at"] []) :
    FnOk P w K mg base (L2.CX P w) 4 f fd ["term", "path"] (spPartAt C) := by
  refine F.okX scpart_at (fun vs H Q E h => ?_) (fun cdv A outer s H vs Q E hr h => ?_)
  · obtain ⟨a, pt, v, d, n, rfl, _⟩ := h
    rfl
  obtain ⟨a, pt, v, d, n, rfl, hd, ht, hq⟩ := h
  refine ⟨_, (pss_cons (ps_set (i := 2) scpart_at.nd rfl (.inl rfl) (pv 0))
  (pss_cons (ps_for (passes_of rfl) rfl (pi_tup (pv 1)) (pg_name (i := 3) scpart_at.nd rfl (.inl rfl)) (pss_cons (ps_set (i := 4) scpart_at.nd rfl (.inl rfl) (pe_has Gparts_of (hr.mono (by omega)) (pa_cons (pv 2) pa_nil)))
  (pss_cons (ps_if (PW.pt (pw_or (pt_not (pt_val (pe_has Gis_whole (hr.mono (by omega)) (pa_cons (pv 3) pa_nil)))) (pw_or1 (pt_not (pt_chain op_le op_lt pe_int (pv 3) (pe_callB call_len_seq rfl m_len PySem.boot_len (pa_cons (pv 4) pa_nil))))))) (pss_one (ps_raise rfl (takes_of rfl rfl rfl rfl) (pmk_le T iC tI FI (hr.mono (by decide)) bI pass0 rfl mC (pa_cons (pv 1) pa_nil)))) pss_nil)
  (pss_one (ps_set (i := 2) scpart_at.nd rfl (.inl rfl) (pe_ix ix_list (pv 4) (pv 3) (fun _ _ => rfl)))))))
  (pss_one (ps_ret (pv 2))))), ?_⟩
  have hall : ∃ (js : List Int) (tl : List V) (e : PyData), H pt = some (.tup (js.map V.int ++ tl)) ∧ atD d js = some e ∧ ((tl = [] ∧ ∀ x H', Same H H' → Dq a H' x e → Q x H') ∨ ∃ k rest, tl = k :: rest ∧ Bad e k ∧ ∀ dd H', Same H H' → H dd = none → H' dd = some (.xd [("at", .ref pt)]) → E (.ref C) (some dd) H') := by
    rcases hq with ⟨js, e, h1, h2, h3⟩ | ⟨xs, js, k, rest, e, h1, h2, h3, h4, h5⟩
    · exact ⟨js, [], e, by rw [List.append_nil]; exact h1, h2, .inl ⟨rfl, h3⟩⟩
    · exact ⟨js, k :: rest, e, by rw [← h2]; exact h1, h3, .inr ⟨k, rest, rfl, h4, h5⟩⟩
  clear hq
  obtain ⟨js, tl, e, hp, he, hend⟩ := hall
  refine ⟨_, rfl, _, rfl, pt, rfl, ⟨_, SqT.of hp⟩, for_tup (xs := js.map V.int ++ tl) (fun i σ H' => i ≤ js.length ∧ Same H H' ∧ ∃ x t3 t4 ei, σ = [some v, some (.ref pt), some x, t3, t4] ∧ Dq a H' x ei ∧ atD d (js.take i) = some ei) ?_ ?_ ?_ ?_⟩
  · exact ⟨Nat.zero_le _, Same.refl H, v, none, none, d, rfl, hd, by rw [List.take_zero]; rfl⟩
  · rintro i σ H' hi ⟨_, g, _⟩
    exact SqT.of (g _ _ hp)
  · rintro i x σ H' hx ⟨li, g, y, t3, t4, ei, rfl, hy, ey⟩
    obtain ⟨m, _, tm⟩ := atD_tm ht ey
    refine ⟨_, rfl, a, y, ei, m, rfl, hy, tm, fun lp xs H2 s2 _ e5 dx => ?_⟩
    have lx : xs.length = (partsD ei).length := dx.len
    have rz : ∀ (k : V) (rest : List V), tl = k :: rest → (∀ dd H', Same H H' → H dd = none → H' dd = some (.xd [("at", .ref pt)]) → E (.ref C) (some dd) H') → tMkO C (spInit K) [] (tCons (tVar 1) tNil) [some v, some (.ref pt), some y, some x, some (.ref lp)] H2 fun cls d H' => E cls d H' := by
      intro k rest _ hE
      refine ⟨_, rfl, (by show 1 ≤ 1000; decide), fun er her => ⟨er, C, .ref pt, rfl, upd_same, T, hno, fun dx hdx ne => ⟨rfl, dx, [("at", .ref pt)], upd_same, (upd_ne ne).trans upd_same, ?_, ?_⟩⟩⟩
      · rw [upd_ne ne] at hdx
        exact hdx
      · rw [upd_ne ne] at hdx
        have sg := g.trans s2
        refine hE dx _ (same_err (sg.free her) (sg.free hdx) fun b u n1 n2 q => ?_) (sg.free hdx) upd_same
        rw [upd_ne n1, upd_ne n2, upd_ne n1]
        exact sg _ _ q
    by_cases hlt : i < js.length
    · have ex0 : (js.map V.int)[i]? = some x := by rw [← hx, List.getElem?_append_left (by rw [List.length_map]; exact hlt)]
      rw [List.getElem?_map] at ex0
      obtain ⟨j, ej, rfl⟩ := Option.map_eq_some_iff.mp ex0
      obtain ⟨e2, n1, n2, n3⟩ := at_part he ej ey
      have lj : j.toNat < xs.length := by rw [lx]; exact (List.getElem?_eq_some_iff.mp n3).1
      have ex : xs[j.toNat]? = some xs[j.toNat] := List.getElem?_eq_getElem lj
      obtain ⟨e3, e4, q3⟩ := dx.get ex
      rw [n3] at e4
      cases e4
      refine ⟨_, rfl, V.int j, rfl, .inl ⟨j, rfl, true, rfl, iteF ?_⟩⟩
      refine ⟨_, rfl, _, _, rfl, rfl, _, rfl, ite_t (decide_eq_true n2) ?_⟩
      refine ⟨_, rfl, lp, xs, rfl, .inl (SqL.of e5), _, _, rfl, rfl, _, rfl, ite_f (by rw [decide_eq_true (show j < ((xs.length : Nat) : Int) by omega)]; rfl) ?_⟩
      exact ⟨_, rfl, _, rfl, lp, xs, j, _, rfl, rfl, SqL.of e5, at_of (j := j.toNat) (by omega) ex, by omega, g.trans s2, _, _, _, e2, rfl, q3.same s2, n1⟩
    · have hi : i = js.length := by omega
      subst hi
      rw [List.getElem?_append_right (by rw [List.length_map]; exact Nat.le_refl _), List.length_map, Nat.sub_self] at hx
      rcases hend with ⟨z, _⟩ | ⟨k, rest, z, bad, hE⟩
      · rw [z] at hx
        cases hx
      · have rz := rz k rest z hE
        rw [z] at hx
        cases hx
        rw [List.take_length, he] at ey
        cases ey
        rcases bad with ⟨b, rfl⟩ | ⟨j, rfl, nj⟩
        · refine ⟨_, rfl, V.bl b, rfl, .inr ⟨b, rfl, false, rfl, iteT ?_⟩⟩
          exact iteT rz
        · refine ⟨_, rfl, V.int j, rfl, .inl ⟨j, rfl, true, rfl, iteF ?_⟩⟩
          by_cases h0 : 0 ≤ j
          · refine ⟨_, rfl, _, _, rfl, rfl, _, rfl, ite_t (decide_eq_true h0) ?_⟩
            exact ⟨_, rfl, lp, xs, rfl, .inl (SqL.of e5), _, _, rfl, rfl, _, rfl, ite_t (by rw [decide_eq_false (show ¬ j < ((xs.length : Nat) : Int) by omega)]; rfl) rz⟩
          · exact ⟨_, rfl, _, _, rfl, rfl, _, rfl, ite_f (decide_eq_false h0) ⟨_, rfl, iteT rz⟩⟩
  · rintro σ H' ⟨hle, g, y, t3, t4, ei, rfl, hy, ey⟩
    rcases hend with ⟨z, q⟩ | ⟨k, rest, z, _⟩
    · rw [z, List.append_nil, List.length_map, List.take_length, he] at ey
      cases ey
      exact ⟨_, rfl, q y H' g hy⟩
    · rw [z, List.length_append, List.length_map, List.length_cons] at hle
      omega
end
end Wp
set_option Elab.async false
set_option linter.all false
set_option maxRecDepth 100000
namespace Wp
open PySem PySem.Spec PyProof.Rows L2
-- _law_refused: slots _law_a_term 0, _law_a_path 1, _law_kept 2, e 3
abbrev s_law_refused : Stmt := top 32
theorem sc_law_refused : FnScope ["_law_a_term", "_law_a_path", "_law_kept", "e"] ["_law_a_term", "_law_a_path"] (defScope s_law_refused) := ⟨rfl, rfl, rfl, by decide +kernel, rfl, by decide +kernel, by decide +kernel⟩
abbrev sl_law_refused : List Str := ["_law_a_term", "_law_a_path", "_law_kept", "e"]
/-- the like of Has for a def that refuses -/
def HasX (P : Program) (w : World) (K : PySem.W.Frag) (mg : Str → Option Value) (base : Heap) (x : Str) (ps : List Str) (k : Nat) (sp : Sp) : Prop :=
  ∃ (f : Addr) (fd : FuncData), FnOk P w K mg base (L2.CX P w) k f fd ps sp ∧ mg x = some (.ref f) ∧ PySem.W.keepIn K (.ref f) = true ∧ Binds K fd ps []
/-- whole numbers and truths as data -/
def FlV (x : V) : Prop := (∃ i, x = .int i) ∨ ∃ b, x = .bl b
def dV : V → PyData
  | .int i => .int i
  | .bl b => .bool b
  | _ => .none
theorem flv_dp {K : PySem.W.Frag} {H : Hp} : ∀ {xs : List V}, (∀ x ∈ xs, FlV x) → DpAll K H xs (xs.map dV)
  | [], _ => .nil
  | x :: xs, h => by
    refine .cons ?_ (flv_dp fun y hy => h y (List.mem_cons_of_mem _ hy))
    rcases h x List.mem_cons_self with ⟨i, rfl⟩ | ⟨b, rfl⟩
    · exact .int i
    · exact .bl b
theorem flv_can : ∀ {xs : List V}, (∀ x ∈ xs, FlV x) → PyData.canLayAll0 (xs.map dV) = true ∧ PyData.depthAll (xs.map dV) ≤ 1
  | [], _ => ⟨rfl, by decide⟩
  | x :: xs, h => by
    have ih := flv_can fun y hy => h y (List.mem_cons_of_mem _ hy)
    rcases h x List.mem_cons_self with ⟨i, rfl⟩ | ⟨b, rfl⟩
    · refine ⟨?_, ?_⟩
      · show (true && PyData.canLayAll0 (xs.map dV)) = true
        rw [ih.1]; rfl
      · have := ih.2
        simp only [List.map_cons, PyData.depthAll, dV, PyData.depth]
        omega
    · refine ⟨?_, ?_⟩
      · show (true && PyData.canLayAll0 (xs.map dV)) = true
        rw [ih.1]; rfl
      · have := ih.2
        simp only [List.map_cons, PyData.depthAll, dV, PyData.depth]
        omega
theorem flv_shaped {xs : List V} (h : ∀ x ∈ xs, FlV x) : SeqAt.shaped (.tuple (xs.map dV)) = true := by
  have ⟨h1, h2⟩ := flv_can h
  unfold SeqAt.shaped
  rw [Bool.and_eq_true]
  refine ⟨h1, decide_eq_true ?_⟩
  rw [PyData.depth]
  omega
def spRef : Sp := fun vs H Q _ => ∃ (a pt : Addr) (v : V) (d : PyData) (n : Nat) (xs : List V) (js : List Int) (k : V) (rest : List V) (e : PyData), vs = [v, .ref pt] ∧ Dq a H v d ∧ Tm n d ∧ H pt = some (.tup xs) ∧ xs = js.map V.int ++ k :: rest ∧ atD d js = some e ∧ Bad e k ∧ (∀ x ∈ xs, FlV x) ∧ ∀ H', Same H H' → Q (.bl true) H'
section
variable {P : Program} {w : World} {K : PySem.W.Frag} {mg : Str → Option Value} {base : Heap} {f C C2 C3 : Addr} {fd : FuncData}
theorem ok_refused (F : Fun K "_law_refused" "_law_refused" s_law_refused f fd) (Gpart_at : HasX P w K mg base "part_at" ["term", "path"] 4 (spPartAt C)) (m_isinstance : mg "isinstance" = none) (m_LookupError : mg "LookupError" = none)
    (mC : mg "NoPath" = some (.ref C)) (mC2 : mg "NoName" = some (.ref C2)) (mC3 : mg "NoTerm" = some (.ref C3)) (hx : PySem.W.exmAny K (.ref C) [.ref C, .ref C2, .ref C3] = some true) (iC : IsC K C) (xC : XfC K C) (hno : PySem.W.findIn K (.ref C) "at" = some none) (hS : PySem.W.kitOne K (.ref C) (.ref C) = some true) (hL : PySem.W.kitOne K (.ref C) (.type "LookupError") = some true) :
    FnOk P w K mg base CX0 5 f fd ["_law_a_term", "_law_a_path"] spRef := by
  obtain ⟨fP, fdP, FP, mP, kP, bP⟩ := Gpart_at
  refine F.ok sc_law_refused (fun vs H Q E h => ?_) (fun cdv A outer s H vs Q E hr h => ?_)
  · obtain ⟨a, pt, v, d, n, xs, js, k, rest, e, rfl, _⟩ := h
    rfl
  obtain ⟨a, pt, v, d, n, xs, js, k, rest, e, rfl, hd, ht, hp, ex, he, bad, fl, q⟩ := h
  refine ⟨_, pss_cons (ps_set (i := 2) sc_law_refused.nd rfl (.inl rfl) pe_non) (pss_cons
    (ps_try_keep (i := 3) rfl rfl rfl sc_law_refused.nd rfl rfl rfl mC rfl mC2 rfl mC3
      (fun W pn xe tk po => pss_one (ps_expr (pe_callS FP (hr.mono (by decide)) rfl mP kP bP (fun σ => passAt tk σ) (pa_cons (pv 0) (pa_cons (pv 1) pa_nil)))))
      (fun a oe cls d pn hz hv => pss_one (ps_set (i := 2) sc_law_refused.nd rfl (.inl rfl) (pv 3))))
    (pss_one (ps_ret (pe_and (pe_callB call_isK rfl m_isinstance PyProof.Rows.Boot.isinstance (pa_cons (pv 2) (pa_cons (pe_glob (v := .ref C) rfl mC rfl) pa_nil)))
      (pe_and (pe_callB call_isK rfl m_isinstance PyProof.Rows.Boot.isinstance (pa_cons (pv 2) (pa_cons (pe_bltn (v := .ty "LookupError") rfl m_LookupError PyProof.Rows.Boot.«LookupError» rfl) pa_nil)))
      (pe_one (pe_cmpR (op_eqD hr.units) (pe_kf (pv 2)) (pv 1) (nomark _)))))))), ?_⟩
  refine ⟨_, rfl, _, rfl, a, pt, v, d, n, rfl, hd, ht, .inr ⟨xs, js, k, rest, e, hp, ex, he, bad, fun dd H1 s1 n1 ed => ⟨hx, fun er ner => ⟨_, rfl, ?_⟩⟩⟩⟩
  have nd : dd ≠ er := ne_of_none ed ner
  have ed2 : upd H1 er (exK er (.ref C) (some dd)) dd = some (.xd [("at", .ref pt)]) := (upd_ne nd).trans ed
  have s2 : Same H (upd H1 er (exK er (.ref C) (some dd))) := s1.trans (same_new ner)
  have dp : Dp K (upd H1 er (exK er (.ref C) (some dd))) (.ref pt) (.tuple (xs.map dV)) := .tup (.inl (.inl (s2 _ _ hp))) (flv_dp fl)
  have sh := flv_shaped fl
  refine ⟨_, rfl, er, C, dd, _, .ref C, .ref C, true, rfl, .own C, upd_same, ed2, iC, hS, true, rfl, iteT ?_⟩
  refine ⟨_, rfl, er, C, dd, _, .ty "LookupError", .type "LookupError", true, rfl, .ty _, upd_same, ed2, iC, hL, true, rfl, iteT ?_⟩
  refine ⟨_, rfl, er, C, dd, _, .ref pt, rfl, upd_same, xC, hno, ed2, rfl, _, rfl, _, _, dp, dp, sh, sh, ?_⟩
  rw [SeqAt.eqv_refl _ (SeqAt.canLay_of_shaped sh)]
  exact q _ s2
end
end Wp
set_option Elab.async false
set_option linter.all false
set_option maxRecDepth 100000
namespace Wp
open PySem PySem.Spec PyProof.Rows L2
theorem can_all : ∀ {ds : List PyData}, (∀ d ∈ ds, d.canLay0 = true) → PyData.canLayAll0 ds = true
  | [], _ => rfl
  | d :: ds, h => by
    rw [PyData.canLayAll0, h d List.mem_cons_self, can_all fun e he => h e (List.mem_cons_of_mem _ he)]
    rfl
theorem can_tup {ds : List PyData} (h : ∀ d ∈ ds, d.canLay0 = true) : (PyData.tuple ds).canLay0 = true := by
  rw [PyData.canLay0]
  exact can_all h
theorem c0 : ∀ d ∈ ([] : List PyData), d.canLay0 = true := fun _ h => by cases h
theorem c1 {e : PyData} {ds : List PyData} (h : e.canLay0 = true) (t : ∀ d ∈ ds, d.canLay0 = true) : ∀ d ∈ e :: ds, d.canLay0 = true := fun d hd => by
  rcases List.mem_cons.mp hd with z | z
  · rw [z]; exact h
  · exact t d z
theorem names_can : ∀ z ∈ termNames, (PyData.str z).canLay0 = true := by decide +kernel
theorem texts_can : ∀ z ∈ termTexts, (PyData.str z).canLay0 = true := by decide +kernel
theorem tags_can : ∀ z ∈ termTags, (PyData.str z).canLay0 = true := by decide +kernel
theorem cns {xs : List Str} (h : ∀ x ∈ xs, x ∈ termNames) : (PyData.tuple (xs.map .str)).canLay0 = true := can_tup fun d hd => by
  obtain ⟨x, hx, rfl⟩ := List.mem_map.mp hd
  exact names_can x (h x hx)
theorem op_can {w : Str} {k : Nat} (h : opMany w = some k) : (PyData.str w).canLay0 = true := by
  unfold opMany at h
  split at h
  · rename_i hm
    exact (by decide +kernel : ∀ z ∈ _, (PyData.str z).canLay0 = true) w hm
  · split at h
    · rename_i hm
      exact (by decide +kernel : ∀ z ∈ _, (PyData.str z).canLay0 = true) w hm
    · cases h
theorem Tm.can {n : Nat} {d : PyData} (h : Tm n d) : d.canLay0 = true := by
  induction h with
  | num i => exact can_tup (c1 (by decide +kernel) (c1 rfl c0))
  | text h => exact can_tup (c1 (by decide +kernel) (c1 (texts_can _ h) c0))
  | yes => decide +kernel
  | no => decide +kernel
  | none => decide +kernel
  | name h => exact can_tup (c1 (by decide +kernel) (c1 (names_can _ h) c0))
  | func h _ _ _ i1 => exact can_tup (c1 (by decide +kernel) (c1 (cns h) (c1 i1 c0)))
  | recu h0 h _ _ _ i1 => exact can_tup (c1 (by decide +kernel) (c1 (names_can _ h0) (c1 (cns h) (c1 i1 c0))))
  | call _ _ _ i1 i2 => exact can_tup (c1 (by decide +kernel) (c1 i1 (c1 (can_tup i2) c0)))
  | lett h _ _ i1 i2 => exact can_tup (c1 (by decide +kernel) (c1 (names_can _ h) (c1 i1 (c1 i2 c0))))
  | iff _ _ _ i1 i2 i3 => exact can_tup (c1 (by decide +kernel) (c1 i1 (c1 i2 (c1 i3 c0))))
  | doo _ _ _ i1 => exact can_tup (c1 (by decide +kernel) (c1 (can_tup i1) c0))
  | op h0 _ _ i1 => exact can_tup (c1 (by decide +kernel) (c1 (op_can h0) (c1 (can_tup i1) c0)))
  | cell _ i1 => exact can_tup (c1 (by decide +kernel) (c1 i1 c0))
  | get _ i1 => exact can_tup (c1 (by decide +kernel) (c1 i1 c0))
  | sett _ _ i1 i2 => exact can_tup (c1 (by decide +kernel) (c1 i1 (c1 i2 c0)))
  | say _ i1 => exact can_tup (c1 (by decide +kernel) (c1 i1 c0))
  | fault _ i1 => exact can_tup (c1 (by decide +kernel) (c1 i1 c0))
  | guard _ h _ i1 i2 => exact can_tup (c1 (by decide +kernel) (c1 i1 (c1 (names_can _ h) (c1 i2 c0))))
  | wind _ _ _ i1 i2 i3 => exact can_tup (c1 (by decide +kernel) (c1 i1 (c1 i2 (c1 i3 c0))))
  | catc h _ i1 => exact can_tup (c1 (by decide +kernel) (c1 (names_can _ h) (c1 i1 c0)))
  | go _ _ i1 i2 => exact can_tup (c1 (by decide +kernel) (c1 i1 (c1 i2 c0)))
  | mark h _ i1 => exact can_tup (c1 (by decide +kernel) (c1 (tags_can _ h) (c1 i1 c0)))
  | take h h2 _ i1 => exact can_tup (c1 (by decide +kernel) (c1 (tags_can _ h) (c1 (names_can _ h2) (c1 i1 c0))))
  | use _ _ i1 i2 => exact can_tup (c1 (by decide +kernel) (c1 i1 (c1 i2 c0)))
theorem depth_all : ∀ {ds : List PyData} {n : Nat}, (∀ d ∈ ds, d.depth ≤ n) → PyData.depthAll ds ≤ n
  | [], _, _ => Nat.zero_le _
  | d :: ds, n, h => by
    have h1 := h d List.mem_cons_self
    have h2 := depth_all fun e he => h e (List.mem_cons_of_mem _ he)
    rw [PyData.depthAll]
    omega
theorem Nar.depth {n : Nat} {d : PyData} (h : Nar n d) : d.depth ≤ n := by
  induction h with
  | none => exact Nat.zero_le _
  | bool b => exact Nat.zero_le _
  | int i => exact Nat.zero_le _
  | str z => exact Nat.zero_le _
  | tup _ _ ih =>
    have := depth_all ih
    rw [PyData.depth]
    omega
theorem Tm.shaped {n : Nat} {d : PyData} (h : Tm n d) (hn : n ≤ 30) : SeqAt.shaped d = true := by
  unfold SeqAt.shaped
  rw [h.can, Bool.true_and]
  have := h.nar.depth
  exact decide_eq_true (by omega)
/-- a list of paths as data -/
def pD (js : List Int) : PyData := .tuple (js.map PyData.int)
theorem ints_dp {K : PySem.W.Frag} {H : Hp} : ∀ (js : List Int), DpAll K H (js.map V.int) (js.map PyData.int)
  | [] => .nil
  | j :: js => .cons (.int j) (ints_dp js)
theorem ps_dp {K : PySem.W.Frag} {H : Hp} {rs : List V} {ps : List (List Int)} (h : PsAt H rs ps) : DpAll K H rs (ps.map pD) := by
  induction h with
  | nil => exact .nil
  | cons e _ ih => exact .cons (.tup (SqT.of e) (ints_dp _)) ih
theorem pD_can (js : List Int) : (pD js).canLay0 = true := can_tup fun d hd => by
  obtain ⟨j, _, rfl⟩ := List.mem_map.mp hd
  rfl
theorem pD_deep (js : List Int) : (pD js).depth ≤ 1 := by
  unfold pD
  rw [PyData.depth]
  have : PyData.depthAll (js.map PyData.int) ≤ 0 := depth_all fun d hd => by
    obtain ⟨j, _, rfl⟩ := List.mem_map.mp hd
    exact Nat.le_refl _
  omega
theorem ps_shaped (ps : List (List Int)) : SeqAt.shaped (.list (ps.map pD)) = true := by
  unfold SeqAt.shaped
  have c : (PyData.list (ps.map pD)).canLay0 = true := by
    rw [PyData.canLay0]
    exact can_all fun d hd => by
      obtain ⟨j, _, rfl⟩ := List.mem_map.mp hd
      exact pD_can j
  rw [c, Bool.true_and]
  have : PyData.depthAll (ps.map pD) ≤ 1 := depth_all fun d hd => by
    obtain ⟨j, _, rfl⟩ := List.mem_map.mp hd
    exact pD_deep j
  refine decide_eq_true ?_
  rw [PyData.depth]
  omega
/-- the last path leads to a term of no parts -/
theorem last_path : ∀ {n : Nat} {d : PyData}, Tm n d → ∃ ps js e, pathsD (n + 1) d = ps ++ [js] ∧ atD d js = some e ∧ partsD e = []
  | n, d, h => by
    rw [pathsD]
    rcases List.eq_nil_or_concat (partsD d) with z | ⟨qs, p, z⟩
    · exact ⟨[], [], d, by rw [z]; rfl, rfl, z⟩
    · obtain ⟨m, e, t⟩ := tm_part h (p := p) (by rw [z]; simp)
      subst e
      obtain ⟨ps, js, e, e1, e2, e3⟩ := last_path t
      refine ⟨[] :: (goP (pathsD (m + 1)) 0 qs ++ ps.map fun ks => ((qs.length : Nat) : Int) :: ks), ((qs.length : Nat) : Int) :: js, e, ?_, ?_, e3⟩
      · rw [z, List.concat_eq_append, goP_app, goP, goP, Nat.zero_add, List.append_nil, e1, List.map_append, List.cons_append, List.append_assoc]
        rfl
      · rw [atD, if_pos (by omega), z, List.concat_eq_append, show ((qs.length : Nat) : Int).toNat = qs.length by omega, List.getElem?_append_right (Nat.le_refl _), Nat.sub_self]
        exact e2
theorem at_neg1 {xs : List V} {v : V} : atI (xs ++ [v]) (-1) = some v := by
  unfold atI ixN
  rw [List.length_append, List.length_singleton]
  rw [if_neg (by omega), if_pos (by omega), show ((-1 : Int) + ((xs.length + 1 : Nat) : Int)).toNat = xs.length by omega]
  show (xs ++ [v])[xs.length]? = some v
  rw [List.getElem?_append_right (Nat.le_refl _), Nat.sub_self]
  rfl
end Wp
set_option Elab.async false
set_option linter.all false
set_option maxRecDepth 100000
namespace Wp
open PySem PySem.Spec PyProof.Rows L2
-- _law_right: slots _law_dr 0, _law_a_term 1, _law_due 2, _law_turn 3, _law_told 4, _law_a_path 5, _law_there 6, _law_many_here 7, _law_number 8
abbrev s_law_right : Stmt := top 33
theorem sc_law_right : FnScope ["_law_dr", "_law_a_term", "_law_due", "_law_turn", "_law_told", "_law_a_path", "_law_there", "_law_many_here", "_law_number"] ["_law_dr"] (defScope s_law_right) := ⟨rfl, rfl, rfl, by decide +kernel, rfl, by decide +kernel, by decide +kernel⟩
abbrev sl_law_right : List Str := ["_law_dr", "_law_a_term", "_law_due", "_law_turn", "_law_told", "_law_a_path", "_law_there", "_law_many_here", "_law_number"]
section
variable {X : Cx} {CX : CXT} {k : Nat} {f : Addr} {fd : FuncData} {ps ks : List Str} {sp : Sp} {x : Str} {p pos : Pos} {e : Expr} {es : List Expr} {kws : List Keyword} {t tk : TA} {g : List Value → List Value → List Value} {gV : List V → List V → List V}
/-- a call by names alone -/
def HasK (CX : CXT) (P : Program) (w : World) (K : PySem.W.Frag) (mg : Str → Option Value) (base : Heap) (x : Str) (ps : List Str) (k : Nat) (ks : List Str) (gV : List V → List V → List V) (sp : Sp) : Prop :=
  ∃ (f : Addr) (fd : FuncData) (g : List Value → List Value → List Value), FnOk P w K mg base CX k f fd ps sp ∧ mg x = some (.ref f) ∧ PySem.W.keepIn K (.ref f) = true ∧ KBn K fd ps 0 ks g gV
theorem pe_hasK (h : HasK CX X.prog X.w X.K X.mg X.base x ps k ks gV sp) (hr : Room k X.A) (hx : Passes CX X E0) (hkw : PK X kws tk) (hg : Gl X x := by rfl)
    (hall : (backToKw pos (keywordEach kws X.env)).all (·.1.isSome) = true := by rfl) (hks : (backToKw pos (keywordEach kws X.env)).filterMap (·.1) = ks := by rfl) (hdb : (x == ("__debug__" : Str)) = false := by decide)
    (hpl : ((backTo pos (starEach [] X.env)).any (·.1) || (backToKw pos (keywordEach kws X.env)).any (·.1.isNone)) = false := by rfl) :
    PE X (.Call (.Name x p) [] kws pos) (tCallN 0 ks.length sp gV E0 tNil tk) := by
  obtain ⟨f, fd, g, F, hm, hk, hb⟩ := h
  refine ⟨fun pins s σ H Q I h => ?_⟩
  refine wpAny_Call_Name_kw (ld_glob I hg hm ?_ hdb)
  refine PySem.W.callWith_KW0 (h₀ := X.base) I.ok.mod.kin hk hall (thn (hkw.run pos pins s σ H _ I h) fun ws s2 ⟨zs, H2, I2, rz, l1, l2, q2⟩ => ⟨I2.kIn, ?_⟩) hpl
  rw [hks]
  exact run_fnN (us := []) (vs := []) F hr hb hx I2 .nil rz rfl l2 q2
theorem pe_hasX (h : HasX X.prog X.w X.K X.mg X.base x ps k sp) (hr : Room k X.A) (ha : PA X (e :: es) t) (hg : Gl X x := by rfl)
    (hdb : (x == ("__debug__" : Str)) = false := by decide) (he : starEach (e :: es) X.env = (false, eval e X.env) :: starEach es X.env := by rfl) (hpl : (backTo pos (starEach es X.env)).any (·.1) = false := by rfl) :
    PE X (.Call (.Name x p) (e :: es) [] pos) (tCall sp [] E0 t) := by
  obtain ⟨f, fd, F, m, kp, b⟩ := h
  exact pe_call F hr hg m kp b .nil passL ha hdb he hpl
end
def g1 {α : Type} (_ ws : List α) : List α := ws
def g2 {α : Type} (_ ws : List α) : List α := ws.reverse
theorem vals_rev {vs : List V} {us : List Value} (h : Vals vs us) : Vals vs.reverse us.reverse := by
  induction h with
  | nil => exact .nil
  | cons a _ ih =>
    rw [List.reverse_cons, List.reverse_cons]
    exact ih.append (.cons a .nil)
section
variable {P : Program} {w : World} {K : PySem.W.Frag} {mg : Str → Option Value} {base : Heap} {f C : Addr} {fd : FuncData}
theorem kb_paths (F : Fun K "paths" "paths" spaths f fd) : KBn K fd ["term"] 0 ["term"] g1 g1 := by
  obtain ⟨oc, od, kV, doc, pm, an, cdv, ct, osl, rfl, lk, hcd⟩ := F.ex
  refine ⟨fun s us ws X l1 l2 => ?_, fun _ r => r⟩
  match us, ws, l1, l2 with
  | [], [u], _, _ => exact .of_eq rfl
theorem kb_partAt (F : Fun K "part_at" "part_at" spart_at f fd) : KBn K fd ["term", "path"] 0 ["path", "term"] g2 g2 := by
  obtain ⟨oc, od, kV, doc, pm, an, cdv, ct, osl, rfl, lk, hcd⟩ := F.ex
  refine ⟨fun s us ws X l1 l2 => ?_, fun _ r => vals_rev r⟩
  match us, ws, l1, l2 with
  | [], [u, v], _, _ => exact .of_eq rfl
def spRight : Sp := fun vs H Q _ => ∃ (a : Addr) (n : Nat), n + (1 + drawC 4) ≤ big ∧ Dr H a n ∧ vs = [.ref a] ∧ ∀ H', Gx a H H' → Dr H' a (n + (1 + drawC 4)) → Q (.bl true) H'
theorem ps_last {H : Hp} : ∀ {pp : List (List Int)} {rs : List V} {js : List Int}, PsAt H rs (pp ++ [js]) → ∃ rs' t, rs = rs' ++ [.ref t] ∧ H t = some (.tup (js.map V.int))
  | [], rs, js, h => by
    cases h with
    | cons e h2 =>
      cases h2
      exact ⟨[], _, rfl, e⟩
  | p :: pp, rs, js, h => by
    cases h with
    | cons e h2 =>
      obtain ⟨rs', t, e1, e2⟩ := ps_last h2
      exact ⟨_ :: rs', t, by rw [e1]; rfl, e2⟩
theorem cat_go {H : Hp} {pt u : Addr} {xs ys : List V} {Q : VK} (hx : H pt = some (.tup xs)) (hu : H u = some (.tup ys)) (hl : xs.length + ys.length ≤ 1000) (h : ∀ r H', Same H H' → H' r = some (.tup (xs ++ ys)) → Q (.ref r) H') : rCatA K (.ref pt) (.ref u) H Q := by
  refine ⟨pt, u, xs, ys, rfl, rfl, SqT.of hx, SqT.of hu, Nat.le_of_lt (small1000 hl), fun z => ?_, fun _ z => ?_, fun _ _ r hr => ?_⟩
  · exact h u H (Same.refl H) (by rw [hu, z]; rfl)
  · exact h pt H (Same.refl H) (by rw [hx, z, List.append_nil])
  · exact h r _ (same_new hr) upd_same
theorem ok_right (F : Fun K "_law_right" "_law_right" s_law_right f fd) (G_law_next : Has P w K mg base "_law_next" ["_law_dr"] 1 spNext) (G_law_some : Has P w K mg base "_law_some" ["_law_dr", "_law_ns", "_law_deep"] 200 (spSome 4)) (G_law_paths : Has P w K mg base "_law_paths" ["_law_a_term"] 21 (spP 19)) (Gpaths : Has P w K mg base "paths" ["term"] 3 spPathsP)
    (Jpaths : HasK CX0 P w K mg base "paths" ["term"] 3 ["term"] g1 spPathsP) (G_law_at : Has P w K mg base "_law_at" ["_law_a_term", "_law_a_path"] 3 spAt) (Gpart_at : HasX P w K mg base "part_at" ["term", "path"] 4 (spPartAt C)) (Jpart_at : HasK (L2.CX P w) P w K mg base "part_at" ["term", "path"] 4 ["path", "term"] g2 (spPartAt C))
    (G_law_parts : Has P w K mg base "_law_parts" ["_law_a_term"] 2 spPartsOf) (G_law_refused : Has P w K mg base "_law_refused" ["_law_a_term", "_law_a_path"] 5 spRef) (m_range : mg "range" = none) (m_isinstance : mg "isinstance" = none) (m_list : mg "list" = none) (m_len : mg "len" = none) :
    FnOk P w K mg base CX0 201 f fd ["_law_dr"] spRight := by
  refine F.ok sc_law_right (fun vs H Q E h => ?_) (fun cdv A outer s H vs Q E hr h => ?_)
  · obtain ⟨a, n, _, _, rfl, _⟩ := h
    rfl
  obtain ⟨a, n, hb, dr, rfl, q⟩ := h
  refine ⟨_, (pss_cons (ps_set (i := 1) sc_law_right.nd rfl (.inl rfl) (pe_has G_law_some (hr.mono (by omega)) (pa_cons (pv 0) (pa_cons (pe_lst (pa_cons (pe_tup (pa_cons pe_str (pa_cons pe_str pa_nil))) (pa_cons (pe_tup (pa_cons pe_str (pa_cons pe_str pa_nil))) pa_nil))) (pa_cons (pe_ix ix_list (pe_lst (pa_cons pe_int (pa_cons pe_int (pa_cons pe_int (pa_cons pe_int pa_nil))))) (pe_op op_mod (pe_has G_law_next (hr.mono (by omega)) (pa_cons (pv 0) pa_nil)) pe_int) (fun _ _ => rfl)) pa_nil)))))
  (pss_cons (ps_set (i := 2) sc_law_right.nd rfl (.inl rfl) (pe_has G_law_paths (hr.mono (by omega)) (pa_cons (pv 1) pa_nil)))
  (pss_cons (ps_for PassesOwn.never rfl (pi_range1 rfl m_range (pa_cons pe_int pa_nil)) (pg_name (i := 3) sc_law_right.nd rfl (.inl rfl)) (pss_cons (ps_set (i := 4) sc_law_right.nd rfl (.inl rfl) (pe_has Gpaths (hr.mono (by omega)) (pa_cons (pv 1) pa_nil)))
  (pss_cons (ps_if (PW.pt (pw_or (pt_not (pt_val (pe_callB call_isi rfl m_isinstance PyProof.Rows.Boot.isinstance (pa_cons (pv 4) (pa_cons (pe_bltn (v := .ty "list") rfl m_list PyProof.Rows.Boot.«list» rfl) pa_nil))))) (pw_or1 (pt_cmpR (op_neD hr.units) (pv 4) (pv 2) (nomark _))))) (pss_one (ps_ret pe_bl)) pss_nil)
  (pss_one (ps_expr (pe_bm PySem.F.plainAttrs_list PySem.F.slot_list_append PySem.F.type_list_append mt_append (pv 4) (pa_cons (pe_tup pa_nil) pa_nil)))))))
  (pss_cons (ps_if (pt_cmpR (op_neD hr.units) (pe_hasK Jpaths (hr.mono (by decide)) pass0 (pk_cons (pv 1) pk_nil)) (pv 2) (nomark _)) (pss_one (ps_ret pe_bl)) pss_nil)
  (pss_cons (ps_for PassesOwn.never rfl (pi_list (pv 2)) (pg_name (i := 5) sc_law_right.nd rfl (.inl rfl)) (pss_cons (ps_set (i := 6) sc_law_right.nd rfl (.inl rfl) (pe_has G_law_at (hr.mono (by omega)) (pa_cons (pv 1) (pa_cons (pv 5) pa_nil))))
  (pss_cons (ps_if (PW.pt (pw_or (pt_cmpR (op_neD hr.units) (pe_hasX Gpart_at (hr.mono (by decide)) (pa_cons (pv 1) (pa_cons (pv 5) pa_nil))) (pv 6) (nomark _)) (pw_or1 (pt_cmpR (op_neD hr.units) (pe_hasK Jpart_at (hr.mono (by decide)) passL (pk_cons (pv 5) (pk_cons (pv 1) pk_nil))) (pv 6) (nomark _))))) (pss_one (ps_ret pe_bl)) pss_nil)
  (pss_cons (ps_set (i := 7) sc_law_right.nd rfl (.inl rfl) (pe_callB call_len_seq rfl m_len PySem.boot_len (pa_cons (pe_has G_law_parts (hr.mono (by omega)) (pa_cons (pe_has G_law_at (hr.mono (by omega)) (pa_cons (pv 1) (pa_cons (pv 5) pa_nil))) pa_nil)) pa_nil)))
  (pss_one (ps_for PassesOwn.never rfl (pi_list (pe_lst (pa_cons (pv 7) (pa_cons (pe_op op_add (pv 7) pe_int) (pa_cons (pe_un un_neg pe_int) (pa_cons pe_bl pa_nil)))))) (pg_name (i := 8) sc_law_right.nd rfl (.inl rfl)) (pss_one (ps_if (pt_not (pt_val (pe_has G_law_refused (hr.mono (by omega)) (pa_cons (pv 1) (pa_cons (pe_op op_catA (pv 5) (pe_tup (pa_cons (pv 8) pa_nil))) pa_nil))))) (pss_one (ps_ret pe_bl)) pss_nil))))))))
  (pss_one (ps_ret (pe_and (pe_has G_law_refused (hr.mono (by omega)) (pa_cons (pv 1) (pa_cons (pe_op op_catA (pe_ix ix_list (pv 2) (pe_un un_neg pe_int) (fun _ _ => rfl)) (pe_tup (pa_cons pe_int (pa_cons pe_int pa_nil)))) pa_nil))) (pe_one (pe_has G_law_refused (hr.mono (by omega)) (pa_cons (pv 1) (pa_cons (pe_op op_catA (pe_tup (pa_cons pe_int pa_nil)) (pe_ix ix_list (pv 2) (pe_un un_neg pe_int) (fun _ _ => rfl))) pa_nil)))))))))))), ?_⟩
  refine ⟨_, rfl, (by show 2 ≤ sizeLine; decide), fun t1 h1 => ⟨(by show 2 ≤ sizeLine; decide), fun t2 h2 => ⟨(by show 2 ≤ sizeLine; decide), fun lp hlp => ⟨(by show 4 ≤ sizeLine; decide), fun l4 hl4 => ?_⟩⟩⟩⟩
  have na1 : t1 ≠ a := dr.ne h1
  have sA := same_new (o := .tup [.str "input", .str "any"]) h1
  have na2 : t2 ≠ a := (same_dr sA dr).ne h2
  have sB := sA.trans (same_new (o := .tup [.str "loose", .str "any"]) h2)
  have nal : lp ≠ a := (same_dr sB dr).ne hlp
  have sC := sB.trans (same_new (o := .lst [.ref t1, .ref t2]) hlp)
  have nl4 : l4 ≠ a := (same_dr sC dr).ne hl4
  have s4 := sC.trans (same_new (o := .lst [.int 1, .int 2, .int 3, .int 4]) hl4)
  have et1 := same_new (o := .lst [.int 1, .int 2, .int 3, .int 4]) hl4 _ _ (same_new (o := .lst [.ref t1, .ref t2]) hlp _ _ (same_new (o := .tup [.str "loose", .str "any"]) h2 _ _ (upd_same (H := H) (o := .tup [.str "input", .str "any"]))))
  have et2 := same_new (o := .lst [.int 1, .int 2, .int 3, .int 4]) hl4 _ _ (same_new (o := .lst [.ref t1, .ref t2]) hlp _ _ (upd_same (H := upd H t1 (.tup [.str "input", .str "any"])) (o := .tup [.str "loose", .str "any"])))
  have elp := same_new (o := .lst [.int 1, .int 2, .int 3, .int 4]) hl4 _ _ (upd_same (H := upd (upd H t1 (.tup [.str "input", .str "any"])) t2 (.tup [.str "loose", .str "any"])) (o := .lst [.ref t1, .ref t2]))
  have el4 := upd_same (H := upd (upd (upd H t1 (.tup [.str "input", .str "any"])) t2 (.tup [.str "loose", .str "any"])) lp (.lst [.ref t1, .ref t2])) (o := .lst [.int 1, .int 2, .int 3, .int 4]) (a := l4)
  clear hlp hl4 sA sB sC h1 h2
  generalize upd (upd (upd (upd H t1 (.tup [.str "input", .str "any"])) t2 (.tup [.str "loose", .str "any"])) lp (.lst [.ref t1, .ref t2])) l4 (.lst [.int 1, .int 2, .int 3, .int 4]) = H4 at *
  refine ⟨_, rfl, a, n, by omega, same_dr s4 dr, .cons rfl .nil, fun v0 H5 g5 d5 hv => ?_⟩
  obtain ⟨i, rfl, i1, i2⟩ := hv
  have hx : ∃ k : Int, k ≤ 4 ∧ atI [V.int 1, V.int 2, V.int 3, V.int 4] (i % 4) = some (V.int k) := by
    have : i % 4 = 0 ∨ i % 4 = 1 ∨ i % 4 = 2 ∨ i % 4 = 3 := by omega
    rcases this with h | h | h | h <;> rw [h] <;> exact ⟨_, by decide, rfl⟩
  obtain ⟨k, k1, k2⟩ := hx
  refine ⟨_, _, rfl, rfl, (show (0 : Int) < 4 by decide), l4, _, _, _, rfl, rfl, SqL.of (g5 _ _ nl4 el4), k2, ?_⟩
  refine ⟨a, n + 1, by omega, d5, .cons rfl (.cons ⟨lp, _, rfl, nal, g5 _ _ nal elp, (show 2 ≤ mostN 4 by decide), ?_⟩ (.cons ⟨k, rfl, k1⟩ .nil)), fun v H6 g6 d6 ht => ?_⟩
  · intro r hr
    rcases List.mem_cons.mp hr with z | z
    · rw [z]
      exact ⟨t1, "input", "any", rfl, na1, g5 _ _ na1 et1, by decide +kernel, by decide +kernel⟩
    · rw [List.mem_singleton.mp z]
      exact ⟨t2, "loose", "any", rfl, na2, g5 _ _ na2 et2, by decide +kernel, by decide +kernel⟩
  obtain ⟨d, hd, ht0, hc⟩ := ht
  have ht : Tm 18 d := ht0
  have g06 : Gx a H H6 := ((same_gx s4).trans g5).trans g6
  refine ⟨_, rfl, a, v, d, 18, rfl, rfl, hd, ht, hc, fun p rs H7 s7 n7 e7 ps7 => ?_⟩
  clear et1 et2 elp el4 k2
  have g07 : Gx a H H7 := g06.trans (same_gx s7)
  have d7 := same_dr s7 d6
  have hd7 := hd.same s7
  clear hd s7 n7 d6 g06 g6 g5 d5 s4
  have lps : (pathsD 19 d).length ≤ 390 := Nat.le_trans (paths_len ht) hc
  have ldp : ∀ {H' : Hp}, Same H7 H' → Dp K H' (.ref p) (.list ((pathsD 19 d).map pD)) := fun s => .lst (SqL.of (s _ _ e7)) (ps_dp (ps7.same fun t xs e => s _ _ e))
  have lsh := ps_shaped (pathsD 19 d)
  have leq := SeqAt.eqv_refl _ (SeqAt.canLay_of_shaped lsh)
  refine ⟨2, rfl, by decide, by decide, for_range (n := 2) (fun i σ H' => Same H7 H' ∧ ∃ t3 t4, σ = [some (.ref a), some v, some (.ref p), t3, t4, none, none, none, none]) ?_ ?_ ?_⟩
  · exact ⟨Same.refl _, none, none, rfl⟩
  · rintro i σ H' hi ⟨g, t3, t4, rfl⟩
    refine ⟨_, rfl, a, v, d, 18, rfl, hd7.same g, ht, by decide, hc, fun p2 rs2 H8 s8 n8 e8 ps8 => ?_⟩
    refine ⟨_, rfl, _, _, _, _, true, rfl, .ty "list", .base (.lst e8), kit_ty (by decide +kernel), _, rfl, iteF ?_⟩
    refine ⟨_, rfl, _, rfl, _, _, .lst (SqL.of e8) (ps_dp ps8), ldp (g.trans s8), lsh, lsh, _, rfl, ite_f (by rw [leq]; rfl) ?_⟩
    have l2 : rs2.length = (pathsD 19 d).length := ps8.len
    refine ⟨_, rfl, .inl ⟨rfl, _, SqL.of e8⟩, (by show 0 ≤ sizeLine; decide), fun t0 h0 => ⟨p2, rs2, _, rfl, rfl, same_new h0 _ _ e8, small1000 (by omega), ?_⟩⟩
    exact ⟨same_grow ((g.trans s8).trans (same_new h0)) (g.free n8), _, _, rfl⟩
  · rintro σ H8 ⟨g8, t3, t4, rfl⟩
    refine ⟨_, rfl, rfl, rfl, a, v, d, 18, rfl, hd7.same g8, ht, by decide, hc, fun p3 rs3 H9 s9 n9 e9 ps9 => ⟨_, rfl, _, _, .lst (SqL.of e9) (ps_dp ps9), ldp (g8.trans s9), lsh, lsh, _, rfl, ite_f (by rw [leq]; rfl) ?_⟩⟩
    have s79 := g8.trans s9
    clear ps9 e9 n9 s9 g8
    refine ⟨_, rfl, p, rfl, ⟨_, SqL.of (s79 _ _ e7)⟩, for_list (xs := rs) (fun i σ H' => Same H7 H' ∧ ∃ t5 t6 t7 t8, σ = [some (.ref a), some v, some (.ref p), t3, t4, t5, t6, t7, t8]) ?_ ?_ ?_ ?_⟩
    · exact ⟨s79, none, none, none, none, rfl⟩
    · rintro i σ H' hi ⟨g, _⟩
      exact SqL.of (g _ _ e7)
    · rintro i x σ H' hx ⟨g, t5, t6, t7, t8, rfl⟩
      obtain ⟨t, js, rfl, hjs, et⟩ := ps7.get hx
      have mjs : js ∈ pathsD 19 d := List.mem_of_getElem? hjs
      obtain ⟨e, hat⟩ := path_at mjs
      obtain ⟨m, hm, tm⟩ := atD_tm ht hat
      have hm : m ≤ 18 := hm
      have esh := tm.shaped (by omega)
      have eeq := SeqAt.eqv_refl _ (SeqAt.canLay_of_shaped esh)
      have few := parts_few tm
      have sj := path_short mjs
      refine ⟨_, rfl, _, rfl, a, t, v, d, e, 18, js, rfl, hd7.same g, ht, g _ _ et, hat, fun x1 HA sA qA => ?_⟩
      have gA := g.trans sA
      refine ⟨_, rfl, _, rfl, a, t, v, d, 18, rfl, hd7.same gA, ht, .inl ⟨js, e, gA _ _ et, hat, fun x2 HB sB qB => ⟨_, rfl, _, _, qB.dp, (qA.same sB).dp, esh, esh, _, rfl, ite_f (by rw [eeq]; rfl) ?_⟩⟩⟩
      have gB := gA.trans sB
      refine ⟨_, rfl, _, rfl, rfl, rfl, a, t, v, d, 18, rfl, hd7.same gB, ht, .inl ⟨js, e, gB _ _ et, hat, fun x3 HC sC qC => ⟨_, rfl, _, _, qC.dp, ((qA.same sB).same sC).dp, esh, esh, _, rfl, ite_f (by rw [eeq]; rfl) ?_⟩⟩⟩
      have gC := gB.trans sC
      refine ⟨_, rfl, _, rfl, a, t, v, d, e, 18, js, rfl, hd7.same gC, ht, gC _ _ et, hat, fun x4 HD sD qD => ⟨a, x4, e, m, rfl, qD, tm, fun lq ys HE sE nE eE dE => ⟨lq, ys, rfl, .inl (SqL.of eE), ?_⟩⟩⟩
      have gE := (gC.trans sD).trans sE
      have ly : ys.length = (partsD e).length := dE.len
      have hbad : ∀ x ∈ [V.int ((ys.length : Nat) : Int), V.int (((ys.length : Nat) : Int) + 1), V.int (-1), V.bl true], Bad e x ∧ FlV x := by
        intro x hx
        simp only [List.mem_cons, List.not_mem_nil, or_false] at hx
        rcases hx with rfl | rfl | rfl | rfl
        · exact ⟨.inr ⟨_, rfl, by omega⟩, .inl ⟨_, rfl⟩⟩
        · exact ⟨.inr ⟨_, rfl, by omega⟩, .inl ⟨_, rfl⟩⟩
        · exact ⟨.inr ⟨_, rfl, by omega⟩, .inl ⟨_, rfl⟩⟩
        · exact ⟨.inl ⟨_, rfl⟩, .inr ⟨_, rfl⟩⟩
      refine ⟨_, rfl, _, rfl, _, _, rfl, rfl, 1, rfl, (by show 4 ≤ sizeLine; decide), fun ln hln => ⟨ln, rfl, ⟨_, SqL.of upd_same⟩, for_list (xs := [V.int ((ys.length : Nat) : Int), V.int (((ys.length : Nat) : Int) + 1), V.int (-1), V.bl true]) (fun i σ H' => Same H7 H' ∧ H' ln = some (.lst [V.int ((ys.length : Nat) : Int), V.int (((ys.length : Nat) : Int) + 1), V.int (-1), V.bl true]) ∧ ∃ t8, σ = [some (.ref a), some v, some (.ref p), t3, t4, some (.ref t), some x1, some (.int (ys.length : Nat)), t8]) ?_ ?_ ?_ ?_⟩⟩
      · exact ⟨gE.trans (same_new hln), upd_same, t8, rfl⟩
      · rintro i σ HF hi ⟨_, eF, _⟩
        exact SqL.of eF
      · rintro i x σ HF hx ⟨gF, eF, t8, rfl⟩
        obtain ⟨bx, fx⟩ := hbad x (List.mem_of_getElem? hx)
        refine ⟨_, rfl, _, rfl, _, rfl, (by show 1 ≤ sizeLine; decide), fun u hu => cat_go (same_new hu _ _ (gF _ _ et)) upd_same (by rw [List.length_map]; show js.length + 1 ≤ 1000; omega) fun r Hn sn er => ?_⟩
        have sn2 := (same_new (o := .tup [x]) hu).trans sn
        refine ⟨a, r, v, d, 18, _, js, x, [], e, rfl, (hd7.same gF).same sn2, ht, er, rfl, hat, bx, ?_, fun Hz sz => ⟨true, rfl, iteF ?_⟩⟩
        · intro y hy
          rcases List.mem_append.mp hy with hy | hy
          · obtain ⟨j, _, rfl⟩ := List.mem_map.mp hy
            exact .inl ⟨j, rfl⟩
          · rw [List.mem_singleton.mp hy]
            exact fx
        · exact ⟨(gF.trans sn2).trans sz, (sn2.trans sz) _ _ eF, _, rfl⟩
      · rintro σ HF ⟨gF, eF, t8, rfl⟩
        exact ⟨gF, _, _, _, _, rfl⟩
    · rintro σ H' ⟨g, t5, t6, t7, t8, rfl⟩
      obtain ⟨pp, js, e, epp, hat, hnone⟩ := last_path ht
      have mjs : js ∈ pathsD 19 d := by
        show js ∈ pathsD (18 + 1) d
        rw [epp]
        simp
      have sj := path_short mjs
      have ps8 : PsAt H7 rs (pp ++ [js]) := by rw [← epp]; exact ps7
      obtain ⟨rs', t, rfl, et⟩ := ps_last ps8
      have few := parts_few ht
      have fl : ∀ (xs : List V) (js : List Int), (∀ x ∈ xs, FlV x) → ∀ x ∈ js.map V.int ++ xs, FlV x := by
        intro xs js h y hy
        rcases List.mem_append.mp hy with hy | hy
        · obtain ⟨j, _, rfl⟩ := List.mem_map.mp hy
          exact .inl ⟨j, rfl⟩
        · exact h y hy
      refine ⟨_, rfl, _, rfl, 1, rfl, p, _, _, _, rfl, rfl, SqL.of (g _ _ e7), at_neg1, (by show 2 ≤ sizeLine; decide), fun u hu => cat_go (same_new hu _ _ (g _ _ et)) upd_same (by rw [List.length_map]; show js.length + 2 ≤ 1000; omega) fun r Hn sn er => ?_⟩
      have sn2 := (same_new (o := .tup [.int 0, .int 0]) hu).trans sn
      refine ⟨a, r, v, d, 18, _, js, .int 0, [.int 0], e, rfl, (hd7.same g).same sn2, ht, er, rfl, hat, .inr ⟨0, rfl, by rw [hnone]; show ¬ ((0 : Int) ≤ 0 ∧ (0 : Int) < 0); omega⟩, fl _ _ ?_, fun Hz sz => ⟨true, rfl, iteT ?_⟩⟩
      · intro y hy
        simp only [List.mem_cons, List.not_mem_nil, or_false] at hy
        rcases hy with rfl | rfl <;> exact .inl ⟨_, rfl⟩
      have gz := (g.trans sn2).trans sz
      refine ⟨_, rfl, (by show 1 ≤ sizeLine; decide), fun u2 hu2 => ⟨_, rfl, 1, rfl, p, _, _, _, rfl, rfl, SqL.of (same_new hu2 _ _ (gz _ _ e7)), at_neg1, cat_go upd_same (same_new hu2 _ _ (gz _ _ et)) (by rw [List.length_map]; show 1 + js.length ≤ 1000; omega) fun r2 Hm sm er2 => ?_⟩⟩
      have sm2 := (same_new (o := .tup [.int 99]) hu2).trans sm
      refine ⟨a, r2, v, d, 18, _, [], .int 99, js.map V.int, d, rfl, (hd7.same gz).same sm2, ht, er2, rfl, rfl, .inr ⟨99, rfl, by omega⟩, ?_, fun Hy sy => ?_⟩
      · intro y hy
        rcases List.mem_cons.mp hy with rfl | hy
        · exact .inl ⟨_, rfl⟩
        · obtain ⟨j, _, rfl⟩ := List.mem_map.mp hy
          exact .inl ⟨j, rfl⟩
      have gy := (gz.trans sm2).trans sy
      exact q Hy (g07.trans (same_gx gy)) ((same_dr gy d7).mono (by show n + 1 + drawC 4 ≤ _; omega))
end
end Wp
set_option Elab.async false
set_option linter.all false
set_option maxRecDepth 100000
namespace Wp
open PySem PySem.Spec PyProof.Rows L2
-- law: slots _law_script 0, _law_cell 1, _law_dr 2, _law_turn 3
abbrev slaw : Stmt := top 34
theorem sclaw : FnScope ["_law_script", "_law_cell", "_law_dr", "_law_turn"] ["_law_script"] (defScope slaw) := ⟨rfl, rfl, rfl, by decide +kernel, rfl, by decide +kernel, by decide +kernel⟩
abbrev sllaw : List Str := ["_law_script", "_law_cell", "_law_dr", "_law_turn"]
def spLaw (K : PySem.W.Frag) : Sp := fun vs H Q _ => ∃ (a : Addr) (ns : List Int), vs = [.ref a] ∧ SqL K H a (ns.map V.int) ∧ ns.length ≤ 63 ∧ ∀ H', Q (.bl true) H'
section
variable {P : Program} {w : World} {K : PySem.W.Frag} {mg : Str → Option Value} {base : Heap} {f C : Addr} {fd : FuncData}
theorem ok_law (F : Fun K "law" "law" slaw f fd) (G_law_draws : Has P w K mg base "_law_draws" ["_law_cell"] 1 spDraws) (G_law_right : Has P w K mg base "_law_right" ["_law_dr"] 201 spRight) (m_range : mg "range" = none) : FnOk P w K mg base CX0 202 f fd ["_law_script"] (spLaw K) := by
  refine F.ok sclaw (fun vs H Q E h => ?_) (fun cdv A outer s H vs Q E hr h => ?_)
  · obtain ⟨a, ns, rfl, _⟩ := h
    rfl
  obtain ⟨a, ns, rfl, hs, hl, q⟩ := h
  refine ⟨_, (pss_cons (ps_for PassesOwn.never rfl (pi_list (pe_op op_cat (pe_slice sl_list (pv 0) po_none (po_some pe_int)) (pe_lst (pa_cons pe_int pa_nil)))) (pg_name (i := 1) sclaw.nd rfl (.inl rfl)) (pss_cons (ps_set (i := 2) sclaw.nd rfl (.inl rfl) (pe_has G_law_draws (hr.mono (by omega)) (pa_cons (pv 1) pa_nil)))
  (pss_one (ps_for PassesOwn.never rfl (pi_range1 rfl m_range (pa_cons pe_int pa_nil)) (pg_name (i := 3) sclaw.nd rfl (.inl rfl)) (pss_one (ps_if (pt_not (pt_val (pe_has G_law_right (hr.mono (by omega)) (pa_cons (pv 2) pa_nil)))) (pss_one (ps_ret pe_bl)) pss_nil))))))
  (pss_one (ps_ret pe_bl))), ?_⟩
  refine ⟨_, rfl, 6, rfl, a, _, rfl, hs, fun p1 h1 => ⟨(by show 1 ≤ sizeLine; decide), fun p2 h2 => ?_⟩⟩
  have hcl := cutV_length (ns.map V.int) none (some 6)
  have hcm : ∀ x ∈ cutV (ns.map V.int) none (some 6), ∃ c : Int, x = .int c := fun x hx => by
    unfold cutV at hx
    obtain ⟨c, _, e⟩ := List.mem_map.mp (List.mem_of_mem_drop (List.mem_of_mem_take hx))
    exact ⟨c, e.symm⟩
  rw [List.length_map] at hcl
  generalize cutV (ns.map V.int) none (some 6) = cs at *
  have hall : ∀ x ∈ cs ++ [V.int 0], ∃ c : Int, x = .int c := fun x hx => by
    rcases List.mem_append.mp hx with h | h
    · exact hcm x h
    · exact ⟨0, List.mem_singleton.mp h⟩
  refine ⟨p1, p2, cs, [.int 0], rfl, rfl, same_new h2 _ _ upd_same, upd_same, Nat.le_of_lt (small1000 (by show cs.length + 1 ≤ 1000; omega)), fun l hl' => ⟨l, rfl, ⟨_, SqL.of upd_same⟩, for_list (xs := cs ++ [V.int 0]) (fun i σ H' => H' l = some (.lst (cs ++ [V.int 0])) ∧ ∃ t1 t2 t3, σ = [some (.ref a), t1, t2, t3]) ?_ ?_ ?_ ?_⟩⟩
  · exact ⟨upd_same, none, none, none, rfl⟩
  · rintro i σ H' hi ⟨e, _⟩
    exact SqL.of e
  · rintro i x σ H' hx ⟨e, t1, t2, t3, rfl⟩
    obtain ⟨c, rfl⟩ := hall x (List.mem_of_getElem? hx)
    refine ⟨_, rfl, c, rfl, fun p H2 s2 n2 d2 => ?_⟩
    have nl : l ≠ p := ne_of_none e n2
    refine ⟨3, rfl, by decide, by decide, for_range (n := 3) (fun i σ H' => H' l = some (.lst (cs ++ [V.int 0])) ∧ Dr H' p (i * (1 + drawC 4)) ∧ ∃ t3, σ = [some (.ref a), some (.int c), some (.ref p), t3]) ?_ ?_ ?_⟩
    · exact ⟨s2 _ _ e, d2.mono (Nat.zero_le _), t3, rfl⟩
    · rintro i σ H3 hi ⟨e3, d3, t3, rfl⟩
      refine ⟨_, rfl, p, i * (1 + drawC 4), ?_, d3, rfl, fun H4 g4 d4 => ⟨true, rfl, iteF ⟨g4 _ _ nl e3, ?_, _, rfl⟩⟩⟩
      · have : i = 0 ∨ i = 1 ∨ i = 2 := by omega
        rcases this with rfl | rfl | rfl <;> decide
      · exact d4.mono (by rw [Nat.succ_mul]; exact Nat.le_refl _)
    · rintro σ H3 ⟨e3, d3, t3, rfl⟩
      exact ⟨e3, _, _, _, rfl⟩
  · rintro σ H' ⟨e, t1, t2, t3, rfl⟩
    exact q H'
end
end Wp
set_option Elab.async false
set_option linter.all false
set_option maxRecDepth 100000
set_option maxHeartbeats 4000000
namespace Wp
open PySem PySem.Spec PyProof.Rows L2
def strV : Value → Option Str
  | .str x _ => some x
  | _ => none
def strsV : List Value → Option (List Str)
  | [] => some []
  | v :: vs => match strV v, strsV vs with
    | some x, some xs => some (x :: xs)
    | _, _ => none
/-- a tuple of texts in the written part -/
def tupS (o : Obj) : Option (List Str) := match o.cls, o.data with
  | .type n, .seq its _ => if n = "tuple" ∧ its.size ≤ 100 then strsV its.toList else none
  | _, _ => none
theorem strs_vals : ∀ {vs : List Value} {xs : List Str}, strsV vs = some xs → Vals (xs.map V.str) vs
  | [], _, h => by
    cases h
    exact .nil
  | v :: vs, xs, h => by
    rw [strsV] at h
    cases h1 : strV v with
    | none => rw [h1] at h; cases h
    | some x =>
      cases h2 : strsV vs with
      | none => rw [h1, h2] at h; cases h
      | some ys =>
        rw [h1, h2] at h
        cases h
        refine .cons ?_ (strs_vals h2)
        cases v with
        | str y t =>
          cases h1
          exact ⟨t, rfl⟩
        | _ => cases h1
theorem exm_of {K : PySem.W.Frag} {S c : Addr} {b : Bool} (h1 : PySem.W.subIn K (.ref c) (.type "BaseException") = some true) (h2 : PySem.W.isClsIn K c = true) (h3 : PySem.W.typeIn K (.ref c) = some (.type "type")) (h4 : PySem.W.subIn K (.ref S) (.ref c) = some b) :
    PySem.W.exmOne K (.ref S) (.ref c) = some b := by
  unfold PySem.W.isClsIn at h2
  unfold PySem.W.exmOne PySem.W.kitCls
  rw [h1]
  have e2 : ((PySem.W.clsIn K c).isSome && PySem.W.typeIn K (.ref c) == some (.type "type")) = true := by
    rw [h2, h3]
    rfl
  exact (if_pos rfl).trans ((if_pos e2).trans h4)
theorem kit_same {K : PySem.W.Frag} {S : Addr} : PySem.W.kitOne K (.ref S) (.ref S) = some true := by
  unfold PySem.W.kitOne
  rw [if_pos (by simp)]
theorem kit_blt {K : PySem.W.Frag} {S : Addr} (h : PySem.W.subIn K (.ref S) (.type "LookupError") = some true) : PySem.W.kitOne K (.ref S) (.type "LookupError") = some true := by
  have e : PySem.W.kitMeta "LookupError" = true := by decide +kernel
  unfold PySem.W.kitOne PySem.W.kitCls
  rw [if_neg (by simp)]
  exact (if_pos e).trans h
theorem form_at {K : PySem.W.Frag} {w : World} {fo t : Addr} {es : Array DictEntry} {n : Nat} {x : Str} {o : Obj} {ks : List Str} (l : K.lookup fo = some ⟨.type "dict", none, .dict es n, #[]⟩) (kl : PySem.W.KeysLit w.params es.toList) (e : PySem.W.nsIn K fo x = some (some (.ref t))) (g : K.lookup t = some o) (v : tupS o = some ks) :
    ∃ t, KDct K w fo x (.ref t) ∧ ∀ H, SqT K H t (ks.map V.str) := by
  refine ⟨t, ⟨es, n, _, l, kl, e, rfl⟩, fun H => .inr ?_⟩
  obtain ⟨oc, od, dt, sl⟩ := o
  unfold tupS at v
  cases oc with
  | type nm =>
    cases dt with
    | seq its m =>
      dsimp only at v
      by_cases h : nm = "tuple" ∧ its.size ≤ 100
      · rw [if_pos h] at v
        refine ⟨_, its, m, g, by rw [h.1], rfl, ?_, strs_vals v⟩
        rw [sizeLine_eq]
        omega
      · rw [if_neg h] at v
        cases v
    | _ => cases v
  | _ => cases v
theorem all_mk {l : PySem.W.OpenLaw} {w : World} {K : PySem.W.Frag} {h : Heap} {mg : Str → Option Value} {fa : Addr}
    {f_next : Addr} {oc_next kV_next dc_next pm_next cd_next ct_next : Value} {od_next an_next : Option Addr} {sl_next : Array (Option Value)}
    {f_put : Addr} {oc_put kV_put dc_put pm_put cd_put ct_put : Value} {od_put an_put : Option Addr} {sl_put : Array (Option Value)}
    {f_leaf : Addr} {oc_leaf kV_leaf dc_leaf pm_leaf cd_leaf ct_leaf : Value} {od_leaf an_leaf : Option Addr} {sl_leaf : Array (Option Value)}
    {f_one : Addr} {oc_one kV_one dc_one pm_one cd_one ct_one : Value} {od_one an_one : Option Addr} {sl_one : Array (Option Value)}
    {f_way : Addr} {oc_way kV_way dc_way pm_way cd_way ct_way : Value} {od_way an_way : Option Addr} {sl_way : Array (Option Value)}
    {f_truth : Addr} {oc_truth kV_truth dc_truth pm_truth cd_truth ct_truth : Value} {od_truth an_truth : Option Addr} {sl_truth : Array (Option Value)}
    {f_op : Addr} {oc_op kV_op dc_op pm_op cd_op ct_op : Value} {od_op an_op : Option Addr} {sl_op : Array (Option Value)}
    {f_loop : Addr} {oc_loop kV_loop dc_loop pm_loop cd_loop ct_loop : Value} {od_loop an_loop : Option Addr} {sl_loop : Array (Option Value)}
    {f_points : Addr} {oc_points kV_points dc_points pm_points cd_points ct_points : Value} {od_points an_points : Option Addr} {sl_points : Array (Option Value)}
    {f_cells : Addr} {oc_cells kV_cells dc_cells pm_cells cd_cells ct_cells : Value} {od_cells an_cells : Option Addr} {sl_cells : Array (Option Value)}
    {f_plain : Addr} {oc_plain kV_plain dc_plain pm_plain cd_plain ct_plain : Value} {od_plain an_plain : Option Addr} {sl_plain : Array (Option Value)}
    {f_term : Addr} {oc_term kV_term dc_term pm_term cd_term ct_term : Value} {od_term an_term : Option Addr} {sl_term : Array (Option Value)}
    {f_many : Addr} {oc_many kV_many dc_many pm_many cd_many ct_many : Value} {od_many an_many : Option Addr} {sl_many : Array (Option Value)}
    {f_some : Addr} {oc_some kV_some dc_some pm_some cd_some ct_some : Value} {od_some an_some : Option Addr} {sl_some : Array (Option Value)}
    {f_draws : Addr} {oc_draws kV_draws dc_draws pm_draws cd_draws ct_draws : Value} {od_draws an_draws : Option Addr} {sl_draws : Array (Option Value)}
    {f_partsOf : Addr} {oc_partsOf kV_partsOf dc_partsOf pm_partsOf cd_partsOf ct_partsOf : Value} {od_partsOf an_partsOf : Option Addr} {sl_partsOf : Array (Option Value)}
    {f_places : Addr} {oc_places kV_places dc_places pm_places cd_places ct_places : Value} {od_places an_places : Option Addr} {sl_places : Array (Option Value)}
    {f_parts : Addr} {oc_parts kV_parts dc_parts pm_parts cd_parts ct_parts : Value} {od_parts an_parts : Option Addr} {sl_parts : Array (Option Value)}
    {f_lpaths : Addr} {oc_lpaths kV_lpaths dc_lpaths pm_lpaths cd_lpaths ct_lpaths : Value} {od_lpaths an_lpaths : Option Addr} {sl_lpaths : Array (Option Value)}
    {f_placed : Addr} {oc_placed kV_placed dc_placed pm_placed cd_placed ct_placed : Value} {od_placed an_placed : Option Addr} {sl_placed : Array (Option Value)}
    {f_ppaths : Addr} {oc_ppaths kV_ppaths dc_ppaths pm_ppaths cd_ppaths ct_ppaths : Value} {od_ppaths an_ppaths : Option Addr} {sl_ppaths : Array (Option Value)}
    {f_at : Addr} {oc_at kV_at dc_at pm_at cd_at ct_at : Value} {od_at an_at : Option Addr} {sl_at : Array (Option Value)}
    {f_whole : Addr} {oc_whole kV_whole dc_whole pm_whole cd_whole ct_whole : Value} {od_whole an_whole : Option Addr} {sl_whole : Array (Option Value)}
    {f_partAt : Addr} {oc_partAt kV_partAt dc_partAt pm_partAt cd_partAt ct_partAt : Value} {od_partAt an_partAt : Option Addr} {sl_partAt : Array (Option Value)}
    {f_refused : Addr} {oc_refused kV_refused dc_refused pm_refused cd_refused ct_refused : Value} {od_refused an_refused : Option Addr} {sl_refused : Array (Option Value)}
    {f_right : Addr} {oc_right kV_right dc_right pm_right cd_right ct_right : Value} {od_right an_right : Option Addr} {sl_right : Array (Option Value)}
    {f_law : Addr} {oc_law kV_law dc_law pm_law cd_law ct_law : Value} {od_law an_law : Option Addr} {sl_law : Array (Option Value)}
    {fo : Addr} {es : Array DictEntry} {nes : Nat}
    {t0 : Addr} {o0 : Obj}
    {t1 : Addr} {o1 : Obj}
    {t2 : Addr} {o2 : Obj}
    {t3 : Addr} {o3 : Obj}
    {t4 : Addr} {o4 : Obj}
    {t5 : Addr} {o5 : Obj}
    {t6 : Addr} {o6 : Obj}
    {t7 : Addr} {o7 : Obj}
    {t8 : Addr} {o8 : Obj}
    {t9 : Addr} {o9 : Obj}
    {t10 : Addr} {o10 : Obj}
    {t11 : Addr} {o11 : Obj}
    {t12 : Addr} {o12 : Obj}
    {t13 : Addr} {o13 : Obj}
    {t14 : Addr} {o14 : Obj}
    {t15 : Addr} {o15 : Obj}
    {t16 : Addr} {o16 : Obj}
    {t17 : Addr} {o17 : Obj}
    {t18 : Addr} {o18 : Obj}
    {t19 : Addr} {o19 : Obj}
    {t20 : Addr} {o20 : Obj}
    {t21 : Addr} {o21 : Obj}
    {t22 : Addr} {o22 : Obj}
    {t23 : Addr} {o23 : Obj}
    {t24 : Addr} {o24 : Obj}
    {C C2 C3 fI : Addr} {nmC qC : Str} {NC : Addr} {bsC : List Value} {snC : List Str} {subC : List Value} {abC : Bool} {colC : Option Bool} {ddC : Option Addr} {mC0 mC1 mC2 mC3 mC5 : Option Value} {ocI kVI dcI pmI cdI ctI : Value} {odI anI : Option Addr} {slI : Array (Option Value)}
    (X : K.In h) (G : h.Ns mainGlobals mg) (hfa : mg "law" = some (.ref fa))
    (a_next : PySem.W.nsIn K mainGlobals "_law_next" = some (some (.ref f_next)))
    (l_next : K.lookup f_next = some ⟨oc_next, od_next, .func (PySem.W.fnOf "_law_next" "_law_next" (defArgs s_law_next) (defBody s_law_next) (defScope s_law_next) .none kV_next dc_next pm_next an_next cd_next ct_next), sl_next⟩)
    (c_next : PySem.W.codeIn K cd_next "_law_next" = true)
    (k_next : PySem.W.keepIn K (.ref f_next) = true)
    (a_put : PySem.W.nsIn K mainGlobals "_law_put" = some (some (.ref f_put)))
    (l_put : K.lookup f_put = some ⟨oc_put, od_put, .func (PySem.W.fnOf "_law_put" "_law_put" (defArgs s_law_put) (defBody s_law_put) (defScope s_law_put) .none kV_put dc_put pm_put an_put cd_put ct_put), sl_put⟩)
    (c_put : PySem.W.codeIn K cd_put "_law_put" = true)
    (k_put : PySem.W.keepIn K (.ref f_put) = true)
    (a_leaf : PySem.W.nsIn K mainGlobals "_law_leaf" = some (some (.ref f_leaf)))
    (l_leaf : K.lookup f_leaf = some ⟨oc_leaf, od_leaf, .func (PySem.W.fnOf "_law_leaf" "_law_leaf" (defArgs s_law_leaf) (defBody s_law_leaf) (defScope s_law_leaf) .none kV_leaf dc_leaf pm_leaf an_leaf cd_leaf ct_leaf), sl_leaf⟩)
    (c_leaf : PySem.W.codeIn K cd_leaf "_law_leaf" = true)
    (k_leaf : PySem.W.keepIn K (.ref f_leaf) = true)
    (a_one : PySem.W.nsIn K mainGlobals "_law_one_of" = some (some (.ref f_one)))
    (l_one : K.lookup f_one = some ⟨oc_one, od_one, .func (PySem.W.fnOf "_law_one_of" "_law_one_of" (defArgs s_law_one_of) (defBody s_law_one_of) (defScope s_law_one_of) .none kV_one dc_one pm_one an_one cd_one ct_one), sl_one⟩)
    (c_one : PySem.W.codeIn K cd_one "_law_one_of" = true)
    (k_one : PySem.W.keepIn K (.ref f_one) = true)
    (a_way : PySem.W.nsIn K mainGlobals "_law_way" = some (some (.ref f_way)))
    (l_way : K.lookup f_way = some ⟨oc_way, od_way, .func (PySem.W.fnOf "_law_way" "_law_way" (defArgs s_law_way) (defBody s_law_way) (defScope s_law_way) .none kV_way dc_way pm_way an_way cd_way ct_way), sl_way⟩)
    (c_way : PySem.W.codeIn K cd_way "_law_way" = true)
    (k_way : PySem.W.keepIn K (.ref f_way) = true)
    (a_truth : PySem.W.nsIn K mainGlobals "_law_truth" = some (some (.ref f_truth)))
    (l_truth : K.lookup f_truth = some ⟨oc_truth, od_truth, .func (PySem.W.fnOf "_law_truth" "_law_truth" (defArgs s_law_truth) (defBody s_law_truth) (defScope s_law_truth) .none kV_truth dc_truth pm_truth an_truth cd_truth ct_truth), sl_truth⟩)
    (c_truth : PySem.W.codeIn K cd_truth "_law_truth" = true)
    (k_truth : PySem.W.keepIn K (.ref f_truth) = true)
    (a_op : PySem.W.nsIn K mainGlobals "_law_op" = some (some (.ref f_op)))
    (l_op : K.lookup f_op = some ⟨oc_op, od_op, .func (PySem.W.fnOf "_law_op" "_law_op" (defArgs s_law_op) (defBody s_law_op) (defScope s_law_op) .none kV_op dc_op pm_op an_op cd_op ct_op), sl_op⟩)
    (c_op : PySem.W.codeIn K cd_op "_law_op" = true)
    (k_op : PySem.W.keepIn K (.ref f_op) = true)
    (a_loop : PySem.W.nsIn K mainGlobals "_law_loop" = some (some (.ref f_loop)))
    (l_loop : K.lookup f_loop = some ⟨oc_loop, od_loop, .func (PySem.W.fnOf "_law_loop" "_law_loop" (defArgs s_law_loop) (defBody s_law_loop) (defScope s_law_loop) .none kV_loop dc_loop pm_loop an_loop cd_loop ct_loop), sl_loop⟩)
    (c_loop : PySem.W.codeIn K cd_loop "_law_loop" = true)
    (k_loop : PySem.W.keepIn K (.ref f_loop) = true)
    (a_points : PySem.W.nsIn K mainGlobals "_law_points" = some (some (.ref f_points)))
    (l_points : K.lookup f_points = some ⟨oc_points, od_points, .func (PySem.W.fnOf "_law_points" "_law_points" (defArgs s_law_points) (defBody s_law_points) (defScope s_law_points) .none kV_points dc_points pm_points an_points cd_points ct_points), sl_points⟩)
    (c_points : PySem.W.codeIn K cd_points "_law_points" = true)
    (k_points : PySem.W.keepIn K (.ref f_points) = true)
    (a_cells : PySem.W.nsIn K mainGlobals "_law_cells" = some (some (.ref f_cells)))
    (l_cells : K.lookup f_cells = some ⟨oc_cells, od_cells, .func (PySem.W.fnOf "_law_cells" "_law_cells" (defArgs s_law_cells) (defBody s_law_cells) (defScope s_law_cells) .none kV_cells dc_cells pm_cells an_cells cd_cells ct_cells), sl_cells⟩)
    (c_cells : PySem.W.codeIn K cd_cells "_law_cells" = true)
    (k_cells : PySem.W.keepIn K (.ref f_cells) = true)
    (a_plain : PySem.W.nsIn K mainGlobals "_law_plain" = some (some (.ref f_plain)))
    (l_plain : K.lookup f_plain = some ⟨oc_plain, od_plain, .func (PySem.W.fnOf "_law_plain" "_law_plain" (defArgs s_law_plain) (defBody s_law_plain) (defScope s_law_plain) .none kV_plain dc_plain pm_plain an_plain cd_plain ct_plain), sl_plain⟩)
    (c_plain : PySem.W.codeIn K cd_plain "_law_plain" = true)
    (k_plain : PySem.W.keepIn K (.ref f_plain) = true)
    (a_term : PySem.W.nsIn K mainGlobals "_law_term" = some (some (.ref f_term)))
    (l_term : K.lookup f_term = some ⟨oc_term, od_term, .func (PySem.W.fnOf "_law_term" "_law_term" (defArgs s_law_term) (defBody s_law_term) (defScope s_law_term) .none kV_term dc_term pm_term an_term cd_term ct_term), sl_term⟩)
    (c_term : PySem.W.codeIn K cd_term "_law_term" = true)
    (k_term : PySem.W.keepIn K (.ref f_term) = true)
    (a_many : PySem.W.nsIn K mainGlobals "_law_many" = some (some (.ref f_many)))
    (l_many : K.lookup f_many = some ⟨oc_many, od_many, .func (PySem.W.fnOf "_law_many" "_law_many" (defArgs s_law_many) (defBody s_law_many) (defScope s_law_many) .none kV_many dc_many pm_many an_many cd_many ct_many), sl_many⟩)
    (c_many : PySem.W.codeIn K cd_many "_law_many" = true)
    (k_many : PySem.W.keepIn K (.ref f_many) = true)
    (a_some : PySem.W.nsIn K mainGlobals "_law_some" = some (some (.ref f_some)))
    (l_some : K.lookup f_some = some ⟨oc_some, od_some, .func (PySem.W.fnOf "_law_some" "_law_some" (defArgs s_law_some) (defBody s_law_some) (defScope s_law_some) .none kV_some dc_some pm_some an_some cd_some ct_some), sl_some⟩)
    (c_some : PySem.W.codeIn K cd_some "_law_some" = true)
    (k_some : PySem.W.keepIn K (.ref f_some) = true)
    (a_draws : PySem.W.nsIn K mainGlobals "_law_draws" = some (some (.ref f_draws)))
    (l_draws : K.lookup f_draws = some ⟨oc_draws, od_draws, .func (PySem.W.fnOf "_law_draws" "_law_draws" (defArgs s_law_draws) (defBody s_law_draws) (defScope s_law_draws) .none kV_draws dc_draws pm_draws an_draws cd_draws ct_draws), sl_draws⟩)
    (c_draws : PySem.W.codeIn K cd_draws "_law_draws" = true)
    (k_draws : PySem.W.keepIn K (.ref f_draws) = true)
    (a_partsOf : PySem.W.nsIn K mainGlobals "parts_of" = some (some (.ref f_partsOf)))
    (l_partsOf : K.lookup f_partsOf = some ⟨oc_partsOf, od_partsOf, .func (PySem.W.fnOf "parts_of" "parts_of" (defArgs sparts_of) (defBody sparts_of) (defScope sparts_of) .none kV_partsOf dc_partsOf pm_partsOf an_partsOf cd_partsOf ct_partsOf), sl_partsOf⟩)
    (c_partsOf : PySem.W.codeIn K cd_partsOf "parts_of" = true)
    (k_partsOf : PySem.W.keepIn K (.ref f_partsOf) = true)
    (a_places : PySem.W.nsIn K mainGlobals "_law_places" = some (some (.ref f_places)))
    (l_places : K.lookup f_places = some ⟨oc_places, od_places, .func (PySem.W.fnOf "_law_places" "_law_places" (defArgs s_law_places) (defBody s_law_places) (defScope s_law_places) .none kV_places dc_places pm_places an_places cd_places ct_places), sl_places⟩)
    (c_places : PySem.W.codeIn K cd_places "_law_places" = true)
    (k_places : PySem.W.keepIn K (.ref f_places) = true)
    (a_parts : PySem.W.nsIn K mainGlobals "_law_parts" = some (some (.ref f_parts)))
    (l_parts : K.lookup f_parts = some ⟨oc_parts, od_parts, .func (PySem.W.fnOf "_law_parts" "_law_parts" (defArgs s_law_parts) (defBody s_law_parts) (defScope s_law_parts) .none kV_parts dc_parts pm_parts an_parts cd_parts ct_parts), sl_parts⟩)
    (c_parts : PySem.W.codeIn K cd_parts "_law_parts" = true)
    (k_parts : PySem.W.keepIn K (.ref f_parts) = true)
    (a_lpaths : PySem.W.nsIn K mainGlobals "_law_paths" = some (some (.ref f_lpaths)))
    (l_lpaths : K.lookup f_lpaths = some ⟨oc_lpaths, od_lpaths, .func (PySem.W.fnOf "_law_paths" "_law_paths" (defArgs s_law_paths) (defBody s_law_paths) (defScope s_law_paths) .none kV_lpaths dc_lpaths pm_lpaths an_lpaths cd_lpaths ct_lpaths), sl_lpaths⟩)
    (c_lpaths : PySem.W.codeIn K cd_lpaths "_law_paths" = true)
    (k_lpaths : PySem.W.keepIn K (.ref f_lpaths) = true)
    (a_placed : PySem.W.nsIn K mainGlobals "placed_parts" = some (some (.ref f_placed)))
    (l_placed : K.lookup f_placed = some ⟨oc_placed, od_placed, .func (PySem.W.fnOf "placed_parts" "placed_parts" (defArgs splaced_parts) (defBody splaced_parts) (defScope splaced_parts) .none kV_placed dc_placed pm_placed an_placed cd_placed ct_placed), sl_placed⟩)
    (c_placed : PySem.W.codeIn K cd_placed "placed_parts" = true)
    (k_placed : PySem.W.keepIn K (.ref f_placed) = true)
    (a_ppaths : PySem.W.nsIn K mainGlobals "paths" = some (some (.ref f_ppaths)))
    (l_ppaths : K.lookup f_ppaths = some ⟨oc_ppaths, od_ppaths, .func (PySem.W.fnOf "paths" "paths" (defArgs spaths) (defBody spaths) (defScope spaths) .none kV_ppaths dc_ppaths pm_ppaths an_ppaths cd_ppaths ct_ppaths), sl_ppaths⟩)
    (c_ppaths : PySem.W.codeIn K cd_ppaths "paths" = true)
    (k_ppaths : PySem.W.keepIn K (.ref f_ppaths) = true)
    (a_at : PySem.W.nsIn K mainGlobals "_law_at" = some (some (.ref f_at)))
    (l_at : K.lookup f_at = some ⟨oc_at, od_at, .func (PySem.W.fnOf "_law_at" "_law_at" (defArgs s_law_at) (defBody s_law_at) (defScope s_law_at) .none kV_at dc_at pm_at an_at cd_at ct_at), sl_at⟩)
    (c_at : PySem.W.codeIn K cd_at "_law_at" = true)
    (k_at : PySem.W.keepIn K (.ref f_at) = true)
    (a_whole : PySem.W.nsIn K mainGlobals "is_whole" = some (some (.ref f_whole)))
    (l_whole : K.lookup f_whole = some ⟨oc_whole, od_whole, .func (PySem.W.fnOf "is_whole" "is_whole" (defArgs sis_whole) (defBody sis_whole) (defScope sis_whole) .none kV_whole dc_whole pm_whole an_whole cd_whole ct_whole), sl_whole⟩)
    (c_whole : PySem.W.codeIn K cd_whole "is_whole" = true)
    (k_whole : PySem.W.keepIn K (.ref f_whole) = true)
    (a_partAt : PySem.W.nsIn K mainGlobals "part_at" = some (some (.ref f_partAt)))
    (l_partAt : K.lookup f_partAt = some ⟨oc_partAt, od_partAt, .func (PySem.W.fnOf "part_at" "part_at" (defArgs spart_at) (defBody spart_at) (defScope spart_at) .none kV_partAt dc_partAt pm_partAt an_partAt cd_partAt ct_partAt), sl_partAt⟩)
    (c_partAt : PySem.W.codeIn K cd_partAt "part_at" = true)
    (k_partAt : PySem.W.keepIn K (.ref f_partAt) = true)
    (a_refused : PySem.W.nsIn K mainGlobals "_law_refused" = some (some (.ref f_refused)))
    (l_refused : K.lookup f_refused = some ⟨oc_refused, od_refused, .func (PySem.W.fnOf "_law_refused" "_law_refused" (defArgs s_law_refused) (defBody s_law_refused) (defScope s_law_refused) .none kV_refused dc_refused pm_refused an_refused cd_refused ct_refused), sl_refused⟩)
    (c_refused : PySem.W.codeIn K cd_refused "_law_refused" = true)
    (k_refused : PySem.W.keepIn K (.ref f_refused) = true)
    (a_right : PySem.W.nsIn K mainGlobals "_law_right" = some (some (.ref f_right)))
    (l_right : K.lookup f_right = some ⟨oc_right, od_right, .func (PySem.W.fnOf "_law_right" "_law_right" (defArgs s_law_right) (defBody s_law_right) (defScope s_law_right) .none kV_right dc_right pm_right an_right cd_right ct_right), sl_right⟩)
    (c_right : PySem.W.codeIn K cd_right "_law_right" = true)
    (k_right : PySem.W.keepIn K (.ref f_right) = true)
    (a_law : PySem.W.nsIn K mainGlobals "law" = some (some (.ref f_law)))
    (l_law : K.lookup f_law = some ⟨oc_law, od_law, .func (PySem.W.fnOf "law" "law" (defArgs slaw) (defBody slaw) (defScope slaw) .none kV_law dc_law pm_law an_law cd_law ct_law), sl_law⟩)
    (c_law : PySem.W.codeIn K cd_law "law" = true)
    (k_law : PySem.W.keepIn K (.ref f_law) = true)
    (z_len : PySem.W.nsIn K mainGlobals "len" = some none)
    (z_zip : PySem.W.nsIn K mainGlobals "zip" = some none)
    (z_range : PySem.W.nsIn K mainGlobals "range" = some none)
    (z_isinstance : PySem.W.nsIn K mainGlobals "isinstance" = some none)
    (z_int : PySem.W.nsIn K mainGlobals "int" = some none)
    (z_tuple : PySem.W.nsIn K mainGlobals "tuple" = some none)
    (z_str : PySem.W.nsIn K mainGlobals "str" = some none)
    (z_sum : PySem.W.nsIn K mainGlobals "sum" = some none)
    (z_list : PySem.W.nsIn K mainGlobals "list" = some none)
    (z_enumerate : PySem.W.nsIn K mainGlobals "enumerate" = some none)
    (z_LookupError : PySem.W.nsIn K mainGlobals "LookupError" = some none)
    (z_bool : PySem.W.nsIn K mainGlobals "bool" = some none)
    (a_FORMS : PySem.W.nsIn K mainGlobals "FORMS" = some (some (.ref fo)))
    (l_FORMS : K.lookup fo = some ⟨.type "dict", none, .dict es nes, #[]⟩)
    (kl : PySem.W.KeysLit w.params es.toList)
    (e0 : PySem.W.nsIn K fo "num" = some (some (.ref t0)))
    (g0 : K.lookup t0 = some o0)
    (v0 : tupS o0 = some (["number"] : List Str))
    (e1 : PySem.W.nsIn K fo "text" = some (some (.ref t1)))
    (g1 : K.lookup t1 = some o1)
    (v1 : tupS o1 = some (["text"] : List Str))
    (e2 : PySem.W.nsIn K fo "yes" = some (some (.ref t2)))
    (g2 : K.lookup t2 = some o2)
    (v2 : tupS o2 = some ([] : List Str))
    (e3 : PySem.W.nsIn K fo "no" = some (some (.ref t3)))
    (g3 : K.lookup t3 = some o3)
    (v3 : tupS o3 = some ([] : List Str))
    (e4 : PySem.W.nsIn K fo "none" = some (some (.ref t4)))
    (g4 : K.lookup t4 = some o4)
    (v4 : tupS o4 = some ([] : List Str))
    (e5 : PySem.W.nsIn K fo "name" = some (some (.ref t5)))
    (g5 : K.lookup t5 = some o5)
    (v5 : tupS o5 = some (["name"] : List Str))
    (e6 : PySem.W.nsIn K fo "fun" = some (some (.ref t6)))
    (g6 : K.lookup t6 = some o6)
    (v6 : tupS o6 = some (["binders", "part"] : List Str))
    (e7 : PySem.W.nsIn K fo "rec" = some (some (.ref t7)))
    (g7 : K.lookup t7 = some o7)
    (v7 : tupS o7 = some (["binder", "binders", "part"] : List Str))
    (e8 : PySem.W.nsIn K fo "call" = some (some (.ref t8)))
    (g8 : K.lookup t8 = some o8)
    (v8 : tupS o8 = some (["part", "handed parts"] : List Str))
    (e9 : PySem.W.nsIn K fo "let" = some (some (.ref t9)))
    (g9 : K.lookup t9 = some o9)
    (v9 : tupS o9 = some (["binder", "part", "part"] : List Str))
    (e10 : PySem.W.nsIn K fo "if" = some (some (.ref t10)))
    (g10 : K.lookup t10 = some o10)
    (v10 : tupS o10 = some (["part", "part", "part"] : List Str))
    (e11 : PySem.W.nsIn K fo "do" = some (some (.ref t11)))
    (g11 : K.lookup t11 = some o11)
    (v11 : tupS o11 = some (["row parts"] : List Str))
    (e12 : PySem.W.nsIn K fo "op" = some (some (.ref t12)))
    (g12 : K.lookup t12 = some o12)
    (v12 : tupS o12 = some (["word", "op parts"] : List Str))
    (e13 : PySem.W.nsIn K fo "cell" = some (some (.ref t13)))
    (g13 : K.lookup t13 = some o13)
    (v13 : tupS o13 = some (["part"] : List Str))
    (e14 : PySem.W.nsIn K fo "get" = some (some (.ref t14)))
    (g14 : K.lookup t14 = some o14)
    (v14 : tupS o14 = some (["part"] : List Str))
    (e15 : PySem.W.nsIn K fo "set" = some (some (.ref t15)))
    (g15 : K.lookup t15 = some o15)
    (v15 : tupS o15 = some (["part", "part"] : List Str))
    (e16 : PySem.W.nsIn K fo "say" = some (some (.ref t16)))
    (g16 : K.lookup t16 = some o16)
    (v16 : tupS o16 = some (["part"] : List Str))
    (e17 : PySem.W.nsIn K fo "fault" = some (some (.ref t17)))
    (g17 : K.lookup t17 = some o17)
    (v17 : tupS o17 = some (["part"] : List Str))
    (e18 : PySem.W.nsIn K fo "guard" = some (some (.ref t18)))
    (g18 : K.lookup t18 = some o18)
    (v18 : tupS o18 = some (["part", "binder", "part"] : List Str))
    (e19 : PySem.W.nsIn K fo "wind" = some (some (.ref t19)))
    (g19 : K.lookup t19 = some o19)
    (v19 : tupS o19 = some (["part", "part", "part"] : List Str))
    (e20 : PySem.W.nsIn K fo "catch" = some (some (.ref t20)))
    (g20 : K.lookup t20 = some o20)
    (v20 : tupS o20 = some (["binder", "part"] : List Str))
    (e21 : PySem.W.nsIn K fo "go" = some (some (.ref t21)))
    (g21 : K.lookup t21 = some o21)
    (v21 : tupS o21 = some (["part", "part"] : List Str))
    (e22 : PySem.W.nsIn K fo "mark" = some (some (.ref t22)))
    (g22 : K.lookup t22 = some o22)
    (v22 : tupS o22 = some (["tag", "part"] : List Str))
    (e23 : PySem.W.nsIn K fo "take" = some (some (.ref t23)))
    (g23 : K.lookup t23 = some o23)
    (v23 : tupS o23 = some (["tag", "binder", "part"] : List Str))
    (e24 : PySem.W.nsIn K fo "use" = some (some (.ref t24)))
    (g24 : K.lookup t24 = some o24)
    (v24 : tupS o24 = some (["part", "part"] : List Str))
    (aC : PySem.W.nsIn K mainGlobals "NoPath" = some (some (.ref C)))
    (aC2 : PySem.W.nsIn K mainGlobals "NoName" = some (some (.ref C2)))
    (aC3 : PySem.W.nsIn K mainGlobals "NoTerm" = some (some (.ref C3)))
    (xL : K.lookup C = some (excClassObj nmC qC C NC bsC leTail true snC subC abC colC ddC mC0 mC1 mC2 mC3 mC5 "LookupError.__new__"))
    (saC : PySem.W.findIn K (.ref C) "__setattr__" = some (some (.builtin "object.__setattr__")))
    (gaC : PySem.W.findIn K (.ref C) "__getattribute__" = some (some (.builtin "BaseException.__getattribute__")))
    (ggC : PySem.W.findIn K (.ref C) "__getattr__" = some none)
    (nbC : PySem.W.findIn K (.ref C) "at" = some none)
    (aI : PySem.W.findIn K (.ref C) "__init__" = some (some (.ref fI)))
    (tI : PySem.W.typeIn K (.ref fI) = some (.type "function"))
    (lI : K.lookup fI = some ⟨ocI, odI, .func (PySem.W.fnOf "__init__" "NoPath.__init__" (defArgs sInit) (defBody sInit) (defScope sInit) .none kVI dcI pmI anI cdI ctI), slI⟩)
    (cI : PySem.W.codeIn K cdI "NoPath.__init__" = true)
    (kI : PySem.W.keepIn K (.ref fI) = true)
    (kC : PySem.W.keepIn K (.ref C) = true)
    (eC : PySem.W.subIn K (.ref C) (.type "BaseException") = some true)
    (tC : PySem.W.typeIn K (.ref C) = some (.type "type"))
    (hdC : PySem.W.hasDictIn K C = true)
    (clC : PySem.W.isClsIn K C = true)
    (eC2 : PySem.W.subIn K (.ref C2) (.type "BaseException") = some true)
    (clC2 : PySem.W.isClsIn K C2 = true)
    (tC2 : PySem.W.typeIn K (.ref C2) = some (.type "type"))
    (uC2 : PySem.W.subIn K (.ref C) (.ref C2) = some false)
    (eC3 : PySem.W.subIn K (.ref C3) (.type "BaseException") = some true)
    (clC3 : PySem.W.isClsIn K C3 = true)
    (tC3 : PySem.W.typeIn K (.ref C3) = some (.type "type"))
    (uC3 : PySem.W.subIn K (.ref C) (.ref C3) = some false)
    (uC : PySem.W.subIn K (.ref C) (.ref C) = some true)
    (uL : PySem.W.subIn K (.ref C) (.type "LookupError") = some true)
    (hcC : PySem.W.findIn K (.ref C) "__class__" = some (some (.builtin "object.__class__")))
    (hnC : PySem.W.specialIn K (.builtin "object.__class__") "__get__" = some (some (.builtin "getset_descriptor.__get__")))
    (htC : PySem.W.takesIn K (.builtin "object.__class__") = some true)
    (hmC : PySem.W.mroIn K C (.type "object") = some true)
    (vV : PySem.W.findCls K (.type "LookupError") (.type "type") "__init__" = some (.val (.builtin "LookupError.__init__")))
    :
    ∃ fd : FuncData, (∀ (s : Shared) (v : Value), BindsTo s fd ⟨[v], []⟩ [("_law_script", v)]) ∧ ∀ base : Heap, K.In base → base.Ns mainGlobals mg → FnOk l.prog w K mg base CX0 202 fa fd ["_law_script"] (spLaw K) := by
  have e := hfa.symm.trans (PySem.W.mg_of X G a_law)
  cases e
  have F_next := fun_mk (st := s_law_next) l_next c_next k_next
  have m_next := PySem.W.mg_of X G a_next
  have b_next := F_next.binds (ps := ["_law_dr"]) fun _ _ _ _ _ _ us hl => match us, hl with | [_], _ => rfl
  have F_put := fun_mk (st := s_law_put) l_put c_put k_put
  have m_put := PySem.W.mg_of X G a_put
  have b_put := F_put.binds (ps := ["_law_ns", "_law_new", "_law_kind"]) fun _ _ _ _ _ _ us hl => match us, hl with | [_, _, _], _ => rfl
  have F_leaf := fun_mk (st := s_law_leaf) l_leaf c_leaf k_leaf
  have m_leaf := PySem.W.mg_of X G a_leaf
  have b_leaf := F_leaf.binds (ps := ["_law_dr", "_law_ns"]) fun _ _ _ _ _ _ us hl => match us, hl with | [_, _], _ => rfl
  have F_one := fun_mk (st := s_law_one_of) l_one c_one k_one
  have m_one := PySem.W.mg_of X G a_one
  have b_one := F_one.binds (ps := ["_law_dr", "_law_ns", "_law_kind"]) fun _ _ _ _ _ _ us hl => match us, hl with | [_, _, _], _ => rfl
  have F_way := fun_mk (st := s_law_way) l_way c_way k_way
  have m_way := PySem.W.mg_of X G a_way
  have b_way := F_way.binds (ps := ["_law_dr", "_law_ns", "_law_way_here"]) fun _ _ _ _ _ _ us hl => match us, hl with | [_, _, _], _ => rfl
  have F_truth := fun_mk (st := s_law_truth) l_truth c_truth k_truth
  have m_truth := PySem.W.mg_of X G a_truth
  have b_truth := F_truth.binds (ps := ["_law_dr", "_law_ns", "_law_deep"]) fun _ _ _ _ _ _ us hl => match us, hl with | [_, _, _], _ => rfl
  have F_op := fun_mk (st := s_law_op) l_op c_op k_op
  have m_op := PySem.W.mg_of X G a_op
  have b_op := F_op.binds (ps := ["_law_dr", "_law_ns", "_law_deep"]) fun _ _ _ _ _ _ us hl => match us, hl with | [_, _, _], _ => rfl
  have F_loop := fun_mk (st := s_law_loop) l_loop c_loop k_loop
  have m_loop := PySem.W.mg_of X G a_loop
  have b_loop := F_loop.binds (ps := ["_law_dr", "_law_ns", "_law_deep", "_law_new"]) fun _ _ _ _ _ _ us hl => match us, hl with | [_, _, _, _], _ => rfl
  have F_points := fun_mk (st := s_law_points) l_points c_points k_points
  have m_points := PySem.W.mg_of X G a_points
  have b_points := F_points.binds (ps := ["_law_dr", "_law_ns", "_law_deep", "_law_new", "_law_way_here"]) fun _ _ _ _ _ _ us hl => match us, hl with | [_, _, _, _, _], _ => rfl
  have F_cells := fun_mk (st := s_law_cells) l_cells c_cells k_cells
  have m_cells := PySem.W.mg_of X G a_cells
  have b_cells := F_cells.binds (ps := ["_law_dr", "_law_ns", "_law_deep", "_law_new", "_law_way_here"]) fun _ _ _ _ _ _ us hl => match us, hl with | [_, _, _, _, _], _ => rfl
  have F_plain := fun_mk (st := s_law_plain) l_plain c_plain k_plain
  have m_plain := PySem.W.mg_of X G a_plain
  have b_plain := F_plain.binds (ps := ["_law_dr", "_law_ns", "_law_deep", "_law_new", "_law_way_here"]) fun _ _ _ _ _ _ us hl => match us, hl with | [_, _, _, _, _], _ => rfl
  have F_term := fun_mk (st := s_law_term) l_term c_term k_term
  have m_term := PySem.W.mg_of X G a_term
  have b_term := F_term.binds (ps := ["_law_dr", "_law_ns", "_law_deep"]) fun _ _ _ _ _ _ us hl => match us, hl with | [_, _, _], _ => rfl
  have F_many := fun_mk (st := s_law_many) l_many c_many k_many
  have m_many := PySem.W.mg_of X G a_many
  have b_many := F_many.binds (ps := ["_law_thing"]) fun _ _ _ _ _ _ us hl => match us, hl with | [_], _ => rfl
  have F_some := fun_mk (st := s_law_some) l_some c_some k_some
  have m_some := PySem.W.mg_of X G a_some
  have b_some := F_some.binds (ps := ["_law_dr", "_law_ns", "_law_deep"]) fun _ _ _ _ _ _ us hl => match us, hl with | [_, _, _], _ => rfl
  have F_draws := fun_mk (st := s_law_draws) l_draws c_draws k_draws
  have m_draws := PySem.W.mg_of X G a_draws
  have b_draws := F_draws.binds (ps := ["_law_cell"]) fun _ _ _ _ _ _ us hl => match us, hl with | [_], _ => rfl
  have F_partsOf := fun_mk (st := sparts_of) l_partsOf c_partsOf k_partsOf
  have m_partsOf := PySem.W.mg_of X G a_partsOf
  have b_partsOf := F_partsOf.binds (ps := ["term"]) fun _ _ _ _ _ _ us hl => match us, hl with | [_], _ => rfl
  have F_places := fun_mk (st := s_law_places) l_places c_places k_places
  have m_places := PySem.W.mg_of X G a_places
  have b_places := F_places.binds (ps := []) fun _ _ _ _ _ _ us hl => match us, hl with | [], _ => rfl
  have F_parts := fun_mk (st := s_law_parts) l_parts c_parts k_parts
  have m_parts := PySem.W.mg_of X G a_parts
  have b_parts := F_parts.binds (ps := ["_law_a_term"]) fun _ _ _ _ _ _ us hl => match us, hl with | [_], _ => rfl
  have F_lpaths := fun_mk (st := s_law_paths) l_lpaths c_lpaths k_lpaths
  have m_lpaths := PySem.W.mg_of X G a_lpaths
  have b_lpaths := F_lpaths.binds (ps := ["_law_a_term"]) fun _ _ _ _ _ _ us hl => match us, hl with | [_], _ => rfl
  have F_placed := fun_mk (st := splaced_parts) l_placed c_placed k_placed
  have m_placed := PySem.W.mg_of X G a_placed
  have b_placed := F_placed.binds (ps := ["path", "term"]) fun _ _ _ _ _ _ us hl => match us, hl with | [_, _], _ => rfl
  have F_ppaths := fun_mk (st := spaths) l_ppaths c_ppaths k_ppaths
  have m_ppaths := PySem.W.mg_of X G a_ppaths
  have b_ppaths := F_ppaths.binds (ps := ["term"]) fun _ _ _ _ _ _ us hl => match us, hl with | [_], _ => rfl
  have F_at := fun_mk (st := s_law_at) l_at c_at k_at
  have m_at := PySem.W.mg_of X G a_at
  have b_at := F_at.binds (ps := ["_law_a_term", "_law_a_path"]) fun _ _ _ _ _ _ us hl => match us, hl with | [_, _], _ => rfl
  have F_whole := fun_mk (st := sis_whole) l_whole c_whole k_whole
  have m_whole := PySem.W.mg_of X G a_whole
  have b_whole := F_whole.binds (ps := ["thing"]) fun _ _ _ _ _ _ us hl => match us, hl with | [_], _ => rfl
  have F_partAt := fun_mk (st := spart_at) l_partAt c_partAt k_partAt
  have m_partAt := PySem.W.mg_of X G a_partAt
  have b_partAt := F_partAt.binds (ps := ["term", "path"]) fun _ _ _ _ _ _ us hl => match us, hl with | [_, _], _ => rfl
  have F_refused := fun_mk (st := s_law_refused) l_refused c_refused k_refused
  have m_refused := PySem.W.mg_of X G a_refused
  have b_refused := F_refused.binds (ps := ["_law_a_term", "_law_a_path"]) fun _ _ _ _ _ _ us hl => match us, hl with | [_, _], _ => rfl
  have F_right := fun_mk (st := s_law_right) l_right c_right k_right
  have m_right := PySem.W.mg_of X G a_right
  have b_right := F_right.binds (ps := ["_law_dr"]) fun _ _ _ _ _ _ us hl => match us, hl with | [_], _ => rfl
  have F_law := fun_mk (st := slaw) l_law c_law k_law
  have m_law := PySem.W.mg_of X G a_law
  have b_law := F_law.binds (ps := ["_law_script"]) fun _ _ _ _ _ _ us hl => match us, hl with | [_], _ => rfl
  have n_len := PySem.W.mg_none_of X G z_len
  have n_zip := PySem.W.mg_none_of X G z_zip
  have n_range := PySem.W.mg_none_of X G z_range
  have n_isinstance := PySem.W.mg_none_of X G z_isinstance
  have n_int := PySem.W.mg_none_of X G z_int
  have n_tuple := PySem.W.mg_none_of X G z_tuple
  have n_str := PySem.W.mg_none_of X G z_str
  have n_sum := PySem.W.mg_none_of X G z_sum
  have n_list := PySem.W.mg_none_of X G z_list
  have n_enumerate := PySem.W.mg_none_of X G z_enumerate
  have n_LookupError := PySem.W.mg_none_of X G z_LookupError
  have n_bool := PySem.W.mg_none_of X G z_bool
  have hF : FormsOk K w fo := by
    unfold FormsOk forms
    refine List.forall_mem_cons.mpr ⟨form_at l_FORMS kl e0 g0 v0, List.forall_mem_cons.mpr ⟨form_at l_FORMS kl e1 g1 v1, List.forall_mem_cons.mpr ⟨form_at l_FORMS kl e2 g2 v2, List.forall_mem_cons.mpr ⟨form_at l_FORMS kl e3 g3 v3, List.forall_mem_cons.mpr ⟨form_at l_FORMS kl e4 g4 v4, List.forall_mem_cons.mpr ⟨form_at l_FORMS kl e5 g5 v5, List.forall_mem_cons.mpr ⟨form_at l_FORMS kl e6 g6 v6, List.forall_mem_cons.mpr ⟨form_at l_FORMS kl e7 g7 v7, List.forall_mem_cons.mpr ⟨form_at l_FORMS kl e8 g8 v8, List.forall_mem_cons.mpr ⟨form_at l_FORMS kl e9 g9 v9, List.forall_mem_cons.mpr ⟨form_at l_FORMS kl e10 g10 v10, List.forall_mem_cons.mpr ⟨form_at l_FORMS kl e11 g11 v11, List.forall_mem_cons.mpr ⟨form_at l_FORMS kl e12 g12 v12, List.forall_mem_cons.mpr ⟨form_at l_FORMS kl e13 g13 v13, List.forall_mem_cons.mpr ⟨form_at l_FORMS kl e14 g14 v14, List.forall_mem_cons.mpr ⟨form_at l_FORMS kl e15 g15 v15, List.forall_mem_cons.mpr ⟨form_at l_FORMS kl e16 g16 v16, List.forall_mem_cons.mpr ⟨form_at l_FORMS kl e17 g17 v17, List.forall_mem_cons.mpr ⟨form_at l_FORMS kl e18 g18 v18, List.forall_mem_cons.mpr ⟨form_at l_FORMS kl e19 g19 v19, List.forall_mem_cons.mpr ⟨form_at l_FORMS kl e20 g20 v20, List.forall_mem_cons.mpr ⟨form_at l_FORMS kl e21 g21 v21, List.forall_mem_cons.mpr ⟨form_at l_FORMS kl e22 g22 v22, List.forall_mem_cons.mpr ⟨form_at l_FORMS kl e23 g23 v23, List.forall_mem_cons.mpr ⟨form_at l_FORMS kl e24 g24 v24, fun _ h => nomatch h⟩⟩⟩⟩⟩⟩⟩⟩⟩⟩⟩⟩⟩⟩⟩⟩⟩⟩⟩⟩⟩⟩⟩⟩⟩
  have m_FORMS := PySem.W.mg_of X G a_FORMS
  have mC := PySem.W.mg_of X G aC
  have mC2 := PySem.W.mg_of X G aC2
  have mC3 := PySem.W.mg_of X G aC3
  have T : LeC K C := ⟨⟨_, _, _, _, _, _, _, _, _, _, _, _, _, _, _, xL, by decide +kernel⟩, saC, eC, tC, kC⟩
  have sC : PySem.W.kitOne K (.ref C) (.ref C) = some true := kit_same
  have lC := kit_blt uL
  have xC : PySem.W.exmAny K (.ref C) [.ref C, .ref C2, .ref C3] = some true := by
    unfold PySem.W.exmAny PySem.W.exmAny PySem.W.exmAny PySem.W.exmAny
    rw [exm_of eC clC tC uC, exm_of eC2 clC2 tC2 uC2, exm_of eC3 clC3 tC3 uC3]
    rfl
  have TI : IsC K C := ⟨clC, gaC, ggC, eC, hcC, hnC, htC, hmC⟩
  have TX : XfC K C := ⟨gaC, ggC, eC, hdC⟩
  have FI := fun_mk (st := sInit) lI cI kI
  have bI := FI.binds (ps := ["self", "at"]) fun _ _ _ _ _ _ us hl => match us, hl with | [_, _], _ => rfl
  refine ⟨PySem.W.fnOf "law" "law" (defArgs slaw) (defBody slaw) (defScope slaw) .none kV_law dc_law pm_law an_law cd_law ct_law, fun s v => .of_eq rfl, fun base _ _ => ?_⟩
  have H_next : Has l.prog w K mg base "_law_next" ["_law_dr"] 1 spNext := ⟨_, _, ok_next F_next, m_next, k_next, b_next⟩
  have H_put : ∀ L, L ≤ 900 → Has l.prog w K mg base "_law_put" ["_law_ns", "_law_new", "_law_kind"] 1 (spPut L) := fun L hL => ⟨_, _, ok_put hL F_put, m_put, k_put, b_put⟩
  have H_leaf : Has l.prog w K mg base "_law_leaf" ["_law_dr", "_law_ns"] 2 (spLeaf 900) := ⟨_, _, ok_leaf F_leaf H_next n_len, m_leaf, k_leaf, b_leaf⟩
  have H_one : Has l.prog w K mg base "_law_one_of" ["_law_dr", "_law_ns", "_law_kind"] 3 (spOne 900) := ⟨_, _, ok_one (by decide) F_one H_next H_leaf n_len, m_one, k_one, b_one⟩
  have H_way : Has l.prog w K mg base "_law_way" ["_law_dr", "_law_ns", "_law_way_here"] 2 (spWay 900) := ⟨_, _, ok_way (by decide) F_way H_next n_int, m_way, k_way, b_way⟩
  have H_term : ∀ n, n ≤ 100 → Has l.prog w K mg base "_law_term" ["_law_dr", "_law_ns", "_law_deep"] (levT n) (spTerm n) := by
    intro n
    induction n with
    | zero => exact fun _ => ⟨_, _, ok_term0 F_term H_leaf, m_term, k_term, b_term⟩
    | succ n ih =>
      intro hn
      have hn' : n ≤ 100 := by omega
      have t := ih hn'
      have pu := H_put (mostN (n + 1)) (by unfold mostN; omega)
      have pu2 := H_put (mostN (n + 1) + 1) (by unfold mostN; omega)
      have tr : Has l.prog w K mg base "_law_truth" ["_law_dr", "_law_ns", "_law_deep"] (levT n + 1) (spTruth n) := ⟨_, _, ok_truth hn' F_truth H_next H_leaf t, m_truth, k_truth, b_truth⟩
      have op : Has l.prog w K mg base "_law_op" ["_law_dr", "_law_ns", "_law_deep"] (levT n + 1) (spOp n) := ⟨_, _, ok_op hn' F_op H_next n_int n_tuple n_range t, m_op, k_op, b_op⟩
      have lo : Has l.prog w K mg base "_law_loop" ["_law_dr", "_law_ns", "_law_deep", "_law_new"] (levT n + 1) (spLoop n) := ⟨_, _, ok_loop hn' F_loop H_next H_leaf pu pu2 t, m_loop, k_loop, b_loop⟩
      have po : Has l.prog w K mg base "_law_points" ["_law_dr", "_law_ns", "_law_deep", "_law_new", "_law_way_here"] (levT n + 1) (spPart n) := ⟨_, _, ok_points hn' F_points H_next H_one pu n_range t, m_points, k_points, b_points⟩
      have ce : Has l.prog w K mg base "_law_cells" ["_law_dr", "_law_ns", "_law_deep", "_law_new", "_law_way_here"] (levT n + 1) (spPart n) := ⟨_, _, ok_cells hn' F_cells H_next H_leaf H_one pu t, m_cells, k_cells, b_cells⟩
      have pl : Has l.prog w K mg base "_law_plain" ["_law_dr", "_law_ns", "_law_deep", "_law_new", "_law_way_here"] (levT n + 1 + 1) (spPart n) := ⟨_, _, ok_plain hn' F_plain H_next H_leaf pu n_range n_tuple tr op lo t, m_plain, k_plain, b_plain⟩
      exact ⟨_, _, (ok_term hn' F_term H_next H_leaf H_way pu n_str n_int po ce pl t).mono (by unfold levT; omega), m_term, k_term, b_term⟩
  have H_many := many_ok (P := l.prog) (w := w) (base := base) F_many b_many m_many n_isinstance n_tuple n_sum (2 * deepD 4 + 2)
  have H_some : Has l.prog w K mg base "_law_some" ["_law_dr", "_law_ns", "_law_deep"] 200 (spSome 4) := ⟨_, _, ok_some (by decide) F_some H_many (H_term 4 (by decide)), m_some, k_some, b_some⟩
  have H_draws : Has l.prog w K mg base "_law_draws" ["_law_cell"] 1 spDraws := ⟨_, _, ok_draws F_draws n_range, m_draws, k_draws, b_draws⟩
  have H_partsOf : Has l.prog w K mg base "parts_of" ["term"] 1 spPartsOf := ⟨_, _, ok_partsOf F_partsOf n_zip m_FORMS hF, m_partsOf, k_partsOf, b_partsOf⟩
  have H_places : Has l.prog w K mg base "_law_places" [] 1 spPlaces := ⟨_, _, ok_places F_places, m_places, k_places, b_places⟩
  have H_parts : Has l.prog w K mg base "_law_parts" ["_law_a_term"] 2 spPartsOf := ⟨_, _, ok_parts F_parts H_places n_list, m_parts, k_parts, b_parts⟩
  have H_lpaths := paths_ok F_lpaths b_lpaths m_lpaths H_parts n_enumerate 19 (by decide)
  have H_placed : Has l.prog w K mg base "placed_parts" ["path", "term"] 2 spPlaced := ⟨_, _, ok_placed F_placed H_partsOf n_enumerate, m_placed, k_placed, b_placed⟩
  have O_ppaths := ok_pathsP F_ppaths H_placed
  have H_at : Has l.prog w K mg base "_law_at" ["_law_a_term", "_law_a_path"] 3 spAt := ⟨_, _, ok_at F_at H_parts, m_at, k_at, b_at⟩
  have H_whole : Has l.prog w K mg base "is_whole" ["thing"] 1 spWhole := ⟨_, _, ok_whole F_whole n_isinstance n_int n_bool, m_whole, k_whole, b_whole⟩
  have O_partAt := ok_partAt F_partAt H_partsOf H_whole n_len T mC nbC aI tI (ok_init FI n_LookupError vV) bI
  have H_partAt : HasX l.prog w K mg base "part_at" ["term", "path"] 4 (spPartAt C) := ⟨_, _, O_partAt, m_partAt, k_partAt, b_partAt⟩
  have H_refused : Has l.prog w K mg base "_law_refused" ["_law_a_term", "_law_a_path"] 5 spRef := ⟨_, _, ok_refused F_refused H_partAt n_isinstance n_LookupError mC mC2 mC3 xC TI TX nbC sC lC, m_refused, k_refused, b_refused⟩
  have H_right : Has l.prog w K mg base "_law_right" ["_law_dr"] 201 spRight := ⟨_, _, ok_right F_right H_next H_some H_lpaths ⟨_, _, O_ppaths, m_ppaths, k_ppaths, b_ppaths⟩ ⟨_, _, _, O_ppaths, m_ppaths, k_ppaths, kb_paths F_ppaths⟩ H_at H_partAt ⟨_, _, _, O_partAt, m_partAt, k_partAt, kb_partAt F_partAt⟩ H_parts H_refused n_range n_isinstance n_list n_len, m_right, k_right, b_right⟩
  exact ok_law F_law H_draws H_right n_range
theorem walk {l : PySem.W.OpenLaw} {q : Program} {loose : List Str} {XP : (Str → Option Value) → Heap → Prop} {YP : World → Heap → Prop} {d : DefRec} {K : Params → PySem.W.Frag} (hn : l.most = some 63) (hdf : d.params.defaults = [])
    (hY : ∀ (w : World) (h : Heap), YP w h → (K w.params).In h)
    (F : ∀ (w : World) (mg : Str → Option Value) (fa : Addr) (h : Heap), (K w.params).In h → h.Ns mainGlobals mg → mg d.name = some (.ref fa) →
      ∃ fd : FuncData, (∀ (s : Shared) (u : Value), BindsTo s fd ⟨[u], []⟩ [("_law_script", u)]) ∧ ∀ base : Heap, (K w.params).In base → base.Ns mainGlobals mg → FnOk l.prog w (K w.params) mg base CX0 202 fa fd ["_law_script"] (spLaw (K w.params))) :
    PySem.W.WalkO q loose XP YP l.row.toRowW d [] (fun f vs => PySem.call f vs) :=
  L2.walk_of (n := 63) (k := 202) (x := "_law_script") (CX := fun _ => CX0) (sp := fun w => spLaw (K w.params)) hn (by decide) hdf ⟨rfl, by decide, by decide⟩ hY F (fun _ _ a ns hl _ hS => ⟨a, ns, rfl, hS, hl, fun _ => rfl⟩) fun _ _ _ _ _ z => z
end Wp
set_option Elab.async false
open PySem PySem.W PyProof.Rows
set_option maxRecDepth 100000 in
set_option maxHeartbeats 0 in
theorem PySem.Challenge.cw_windpoints_k01_places_of_terms_holds : PySem.Challenge.rw_windpoints_k01_places_of_terms.Holds := by
  w_on; o_law; k_head; (case hw => w_witness2)
  k_fill
  refine Wp.walk (l := PySem.Challenge.rw_windpoints_k01_places_of_terms) rfl rfl (fun w h Y => PySem.W.kIn_of Y) ?F
  case F =>
    intro w mg fa h KX G hmg
    refine' Wp.all_mk KX G hmg ?wq_a_next ?wq_l_next ?wq_c_next ?wq_k_next ?wq_a_put ?wq_l_put ?wq_c_put ?wq_k_put ?wq_a_leaf ?wq_l_leaf ?wq_c_leaf ?wq_k_leaf ?wq_a_one ?wq_l_one ?wq_c_one ?wq_k_one ?wq_a_way ?wq_l_way ?wq_c_way ?wq_k_way ?wq_a_truth ?wq_l_truth ?wq_c_truth ?wq_k_truth ?wq_a_op ?wq_l_op ?wq_c_op ?wq_k_op ?wq_a_loop ?wq_l_loop ?wq_c_loop ?wq_k_loop ?wq_a_points ?wq_l_points ?wq_c_points ?wq_k_points ?wq_a_cells ?wq_l_cells ?wq_c_cells ?wq_k_cells ?wq_a_plain ?wq_l_plain ?wq_c_plain ?wq_k_plain ?wq_a_term ?wq_l_term ?wq_c_term ?wq_k_term ?wq_a_many ?wq_l_many ?wq_c_many ?wq_k_many ?wq_a_some ?wq_l_some ?wq_c_some ?wq_k_some ?wq_a_draws ?wq_l_draws ?wq_c_draws ?wq_k_draws ?wq_a_partsOf ?wq_l_partsOf ?wq_c_partsOf ?wq_k_partsOf ?wq_a_places ?wq_l_places ?wq_c_places ?wq_k_places ?wq_a_parts ?wq_l_parts ?wq_c_parts ?wq_k_parts ?wq_a_lpaths ?wq_l_lpaths ?wq_c_lpaths ?wq_k_lpaths ?wq_a_placed ?wq_l_placed ?wq_c_placed ?wq_k_placed ?wq_a_ppaths ?wq_l_ppaths ?wq_c_ppaths ?wq_k_ppaths ?wq_a_at ?wq_l_at ?wq_c_at ?wq_k_at ?wq_a_whole ?wq_l_whole ?wq_c_whole ?wq_k_whole ?wq_a_partAt ?wq_l_partAt ?wq_c_partAt ?wq_k_partAt ?wq_a_refused ?wq_l_refused ?wq_c_refused ?wq_k_refused ?wq_a_right ?wq_l_right ?wq_c_right ?wq_k_right ?wq_a_law ?wq_l_law ?wq_c_law ?wq_k_law ?wq_z_len ?wq_z_zip ?wq_z_range ?wq_z_isinstance ?wq_z_int ?wq_z_tuple ?wq_z_str ?wq_z_sum ?wq_z_list ?wq_z_enumerate ?wq_z_LookupError ?wq_z_bool ?wq_a_FORMS ?wq_l_FORMS ?wq_kl ?wq_e0 ?wq_g0 ?wq_v0 ?wq_e1 ?wq_g1 ?wq_v1 ?wq_e2 ?wq_g2 ?wq_v2 ?wq_e3 ?wq_g3 ?wq_v3 ?wq_e4 ?wq_g4 ?wq_v4 ?wq_e5 ?wq_g5 ?wq_v5 ?wq_e6 ?wq_g6 ?wq_v6 ?wq_e7 ?wq_g7 ?wq_v7 ?wq_e8 ?wq_g8 ?wq_v8 ?wq_e9 ?wq_g9 ?wq_v9 ?wq_e10 ?wq_g10 ?wq_v10 ?wq_e11 ?wq_g11 ?wq_v11 ?wq_e12 ?wq_g12 ?wq_v12 ?wq_e13 ?wq_g13 ?wq_v13 ?wq_e14 ?wq_g14 ?wq_v14 ?wq_e15 ?wq_g15 ?wq_v15 ?wq_e16 ?wq_g16 ?wq_v16 ?wq_e17 ?wq_g17 ?wq_v17 ?wq_e18 ?wq_g18 ?wq_v18 ?wq_e19 ?wq_g19 ?wq_v19 ?wq_e20 ?wq_g20 ?wq_v20 ?wq_e21 ?wq_g21 ?wq_v21 ?wq_e22 ?wq_g22 ?wq_v22 ?wq_e23 ?wq_g23 ?wq_v23 ?wq_e24 ?wq_g24 ?wq_v24 ?wq_aC ?wq_aC2 ?wq_aC3 ?wq_xL ?wq_saC ?wq_gaC ?wq_ggC ?wq_nbC ?wq_aI ?wq_tI ?wq_lI ?wq_cI ?wq_kI ?wq_kC ?wq_eC ?wq_tC ?wq_hdC ?wq_clC ?wq_eC2 ?wq_clC2 ?wq_tC2 ?wq_uC2 ?wq_eC3 ?wq_clC3 ?wq_tC3 ?wq_uC3 ?wq_uC ?wq_uL ?wq_hcC ?wq_hnC ?wq_htC ?wq_hmC ?wq_vV
    (case wq_a_next => k_is)
    (case wq_l_next => k_is)
    (case wq_c_next => k_is)
    (case wq_k_next => k_is)
    (case wq_a_put => k_is)
    (case wq_l_put => k_is)
    (case wq_c_put => k_is)
    (case wq_k_put => k_is)
    (case wq_a_leaf => k_is)
    (case wq_l_leaf => k_is)
    (case wq_c_leaf => k_is)
    (case wq_k_leaf => k_is)
    (case wq_a_one => k_is)
    (case wq_l_one => k_is)
    (case wq_c_one => k_is)
    (case wq_k_one => k_is)
    (case wq_a_way => k_is)
    (case wq_l_way => k_is)
    (case wq_c_way => k_is)
    (case wq_k_way => k_is)
    (case wq_a_truth => k_is)
    (case wq_l_truth => k_is)
    (case wq_c_truth => k_is)
    (case wq_k_truth => k_is)
    (case wq_a_op => k_is)
    (case wq_l_op => k_is)
    (case wq_c_op => k_is)
    (case wq_k_op => k_is)
    (case wq_a_loop => k_is)
    (case wq_l_loop => k_is)
    (case wq_c_loop => k_is)
    (case wq_k_loop => k_is)
    (case wq_a_points => k_is)
    (case wq_l_points => k_is)
    (case wq_c_points => k_is)
    (case wq_k_points => k_is)
    (case wq_a_cells => k_is)
    (case wq_l_cells => k_is)
    (case wq_c_cells => k_is)
    (case wq_k_cells => k_is)
    (case wq_a_plain => k_is)
    (case wq_l_plain => k_is)
    (case wq_c_plain => k_is)
    (case wq_k_plain => k_is)
    (case wq_a_term => k_is)
    (case wq_l_term => k_is)
    (case wq_c_term => k_is)
    (case wq_k_term => k_is)
    (case wq_a_many => k_is)
    (case wq_l_many => k_is)
    (case wq_c_many => k_is)
    (case wq_k_many => k_is)
    (case wq_a_some => k_is)
    (case wq_l_some => k_is)
    (case wq_c_some => k_is)
    (case wq_k_some => k_is)
    (case wq_a_draws => k_is)
    (case wq_l_draws => k_is)
    (case wq_c_draws => k_is)
    (case wq_k_draws => k_is)
    (case wq_a_partsOf => k_is)
    (case wq_l_partsOf => k_is)
    (case wq_c_partsOf => k_is)
    (case wq_k_partsOf => k_is)
    (case wq_a_places => k_is)
    (case wq_l_places => k_is)
    (case wq_c_places => k_is)
    (case wq_k_places => k_is)
    (case wq_a_parts => k_is)
    (case wq_l_parts => k_is)
    (case wq_c_parts => k_is)
    (case wq_k_parts => k_is)
    (case wq_a_lpaths => k_is)
    (case wq_l_lpaths => k_is)
    (case wq_c_lpaths => k_is)
    (case wq_k_lpaths => k_is)
    (case wq_a_placed => k_is)
    (case wq_l_placed => k_is)
    (case wq_c_placed => k_is)
    (case wq_k_placed => k_is)
    (case wq_a_ppaths => k_is)
    (case wq_l_ppaths => k_is)
    (case wq_c_ppaths => k_is)
    (case wq_k_ppaths => k_is)
    (case wq_a_at => k_is)
    (case wq_l_at => k_is)
    (case wq_c_at => k_is)
    (case wq_k_at => k_is)
    (case wq_a_whole => k_is)
    (case wq_l_whole => k_is)
    (case wq_c_whole => k_is)
    (case wq_k_whole => k_is)
    (case wq_a_partAt => k_is)
    (case wq_l_partAt => k_is)
    (case wq_c_partAt => k_is)
    (case wq_k_partAt => k_is)
    (case wq_a_refused => k_is)
    (case wq_l_refused => k_is)
    (case wq_c_refused => k_is)
    (case wq_k_refused => k_is)
    (case wq_a_right => k_is)
    (case wq_l_right => k_is)
    (case wq_c_right => k_is)
    (case wq_k_right => k_is)
    (case wq_a_law => k_is)
    (case wq_l_law => k_is)
    (case wq_c_law => k_is)
    (case wq_k_law => k_is)
    (case wq_z_len => k_is)
    (case wq_z_zip => k_is)
    (case wq_z_range => k_is)
    (case wq_z_isinstance => k_is)
    (case wq_z_int => k_is)
    (case wq_z_tuple => k_is)
    (case wq_z_str => k_is)
    (case wq_z_sum => k_is)
    (case wq_z_list => k_is)
    (case wq_z_enumerate => k_is)
    (case wq_z_LookupError => k_is)
    (case wq_z_bool => k_is)
    (case wq_a_FORMS => k_is)
    (case wq_l_FORMS => k_is)
    (case wq_kl => repeat (first | exact trivial | refine ⟨⟨_, _, rfl, rfl⟩, ?_⟩))
    (case wq_e0 => k_is)
    (case wq_g0 => k_is)
    (case wq_v0 => rfl)
    (case wq_e1 => k_is)
    (case wq_g1 => k_is)
    (case wq_v1 => rfl)
    (case wq_e2 => k_is)
    (case wq_g2 => k_is)
    (case wq_v2 => rfl)
    (case wq_e3 => k_is)
    (case wq_g3 => k_is)
    (case wq_v3 => rfl)
    (case wq_e4 => k_is)
    (case wq_g4 => k_is)
    (case wq_v4 => rfl)
    (case wq_e5 => k_is)
    (case wq_g5 => k_is)
    (case wq_v5 => rfl)
    (case wq_e6 => k_is)
    (case wq_g6 => k_is)
    (case wq_v6 => rfl)
    (case wq_e7 => k_is)
    (case wq_g7 => k_is)
    (case wq_v7 => rfl)
    (case wq_e8 => k_is)
    (case wq_g8 => k_is)
    (case wq_v8 => rfl)
    (case wq_e9 => k_is)
    (case wq_g9 => k_is)
    (case wq_v9 => rfl)
    (case wq_e10 => k_is)
    (case wq_g10 => k_is)
    (case wq_v10 => rfl)
    (case wq_e11 => k_is)
    (case wq_g11 => k_is)
    (case wq_v11 => rfl)
    (case wq_e12 => k_is)
    (case wq_g12 => k_is)
    (case wq_v12 => rfl)
    (case wq_e13 => k_is)
    (case wq_g13 => k_is)
    (case wq_v13 => rfl)
    (case wq_e14 => k_is)
    (case wq_g14 => k_is)
    (case wq_v14 => rfl)
    (case wq_e15 => k_is)
    (case wq_g15 => k_is)
    (case wq_v15 => rfl)
    (case wq_e16 => k_is)
    (case wq_g16 => k_is)
    (case wq_v16 => rfl)
    (case wq_e17 => k_is)
    (case wq_g17 => k_is)
    (case wq_v17 => rfl)
    (case wq_e18 => k_is)
    (case wq_g18 => k_is)
    (case wq_v18 => rfl)
    (case wq_e19 => k_is)
    (case wq_g19 => k_is)
    (case wq_v19 => rfl)
    (case wq_e20 => k_is)
    (case wq_g20 => k_is)
    (case wq_v20 => rfl)
    (case wq_e21 => k_is)
    (case wq_g21 => k_is)
    (case wq_v21 => rfl)
    (case wq_e22 => k_is)
    (case wq_g22 => k_is)
    (case wq_v22 => rfl)
    (case wq_e23 => k_is)
    (case wq_g23 => k_is)
    (case wq_v23 => rfl)
    (case wq_e24 => k_is)
    (case wq_g24 => k_is)
    (case wq_v24 => rfl)
    (case wq_aC => k_is)
    (case wq_aC2 => k_is)
    (case wq_aC3 => k_is)
    (case wq_xL => k_is)
    (case wq_saC => k_is)
    (case wq_gaC => k_is)
    (case wq_ggC => k_is)
    (case wq_nbC => k_is)
    (case wq_aI => k_is)
    (case wq_tI => k_is)
    (case wq_lI => k_is)
    (case wq_cI => k_is)
    (case wq_kI => k_is)
    (case wq_kC => k_is)
    (case wq_eC => k_is)
    (case wq_tC => k_is)
    (case wq_hdC => k_is)
    (case wq_clC => k_is)
    (case wq_eC2 => k_is)
    (case wq_clC2 => k_is)
    (case wq_tC2 => k_is)
    (case wq_uC2 => first | rfl | k_is)
    (case wq_eC3 => k_is)
    (case wq_clC3 => k_is)
    (case wq_tC3 => k_is)
    (case wq_uC3 => first | rfl | k_is)
    (case wq_uC => first | rfl | k_is)
    (case wq_uL => first | k_is | rfl)
    (case wq_hcC => k_is)
    (case wq_hnC => k_is)
    (case wq_htC => k_is)
    (case wq_hmC => k_is)
    (case wq_vV => k_is)
