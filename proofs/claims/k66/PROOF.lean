import PyProof.Rows.All
import Wide.All
import OpenK.AllK
import Wide.FinOn
import HandS.ForMost
import HandS.Wide
import HandS.Walk
import PyProof.Draws
import HandS.Star
import HandS.WrittenGet
import HandS.Text
import KE.KDictList
import HandS.IsInst
import HandS.Style
import HandS.Zip
import HandS.TupAny
import PySem.Challenge.RW_windpoints_k66_terms_written_and_read
import HandS.ForExc
import HandS.ExcInit
import HandS.ExcField
import HandS.ExcIs
import KE.KExcInit
import KE.KTryMore
import PyProof.ExcBaseAll.LookupError
import KE.KExcIs
import KE.KIsAll
import KE.IntTextText
import PyProof.ReprLen
import HandS.RaiseMore
import HandS.Defaults
import HandS.MakeKwOnly
set_option Elab.async false
set_option linter.all false
set_option maxRecDepth 100000
namespace Wp
open PySem L2

/-! ### heaps that stay but for the draws -/
def Gx (a : Addr) (H H' : Hp) : Prop := ∀ b o, b ≠ a → H b = some o → H' b = some o
theorem Gx.refl (a : Addr) (H : Hp) : Gx a H H := fun _ _ _ h => h
theorem Gx.trans {a : Addr} {H H1 H2 : Hp} (x : Gx a H H1) (y : Gx a H1 H2) : Gx a H H2 := fun b o n h => y b o n (x b o n h)
theorem Gx.new {a p : Addr} {H : Hp} {o : HO} (h : H p = none) : Gx a H (upd H p o) := fun b u _ e => by
  rw [upd_ne (ne_of_none e h)]
  exact e
theorem Gx.grow {a p : Addr} {H H' : Hp} {o : HO} (g : Gx a H H') (h : H p = none) : Gx a H (upd H' p o) := fun b u n e => by
  rw [upd_ne (ne_of_none e h)]
  exact g b u n e
/-- the draws at a, at most n of them taken -/
def Dr (H : Hp) (a : Addr) (n : Nat) : Prop := ∃ (x c : Int) (b : Bool), H a = some (.lst [.int x, .int c, .bl b]) ∧ 0 ≤ x ∧ 0 ≤ c ∧ c ≤ (n : Int)
theorem Dr.mono {H : Hp} {a : Addr} {n m : Nat} (d : Dr H a n) (h : n ≤ m) : Dr H a m := by
  obtain ⟨x, c, b, e, h0, h1, h2⟩ := d
  exact ⟨x, c, b, e, h0, h1, by omega⟩
theorem Dr.ne {H : Hp} {a p : Addr} {n : Nat} (d : Dr H a n) (h : H p = none) : p ≠ a := by
  obtain ⟨x, c, b, e, _⟩ := d
  exact fun z => by rw [z, e] at h; cases h
theorem Dr.upd {H : Hp} {a p : Addr} {n : Nat} {o : HO} (d : Dr H a n) (h : p ≠ a) : Dr (upd H p o) a n := by
  obtain ⟨x, c, b, e, q⟩ := d
  exact ⟨x, c, b, by rw [upd_ne (Ne.symm h)]; exact e, q⟩
def big : Nat := 1000000000000

/-! ### types: what is known of a value, whatever the draws do -/
structure Ty (a : Addr) where
  p : V → Hp → Prop
  st : ∀ v H H', Gx a H H' → p v H → p v H'
def tyI (a : Addr) (f : Int → Prop) : Ty a := ⟨fun v _ => ∃ i, v = .int i ∧ f i, fun _ _ _ _ h => h⟩
def tyB (a : Addr) : Ty a := ⟨fun v _ => ∃ b, v = .bl b, fun _ _ _ _ h => h⟩
def tyS (a : Addr) (f : Str → Prop) : Ty a := ⟨fun v _ => ∃ z, v = .str z ∧ f z, fun _ _ _ _ h => h⟩
def tyIs (a : Addr) (x : V) : Ty a := ⟨fun v _ => v = x, fun _ _ _ _ h => h⟩
/-- a list of so many things of a type -/
def tyL (a : Addr) (k : Nat) (R : Ty a) : Ty a := ⟨fun v H => ∃ p xs, v = .ref p ∧ p ≠ a ∧ H p = some (.lst xs) ∧ xs.length = k ∧ ∀ x ∈ xs, R.p x H,
  fun v H H' g h => by
    obtain ⟨p, xs, e, n, q, l, t⟩ := h
    exact ⟨p, xs, e, n, g p _ n q, l, fun x hx => R.st x H H' g (t x hx)⟩⟩
/-- a tuple of so many things of a type -/
def tyU (a : Addr) (f : Nat → Prop) (R : Ty a) : Ty a := ⟨fun v H => ∃ p xs, v = .ref p ∧ p ≠ a ∧ H p = some (.tup xs) ∧ f xs.length ∧ ∀ x ∈ xs, R.p x H,
  fun v H H' g h => by
    obtain ⟨p, xs, e, n, q, l, t⟩ := h
    exact ⟨p, xs, e, n, g p _ n q, l, fun x hx => R.st x H H' g (t x hx)⟩⟩
/-- things of types, one by one -/
inductive TAll (a : Addr) (H : Hp) : List (Ty a) → List V → Prop
  | nil : TAll a H [] []
  | cons {P : Ty a} {Ps : List (Ty a)} {v : V} {vs : List V} : P.p v H → TAll a H Ps vs → TAll a H (P :: Ps) (v :: vs)
theorem TAll.st {a : Addr} {H H' : Hp} {Ps : List (Ty a)} {vs : List V} (h : TAll a H Ps vs) (g : Gx a H H') : TAll a H' Ps vs := by
  induction h with
  | nil => exact .nil
  | cons p _ ih => exact .cons (Ty.st _ _ _ _ g p) ih
theorem TAll.len {a : Addr} {H : Hp} {Ps : List (Ty a)} {vs : List V} (h : TAll a H Ps vs) : vs.length = Ps.length := by
  induction h with
  | nil => rfl
  | cons _ _ ih => rw [List.length_cons, List.length_cons, ih]
theorem TAll.rep {a : Addr} {H : Hp} {R : Ty a} : ∀ {k : Nat} {vs : List V}, TAll a H (List.replicate k R) vs → ∀ x ∈ vs, R.p x H
  | 0, _, h, x, hx => by
    cases h
    cases hx
  | k + 1, _, h, x, hx => by
    cases h with
    | cons p r =>
      rcases List.mem_cons.mp hx with e | e
      · rw [e]; exact p
      · exact TAll.rep r x e
/-- the slots and their types -/
structure Cty (a : Addr) (G : List (Option (Ty a))) (σ : L2.St) (H : Hp) : Prop where
  len : σ.length = G.length
  at_ : ∀ (i : Nat) (P : Ty a), G[i]? = some (some P) → ∃ v, σ[i]? = some (some v) ∧ P.p v H
theorem Cty.st {a : Addr} {G : List (Option (Ty a))} {σ : L2.St} {H H' : Hp} (c : Cty a G σ H) (g : Gx a H H') : Cty a G σ H' := ⟨c.len, fun i P h => by
  obtain ⟨v, e, p⟩ := c.at_ i P h
  exact ⟨v, e, P.st v H H' g p⟩⟩
theorem Cty.set {a : Addr} {G : List (Option (Ty a))} {σ : L2.St} {H : Hp} {i : Nat} {P : Ty a} {v : V} (c : Cty a G σ H) (h : P.p v H) : Cty a (G.set i (some P)) (σ.set i (some v)) H := ⟨by rw [List.length_set, List.length_set, c.len], fun j R e => by
  by_cases hij : i = j
  · subst hij
    by_cases hl : i < G.length
    · rw [List.getElem?_set_self hl] at e
      cases e
      exact ⟨v, List.getElem?_set_self (by rw [c.len]; exact hl), h⟩
    · rw [List.getElem?_eq_none_iff.mpr (by rw [List.length_set]; omega)] at e
      cases e
  · rw [List.getElem?_set_ne hij] at e
    obtain ⟨u, q, p⟩ := c.at_ j R e
    exact ⟨u, by rw [List.getElem?_set_ne hij]; exact q, p⟩⟩
theorem Cty.wipe {a : Addr} {G : List (Option (Ty a))} {σ : L2.St} {H : Hp} (c : Cty a G σ H) : ∀ (vs : List Nat), (∀ j ∈ vs, ∀ P, G[j]? ≠ some (some P)) → Cty a G (wipe σ vs) H
  | [], _ => c
  | j :: vs, h => by
    have ih := c.wipe vs fun k hk => h k (List.mem_cons_of_mem _ hk)
    refine ⟨by rw [wipe_length]; exact c.len, fun i P e => ?_⟩
    obtain ⟨v, q, p⟩ := ih.at_ i P e
    have hij : j ≠ i := fun z => h j List.mem_cons_self P (by rw [z]; exact e)
    exact ⟨v, by unfold L2.wipe; rw [List.getElem?_set_ne hij]; exact q, p⟩
theorem ctx_start {a : Addr} {H : Hp} {N : List Str} {Ps : List (Ty a)} {vs : List V} (h : TAll a H Ps vs) (hl : Ps.length ≤ N.length) : Cty a (Ps.map some ++ List.replicate (N.length - Ps.length) none) (L2.start N vs) H := by
  have e := h.len
  refine ⟨?_, fun i P q => ?_⟩
  · unfold L2.start
    rw [List.length_append, List.length_append, List.length_map, List.length_map, List.length_replicate, List.length_replicate, e]
  · have hi : i < Ps.length := by
      by_cases hi : i < Ps.length
      · exact hi
      · rw [List.getElem?_append_right (by rw [List.length_map]; omega), List.getElem?_replicate] at q
        split at q <;> cases q
    rw [List.getElem?_append_left (by rw [List.length_map]; exact hi), List.getElem?_map] at q
    have key : ∀ {Ps : List (Ty a)} {vs : List V}, TAll a H Ps vs → ∀ (i : Nat) (P : Ty a), (Ps[i]?).map some = some (some P) → ∃ v, vs[i]? = some v ∧ P.p v H := by
      intro Ps vs h
      induction h with
      | nil => intro i P q; simp at q
      | cons p _ ih =>
        intro i P q
        cases i with
        | zero =>
          simp at q
          subst q
          exact ⟨_, rfl, p⟩
        | succ i => exact ih i P (by simpa using q)
    obtain ⟨v, ev, p⟩ := key h i P q
    refine ⟨v, ?_, p⟩
    unfold L2.start
    rw [List.getElem?_append_left (by rw [List.length_map, e]; exact hi), List.getElem?_map, ev] <;> rfl

/-! ### judgements -/
section
variable {a : Addr} {G : List (Option (Ty a))}
/-- te takes at most m draws and comes to a P -/
def GE (a : Addr) (m : Nat) (G : List (Option (Ty a))) (te : TE) (P : Ty a) : Prop :=
  ∀ (n : Nat) (σ : L2.St) (H : Hp), n + m ≤ big → Cty a G σ H → Dr H a n → ∀ Q : VK, (∀ v H', Gx a H H' → Dr H' a (n + m) → P.p v H' → Q v H') → te σ H Q
def GT (a : Addr) (m : Nat) (G : List (Option (Ty a))) (tt : TT) : Prop :=
  ∀ (n : Nat) (σ : L2.St) (H : Hp), n + m ≤ big → Cty a G σ H → Dr H a n → ∀ Q : Bool → Hp → Prop, (∀ b H', Gx a H H' → Dr H' a (n + m) → Q b H') → tt σ H Q
def GA (a : Addr) (m : Nat) (G : List (Option (Ty a))) (ta : TA) (Ps : List (Ty a)) : Prop :=
  ∀ (n : Nat) (σ : L2.St) (H : Hp), n + m ≤ big → Cty a G σ H → Dr H a n → ∀ Q : List V → Hp → Prop, (∀ vs H', Gx a H H' → Dr H' a (n + m) → TAll a H' Ps vs → Q vs H') → ta σ H Q
/-- a statement: it returns an R, or goes on with the slots of G' (none: it never does) -/
def CtyO (a : Addr) : Option (List (Option (Ty a))) → L2.St → Hp → Prop
  | none, _, _ => False
  | some G, σ, H => Cty a G σ H
def GS (a : Addr) (m : Nat) (G : List (Option (Ty a))) (ts : TS) (G' : Option (List (Option (Ty a)))) (R : Ty a) : Prop :=
  ∀ (n : Nat) (σ : L2.St) (H : Hp) (D : Ends), n + m ≤ big → Cty a G σ H → Dr H a n → (∀ v H', Gx a H H' → Dr H' a (n + m) → R.p v H' → D.rt v H') → (∀ σ' H', Gx a H H' → Dr H' a (n + m) → CtyO a G' σ' H' → D.nx σ' H') → ts D σ H

theorem g_var {i : Nat} {P : Ty a} (h : G[i]? = some (some P)) : GE a 0 G (tVar i) P := fun n σ H _ c d Q q => by
  obtain ⟨v, e, p⟩ := c.at_ i P h
  exact ⟨v, e, q v H (Gx.refl a H) d p⟩
theorem g_c (v : V) : GE a 0 G (tC v) (tyIs a v) := fun n σ H _ c d Q q => q v H (Gx.refl a H) d rfl
theorem GE.sub {m : Nat} {te : TE} {P R : Ty a} (h : GE a m G te P) (w : ∀ v H, P.p v H → R.p v H) : GE a m G te R := fun n σ H hb c d Q q => h n σ H hb c d Q fun v H' g d' p => q v H' g d' (w v H' p)
theorem GE.up {m m' : Nat} {te : TE} {P : Ty a} (h : GE a m G te P) (w : m ≤ m') : GE a m' G te P := fun n σ H hb c d Q q => h n σ H (by omega) c d Q fun v H' g d' p => q v H' g (d'.mono (by omega)) p
theorem g_op {m1 m2 : Nat} {r : R2} {ta tb : TE} {P Q R : Ty a} (ha : GE a m1 G ta P) (hb : GE a m2 G tb Q) (hr : ∀ x y H, P.p x H → Q.p y H → ∀ n, Dr H a n → ∀ K : VK, (∀ v H', Gx a H H' → Dr H' a n → R.p v H' → K v H') → r x y H K) : GE a (m1 + m2) G (tOp r ta tb) R :=
  fun n σ H hn c d K q => ha n σ H (by omega) c d _ fun x H1 g1 d1 p1 => hb (n + m1) σ H1 (by omega) (c.st g1) d1 _ fun y H2 g2 d2 p2 =>
    hr x y H2 (P.st x H1 H2 g2 p1) p2 _ d2 K fun v H3 g3 d3 p3 => q v H3 ((g1.trans g2).trans g3) (d3.mono (by omega)) p3
/-- ints -/
theorem g_I0 {m1 m2 : Nat} {ta tb : TE} {f : Int → Int → Int} {p q r : Int → Prop} (ha : GE a m1 G ta (tyI a p)) (hb : GE a m2 G tb (tyI a q)) (hr : ∀ i j, p i → q j → r (f i j)) : GE a (m1 + m2) G (tOp (rI0 fun i j => .int (f i j)) ta tb) (tyI a r) :=
  g_op ha hb fun x y H hx hy n d K k => by
    obtain ⟨i, rfl, pi⟩ := hx
    obtain ⟨j, rfl, pj⟩ := hy
    exact ⟨i, j, rfl, rfl, k _ H (Gx.refl a H) d ⟨_, rfl, hr i j pi pj⟩⟩
theorem g_I {m1 m2 : Nat} {ta tb : TE} {C : Int → Int → Prop} {f : Int → Int → Int} {p q r : Int → Prop} (ha : GE a m1 G ta (tyI a p)) (hb : GE a m2 G tb (tyI a q)) (hc : ∀ i j, p i → q j → C i j) (hr : ∀ i j, p i → q j → r (f i j)) : GE a (m1 + m2) G (tOp (rI C fun i j => .int (f i j)) ta tb) (tyI a r) :=
  g_op ha hb fun x y H hx hy n d K k => by
    obtain ⟨i, rfl, pi⟩ := hx
    obtain ⟨j, rfl, pj⟩ := hy
    exact ⟨i, j, rfl, rfl, hc i j pi pj, k _ H (Gx.refl a H) d ⟨_, rfl, hr i j pi pj⟩⟩
theorem g_int (i : Int) : GE a 0 G (tC (.int i)) (tyI a fun j => j = i) := fun n σ H _ c d Q q => q _ H (Gx.refl a H) d ⟨i, rfl, rfl⟩
theorem g_str (z : Str) : GE a 0 G (tC (.str z)) (tyS a fun y => y = z) := fun n σ H _ c d Q q => q _ H (Gx.refl a H) d ⟨z, rfl, rfl⟩
/-- e % k, k written -/
theorem g_mod {m1 : Nat} {ta : TE} {k : Int} {p : Int → Prop} (ha : GE a m1 G ta (tyI a p)) (hk : 0 < k) : GE a (m1 + 0) G (tOp (rI (fun _ j => 0 < j) fun i j => .int (i % j)) ta (tC (.int k))) (tyI a fun i => 0 ≤ i ∧ i < k) :=
  g_I ha (g_int k) (fun i j _ e => by rw [e]; exact hk) fun i j _ e => by rw [e]; exact ⟨Int.emod_nonneg _ (by omega), Int.emod_lt_of_pos _ hk⟩
theorem g_div {m1 : Nat} {ta : TE} {k : Int} {p r : Int → Prop} (ha : GE a m1 G ta (tyI a p)) (hk : 0 < k ∧ k < 1073741824) (hr : ∀ i, p i → r (i / k)) : GE a (m1 + 0) G (tOp (rI CDiv fun i j => .int (i / j)) ta (tC (.int k))) (tyI a r) :=
  g_I ha (g_int k) (fun i j _ e => by rw [e]; exact hk) fun i j pi e => by rw [e]; exact hr i pi
/-- tests -/
theorem g_cmpI {m1 m2 : Nat} {ta tb : TE} {f : Int → Int → Bool} {p q : Int → Prop} (ha : GE a m1 G ta (tyI a p)) (hb : GE a m2 G tb (tyI a q)) : GT a (m1 + m2) G (tTest (tOp (rI0 fun i j => .bl (f i j)) ta tb)) :=
  fun n σ H hn c d K k => ha n σ H (by omega) c d _ fun x H1 g1 d1 p1 => hb (n + m1) σ H1 (by omega) (c.st g1) d1 _ fun y H2 g2 d2 p2 => by
    obtain ⟨i, rfl, pi⟩ := p1
    obtain ⟨j, rfl, pj⟩ := p2
    exact ⟨i, j, rfl, rfl, _, rfl, k _ H2 (g1.trans g2) (d2.mono (by omega))⟩
theorem g_eqI {m1 m2 : Nat} {ta tb : TE} {p q : Int → Prop} (ha : GE a m1 G ta (tyI a p)) (hb : GE a m2 G tb (tyI a q)) : GE a (m1 + m2) G (tOp rEq ta tb) (tyB a) :=
  g_op ha hb fun x y H hx hy n d K k => by
    obtain ⟨i, rfl, _⟩ := hx
    obtain ⟨j, rfl, _⟩ := hy
    exact ⟨rfl, k _ H (Gx.refl a H) d ⟨_, rfl⟩⟩
theorem g_test {m : Nat} {te : TE} (h : GE a m G te (tyB a)) : GT a m G (tTest te) := fun n σ H hn c d K k => h n σ H hn c d _ fun v H' g d' p => by
  obtain ⟨b, rfl⟩ := p
  exact ⟨b, rfl, k b H' g d'⟩
theorem g_andT {m1 m2 : Nat} {t u : TT} (h1 : GT a m1 G t) (h2 : GT a m2 G u) : GT a (m1 + m2) G (tAnd t u) := fun n σ H hn c d K k => h1 n σ H (by omega) c d _ fun b H1 g1 d1 => by
  cases b with
  | true =>
    show u σ H1 K
    exact h2 (n + m1) σ H1 (by omega) (c.st g1) d1 K fun b H2 g2 d2 => k b H2 (g1.trans g2) (d2.mono (by omega))
  | false =>
    show K false H1
    exact k false H1 g1 (d1.mono (by omega))
theorem g_andV {m1 m2 : Nat} {ta tb : TE} (h1 : GE a m1 G ta (tyB a)) (h2 : GE a m2 G tb (tyB a)) : GE a (m1 + m2) G (tAndV ta tb) (tyB a) := fun n σ H hn c d K k => h1 n σ H (by omega) c d _ fun v H1 g1 d1 p => by
  obtain ⟨b, rfl⟩ := p
  refine ⟨b, rfl, ?_⟩
  cases b with
  | true =>
    show tb σ H1 K
    exact h2 (n + m1) σ H1 (by omega) (c.st g1) d1 K fun b H2 g2 d2 p2 => k b H2 (g1.trans g2) (d2.mono (by omega)) p2
  | false =>
    show K (.bl false) H1
    exact k _ H1 g1 (d1.mono (by omega)) ⟨_, rfl⟩
/-- arguments -/
theorem ga_nil : GA a 0 G tNil [] := fun n σ H _ c d Q q => q [] H (Gx.refl a H) d .nil
theorem ga_cons {m1 m2 : Nat} {te : TE} {ta : TA} {P : Ty a} {Ps : List (Ty a)} (h : GE a m1 G te P) (hr : GA a m2 G ta Ps) : GA a (m1 + m2) G (tCons te ta) (P :: Ps) := fun n σ H hn c d Q q =>
  h n σ H (by omega) c d _ fun v H1 g1 d1 p => hr (n + m1) σ H1 (by omega) (c.st g1) d1 _ fun vs H2 g2 d2 ps => q (v :: vs) H2 (g1.trans g2) (d2.mono (by omega)) (.cons (P.st v H1 H2 g2 p) ps)
/-- (e, ..): R is what a new tuple of these is -/
theorem g_tup {m : Nat} {ta : TA} {Ps : List (Ty a)} {R : Ty a} (h : GA a m G ta Ps) (hR : ∀ vs H p, p ≠ a → H p = some (.tup vs) → TAll a H Ps vs → R.p (.ref p) H) (hl : Ps.length ≤ 1000 := by simp) : GE a m G (tTup ta) R := fun n σ H hn c d Q q =>
  h n σ H hn c d _ fun vs H1 g1 d1 ps => ⟨by rw [ps.len]; exact Nat.le_of_lt (small1000 hl), fun p hp => q _ _ (g1.trans (Gx.new hp)) (d1.upd (d1.ne hp)) (hR vs _ p (d1.ne hp) upd_same (ps.st (Gx.new hp)))⟩
theorem g_lst {m : Nat} {ta : TA} {k : Nat} {R : Ty a} (h : GA a m G ta (List.replicate k R)) (hl : k ≤ 1000) : GE a m G (tLst ta) (tyL a k R) := fun n σ H hn c d Q q =>
  h n σ H hn c d _ fun vs H1 g1 d1 ps => ⟨by rw [ps.len, List.length_replicate]; exact Nat.le_of_lt (small1000 hl), fun p hp => q _ _ (g1.trans (Gx.new hp)) (d1.upd (d1.ne hp)) ⟨p, vs, rfl, d1.ne hp, upd_same, by rw [ps.len, List.length_replicate], fun x hx => R.st x H1 _ (Gx.new hp) (ps.rep x hx)⟩⟩
/-- xs + ys of lists -/
theorem g_cat {m1 m2 k l : Nat} {ta tb : TE} {R : Ty a} (ha : GE a m1 G ta (tyL a k R)) (hb : GE a m2 G tb (tyL a l R)) (hl : k + l ≤ 1000) : GE a (m1 + m2) G (tOp rCat ta tb) (tyL a (k + l) R) :=
  g_op ha hb fun x y H hx hy n d K q => by
    obtain ⟨p, xs, rfl, np, hp, lp, tp⟩ := hx
    obtain ⟨s, ys, rfl, ns, hs, ls, ts⟩ := hy
    refine ⟨p, s, xs, ys, rfl, rfl, hp, hs, by rw [lp, ls]; exact Nat.le_of_lt (small1000 hl), fun t ht => q _ _ (Gx.new ht) (d.upd (d.ne ht)) ⟨t, xs ++ ys, rfl, d.ne ht, upd_same, by rw [List.length_append, lp, ls], fun x hx => R.st x H _ (Gx.new ht) ?_⟩⟩
    rcases List.mem_append.mp hx with z | z
    · exact tp x z
    · exact ts x z
theorem at_in {xs : List V} {i : Int} (h0 : 0 ≤ i) (h1 : i < (xs.length : Int)) : ∃ v, atI xs i = some v ∧ v ∈ xs := by
  have hi : i.toNat < xs.length := by omega
  refine ⟨xs[i.toNat], at_of (j := i.toNat) (by omega) (List.getElem?_eq_getElem hi), List.getElem_mem hi⟩
/-- xs[i] -/
theorem g_ixL {K : PySem.W.Frag} {m1 m2 k : Nat} {ta tb : TE} {R : Ty a} {p : Int → Prop} (ha : GE a m1 G ta (tyL a k R)) (hb : GE a m2 G tb (tyI a p)) (hp : ∀ i, p i → 0 ≤ i ∧ i < (k : Int)) : GE a (m1 + m2) G (tOp (rIxL K) ta tb) R :=
  g_op ha hb fun x y H hx hy n d Kk q => by
    obtain ⟨s, xs, rfl, np, hs, ls, ts⟩ := hx
    obtain ⟨i, rfl, pi⟩ := hy
    have hi := hp i pi
    obtain ⟨v, ev, mv⟩ := at_in (xs := xs) (i := i) hi.1 (by rw [ls]; exact hi.2)
    exact ⟨s, xs, i, v, rfl, rfl, SqL.of hs, ev, q v H (Gx.refl a H) d (ts v mv)⟩
/-- 'abc'[i] -/
theorem g_ixS {m2 : Nat} {tb : TE} {z : Str} {p : Int → Prop} {f : Str → Prop} (hb : GE a m2 G tb (tyI a p)) (hz : z.length ≤ 1000) (hp : ∀ i, p i → 0 ≤ i ∧ i < (z.cps.toList.length : Int)) (hf : ∀ c ∈ z.cps.toList, f ⟨#[c]⟩) : GE a (0 + m2) G (tOp rIxS (tC (.str z)) tb) (tyS a f) :=
  g_op (g_str z) hb fun x y H hx hy n d Kk q => by
    obtain ⟨z', hx1, hx2⟩ := hx
    rw [hx2] at hx1
    subst hx1
    obtain ⟨i, rfl, pi⟩ := hy
    have hi := hp i pi
    have hj : i.toNat < (z.cps.toList).length := by omega
    refine ⟨z, i, z.cps.toList[i.toNat], rfl, rfl, Nat.le_of_lt (small1000 hz), ?_, q _ H (Gx.refl a H) d ⟨_, rfl, hf _ (List.getElem_mem hj)⟩⟩
    have e : i = ((i.toNat : Nat) : Int) := by omega
    have h2 := atI_nat (List.getElem?_eq_getElem hj)
    rw [← e] at h2
    exact h2
/-- s + t of texts -/
theorem g_addS {m1 m2 : Nat} {ta tb : TE} {p q r : Str → Prop} (ha : GE a m1 G ta (tyS a p)) (hb : GE a m2 G tb (tyS a q)) (hl : ∀ i j, p i → q j → i.length + j.length ≤ 1000) (hr : ∀ i j, p i → q j → r (i ++ j)) : GE a (m1 + m2) G (tOp (fun x y H Q => ∃ i j, x = .str i ∧ y = .str j ∧ i.length + j.length ≤ sizeLine ∧ Q (.str (i ++ j)) H) ta tb) (tyS a r) :=
  g_op ha hb fun x y H hx hy n d K k => by
    obtain ⟨i, rfl, pi⟩ := hx
    obtain ⟨j, rfl, pj⟩ := hy
    exact ⟨i, j, rfl, rfl, Nat.le_of_lt (small1000 (hl i j pi pj)), k _ H (Gx.refl a H) d ⟨_, rfl, hr i j pi pj⟩⟩
/-- str(i) -/
theorem g_strI {m1 : Nat} {ta : TE} {p : Int → Prop} {r : Str → Prop} (ha : GE a m1 G ta (tyI a p)) (hb : ∀ i, p i → i.natAbs.log2 < 1920) (hr : ∀ i : Int, p i → r (toString i)) : GE a (m1 + 0) G (tCB (fun xs H Q => ∃ i : Int, xs = [.int i] ∧ i.natAbs.log2 < 1920 ∧ Q (.str (toString i)) H) (tCons ta tNil)) (tyS a r) := fun n σ H hn c d K k =>
  ha n σ H (by omega) c d _ fun v H1 g1 d1 p1 => by
    obtain ⟨i, rfl, pi⟩ := p1
    exact ⟨i, rfl, hb i pi, k _ H1 g1 d1 ⟨_, rfl, hr i pi⟩⟩
/-- int(b) -/
theorem g_intB {m1 : Nat} {ta : TE} (ha : GE a m1 G ta (tyB a)) : GE a (m1 + 0) G (tCB (fun xs H Q => (∃ i, xs = [V.int i] ∧ Q (.int i) H) ∨ ∃ k, xs = [V.bl k] ∧ Q (.int (if k then 1 else 0)) H) (tCons ta tNil)) (tyI a fun i => 0 ≤ i ∧ i < 2) := fun n σ H hn c d K k =>
  ha n σ H (by omega) c d _ fun v H1 g1 d1 p1 => by
    obtain ⟨b, rfl⟩ := p1
    refine .inr ⟨b, rfl, k _ H1 g1 d1 ⟨_, rfl, ?_⟩⟩
    cases b <;> decide
/-- tuple(xs) of a list -/
theorem g_tupOf {K : PySem.W.Frag} {m1 k : Nat} {ta : TE} {f : Nat → Prop} {R : Ty a} (ha : GE a m1 G ta (tyL a k R)) (hf : f k) : GE a (m1 + 0) G (tCB (fun xs H Q => ∃ p ys, xs = [V.ref p] ∧ ((SqL K H p ys ∧ ∀ l, H l = none → Q (.ref l) (upd H l (.tup ys))) ∨ (SqT K H p ys ∧ Q (.ref p) H))) (tCons ta tNil)) (tyU a f R) := fun n σ H hn c d Q q =>
  ha n σ H (by omega) c d _ fun v H1 g1 d1 p1 => by
    obtain ⟨s, xs, rfl, np, hs, ls, ts⟩ := p1
    exact ⟨s, xs, rfl, .inl ⟨SqL.of hs, fun l hl => q _ _ (g1.trans (Gx.new hl)) (d1.upd (d1.ne hl)) ⟨l, xs, rfl, d1.ne hl, upd_same, by rw [ls]; exact hf, fun x hx => R.st x H1 _ (Gx.new hl) (ts x hx)⟩⟩⟩
/-- the promise of a def that draws -/
def spG (m : Nat) (Ps : (a : Addr) → List (Ty a)) (R : (a : Addr) → Ty a) : Sp := fun vs H Q _ => ∃ (a : Addr) (n : Nat), n + m ≤ big ∧ Dr H a n ∧ TAll a H (Ps a) vs ∧ ∀ v H', Gx a H H' → Dr H' a (n + m) → (R a).p v H' → Q v H'
theorem g_call {m m1 : Nat} {Ps : (a : Addr) → List (Ty a)} {R : (a : Addr) → Ty a} {E : XK} {ta : TA} (h : GA a m1 G ta (Ps a)) : GE a (m1 + m) G (tCall (spG m Ps R) [] E ta) (R a) := fun n σ H hn c d Q q =>
  h n σ H (by omega) c d _ fun vs H1 g1 d1 ps => ⟨a, n + m1, by omega, d1, by rw [List.append_nil]; exact ps, fun v H2 g2 d2 p2 => q v H2 (g1.trans g2) (d2.mono (by omega)) p2⟩
/-- tuples stay, whatever else changes -/
def Tp (H H' : Hp) : Prop := ∀ b xs, H b = some (.tup xs) → H' b = some (.tup xs)
theorem Gx.tp {a : Addr} {H H' : Hp} {n : Nat} (d : Dr H a n) (g : Gx a H H') : Tp H H' := fun b xs h => g b _ (fun z => by
  obtain ⟨x, c, k, e, _⟩ := d
  rw [z, e] at h
  cases h) h
theorem wipe_one (σ : L2.St) (j : Nat) (x : V) : wipe ((wipe σ [j]).set j (some x)) [j] = wipe σ [j] := by
  show ((σ.set j none).set j (some x)).set j none = σ.set j none
  rw [List.set_set, List.set_set]
/-- a list of things of a type, by how many they may be -/
def tyLp (a : Addr) (p : Int → Prop) (R : Ty a) : Ty a := ⟨fun v H => ∃ k : Nat, p (k : Int) ∧ (tyL a k R).p v H, fun v H H' g ⟨k, pk, q⟩ => ⟨k, pk, (tyL a k R).st v H H' g q⟩⟩
/-- [e for x in range(k)] -/
theorem g_lcR {m1 m2 : Nat} {ta : TA} {te : TE} {j : Nat} {p : Int → Prop} {R : Ty a} {K : Nat} (h : GA a m1 G ta [tyI a p]) (hk : ∀ i, p i → 0 ≤ i ∧ i ≤ (K : Int)) (hK : K ≤ 1000) (hv : ∀ P, G[j]? ≠ some (some P)) (hT : ∀ v H H', Tp H H' → R.p v H → R.p v H') (he : GE a m2 G te R) :
    GE a (m1 + K * m2) G (tLc (iRng1 ta) (gName j) tYes te [j]) (tyLp a p R) := fun n σ H hn c d Q q =>
  h n σ H (by omega) c d _ fun ws H1 g1 d1 ps => by
    cases ps with
    | cons p1 r =>
      cases r
      obtain ⟨i, rfl, pi⟩ := p1
      have hi := hk i pi
      refine ⟨i, rfl, by omega, by omega, fun D hD => ?_⟩
      have nD : D ≠ a := d1.ne hD
      refine lc_range (lo := 0) (n := i.toNat) (fun t H' => Gx a H1 H' ∧ Dr H' a (n + m1 + t * m2) ∧ ∃ xs, H' D = some (.lst xs) ∧ xs.length = t ∧ ∀ x ∈ xs, R.p x H') ?_ ?_ ?_
      · exact ⟨Gx.new hD, (d1.upd nD).mono (by omega), [], upd_same, rfl, fun x hx => by cases hx⟩
      · rintro t H' ht ⟨g', d', xs, hxs, lxs, txs⟩
        have hm : (t + 1) * m2 ≤ K * m2 := Nat.mul_le_mul_right m2 (by omega)
        have hm' : (t + 1) * m2 = t * m2 + m2 := Nat.succ_mul t m2
        have cw : Cty a G ((wipe σ [j]).set j (some (.int ((0 : Int) + (t : Int))))) H' := by
          have c1 := (c.st (g1.trans g')).wipe [j] (fun i hi P => by rw [List.mem_singleton.mp hi]; exact hv P)
          refine ⟨by rw [List.length_set]; exact c1.len, fun i P e => ?_⟩
          obtain ⟨v, e1, p1⟩ := c1.at_ i P e
          have hij : j ≠ i := fun z => hv P (by rw [z]; exact e)
          exact ⟨v, by rw [List.getElem?_set_ne hij]; exact e1, p1⟩
        refine ⟨wipe_one σ j _, ?_⟩
        refine he (n + m1 + t * m2) ((wipe σ [j]).set j (some (.int ((0 : Int) + (t : Int))))) H' (by omega) cw d' _ fun v H2 g2 d2 p2 => ?_
        have hx2 : H2 D = some (.lst xs) := g2 D _ nD hxs
        have kt : Tp H2 (upd H2 D (.lst (xs ++ [v]))) := fun b ys hb => by
          rw [upd_ne (ne_of hb hx2 (by intro z; cases z))]
          exact hb
        refine ⟨xs, hx2, by rw [lxs]; exact small1000 (by omega), ?_, ?_, xs ++ [v], upd_same, by rw [List.length_append, lxs] <;> rfl, ?_⟩
        · exact (g'.trans g2).grow hD
        · exact (d2.upd nD).mono (by omega)
        · intro x hx
          rcases List.mem_append.mp hx with z | z
          · exact hT x _ _ kt (R.st x H' H2 g2 (txs x z))
          · rw [List.mem_singleton.mp z]
            exact hT v _ _ kt p2
      · rintro H' ⟨g', d', xs, hxs, lxs, txs⟩
        have hm : i.toNat * m2 ≤ K * m2 := Nat.mul_le_mul_right m2 (by omega)
        exact q _ H' (g1.trans g') (d'.mono (by omega)) ⟨i.toNat, by rw [show ((i.toNat : Nat) : Int) = i by omega]; exact pi, D, xs, rfl, nD, hxs, lxs, txs⟩
theorem g_tupOfp {K : PySem.W.Frag} {m1 : Nat} {ta : TE} {p : Int → Prop} {R : Ty a} (ha : GE a m1 G ta (tyLp a p R)) : GE a (m1 + 0) G (tCB (fun xs H Q => ∃ p ys, xs = [V.ref p] ∧ ((SqL K H p ys ∧ ∀ l, H l = none → Q (.ref l) (upd H l (.tup ys))) ∨ (SqT K H p ys ∧ Q (.ref p) H))) (tCons ta tNil)) (tyU a (fun k => p (k : Int)) R) := fun n σ H hn c d Q q =>
  ha n σ H (by omega) c d _ fun v H1 g1 d1 p1 => by
    obtain ⟨k, pk, s, xs, rfl, np, hs, ls, ts⟩ := p1
    exact ⟨s, xs, rfl, .inl ⟨SqL.of hs, fun l hl => q _ _ (g1.trans (Gx.new hl)) (d1.upd (d1.ne hl)) ⟨l, xs, rfl, d1.ne hl, upd_same, by rw [ls]; exact pk, fun x hx => R.st x H1 _ (Gx.new hl) (ts x hx)⟩⟩⟩
/-! ### statements -/
theorem gs_par {m i j : Nat} {ta : TA} {P Q R : Ty a} (h : GA a m G ta [P, Q]) : GS a m G (tPar i j ta) (some ((G.set i (some P)).set j (some Q))) R := fun n σ H D hn c d _ k => h n σ H hn c d _ fun vs H' g d' ps => by
  cases ps with
  | cons p r =>
    cases r with
    | cons q r =>
      cases r
      exact ⟨_, _, rfl, k _ H' g d' (((c.st g).set p).set q)⟩
/-- by what a slot may be -/
theorem gs_split {m i : Nat} {t : TS} {P P1 P2 R : Ty a} {G' : Option (List (Option (Ty a)))} (h : G[i]? = some (some P)) (w : ∀ v H, P.p v H → P1.p v H ∨ P2.p v H) (h1 : GS a m (G.set i (some P1)) t G' R) (h2 : GS a m (G.set i (some P2)) t G' R) : GS a m G t G' R := fun n σ H D hn c d k1 k2 => by
  obtain ⟨v, e, p⟩ := c.at_ i P h
  have e2 : σ.set i (some v) = σ := by
    obtain ⟨hi, e1⟩ := List.getElem?_eq_some_iff.mp e
    rw [← e1]
    exact List.set_getElem_self hi
  rcases w v H p with p1 | p2
  · have c1 := c.set (i := i) p1
    rw [e2] at c1
    exact h1 n σ H D hn c1 d k1 k2
  · have c1 := c.set (i := i) p2
    rw [e2] at c1
    exact h2 n σ H D hn c1 d k1 k2
theorem gs_ret {m : Nat} {te : TE} {R : Ty a} (h : GE a m G te R) : GS a m G (tRet te) none R := fun n σ H D hn c d k _ => h n σ H hn c d _ fun v H' g d' p => k v H' g d' p
theorem gs_set {m i : Nat} {te : TE} {P R : Ty a} (h : GE a m G te P) : GS a m G (tAsg te (gName i)) (some (G.set i (some P))) R := fun n σ H D hn c d _ k => h n σ H hn c d _ fun v H' g d' p => k _ H' g d' ((c.st g).set p)
theorem gs_next {R : Ty a} : GS a 0 G tNext (some G) R := fun n σ H D hn c d _ k => k σ H (Gx.refl a H) d c
theorem gs_seq {m1 m2 : Nat} {t u : TS} {G1 : List (Option (Ty a))} {G2 : Option (List (Option (Ty a)))} {R : Ty a} (h1 : GS a m1 G t (some G1) R) (h2 : GS a m2 G1 u G2 R) : GS a (m1 + m2) G (tSeq t u) G2 R := fun n σ H D hn c d k1 k2 =>
  h1 n σ H _ (by omega) c d (fun v H' g d' p => k1 v H' g (d'.mono (by omega)) p) fun σ' H' g d' c' => h2 (n + m1) σ' H' D (by omega) c' d' (fun v H2 g2 d2 p => k1 v H2 (g.trans g2) (d2.mono (by omega)) p) fun σ2 H2 g2 d2 c2 => k2 σ2 H2 (g.trans g2) (d2.mono (by omega)) c2
/-- if t: suite that returns; then the rest -/
theorem gs_ifr {m1 m2 m3 : Nat} {t : TT} {u r : TS} {G2 : Option (List (Option (Ty a)))} {R : Ty a} (h1 : GT a m1 G t) (h2 : GS a m2 G u none R) (h3 : GS a m3 G r G2 R) : GS a (m1 + (max m2 m3)) G (tSeq (tIfS t u tNext) r) G2 R := fun n σ H D hn c d k1 k2 =>
  h1 n σ H (by omega) c d _ fun b H1 g1 d1 => by
    cases b with
    | true =>
      show u { D with nx := r D } σ H1
      exact h2 (n + m1) σ H1 _ (by omega) (c.st g1) d1 (fun v H2 g2 d2 p => k1 v H2 (g1.trans g2) (d2.mono (by omega)) p) fun σ2 H2 g2 d2 c2 => c2.elim
    | false =>
      show r D σ H1
      exact h3 (n + m1) σ H1 D (by omega) (c.st g1) d1 (fun v H2 g2 d2 p => k1 v H2 (g1.trans g2) (d2.mono (by omega)) p) fun σ2 H2 g2 d2 c2 => k2 σ2 H2 (g1.trans g2) (d2.mono (by omega)) c2
/-- if t: x = e, in both ways the slots are of G1 -/
theorem gs_ifs {m1 m2 : Nat} {t : TT} {u : TS} {R : Ty a} (h1 : GT a m1 G t) (h2 : GS a m2 G u (some G) R) : GS a (m1 + m2) G (tIfS t u tNext) (some G) R := fun n σ H D hn c d k1 k2 =>
  h1 n σ H (by omega) c d _ fun b H1 g1 d1 => by
    cases b with
    | true =>
      show u D σ H1
      exact h2 (n + m1) σ H1 _ (by omega) (c.st g1) d1 (fun v H2 g2 d2 p => k1 v H2 (g1.trans g2) (d2.mono (by omega)) p) fun σ2 H2 g2 d2 c2 => k2 σ2 H2 (g1.trans g2) (d2.mono (by omega)) c2
    | false =>
      show D.nx σ H1
      exact k2 σ H1 g1 (d1.mono (by omega)) (c.st g1)
theorem GS.up {m m' : Nat} {t : TS} {G' : Option (List (Option (Ty a)))} {R : Ty a} (h : GS a m G t G' R) (w : m ≤ m') : GS a m' G t G' R := fun n σ H D hn c d k1 k2 => h n σ H D (by omega) c d (fun v H' g d' p => k1 v H' g (d'.mono (by omega)) p) fun σ' H' g d' c' => k2 σ' H' g (d'.mono (by omega)) c'
end
/-- a def that draws: from its body -/
theorem fun_G {P : Program} {w : World} {K : PySem.W.Frag} {mg : Str → Option Value} {base : Heap} {x qual : Str} {st : Stmt} {f : Addr} {fd : FuncData} {N ps : List Str} {k m : Nat} {Ps : (a : Addr) → List (Ty a)} {R : (a : Addr) → Ty a}
    (F : Fun K x qual st f fd) (S : FnScope N ps (defScope st)) (hl : ∀ a, (Ps a).length = ps.length) (hN : ps.length ≤ N.length)
    (hb : ∀ (cdv : Value) (A : Around) (outer : List Env) (s : Shared) (H : Hp) (E : XK), Room k (A.deeper (PyProof.Rows.envOfC qual (defScope st) s.heap.objs.size f cdv)) →
      ∃ t, PSs (cxOf CX0 P w K mg base N qual (defScope st) f cdv A outer s H E).nox (defBody st) t ∧ ∀ a, GS a m ((Ps a).map some ++ List.replicate (N.length - (Ps a).length) none) t none (R a)) :
    FnOk P w K mg base CX0 (k + 1) f fd ps (spG m Ps R) := by
  refine F.ok S (fun vs H Q E h => ?_) (fun cdv A outer s H vs Q E hr h => ?_)
  · obtain ⟨a, n, _, _, ps', _⟩ := h
    rw [ps'.len, hl a]
  · obtain ⟨a, n, hn, d, ps', q⟩ := h
    obtain ⟨t, ht, g⟩ := hb cdv A outer s H E hr
    exact ⟨t, ht, g a n _ H _ hn (ctx_start ps' (by rw [hl a]; exact hN)) d q fun σ' H' _ _ c => c.elim⟩
end Wp
set_option Elab.async false
set_option linter.all false
set_option maxRecDepth 100000
namespace Wp
open PySem L2

/-! ### data made of tuples: what stands at a value, the draws' place left out -/
mutual
inductive Dq (a : Addr) (H : Hp) : V → PyData → Prop
  | non : Dq a H .non .none
  | bl (b : Bool) : Dq a H (.bl b) (.bool b)
  | int (i : Int) : Dq a H (.int i) (.int i)
  | str (z : Str) : Dq a H (.str z) (.str z)
  | tup {p : Addr} {xs : List V} {ds : List PyData} : p ≠ a → H p = some (.tup xs) → DqL a H xs ds → Dq a H (.ref p) (.tuple ds)
inductive DqL (a : Addr) (H : Hp) : List V → List PyData → Prop
  | nil : DqL a H [] []
  | cons {v : V} {vs : List V} {d : PyData} {ds : List PyData} : Dq a H v d → DqL a H vs ds → DqL a H (v :: vs) (d :: ds)
end
mutual
theorem Dq.st {a : Addr} {H H' : Hp} (k : ∀ p xs, p ≠ a → H p = some (.tup xs) → H' p = some (.tup xs)) : ∀ {v : V} {d : PyData}, Dq a H v d → Dq a H' v d
  | _, _, .non => .non
  | _, _, .bl b => .bl b
  | _, _, .int i => .int i
  | _, _, .str z => .str z
  | _, _, .tup n h t => .tup n (k _ _ n h) (DqL.st k t)
theorem DqL.st {a : Addr} {H H' : Hp} (k : ∀ p xs, p ≠ a → H p = some (.tup xs) → H' p = some (.tup xs)) : ∀ {vs : List V} {ds : List PyData}, DqL a H vs ds → DqL a H' vs ds
  | _, _, .nil => .nil
  | _, _, .cons h t => .cons (Dq.st k h) (DqL.st k t)
end
theorem Dq.gx {a : Addr} {H H' : Hp} {v : V} {d : PyData} (h : Dq a H v d) (g : Gx a H H') : Dq a H' v d := h.st fun p xs n e => g p _ n e
theorem Dq.tp {a : Addr} {H H' : Hp} {v : V} {d : PyData} (h : Dq a H v d) (g : Tp H H') : Dq a H' v d := h.st fun p xs _ e => g p xs e
mutual
theorem Dq.dp {K : PySem.W.Frag} {a : Addr} {H : Hp} : ∀ {v : V} {d : PyData}, Dq a H v d → Dp K H v d
  | _, _, .non => .non
  | _, _, .bl b => .bl b
  | _, _, .int i => .int i
  | _, _, .str z => .str z
  | _, _, .tup _ h t => .tup (.inl (.inl h)) (DqL.dp t)
theorem DqL.dp {K : PySem.W.Frag} {a : Addr} {H : Hp} : ∀ {vs : List V} {ds : List PyData}, DqL a H vs ds → DpAll K H vs ds
  | _, _, .nil => .nil
  | _, _, .cons h t => .cons (Dq.dp h) (DqL.dp t)
end
theorem dql_all {a : Addr} {H : Hp} {f : PyData → Prop} : ∀ {xs : List V}, (∀ x ∈ xs, ∃ d, Dq a H x d ∧ f d) → ∃ ds, DqL a H xs ds ∧ ds.length = xs.length ∧ ∀ d ∈ ds, f d
  | [], _ => ⟨[], .nil, rfl, fun _ h => by cases h⟩
  | x :: xs, h => by
    obtain ⟨d, q, t⟩ := h x List.mem_cons_self
    obtain ⟨ds, qs, l, ts⟩ := dql_all (xs := xs) fun y hy => h y (List.mem_cons_of_mem _ hy)
    refine ⟨d :: ds, .cons q qs, by rw [List.length_cons, List.length_cons, l], fun e he => ?_⟩
    rcases List.mem_cons.mp he with z | z
    · rw [z]; exact t
    · exact ts e z

/-! ### terms, by their depth -/
def newNames : List Str := ["x0", "x1", "x2"]
def termNames : List Str := ["input", "loose", "b9", "x0", "x1", "x2", "fx0", "fx1", "fx2"]
def kindNames : List Str := ["any", "point", "part", "cell", "fun"]
def termTags : List Str := ["m", "n"]
def termTexts : List Str := ["a", "b", "c", "i", "o"]
def opMany (w : Str) : Option Nat :=
  if w ∈ (["plus", "minus", "times", "less", "same", "joined", "pair"] : List Str) then some 2 else if w ∈ (["first", "rest", "kind", "written"] : List Str) then some 1 else none
inductive Tm : Nat → PyData → Prop
  | num {n : Nat} (i : Int) : Tm n (.tuple [.str "num", .int i])
  | text {n : Nat} {z : Str} : z ∈ termTexts → Tm n (.tuple [.str "text", .str z])
  | yes {n : Nat} : Tm n (.tuple [.str "yes"])
  | no {n : Nat} : Tm n (.tuple [.str "no"])
  | none {n : Nat} : Tm n (.tuple [.str "none"])
  | name {n : Nat} {z : Str} : z ∈ termNames → Tm n (.tuple [.str "name", .str z])
  | func {n : Nat} {xs : List Str} {e : PyData} : (∀ x ∈ xs, x ∈ termNames) → xs.Nodup → xs.length ≤ 6 → Tm n e → Tm (n + 1) (.tuple [.str "fun", .tuple (xs.map .str), e])
  | recu {n : Nat} {f : Str} {xs : List Str} {e : PyData} : f ∈ termNames → (∀ x ∈ xs, x ∈ termNames) → (f :: xs).Nodup → xs.length ≤ 6 → Tm n e → Tm (n + 1) (.tuple [.str "rec", .str f, .tuple (xs.map .str), e])
  | call {n : Nat} {f : PyData} {ds : List PyData} : Tm n f → (∀ d ∈ ds, Tm n d) → ds.length ≤ 6 → Tm (n + 1) (.tuple [.str "call", f, .tuple ds])
  | lett {n : Nat} {z : Str} {d e : PyData} : z ∈ termNames → Tm n d → Tm n e → Tm (n + 1) (.tuple [.str "let", .str z, d, e])
  | iff {n : Nat} {c d e : PyData} : Tm n c → Tm n d → Tm n e → Tm (n + 1) (.tuple [.str "if", c, d, e])
  | doo {n : Nat} {ds : List PyData} : (∀ d ∈ ds, Tm n d) → 1 ≤ ds.length → ds.length ≤ 12 → Tm (n + 1) (.tuple [.str "do", .tuple ds])
  | op {n k : Nat} {w : Str} {ds : List PyData} : opMany w = some k → (∀ d ∈ ds, Tm n d) → ds.length = k → Tm (n + 1) (.tuple [.str "op", .str w, .tuple ds])
  | cell {n : Nat} {d : PyData} : Tm n d → Tm (n + 1) (.tuple [.str "cell", d])
  | get {n : Nat} {d : PyData} : Tm n d → Tm (n + 1) (.tuple [.str "get", d])
  | sett {n : Nat} {d e : PyData} : Tm n d → Tm n e → Tm (n + 1) (.tuple [.str "set", d, e])
  | say {n : Nat} {d : PyData} : Tm n d → Tm (n + 1) (.tuple [.str "say", d])
  | fault {n : Nat} {d : PyData} : Tm n d → Tm (n + 1) (.tuple [.str "fault", d])
  | guard {n : Nat} {z : Str} {d e : PyData} : Tm n d → z ∈ termNames → Tm n e → Tm (n + 1) (.tuple [.str "guard", d, .str z, e])
  | wind {n : Nat} {c d e : PyData} : Tm n c → Tm n d → Tm n e → Tm (n + 1) (.tuple [.str "wind", c, d, e])
  | catc {n : Nat} {z : Str} {d : PyData} : z ∈ termNames → Tm n d → Tm (n + 1) (.tuple [.str "catch", .str z, d])
  | go {n : Nat} {d e : PyData} : Tm n d → Tm n e → Tm (n + 1) (.tuple [.str "go", d, e])
  | mark {n : Nat} {z : Str} {d : PyData} : z ∈ termTags → Tm n d → Tm (n + 1) (.tuple [.str "mark", .str z, d])
  | take {n : Nat} {z y : Str} {d : PyData} : z ∈ termTags → y ∈ termNames → Tm n d → Tm (n + 1) (.tuple [.str "take", .str z, .str y, d])
  | use {n : Nat} {d e : PyData} : Tm n d → Tm n e → Tm (n + 1) (.tuple [.str "use", d, e])
theorem Tm.up {n : Nat} {d : PyData} (h : Tm n d) : Tm (n + 1) d := by
  induction h with
  | num i => exact .num i
  | text h => exact .text h
  | yes => exact .yes
  | no => exact .no
  | none => exact .none
  | name h => exact .name h
  | func h1 h2 h3 _ i1 => exact .func h1 h2 h3 i1
  | recu h0 h1 h2 h3 _ i1 => exact .recu h0 h1 h2 h3 i1
  | call _ _ h3 i1 i2 => exact .call i1 i2 h3
  | lett h _ _ i1 i2 => exact .lett h i1 i2
  | iff _ _ _ i1 i2 i3 => exact .iff i1 i2 i3
  | doo _ h1 h2 i1 => exact .doo i1 h1 h2
  | op h0 _ h1 i1 => exact .op h0 i1 h1
  | cell _ i1 => exact .cell i1
  | get _ i1 => exact .get i1
  | sett _ _ i1 i2 => exact .sett i1 i2
  | say _ i1 => exact .say i1
  | fault _ i1 => exact .fault i1
  | guard _ h _ i1 i2 => exact .guard i1 h i2
  | wind _ _ _ i1 i2 i3 => exact .wind i1 i2 i3
  | catc h _ i1 => exact .catc h i1
  | go _ _ i1 i2 => exact .go i1 i2
  | mark h _ i1 => exact .mark h i1
  | take h h1 _ i1 => exact .take h h1 i1
  | use _ _ i1 i2 => exact .use i1 i2
theorem Tm.le {n m : Nat} {d : PyData} (h : Tm n d) (l : n ≤ m) : Tm m d := by
  induction l with
  | refl => exact h
  | step _ ih => exact ih.up

/-! ### types of the drawn terms -/
def tyT (a : Addr) (n : Nat) : Ty a := ⟨fun v H => ∃ d, Dq a H v d ∧ Tm n d, fun v H H' g h => by
  obtain ⟨d, q, t⟩ := h
  exact ⟨d, q.gx g, t⟩⟩
theorem tyT_tp {a : Addr} {n : Nat} : ∀ v H H', Tp H H' → (tyT a n).p v H → (tyT a n).p v H' := fun v H H' g h => by
  obtain ⟨d, q, t⟩ := h
  exact ⟨d, q.tp g, t⟩
theorem tyT_le {a : Addr} {n m : Nat} (l : n ≤ m) : ∀ v H, (tyT a n).p v H → (tyT a m).p v H := fun v H h => by
  obtain ⟨d, q, t⟩ := h
  exact ⟨d, q, t.le l⟩
/-- a row of names: a name, its kind -/
def RowAt (a : Addr) (H : Hp) (r : V) : Prop := ∃ (q : Addr) (x k : Str), r = .ref q ∧ q ≠ a ∧ H q = some (.tup [.str x, .str k]) ∧ x ∈ termNames ∧ k ∈ kindNames
theorem RowAt.st {a : Addr} {H H' : Hp} {r : V} (h : RowAt a H r) (k : ∀ p xs, p ≠ a → H p = some (.tup xs) → H' p = some (.tup xs)) : RowAt a H' r := by
  obtain ⟨q, x, z, e, n, t, l⟩ := h
  exact ⟨q, x, z, e, n, k _ _ n t, l⟩
def tyNs (a : Addr) (L : Nat) : Ty a := ⟨fun v H => ∃ p rs, v = .ref p ∧ p ≠ a ∧ H p = some (.lst rs) ∧ rs.length ≤ L ∧ ∀ r ∈ rs, RowAt a H r, fun v H H' g h => by
  obtain ⟨p, rs, e, n, q, l, t⟩ := h
  exact ⟨p, rs, e, n, g p _ n q, l, fun r hr => (t r hr).st fun p xs n e => g p _ n e⟩⟩
theorem ns_dp {K : PySem.W.Frag} {a : Addr} {H : Hp} : ∀ {rs : List V}, (∀ r ∈ rs, RowAt a H r) → ∃ ds, DpAll K H rs ds ∧ PyData.canLayAll0 ds = true ∧ PyData.depthAll ds ≤ 1 ∧ ds.length = rs.length
  | [], _ => ⟨[], .nil, by simp [PyData.canLayAll0], by simp [PyData.depthAll], rfl⟩
  | r :: rs, h => by
    obtain ⟨ds, q, c, d, l⟩ := ns_dp (K := K) (rs := rs) fun y hy => h y (List.mem_cons_of_mem _ hy)
    obtain ⟨p, x, k, rfl, np, hp, hx, hk⟩ := h r List.mem_cons_self
    have sx : ∀ x ∈ termNames, PyData.strOk x = true := by decide +kernel
    have sk : ∀ x ∈ kindNames, PyData.strOk x = true := by decide +kernel
    refine ⟨.tuple [.str x, .str k] :: ds, .cons (.tup (.inl (.inl hp)) (.cons (.str _) (.cons (.str _) .nil))) q, ?_, ?_, by rw [List.length_cons, List.length_cons, l]⟩
    · simp [PyData.canLayAll0, PyData.canLay0, sx x hx, sk k hk, c]
    · simp only [PyData.depthAll, PyData.depth]
      omega
theorem shaped_list {ds : List PyData} (c : PyData.canLayAll0 ds = true) (d : PyData.depthAll ds ≤ 60) : SeqAt.shaped (.list ds) = true := by
  unfold SeqAt.shaped
  rw [Bool.and_eq_true]
  refine ⟨by simp only [PyData.canLay0]; exact c, decide_eq_true ?_⟩
  simp only [PyData.depth]
  omega
theorem all0 {a : Addr} {H : Hp} {vs : List V} (h : TAll a H [] vs) : vs = [] := by cases h; rfl
theorem all1 {a : Addr} {H : Hp} {P : Ty a} {vs : List V} (h : TAll a H [P] vs) : ∃ x, vs = [x] ∧ P.p x H := by
  cases h with
  | cons p r => cases r; exact ⟨_, rfl, p⟩
theorem all2 {a : Addr} {H : Hp} {P Q : Ty a} {vs : List V} (h : TAll a H [P, Q] vs) : ∃ x y, vs = [x, y] ∧ P.p x H ∧ Q.p y H := by
  cases h with
  | cons p r =>
    obtain ⟨y, rfl, q⟩ := all1 r
    exact ⟨_, _, rfl, p, q⟩
theorem all3 {a : Addr} {H : Hp} {P Q R : Ty a} {vs : List V} (h : TAll a H [P, Q, R] vs) : ∃ x y z, vs = [x, y, z] ∧ P.p x H ∧ Q.p y H ∧ R.p z H := by
  cases h with
  | cons p r =>
    obtain ⟨y, z, rfl, q⟩ := all2 r
    exact ⟨_, _, _, rfl, p, q⟩
theorem all4 {a : Addr} {H : Hp} {P Q R S : Ty a} {vs : List V} (h : TAll a H [P, Q, R, S] vs) : ∃ x y z w, vs = [x, y, z, w] ∧ P.p x H ∧ Q.p y H ∧ R.p z H ∧ S.p w H := by
  cases h with
  | cons p r =>
    obtain ⟨y, z, w, rfl, q⟩ := all3 r
    exact ⟨_, _, _, _, rfl, p, q⟩
/-- what a written text, a name, a tag is -/
abbrev tyW (a : Addr) (z : Str) : Ty a := tyS a fun y => y = z
abbrev tyNm (a : Addr) : Ty a := tyS a fun y => y ∈ termNames
abbrev tyNew (a : Addr) : Ty a := tyS a fun y => y ∈ newNames
theorem new_term {z : Str} (h : z ∈ newNames) : z ∈ termNames := by
  unfold newNames at h
  unfold termNames
  simp only [List.mem_cons, List.not_mem_nil, or_false] at h ⊢
  rcases h with h | h | h <;> simp [h]
section
variable {a : Addr} {n : Nat} {vs : List V} {H : Hp} {p : Addr}
theorem mk_num {f : Int → Prop} (np : p ≠ a) (hp : H p = some (.tup vs)) (h : TAll a H [tyW a "num", tyI a f] vs) : (tyT a n).p (.ref p) H := by
  obtain ⟨_, _, rfl, ⟨_, rfl, rfl⟩, ⟨i, rfl, _⟩⟩ := all2 h
  exact ⟨_, .tup np hp (.cons (.str _) (.cons (.int _) .nil)), .num i⟩
theorem mk_text (np : p ≠ a) (hp : H p = some (.tup vs)) (h : TAll a H [tyW a "text", tyS a fun z => z ∈ termTexts] vs) : (tyT a n).p (.ref p) H := by
  obtain ⟨_, _, rfl, ⟨_, rfl, rfl⟩, ⟨z, rfl, hz⟩⟩ := all2 h
  exact ⟨_, .tup np hp (.cons (.str _) (.cons (.str _) .nil)), .text hz⟩
theorem mk_yes (np : p ≠ a) (hp : H p = some (.tup vs)) (h : TAll a H [tyW a "yes"] vs) : (tyT a n).p (.ref p) H := by
  obtain ⟨_, rfl, ⟨_, rfl, rfl⟩⟩ := all1 h
  exact ⟨_, .tup np hp (.cons (.str _) .nil), .yes⟩
theorem mk_no (np : p ≠ a) (hp : H p = some (.tup vs)) (h : TAll a H [tyW a "no"] vs) : (tyT a n).p (.ref p) H := by
  obtain ⟨_, rfl, ⟨_, rfl, rfl⟩⟩ := all1 h
  exact ⟨_, .tup np hp (.cons (.str _) .nil), .no⟩
theorem mk_none (np : p ≠ a) (hp : H p = some (.tup vs)) (h : TAll a H [tyW a "none"] vs) : (tyT a n).p (.ref p) H := by
  obtain ⟨_, rfl, ⟨_, rfl, rfl⟩⟩ := all1 h
  exact ⟨_, .tup np hp (.cons (.str _) .nil), .none⟩
theorem mk_name {f : Str → Prop} (hf : ∀ z, f z → z ∈ termNames) (np : p ≠ a) (hp : H p = some (.tup vs)) (h : TAll a H [tyW a "name", tyS a f] vs) : (tyT a n).p (.ref p) H := by
  obtain ⟨_, _, rfl, ⟨_, rfl, rfl⟩, ⟨z, rfl, hz⟩⟩ := all2 h
  exact ⟨_, .tup np hp (.cons (.str _) (.cons (.str _) .nil)), .name (hf z hz)⟩
/-- one part behind the word -/
theorem mk_1 {w : Str} (hw : ∀ d, Tm n d → Tm (n + 1) (.tuple [.str w, d])) (np : p ≠ a) (hp : H p = some (.tup vs)) (h : TAll a H [tyW a w, tyT a n] vs) : (tyT a (n + 1)).p (.ref p) H := by
  obtain ⟨_, _, rfl, ⟨_, rfl, rfl⟩, ⟨d, q, t⟩⟩ := all2 h
  exact ⟨_, .tup np hp (.cons (.str _) (.cons q .nil)), hw d t⟩
theorem mk_2 {w : Str} (hw : ∀ d e, Tm n d → Tm n e → Tm (n + 1) (.tuple [.str w, d, e])) (np : p ≠ a) (hp : H p = some (.tup vs)) (h : TAll a H [tyW a w, tyT a n, tyT a n] vs) : (tyT a (n + 1)).p (.ref p) H := by
  obtain ⟨_, _, _, rfl, ⟨_, rfl, rfl⟩, ⟨d, q, t⟩, ⟨e, q2, t2⟩⟩ := all3 h
  exact ⟨_, .tup np hp (.cons (.str _) (.cons q (.cons q2 .nil))), hw d e t t2⟩
theorem mk_3 {w : Str} (hw : ∀ c d e, Tm n c → Tm n d → Tm n e → Tm (n + 1) (.tuple [.str w, c, d, e])) (np : p ≠ a) (hp : H p = some (.tup vs)) (h : TAll a H [tyW a w, tyT a n, tyT a n, tyT a n] vs) : (tyT a (n + 1)).p (.ref p) H := by
  obtain ⟨_, _, _, _, rfl, ⟨_, rfl, rfl⟩, ⟨c, q0, t0⟩, ⟨d, q, t⟩, ⟨e, q2, t2⟩⟩ := all4 h
  exact ⟨_, .tup np hp (.cons (.str _) (.cons q0 (.cons q (.cons q2 .nil)))), hw c d e t0 t t2⟩
/-- a text, then a part -/
theorem mk_s1 {w : Str} {f : Str → Prop} (hw : ∀ z d, f z → Tm n d → Tm (n + 1) (.tuple [.str w, .str z, d])) (np : p ≠ a) (hp : H p = some (.tup vs)) (h : TAll a H [tyW a w, tyS a f, tyT a n] vs) : (tyT a (n + 1)).p (.ref p) H := by
  obtain ⟨_, _, _, rfl, ⟨_, rfl, rfl⟩, ⟨z, rfl, hz⟩, ⟨d, q, t⟩⟩ := all3 h
  exact ⟨_, .tup np hp (.cons (.str _) (.cons (.str _) (.cons q .nil))), hw z d hz t⟩
theorem mk_ss1 {w : Str} {f g : Str → Prop} (hw : ∀ z y d, f z → g y → Tm n d → Tm (n + 1) (.tuple [.str w, .str z, .str y, d])) (np : p ≠ a) (hp : H p = some (.tup vs)) (h : TAll a H [tyW a w, tyS a f, tyS a g, tyT a n] vs) : (tyT a (n + 1)).p (.ref p) H := by
  obtain ⟨_, _, _, _, rfl, ⟨_, rfl, rfl⟩, ⟨z, rfl, hz⟩, ⟨y, rfl, hy⟩, ⟨d, q, t⟩⟩ := all4 h
  exact ⟨_, .tup np hp (.cons (.str _) (.cons (.str _) (.cons (.str _) (.cons q .nil)))), hw z y d hz hy t⟩
theorem mk_s2 {w : Str} {f : Str → Prop} (hw : ∀ z d e, f z → Tm n d → Tm n e → Tm (n + 1) (.tuple [.str w, .str z, d, e])) (np : p ≠ a) (hp : H p = some (.tup vs)) (h : TAll a H [tyW a w, tyS a f, tyT a n, tyT a n] vs) : (tyT a (n + 1)).p (.ref p) H := by
  obtain ⟨_, _, _, _, rfl, ⟨_, rfl, rfl⟩, ⟨z, rfl, hz⟩, ⟨d, q, t⟩, ⟨e, q2, t2⟩⟩ := all4 h
  exact ⟨_, .tup np hp (.cons (.str _) (.cons (.str _) (.cons q (.cons q2 .nil)))), hw z d e hz t t2⟩
theorem mk_1s1 {w : Str} {f : Str → Prop} (hw : ∀ z d e, f z → Tm n d → Tm n e → Tm (n + 1) (.tuple [.str w, d, .str z, e])) (np : p ≠ a) (hp : H p = some (.tup vs)) (h : TAll a H [tyW a w, tyT a n, tyS a f, tyT a n] vs) : (tyT a (n + 1)).p (.ref p) H := by
  obtain ⟨_, _, _, _, rfl, ⟨_, rfl, rfl⟩, ⟨d, q, t⟩, ⟨z, rfl, hz⟩, ⟨e, q2, t2⟩⟩ := all4 h
  exact ⟨_, .tup np hp (.cons (.str _) (.cons q (.cons (.str _) (.cons q2 .nil)))), hw z d e hz t t2⟩
/-- a tuple of parts -/
theorem tup_of {f : Nat → Prop} {v : V} (h : (tyU a f (tyT a n)).p v H) : ∃ ds, Dq a H v (.tuple ds) ∧ f ds.length ∧ ∀ d ∈ ds, Tm n d := by
  obtain ⟨q, xs, rfl, nq, hq, l, t⟩ := h
  obtain ⟨ds, qs, ld, ts⟩ := dql_all (f := Tm n) t
  exact ⟨ds, .tup nq hq qs, by rw [ld]; exact l, ts⟩
theorem mk_call {f : Nat → Prop} (hf : ∀ k, f k → k ≤ 6) (np : p ≠ a) (hp : H p = some (.tup vs)) (h : TAll a H [tyW a "call", tyT a n, tyU a f (tyT a n)] vs) : (tyT a (n + 1)).p (.ref p) H := by
  obtain ⟨_, _, _, rfl, ⟨_, rfl, rfl⟩, ⟨d, q, t⟩, hu⟩ := all3 h
  obtain ⟨ds, qu, l, ts⟩ := tup_of hu
  exact ⟨_, .tup np hp (.cons (.str _) (.cons q (.cons qu .nil))), .call t ts (hf _ l)⟩
theorem mk_do {f : Nat → Prop} (hf : ∀ k, f k → 1 ≤ k ∧ k ≤ 12) (np : p ≠ a) (hp : H p = some (.tup vs)) (h : TAll a H [tyW a "do", tyU a f (tyT a n)] vs) : (tyT a (n + 1)).p (.ref p) H := by
  obtain ⟨_, _, rfl, ⟨_, rfl, rfl⟩, hu⟩ := all2 h
  obtain ⟨ds, qu, l, ts⟩ := tup_of hu
  exact ⟨_, .tup np hp (.cons (.str _) (.cons qu .nil)), .doo ts (hf _ l).1 (hf _ l).2⟩
theorem mk_op {g : Str → Prop} {f : Nat → Prop} {k : Nat} (hg : ∀ z, g z → opMany z = some k) (hf : ∀ j, f j → j = k) (np : p ≠ a) (hp : H p = some (.tup vs)) (h : TAll a H [tyW a "op", tyS a g, tyU a f (tyT a n)] vs) : (tyT a (n + 1)).p (.ref p) H := by
  obtain ⟨_, _, _, rfl, ⟨_, rfl, rfl⟩, ⟨z, rfl, hz⟩, hu⟩ := all3 h
  obtain ⟨ds, qu, l, ts⟩ := tup_of hu
  exact ⟨_, .tup np hp (.cons (.str _) (.cons (.str _) (.cons qu .nil))), .op (hg z hz) ts (hf _ l)⟩
/-- a tuple of one, two parts made on the way -/
theorem mk_u1 {R : Ty a} (np : p ≠ a) (hp : H p = some (.tup vs)) (h : TAll a H [R] vs) : (tyU a (fun k => k = 1) R).p (.ref p) H := by
  obtain ⟨x, rfl, q⟩ := all1 h
  exact ⟨p, _, rfl, np, hp, rfl, fun y hy => by rw [List.mem_singleton.mp hy]; exact q⟩
theorem mk_u2 {R : Ty a} (np : p ≠ a) (hp : H p = some (.tup vs)) (h : TAll a H [R, R] vs) : (tyU a (fun k => k = 2) R).p (.ref p) H := by
  obtain ⟨x, y, rfl, q, r⟩ := all2 h
  refine ⟨p, _, rfl, np, hp, rfl, fun z hz => ?_⟩
  rcases List.mem_cons.mp hz with e | e
  · rw [e]; exact q
  · rw [List.mem_singleton.mp e]; exact r
theorem mk_u0 {R : Ty a} (np : p ≠ a) (hp : H p = some (.tup vs)) (h : TAll a H [] vs) : (tyU a (fun k => k = 0) R).p (.ref p) H := by
  cases all0 h
  exact ⟨p, _, rfl, np, hp, rfl, fun y hy => by cases hy⟩
end

/-! ### a def of the module, by its promise -/
def Has (P : Program) (w : World) (K : PySem.W.Frag) (mg : Str → Option Value) (base : Heap) (x : Str) (ps : List Str) (k : Nat) (sp : Sp) : Prop :=
  ∃ (f : Addr) (fd : FuncData), FnOk P w K mg base CX0 k f fd ps sp ∧ mg x = some (.ref f) ∧ PySem.W.keepIn K (.ref f) = true ∧ Binds K fd ps []
theorem pe_has {X : Cx} {x : Str} {ps : List Str} {k : Nat} {sp : Sp} {e : Expr} {es : List Expr} {t : TA} {p pos : Pos} (h : Has X.prog X.w X.K X.mg X.base x ps k sp) (hr : Room k X.A) (ha : PA X (e :: es) t) (hg : Gl X x := by rfl)
    (hdb : (x == ("__debug__" : Str)) = false := by decide) (he : starEach (e :: es) X.env = (false, eval e X.env) :: starEach es X.env := by rfl) (hpl : (backTo pos (starEach es X.env)).any (·.1) = false := by rfl) :
    PE X (.Call (.Name x p) (e :: es) [] pos) (tCall sp [] E0 t) := by
  obtain ⟨f, fd, F, m, kp, b⟩ := h
  exact pe_call F hr hg m kp b .nil pass0 ha hdb he hpl
end Wp
set_option Elab.async false
set_option linter.all false
set_option maxRecDepth 100000
set_option maxHeartbeats 1000000
namespace Wp
open PySem PySem.Spec PyProof.Rows L2
/-! ### defs that want to know that nothing is being written as a text (str of a tuple) -/
structure FnG (P : Program) (w : World) (K : PySem.W.Frag) (mg : Str → Option Value) (bs : Heap) (k : Nat) (f : Addr) (fd : FuncData) (ps : List Str) (sp : Sp) : Prop where
  len : ∀ vs H Q E, sp vs H Q E → vs.length = ps.length
  run : ∀ (B : Around) (fr : List Env) (s : Shared) (H : Hp) (ar : Args) (us : List Value) (vs : List V) (Q : VK) (E : XK), B.guards = some [] → Room k B → Env0 P w K mg bs B fr s H →
    BindsTo s fd ar (ps.zip us) → Vals vs us → sp vs H Q E → codeAny (model P w) B (.call (.ref f) ar) (CR CX0 fr P w H s Q E) s
section
variable {P : Program} {w : World} {K : PySem.W.Frag} {mg : Str → Option Value} {bs : Heap}
theorem Fun.okG {x qual : Str} {st : Stmt} {f : Addr} {fd : FuncData} {N ps : List Str} {k : Nat} {sp : Sp} (F : Fun K x qual st f fd) (S : FnScope N ps (defScope st)) (len : ∀ vs H Q E, sp vs H Q E → vs.length = ps.length)
    (body : ∀ (cv : Value) (B : Around) (fr : List Env) (s : Shared) (H : Hp) (vs : List V) (Q : VK) (E : XK), B.guards = some [] → Room k (B.deeper (envOfC qual (defScope st) s.heap.objs.size f cv)) → sp vs H Q E →
      ∃ t, PSs (cxOf CX0 P w K mg bs N qual (defScope st) f cv B fr s H E).nox (defBody st) t ∧ t { nx := fun _ H' => Q .non H', rt := Q } (L2.start N vs) H) : FnG P w K mg bs (k + 1) f fd ps sp := by
  obtain ⟨oc, od, kV, doc, pm, an, cv, ct, osl, rfl, lk, cd⟩ := F.ex
  refine ⟨len, fun B fr s H ar us vs Q E gu hr e0 hb rv hs => ?_⟩
  have ln := len _ _ _ _ hs
  have kx : K.In s.heap := e0.mod.kin.keeps fun b o e => (e0.bs b o e).1
  have li : s.heap.NoLimit := e0.mod.nolimit.keeps fun b o e => (e0.bs b o e).1
  have kd : ∀ y ∈ ps.zip us, (defScope st).names.lookup y.1 = some .local ∨ ((defScope st).names.lookup y.1 = some .cell ∧ ((cellsFrom (s.heap.objs.size + 1) (defScope st).names []).lookup y.1).isSome = true) := by
    rintro ⟨n, v⟩ hy
    rcases S.par n (List.of_mem_zip hy).1 with z | z
    · exact .inl z
    · exact .inr ⟨z, PySem.W.cellsFrom_some _ _ _ (.inl z)⟩
  refine codeAny_call_function hr.depth (kx _ _ lk) rfl S.co S.gen rfl (PySem.W.codeRec_of kx cd) (hb _ _ _ _ ?_)
  refine wpAny_newFunctionEnv_cells S.kind kd fun ev he sx x => ?_
  subst he
  refine ⟨li.keeps x.toInCall.keep, codeAny_func ?_⟩
  obtain ⟨t, ht, hq⟩ := body cv B fr s H vs Q E gu (hr.deeper _) hs
  have I : Inv (cxOf CX0 P w K mg bs N qual (defScope st) f cv B fr s H E) [] (L2.start N vs) H sx := inv_start S hr.hd e0 ln rv x
  refine wpAny_mono (ht.nox.run [] sx (L2.start N vs) H _ I hq) (fun fl sy hf => ?_) fun e sy hf => hf
  cases fl with
  | ret u =>
    obtain ⟨v, σ1, H1, J, rw1, q⟩ := hf
    exact ⟨v, H1, J.os, J.bare, J.base, J.hok, rw1, q⟩
  | next =>
    obtain ⟨σ1, H1, J, q⟩ := hf
    exact ⟨V.non, H1, J.os, J.bare, J.base, J.hok, rfl, q⟩
  | brk =>
    obtain ⟨_, _, _, z⟩ := hf
    exact z.elim
  | cont =>
    obtain ⟨_, _, _, z⟩ := hf
    exact z.elim
/-- a def that wants it, by its promise -/
def HasG (P : Program) (w : World) (K : PySem.W.Frag) (mg : Str → Option Value) (bs : Heap) (x : Str) (ps : List Str) (k : Nat) (sp : Sp) : Prop :=
  ∃ (f : Addr) (fd : FuncData), FnG P w K mg bs k f fd ps sp ∧ mg x = some (.ref f) ∧ PySem.W.keepIn K (.ref f) = true ∧ Binds K fd ps []
end
theorem pe_hasG {X : Cx} {x : Str} {ps : List Str} {k : Nat} {sp : Sp} {e : Expr} {es : List Expr} {t : TA} {p pos : Pos} (gu : X.A.guards = some []) (h : HasG X.prog X.w X.K X.mg X.base x ps k sp) (hr : Room k X.A) (ha : PA X (e :: es) t) (hg : Gl X x := by rfl)
    (hdb : (x == ("__debug__" : Str)) = false := by decide) (he : starEach (e :: es) X.env = (false, eval e X.env) :: starEach es X.env := by rfl) (hpl : (backTo pos (starEach es X.env)).any (·.1) = false := by rfl) :
    PE X (.Call (.Name x p) (e :: es) [] pos) (tCall sp [] E0 t) := by
  obtain ⟨f, fd, F, mx, kp, bd⟩ := h
  refine ⟨fun pins s σ H Q I hh => wpAny_Call_Name_kw (ld_glob I hg mx ?_ hdb)⟩
  refine PySem.W.callWith_K (h₀ := X.base) I.ok.mod.kin kp (thn (ha.run pos pins s σ H _ I hh) fun us s1 ⟨vs, H1, I1, rv, qq⟩ => ⟨I1.kIn, ?_⟩) he hpl
  have qq : sp (vs ++ []) H1 Q E0 := qq
  rw [List.append_nil] at qq
  have ln : us.length = ps.length := by rw [← rv.length]; exact F.len _ _ _ _ qq
  have bb := bd s1 us I1.kIn (by rw [List.append_nil]; exact ln)
  rw [List.append_nil] at bb
  refine wpAny_call (codeAny_mono (F.run X.A X.stack s1 H1 ⟨us, []⟩ us vs Q E0 gu hr I1.env0 bb rv qq) fun r s2 z => ?_)
  cases r with
  | error e => exact z.elim
  | ok fl =>
    cases fl with
    | ret u => exact I1.after z
    | next => exact False.elim z
    | brk => exact False.elim z
    | cont => exact False.elim z
/-- str(..) of data -/
theorem call_strG {X : Cx} (gu : X.A.guards = some []) (hu : X.A.units + 130 < cLine) : CallR X (.type "str") (fun xs H Q => ∃ (a : Addr) (d : PyData), xs = [.ref a] ∧ Dp X.K H (.ref a) d ∧ d.showable = true ∧ d.hasDict = false ∧ d.depth ≤ 120 ∧ d.shown.length ≤ sizeLine ∧ Q (.str d.shown) H) := by
  intro pins s σ H xs us Q I r h
  obtain ⟨a, d, rfl, hd, sh, nd, dp, hz, q⟩ := h
  obtain ⟨u, rfl, rr⟩ := vals1 r
  obtain rfl : u = Value.ref a := rr
  obtain ⟨as, rd⟩ := Dp.reads I d _ _ hd rfl
  refine str_of_reads rd sh (fun z => by rw [nd] at z; cases z) gu (by omega) (fun _ _ z => z) (fun h' u tk kp => ⟨.str d.shown, H, I.kept kp, ⟨_, rfl⟩, q⟩) hz
theorem caller_g : callerA.guards = some [] := rfl
section
variable {P : Program} {w : World} {K : PySem.W.Frag} {mg mn : Str → Option Value} {k : Nat} {fa a : Addr} {fd : FuncData} {x : Str} {sp : Sp} {S : Shared} {vs : List Value} {ns : List Int}
/-- the law's own def, called by the test -/
theorem law_callG (KX : K.In S.heap) (n1 : S.heap.Ns mainGlobals mg) (n2 : S.heap.Ns builtinsNs mn) (n3 : ∀ x : Str, x ≠ "__name__" → mn x = bootBuiltins x) (lim : S.heap.NoLimit) (nog : S.gens = #[])
    (ha : S.heap.get? a = some { cls := .type "list", data := .seq vs.toArray }) (hi : IntsAre vs ns) (hl : ns.length ≤ sizeLine) (hr : Room k callerA)
    (F : ∀ b : Heap, K.In b → b.Ns mainGlobals mg → FnG P w K mg b k fa fd [x] sp) (hbd : ∀ (s : Shared) (u : Value), BindsTo s fd ⟨[u], []⟩ [(x, u)])
    (hs : ∀ H : Hp, Only H → SqL K H a (ns.map V.int) → sp [.ref a] H (fun v _ => v = .bl true) fun _ _ _ => False) :
    codeAny (model P w) callerA (.call (.ref fa) ⟨[.ref a], []⟩) (fun r t => r = .ok (.ret (.bool true)) ∧ OldK S.heap t.heap ∧ t.os = S.os ∧ AllBare t.gens) S := by
  have vv := vals_ints hi
  have lv := hi.length
  have from_ : ∀ H : Hp, Only H → SqL K H a (ns.map V.int) → HOk P w H S.heap → (∀ b, H b ≠ none → b = a) → (H a ≠ none → K.lookup a = none) →
      codeAny (model P w) callerA (.call (.ref fa) ⟨[.ref a], []⟩) (fun r t => r = .ok (.ret (.bool true)) ∧ OldK S.heap t.heap ∧ t.os = S.os ∧ AllBare t.gens) S := by
    intro H ho hS hok only nk
    have is_a : ∀ b u, H b = some u → b = a := fun b u e => only b (by rw [e]; exact fun z => nomatch z)
    have dno : ∀ {b : Addr} {o : Obj} {es : Array DictEntry} {m : Nat}, S.heap.get? b = some o → o.data = .dict es m → H b = none := by
      intro b o es m e d
      cases z : H b with
      | none => rfl
      | some u =>
        cases is_a b u z
        rw [ha] at e
        cases e
        cases (show Data.seq vs.toArray _ = Data.dict es m from d)
    have nsk : ∀ {b : Addr} {m : Str → Option Value}, S.heap.Ns b m → (hidT S.heap H).Ns b m := by
      rintro b m ⟨o, es, j, e, d, r⟩
      exact ⟨o, es, j, hidT_get e (dno e d), d, r⟩
    have kin : K.In (hidT S.heap H) := by
      intro b o e
      refine hidT_get (KX b o e) ?_
      cases z : H b with
      | none => rfl
      | some u =>
        cases is_a b u z
        rw [nk (by rw [z]; exact fun z => nomatch z)] at e
        cases e
    obtain ⟨mc, c1, c2⟩ := lim
    have hm : Mod K mg (hidT S.heap H) := ⟨kin, nsk n1, ⟨mn, nsk n2, n3⟩, ⟨mc, nsk c1, c2⟩⟩
    have e0 : Env0 P w K mg (hidT S.heap H) callerA [] S H := ⟨rfl, hm, fun b o e => of_hidT e, Nat.le_of_eq (hidT_size _ _), trivial, fun b hb => absurd (show b ∈ ([] : List Addr) from hb) List.not_mem_nil, hok, .of_eq nog⟩
    refine codeAny_mono ((F _ kin (nsk n1)).run callerA [] S H ⟨[.ref a], []⟩ [.ref a] [.ref a] _ _ caller_g hr e0 (hbd S (.ref a)) (.cons rfl .nil) (hs H ho hS)) fun r t h => ?_
    match r, h with
    | .error e, h => exact h.elim
    | .ok .next, h => exact h.elim
    | .ok .brk, h => exact h.elim
    | .ok .cont, h => exact h.elim
    | .ok (.ret u), h =>
      obtain ⟨v, H1, os, bare, un, hok1, rl, qv⟩ := h
      cases (show v = .bl true from qv)
      cases (show u = Value.bool true from rl)
      refine ⟨rfl, OldK.of_keep fun b o e => ?_, os, bare⟩
      cases z : H b with
      | none => exact un.keep b o e z (fun y => absurd (show b ∈ ([] : List Addr) from y) List.not_mem_nil) List.not_mem_nil
      | some u =>
        rcases ho b with y | ⟨ob, xs, y⟩
        · rw [z] at y
          cases y
        · obtain ⟨g1, _⟩ := hok b _ y
          obtain ⟨g2, _⟩ := hok1 b _ (un.frzs b ob _ y)
          rw [e] at g1
          cases g1
          exact g2
  cases hk : K.lookup a with
  | some o =>
    have e := KX a o hk
    rw [ha] at e
    cases e
    exact from_ (fun _ => none) (fun _ => .inl rfl) (.inr ⟨_, vs.toArray, _, hk, rfl, rfl, rfl, by rw [List.size_toArray, lv]; exact hl, by simpa using vv⟩) (fun b u z => by cases (show (none : Option HO) = some u from z)) (fun b z => absurd rfl z) fun z => absurd rfl z
  | none =>
    refine from_ (fun b => if b = a then some (.frz { cls := .type "list", data := .seq vs.toArray } (.lst (ns.map V.int))) else none) ?_ (.inl (.inr ⟨{ cls := .type "list", data := .seq vs.toArray }, if_pos rfl⟩)) ?_ ?_ fun _ => hk
    · intro b
      by_cases hb : b = a
      · exact .inr ⟨_, _, if_pos hb⟩
      · exact .inl (if_neg hb)
    · intro b u z
      by_cases hb : b = a
      · cases (if_pos hb).symm.trans z
        cases hb
        exact ⟨ha, by rw [List.length_map]; exact hl, vs, _, vv, ha⟩
      · cases (if_neg hb).symm.trans z
    · intro b z
      by_cases hb : b = a
      · exact hb
      · exact absurd (if_neg hb) z
end
theorem walk_ofG {l : PySem.W.OpenLaw} {n k : Nat} {q : Program} {loose : List Str} {XP : (Str → Option Value) → Heap → Prop} {YP : World → Heap → Prop} {d : DefRec} {K : Params → PySem.W.Frag} {sp : World → Sp} {x : Str} (hn : l.most = some n) (hn2 : n ≤ sizeLine) (hdf : d.params.defaults = []) (hr : Room k callerA) (hY : ∀ (w : World) (h : Heap), YP w h → (K w.params).In h)
    (F : ∀ (w : World) (mg : Str → Option Value) (fa : Addr) (h : Heap), (K w.params).In h → h.Ns mainGlobals mg → mg d.name = some (.ref fa) →
      ∃ fd : FuncData, (∀ (s : Shared) (u : Value), BindsTo s fd ⟨[u], []⟩ [(x, u)]) ∧ ∀ b : Heap, (K w.params).In b → b.Ns mainGlobals mg → FnG l.prog w (K w.params) mg b k fa fd [x] (sp w))
    (hsp : ∀ (w : World) (H : Hp) (a : Addr) (ns : List Int), ns.length ≤ n → Only H → SqL (K w.params) H a (ns.map V.int) → sp w [.ref a] H (fun v _ => v = .bl true) fun _ _ _ => False) : PySem.W.WalkO q loose XP YP l.row.toRowW d [] (fun f vs => PySem.call f vs) := by
  refine Att.attach_call hn hdf fun w s0 s1 mg mb fa o pm cd doc a vs ns G Y ho hd hcd hmg hobj hints hlen hgen => ?_
  have kx := hY w _ Y
  obtain ⟨fd, hb, hF⟩ := F w mg fa _ kx G.T.g hmg
  exact law_callG kx G.T.g G.T.b G.T.builtins G.T.nolimit hgen hobj hints (Nat.le_trans hlen hn2) hr hF hb (fun H hO hS => hsp w H a ns hlen hO hS)
end Wp
set_option Elab.async false
set_option linter.all false
set_option maxRecDepth 100000
set_option maxHeartbeats 2000000
namespace Wp
open PySem PySem.Spec PyProof.Rows L2
/-! enumerate of a text: each sign in a new pair with its number -/
def IteS (x : Str) : It :=
  ⟨fun i _ => i < x.cps.size, fun i H v H' => ∃ T c, v = .ref T ∧ H T = none ∧ H' = upd H T (.tup [.int (i : Nat), .str ⟨#[c]⟩]) ∧ x.cps[i]? = some c, fun i _ => i = x.cps.size⟩
theorem str_draws {P : Program} {w : World} {A : Around} (hh : A.handled = none) (it : Addr) (x : Str) (t : Tok) : Draws P w A it [it] x.cps.size (SignAt x) (fun i h => h.IsStrIter it (strIterType x) x t i) := by
  unfold strIterType
  split
  · exact Draws.strAscii hh it x t
  · exact Draws.strWide hh it x t
theorem turn_enumS {P : Program} {w : World} {K : PySem.W.Frag} {elts : List Expr} {kk : Nat} {tpos : Pos} (x : Str) (t : Tok) (e it : Addr) :
    Turn P w K (.Tuple elts kk tpos) (IteS x) [e, it] e (fun i h => (∃ old, IsEnum h e it ((i : Nat) : Int) old) ∧ h.IsStrIter it (strIterType x) x t i ∧ e ≠ it) where
  mem := by simp
  obj := fun i h st b hb => by
    obtain ⟨⟨old, he⟩, ⟨o, ho, hc, hd⟩, _⟩ := st
    have z : b = e ∨ b = it := by simpa using hb
    rcases z with z | z
    · subst z
      exact ⟨_, he, fun v q => nomatch q⟩
    · subst z
      exact ⟨o, ho, fun v q => by rw [hd] at q; cases q⟩
  keep := fun i h h' st k => by
    obtain ⟨⟨old, he⟩, ⟨o, ho, r⟩, ne⟩ := st
    exact ⟨⟨old, k e (by simp) _ he⟩, ⟨o, k it (by simp) o ho, r⟩, ne⟩
  item := by
    intro X hP hw hK hc i pins s σ H E I hf st hg
    subst hP hw hK
    obtain ⟨⟨old, he⟩, hit, ne⟩ := st
    have le : e < s.heap.objs.size := Heap.lt_size he
    have li : it < s.heap.objs.size := by
      obtain ⟨_, q, _⟩ := hit
      exact Heap.lt_size q
    refine wpAny_pyNext_enum_itemD (str_draws (A := X.A.in1) (I.ok.hd hc) it x t) he hit hg ne (by simpa using ne) fun u h' tk hu ho hit' hT hsz hk => ?_
    obtain ⟨c, tc, hcx, rfl⟩ := hu
    refine ⟨_, rfl, wpAny_letOwnedTupleGo_enum (s := { s with heap := h', toks := tk + 1 }) ho fun h2 he2 sb => ?_⟩
    have hT2 : h2.get? s.heap.objs.size = some { cls := .type "tuple", data := .seq #[.int i tk, .str ⟨#[c]⟩ tc] } := (sb.2 _ (Nat.ne_of_gt le)).trans hT
    have new : ObjOk X.prog X.w (upd H s.heap.objs.size (.tup [.int (i : Nat), .str ⟨#[c]⟩])) h2 s.heap.objs.size (.tup [.int (i : Nat), .str ⟨#[c]⟩]) :=
      ⟨by show 2 ≤ sizeLine; decide, [.int i tk, .str ⟨#[c]⟩ tc], .cons ⟨_, rfl⟩ (.cons ⟨_, rfl⟩ .nil), ⟨_, hT2, rfl, _, rfl⟩⟩
    have I1 : Inv X pins σ (upd H s.heap.objs.size (.tup [.int (i : Nat), .str ⟨#[c]⟩])) { s with heap := h2, toks := tk + 1 } :=
      I.turnedNew (ch := [e, it]) (fun b ob nb q => (sb.2 b (fun z => nb (by simp [z]))).trans (hk b ob (fun z => nb (by simp [z])) (fun z => nb (by simp [z])) q)) hf (Nat.le_refl _) new
    refine ⟨.ref s.heap.objs.size, _, I1, rfl, ⟨_, c, rfl, I.hok.fresh (Nat.le_refl _), rfl, hcx⟩, ⟨⟨.str ⟨#[c]⟩ tc, ?_⟩, ?_, ne⟩, fun b hb => ?_⟩
    · have e1 : ((i + 1 : Nat) : Int) = (i : Int) + 1 := by omega
      rw [e1]; exact he2
    · obtain ⟨o, q, r⟩ := hit'
      exact ⟨o, (sb.2 it (Ne.symm ne)).trans q, r⟩
    · have lb : b < s.heap.objs.size := by
        have z : b = e ∨ b = it := by simpa using hb
        rcases z with z | z
        · rw [z]; exact le
        · rw [z]; exact li
      rw [upd_ne (Nat.ne_of_lt lb)]
      exact (hf b hb).1
  done := by
    intro X hP hw hK hc i pins s σ H E I hf st hg
    subst hP hw hK
    obtain ⟨⟨old, he⟩, hit, ne⟩ := st
    have hg : i = x.cps.size := hg
    subst hg
    obtain ⟨f0, f1, f2, f3, f4, f5⟩ := hf it (by simp)
    exact wpAny_pyNext_enum_endD (str_draws (A := X.A.in1) (I.ok.hd hc) it x t) he hit fun h' eb => ⟨rfl, I.turned (t' := s.toks) (fun b o nb q => eb b o nb q) f0 f1 f3 f4 f5⟩
  self := fun A i s Q E st h => let ⟨⟨_, he⟩, _⟩ := st; wpAny_pyIter_enum he h
def iEnumS (ta : TA) : TI := fun σ H R => ta σ H fun vs H1 => ∃ x, vs = [.str x] ∧ R (IteS x) H1
theorem pi_enumS {X : Cx} {e : Expr} {ta : TA} {p pos tpos : Pos} {elts : List Expr} {kk : Nat} (hg : Gl X "enumerate") (hm : X.mg "enumerate" = none) (ha : PA X [e] ta) (hs : starEach [e] X.env = [(false, eval e X.env)] := by rfl) :
    PI X (.Tuple elts kk tpos) (.Call (.Name "enumerate" p) [e] [] pos) (iEnumS ta) := by
  refine ⟨fun pins s σ H R I h => Call_ (ld_blt I hg hm boot_enumerate (PyProof.Rows.callWith_type1 (thn (ha.run pos pins s σ H _ I h) fun us s1 ⟨vs, H1, I1, r1, q1⟩ => ?_) hs rfl))⟩
  obtain ⟨x, ex, q⟩ := q1
  subst ex
  cases r1 with
  | cons r rr =>
    cases rr
    obtain ⟨t, rfl⟩ := r
    refine call_enumerate_str fun h' he hit hsz hk => wpAny_pyIter_enum he ?_
    have I2 : Inv X pins σ H1 { s1 with heap := h' } := I1.kept (t' := s1.toks) hk
    refine ⟨s1.heap.objs.size + 1, [s1.heap.objs.size + 1, s1.heap.objs.size], _, _, H1, rfl, I2, turn_enumS x t (s1.heap.objs.size + 1) s1.heap.objs.size, ⟨⟨.none, he⟩, hit, Nat.succ_ne_self _⟩, fun b hb => ?_, q⟩
    have z : b = s1.heap.objs.size + 1 ∨ b = s1.heap.objs.size := by simpa using hb
    have lb : s1.heap.objs.size ≤ b := by
      rcases z with z | z
      · rw [z]; exact Nat.le_add_right _ _
      · rw [z]; exact Nat.le_refl _
    exact I1.fpOk lb (I1.hok.fresh lb)
theorem walk_enumS {x : Str} : Walk (IteS x) x.cps.toList.length (fun _ => True) (YPair (fun i => some (.int (i : Nat))) (fun i => (x.cps.toList[i]?).map fun c => .str ⟨#[c]⟩)) := by
  have e : x.cps.toList.length = x.cps.size := Array.length_toList
  refine ⟨fun i _ hi _ => ?_, fun _ _ => ?_, fun i H v H' hi _ y => ?_⟩
  · show i < x.cps.size
    omega
  · show _ = x.cps.size
    exact e
  · obtain ⟨T, c, g1, g2, g3, g4⟩ := y
    refine ⟨T, _, .str ⟨#[c]⟩, g1, g2, g3, rfl, ?_⟩
    show (x.cps.toList[i]?).map _ = _
    rw [Array.getElem?_toList, g4]
    rfl
end Wp
set_option Elab.async false
set_option linter.all false
set_option maxRecDepth 100000
set_option maxHeartbeats 2000000
namespace Wp
open PySem PySem.Spec PyProof.Rows L2
theorem same_gx {a : Addr} {H H' : Hp} (s : Same H H') : Gx a H H' := fun b o _ h => s b o h
theorem same_new {H : Hp} {p : Addr} {o : HO} (h : H p = none) : Same H (upd H p o) := fun b u q => by rw [upd_ne (ne_of_none q h)]; exact q
theorem same_grow {H H' : Hp} {p : Addr} {o : HO} (s : Same H H') (h : H p = none) : Same H (upd H' p o) := fun b u q => by rw [upd_ne (ne_of_none q h)]; exact s b u q
theorem same_none {H H' : Hp} {p : Addr} (s : Same H H') (h : H' p = none) : H p = none := by
  cases e : H p with
  | none => rfl
  | some o => rw [s _ _ e] at h; cases h
theorem same_tp {H H' : Hp} (s : Same H H') : Tp H H' := fun b xs e => s _ _ e
theorem ite_t {c : Bool} {A B : Prop} (h : c = true) (k : A) : if c = true then A else B := by rw [if_pos h]; exact k
theorem ite_f {c : Bool} {A B : Prop} (h : c = false) (k : B) : if c = true then A else B := by rw [if_neg (by rw [h]; decide)]; exact k
/-! ### data made of tuples -/
mutual
inductive Dz (H : Hp) : V → PyData → Prop
  | non : Dz H .non .none
  | bl (b : Bool) : Dz H (.bl b) (.bool b)
  | int (i : Int) : Dz H (.int i) (.int i)
  | str (z : Str) : Dz H (.str z) (.str z)
  | tup {p : Addr} {xs : List V} {ds : List PyData} : H p = some (.tup xs) → DzL H xs ds → Dz H (.ref p) (.tuple ds)
inductive DzL (H : Hp) : List V → List PyData → Prop
  | nil : DzL H [] []
  | cons {v : V} {vs : List V} {d : PyData} {ds : List PyData} : Dz H v d → DzL H vs ds → DzL H (v :: vs) (d :: ds)
end
mutual
theorem Dz.tp {H H' : Hp} (k : Tp H H') : ∀ {v : V} {d : PyData}, Dz H v d → Dz H' v d
  | _, _, .non => .non
  | _, _, .bl b => .bl b
  | _, _, .int i => .int i
  | _, _, .str z => .str z
  | _, _, .tup h t => .tup (k _ _ h) (DzL.tp k t)
theorem DzL.tp {H H' : Hp} (k : Tp H H') : ∀ {vs : List V} {ds : List PyData}, DzL H vs ds → DzL H' vs ds
  | _, _, .nil => .nil
  | _, _, .cons h t => .cons (Dz.tp k h) (DzL.tp k t)
end
mutual
theorem Dz.dp {K : PySem.W.Frag} {H : Hp} : ∀ {v : V} {d : PyData}, Dz H v d → Dp K H v d
  | _, _, .non => .non
  | _, _, .bl b => .bl b
  | _, _, .int i => .int i
  | _, _, .str z => .str z
  | _, _, .tup h t => .tup (.inl (.inl h)) (DzL.dp t)
theorem DzL.dp {K : PySem.W.Frag} {H : Hp} : ∀ {vs : List V} {ds : List PyData}, DzL H vs ds → DpAll K H vs ds
  | _, _, .nil => .nil
  | _, _, .cons h t => .cons (Dz.dp h) (DzL.dp t)
end
theorem DzL.len {H : Hp} : ∀ {vs : List V} {ds : List PyData}, DzL H vs ds → vs.length = ds.length
  | _, _, .nil => rfl
  | _, _, .cons _ t => by rw [List.length_cons, List.length_cons, t.len]
theorem DzL.app {H : Hp} : ∀ {xs ys : List V} {ds es : List PyData}, DzL H xs ds → DzL H ys es → DzL H (xs ++ ys) (ds ++ es)
  | _, _, _, _, .nil, h => h
  | _, _, _, _, .cons h t, h2 => .cons h (t.app h2)
theorem DzL.get {H : Hp} : ∀ {vs : List V} {ds : List PyData}, DzL H vs ds → ∀ {i : Nat} {v : V}, vs[i]? = some v → ∃ d, ds[i]? = some d ∧ Dz H v d
  | _, _, .nil, _, _, e => by cases e
  | _, _, .cons h _, 0, _, e => by cases e; exact ⟨_, rfl, h⟩
  | _, _, .cons _ t, i + 1, _, e => t.get (i := i) e
theorem DzL.strs {H : Hp} : ∀ (zs : List Str), DzL H (zs.map V.str) (zs.map PyData.str)
  | [] => .nil
  | z :: zs => .cons (.str z) (DzL.strs zs)
/-! ### methods and classes by their promises -/
def HasM (P : Program) (w : World) (K : PySem.W.Frag) (mg : Str → Option Value) (base : Heap) (C : Addr) (m : Str) (ps : List Str) (k : Nat) (sp : Sp) : Prop :=
  ∃ (f : Addr) (fd : FuncData), FnOk P w K mg base CX0 k f fd ps sp ∧ Meth K C m f ∧ Binds K fd ps []
def HasC (P : Program) (w : World) (K : PySem.W.Frag) (mg : Str → Option Value) (base : Heap) (x : Str) (C : Addr) (ps : List Str) (k : Nat) (sp : Sp) : Prop :=
  ∃ (f : Addr) (fd : FuncData), FnOk P w K mg base CX0 k f fd ps sp ∧ Mk K C f ∧ mg x = some (.ref C) ∧ Binds K fd ps []
section
variable {X : Cx} {x m : Str} {C : Addr} {ps : List Str} {k : Nat} {sp : Sp} {o e : Expr} {es : List Expr} {ta : TE} {t : TA} {p pos apos : Pos}
theorem pe_hasM {pl : Sem Bool} (c : Cls X.K C) (h : HasM X.prog X.w X.K X.mg X.base C m ps k sp) (hr : Room k X.A) (ho : PE X o ta) (ha : PA X (e :: es) t)
    (hst : starEach (e :: es) X.env = (false, eval e X.env) :: starEach es X.env := by rfl) (hpl : (backTo pos (starEach es X.env)).any (·.1) = false := by rfl)
    (ht : eval (.Call (.Attribute o m apos) (e :: es) [] pos) X.env = (do
      let ov ← eval o X.env
      standAt apos.atName
      let (f, first) ← holding [ov] (getMethod ov m pl)
      callWith pos f first (backTo pos (starEach (e :: es) X.env)) (backToKw pos (keywordEach [] X.env))) := by rfl) :
    PE X (.Call (.Attribute o m apos) (e :: es) [] pos) (tMeth C m sp [] E0 ta t) := by
  obtain ⟨f, fd, F, mt, b⟩ := h
  exact pe_meth ho c mt F hr b .nil pass0 ha hst hpl ht
theorem pe_hasM0 {pl : Sem Bool} (c : Cls X.K C) (h : HasM X.prog X.w X.K X.mg X.base C m ps k sp) (hr : Room k X.A) (ho : PE X o ta)
    (ht : eval (.Call (.Attribute o m apos) [] [] pos) X.env = (do
      let ov ← eval o X.env
      standAt apos.atName
      let (f, first) ← holding [ov] (getMethod ov m pl)
      callWith pos f first (backTo pos (starEach [] X.env)) (backToKw pos (keywordEach [] X.env))) := by rfl) :
    PE X (.Call (.Attribute o m apos) [] [] pos) (tMeth C m sp [] E0 ta tNil) := by
  obtain ⟨f, fd, F, mt, b⟩ := h
  exact pe_meth0 ho c mt F hr b .nil pass0 ht
theorem pe_hasC (h : HasC X.prog X.w X.K X.mg X.base x C ps k sp) (hr : Room (k + 1) X.A) (ha : PA X (e :: es) t) (hg : Gl X x := by rfl)
    (hdb : (x == ("__debug__" : Str)) = false := by decide) (he : starEach (e :: es) X.env = (false, eval e X.env) :: starEach es X.env := by rfl) (hpl : (backTo pos (starEach es X.env)).any (·.1) = false := by rfl) :
    PE X (.Call (.Name x p) (e :: es) [] pos) (tMake C sp [] E0 t) := by
  obtain ⟨f, fd, F, M, mC, b⟩ := h
  exact pe_make M F hr hg mC b .nil pass0 ha hdb he hpl
theorem pe_hasC0 (h : HasC X.prog X.w X.K X.mg X.base x C ps k sp) (hr : Room (k + 1) X.A) (hg : Gl X x := by rfl) (hdb : (x == ("__debug__" : Str)) = false := by decide) :
    PE X (.Call (.Name x p) [] [] pos) (tMake C sp [] E0 tNil) := by
  obtain ⟨f, fd, F, M, mC, b⟩ := h
  exact pe_make0 M F hr hg mC b .nil pass0 hdb
end
/-! ### d.get(k, x) of a written dict -/
def tKGet (K : PySem.W.Frag) (w : World) (td ty tx : TE) : TE := fun σ H Q => td σ H fun x H1 => ∃ a, x = .ref a ∧ (∃ es n, K.lookup a = some ⟨.type "dict", none, .dict es n, #[]⟩) ∧ ty σ H1 fun y H2 => tx σ H2 fun z H3 => ∃ s : Str, y = .str s ∧
  ((∃ v, KDct K w a s v ∧ (a == sysModules) = false ∧ Q v H3) ∨ (KMiss K w a s ∧ Q z H3))
theorem pe_kget2 {X : Cx} {o e f : Expr} {apos cpos : Pos} {td ty tx : TE} (ho : PE X o td) (he : PE X e ty) (hf : PE X f tx) (m : M2 X o "get" apos e f cpos) : PE X (.Call (.Attribute o "get" apos) [e, f] [] cpos) (tKGet X.K X.w td ty tx) := by
  refine ⟨fun pins s σ H Q I h => ?_⟩
  refine wpAny_Call_method m.base m.few m.line PySem.F.plainAttrs_dict PySem.F.slot_dict_get PySem.F.type_dict_get (thn (ho.run pins s σ H _ I h) fun u s1 ⟨x, H1, I1, rx, a, ex, ⟨es, n, hl⟩, q1⟩ => ?_)
  subst ex
  obtain rfl : u = Value.ref a := rx
  have at1 := I1.kIn _ _ hl
  refine ⟨⟨_, at1, rfl⟩, fun b q => ?_, ?_⟩
  · cases q
    exact ⟨_, at1, rfl⟩
  rw [m.trees]
  refine Calls.callWith_builtin rfl (Calls.evalArgs_plain (Calls.spliced_cons (thn (he.run pins s1 σ H1 _ I1 q1) fun iv s2 ⟨y, H2, I2, ry, q2⟩ =>
    Calls.spliced_cons (thn (hf.run pins s2 σ H2 _ I2 q2) fun fv s3 ⟨z, H3, I3, rz, sx, ey, q3⟩ => Calls.spliced_nil ?_))))
  subst ey
  obtain ⟨t, rfl⟩ := (show ∃ t, iv = Value.str sx t from ry)
  have core : ∀ es n, X.K.lookup a = some ⟨.type "dict", none, .dict es n, #[]⟩ → PySem.W.KeysLit X.w.params es.toList → (a == sysModules) = false → ∀ r : Option Value, PySem.W.nsIn X.K a sx = some r →
      (∀ w' s', Inv X pins σ H3 s' → w' = r.getD fv → EP X pins σ Q w' s') → wpAny (model X.prog X.w) X.A (call (.builtin "dict.get") [.ref a, .str sx t, fv]) (EP X pins σ Q) X.xe s3 := fun es n hl hk low r hr k => by
    have hm := PySem.W.mapOf_K (prog := X.prog) (w := X.w) I3.kIn hl hk
    refine call_meetsIn PySem.F.slot_dict_get hm.typeIs PySem.F.entry_dict_get (PySem.F.args_dict_get_3 _ _ _) (meets_dict_get_default (strKind X.prog X.w) a (strKind_is X.prog X.w sx t) low fv) ⟨_, hm, k _ _ (I3.tok _) ?_⟩
    rw [PySem.W.find_K hl hr]
  rcases q3 with ⟨v, ⟨es, n, u, hl, hk, hn, rv⟩, low, q⟩ | ⟨⟨es, n, hl, hk, low, hn⟩, q⟩
  · exact core es n hl hk low _ hn fun w' s' I' e => by
      rw [e]
      exact ⟨v, H3, I', rv, q⟩
  · exact core es n hl hk low _ hn fun w' s' I' e => by
      rw [e]
      exact ⟨z, H3, I', rz, q⟩
end Wp
set_option Elab.async false
set_option linter.all false
set_option maxRecDepth 100000
set_option maxHeartbeats 2000000
namespace Wp
open PySem PySem.Spec PyProof.Rows L2
/-! ### list(d) of a written dict: its keys -/
def keysD : List DictEntry → Option (List Str)
  | [] => some []
  | e :: es => match e.key with
    | .str z _ => (keysD es).map (z :: ·)
    | _ => none
def KAll (K : PySem.W.Frag) (w : World) (a : Addr) (zs : List Str) : Prop :=
  ∃ es n, K.lookup a = some ⟨.type "dict", none, .dict es n, #[]⟩ ∧ PySem.W.KeysLit w.params es.toList ∧ (a == sysModules) = false ∧ keysD es.toList = some zs ∧ zs.Nodup ∧ zs.length ≤ 1000
theorem keys_pairs {P : Program} {w : World} : ∀ {l : List DictEntry} {zs : List Str}, keysD l = some zs → ∃ kvs, Pairs (strKind P w) l kvs ∧ kvs.map (·.1) = zs
  | [], zs, h => by
    cases h
    exact ⟨[], .nil, rfl⟩
  | e :: es, zs, h => by
    unfold keysD at h
    split at h
    · rename_i z t hk
      cases hr : keysD es with
      | none => rw [hr] at h; cases h
      | some ys =>
        rw [hr] at h
        cases h
        obtain ⟨kvs, p, m⟩ := keys_pairs (P := P) (w := w) hr
        exact ⟨(z, e.val) :: kvs, .cons (by rw [hk]; exact strKind_is P w z t) rfl p, by rw [List.map_cons, m]⟩
    · cases h
theorem vals_at : ∀ {zs : List Str} {us : List Value}, us.length = zs.length → (∀ (j : Nat) (v : Value), us[j]? = some v → ∃ z, zs[j]? = some z ∧ ∃ t, v = .str z t) → Vals (zs.map V.str) us
  | [], [], _, _ => .nil
  | [], _ :: _, h, _ => by simp at h
  | _ :: _, [], h, _ => by simp at h
  | z :: zs, u :: us, h, k => by
    obtain ⟨y, e, t, rfl⟩ := k 0 u rfl
    cases e
    exact .cons ⟨t, rfl⟩ (vals_at (by simpa using h) fun j v e => by simpa using k (j + 1) v (by simpa using e))
theorem call_listK {X : Cx} (hc : X.calm = true) : CallR X (.type "list") (fun xs H Q => ∃ p zs, xs = [.ref p] ∧ KAll X.K X.w p zs ∧ ∀ l, H l = none → Q (.ref l) (upd H l (.lst (zs.map V.str)))) := by
  intro pins s σ H xs us Q I r h
  obtain ⟨p, zs, rfl, ⟨es, n, hl, hk, low, hz, nd, lz⟩, q⟩ := h
  obtain ⟨u, rfl, rx⟩ := vals1 r
  cases rx
  obtain ⟨kvs, pr, m⟩ := keys_pairs (P := X.prog) (w := X.w) hz
  have at_ : s.heap.DictAt (strKind X.prog X.w) p kvs n := ⟨_, es, I.kIn _ _ hl, ⟨rfl, rfl, rfl⟩, rfl, fun e he => by
    obtain ⟨x, t, e1, e2⟩ := hk.all e (Array.mem_toList_iff.mpr he)
    exact ⟨x, by rw [e1]; exact strKind_is X.prog X.w x t, e2⟩, pr, by rw [m]; exact nd⟩
  have lk : kvs.length = zs.length := by rw [← m, List.length_map]
  have ln : kvs.length ≤ sizeLine := by
    rw [lk]
    exact Nat.le_trans lz (by decide)
  refine PySem.W.kdl_call (PySem.W.kdl_dict (knd := strKind X.prog X.w) (kvs := kvs) (ep := n) low) (I.ok.hd hc) at_ ln fun h' tk acc c hx hD it => ?_
  have rv : Vals (zs.map V.str) acc.toList := by
    refine vals_at (by rw [Array.length_toList, it.1, lk]) fun j v e => ?_
    obtain ⟨k, x, ek, hi⟩ := it.2 j v (by rw [← Array.getElem?_toList]; exact e)
    refine ⟨k, ?_, Value.isStrOf_shape hi⟩
    rw [← m, List.getElem?_map, ek]
    rfl
  refine ⟨.ref s.heap.objs.size, _, I.laid (t' := tk) hx (Nat.le_refl _) (show ObjOk X.prog X.w _ h' _ (.lst (zs.map V.str)) from ⟨by rw [List.length_map, ← lk]; exact ln, acc.toList, c, rv, ?_⟩), rfl, q _ (I.hok.fresh (Nat.le_refl _))⟩
  rw [Array.toArray_toList]
  exact hD
end Wp
set_option Elab.async false
set_option linter.all false
set_option maxRecDepth 100000
set_option maxHeartbeats 2000000
namespace Wp
open PySem PySem.Spec PyProof.Rows L2
/-! ### tables and signs -/
def letters : Str := "abcdefghijklmnopqrstuvwxyz"
def nameSigns : Str := "abcdefghijklmnopqrstuvwxyz0123456789"
def figures : Str := "0123456789"
def blanks : Str := " \n"
def noNames : List Str := ["yes", "no", "none"]
def unbr : List Str := ["num", "text", "yes", "no", "none", "name", "op"]
def forms : List (Str × List Str) := [("num", ["number"]), ("text", ["text"]), ("yes", []), ("no", []), ("none", []), ("name", ["name"]), ("fun", ["binders", "part"]), ("rec", ["binder", "binders", "part"]), ("call", ["part", "handed parts"]), ("let", ["binder", "part", "part"]), ("if", ["part", "part", "part"]), ("do", ["row parts"]), ("op", ["word", "op parts"]), ("cell", ["part"]), ("get", ["part"]), ("set", ["part", "part"]), ("say", ["part"]), ("fault", ["part"]), ("guard", ["part", "binder", "part"]), ("wind", ["part", "part", "part"]), ("catch", ["binder", "part"]), ("go", ["part", "part"]), ("mark", ["tag", "part"]), ("take", ["tag", "binder", "part"]), ("use", ["part", "part"])]
def formOf (w : Str) : List Str := (forms.lookup w).getD []
def formWords : List Str := forms.map (·.1)
def ops : List (Str × Nat) := [("plus", 2), ("minus", 2), ("times", 2), ("less", 2), ("same", 2), ("joined", 2), ("pair", 2), ("first", 1), ("rest", 1), ("kind", 1), ("written", 1)]
def opWords : List Str := ops.map (·.1)
def opK (w : Str) : Nat := (ops.lookup w).getD 0
def bounds : List (Str × Nat × Nat) := [("binders", 0, 6), ("handed parts", 0, 6), ("row parts", 1, 12), ("op parts", 1, 2)]
def boundOf (w : Str) : Nat × Nat := (bounds.lookup w).getD (1, 1)
def isName (z : Str) : Bool := decide (1 ≤ z.length) && decide (z.length ≤ 12) && decide (z.cps.getD 0 0 ∈ letters.cps.toList) && z.cps.toList.all fun c => decide (c ∈ nameSigns.cps.toList)
def textSign (c : Nat) : Bool := decide (32 ≤ (c : Int)) && decide ((c : Int) ≤ 126) && !(decide (c = 34) || decide (c = 37) || decide (c = 92))
def isWordB (z : Str) : Bool := decide (z ∈ opWords) || (decide (z ∈ formWords) && !decide (z ∈ unbr))
def beginsW (z : Str) : Bool := (formWords ++ opWords).any fun w => isWordB w && Txt.startswith w z
def figs (z : Str) : Str := if z.cps.getD 0 0 = 45 then ⟨(z.cps.toList.drop 1).toArray⟩ else z
def beginsN (z : Str) : Bool := (figs z).cps.toList.all (fun c => decide (c ∈ figures.cps.toList)) && (!decide ((figs z).cps.toList.take 1 = [48]) || decide (z = "0"))
/-! ### the reader's state -/
structure Br where
  word : Str
  kinds : List Str
  least : Nat
  most : Nat
  things : List PyData
/-- the brackets that are open, the innermost first -/
structure Rd where
  brs : List Br
  token : Str
  reads : Option Str
def rootBr : Br := ⟨"root", ["part"], 1, 1, []⟩
def newBr : Br := ⟨"new", ["word"], 1, 1, []⟩
def namesBr : Br := ⟨"names", ["binder"], 0, 6, []⟩
def wordBr (z : Str) : Br := if z ∈ opWords then ⟨z, ["part"], opK z, opK z, []⟩ else
  ⟨z, (formOf z).dropLast ++ (["part"] : List Str), (formOf z).dropLast.length + (boundOf ((formOf z).getLastD "")).1, (formOf z).dropLast.length + (boundOf ((formOf z).getLastD "")).2, []⟩
def expectF (b : Br) : Option Str := if b.most ≤ b.things.length then none else b.kinds[min b.things.length (b.kinds.length - 1)]?
def madeF (b : Br) : PyData := if b.word = "names" then .tuple b.things else if b.word ∈ opWords then .tuple [.str "op", .str b.word, .tuple b.things] else
  if b.word = "call" then .tuple [.str "call", b.things.headD .none, .tuple (b.things.drop 1)] else if b.word = "do" then .tuple [.str "do", .tuple b.things] else .tuple (.str b.word :: b.things)
def addF (st : Rd) (d : PyData) : Rd := match st.brs with
  | [] => st
  | b :: bs => ⟨{ b with things := b.things ++ [d] } :: bs, "", none⟩
def namesF (st : Rd) : List PyData := match st.brs with
  | b :: o :: _ => if b.word = "names" then b.things ++ (if o.word = "rec" then o.things.take 1 else []) else []
  | _ => []
def isIn (z : Str) (d : PyData) : Bool := match d with | .str y => decide (y = z) | _ => false
def sg (c : Nat) : Str := ⟨#[c]⟩
def lengthenF (st : Rd) (c : Nat) : Option Rd :=
  let z := st.token ++ sg c
  if (if st.reads = some ("number" : Str) then beginsN z else if st.reads = some ("word" : Str) then beginsW z else isName z && !(decide (st.reads = some ("binder" : Str)) && decide (z.length = 12) && (namesF st).any (isIn z))) then some { st with token := z } else none
def completeF (st : Rd) : Option Rd := match st.reads with
  | none => some st
  | some r => if r = "number" then (if st.token = "-" then none else some (addF st (.tuple [.str "num", .int ((intText? st.token).getD 0)]))) else
    if r = "word" then (if isWordB st.token then some ⟨wordBr st.token :: st.brs.drop 1, "", none⟩ else none) else
    if r = "binder" ∧ (st.token ∈ noNames ∨ ((namesF st).any (isIn st.token)) = true) then none else
    if r = "atom" then some (addF st (if st.token ∈ noNames then .tuple [.str st.token] else .tuple [.str "name", .str st.token])) else
    some (addF st (.str st.token))
def shutF (st : Rd) : Option Rd := match st.brs with
  | b :: o :: bs => if b.things.length < b.least then none else some (addF ⟨o :: bs, st.token, st.reads⟩ (madeF b))
  | _ => none
def unlockF (st : Rd) (e : Option Str) : Option Rd := if e = some ("part" : Str) then some { st with brs := newBr :: st.brs } else if e = some ("binders" : Str) then some { st with brs := namesBr :: st.brs } else none
def beginF (st : Rd) (k : Str) (c : Nat) : Option Rd := lengthenF { st with reads := some k } c
def partF (st : Rd) (c : Nat) : Option Rd := if c = 34 then some { st with reads := some ("text" : Str) } else beginF st (if c ∈ letters.cps.toList then "atom" else "number") c
def topE (st : Rd) : Option Str := match st.brs with
  | [] => none
  | b :: _ => expectF b
def betweenF (st : Rd) (c : Nat) : Option Rd :=
  if c ∈ blanks.cps.toList then some st else if c = 41 then shutF st else if c = 40 then unlockF st (topE st) else
  if topE st = some ("part" : Str) then partF st c else match topE st with
    | some e => if e ∈ (["word", "binder", "tag"] : List Str) then beginF st e c else none
    | none => none
def inTextF (st : Rd) (c : Nat) : Option Rd := if c = 34 then some (addF st (.tuple [.str "text", .str st.token])) else if textSign c then some { st with token := st.token ++ sg c } else none
def takeF (st : Rd) (c : Nat) : Option Rd :=
  if st.reads = some ("text" : Str) then inTextF st c else if st.reads = none then betweenF st c else
  if c ∈ nameSigns.cps.toList then lengthenF st c else if c = 45 then none else (completeF st).bind fun s => betweenF s c
def wholeF (st : Rd) : Option PyData := if st.reads = some ("text" : Str) then none else match completeF st with
  | some ⟨[b], _, _⟩ => (match b.things with | [d] => some d | _ => none)
  | _ => none
/-- what the program's own data must be that it raises nothing -/
structure OkL (st : Rd) : Prop where
  tok : st.token.length ≤ 600
  nams : ∀ d ∈ namesF st, ∃ z, d = .str z
  two : ∀ b bs, st.brs = b :: bs → b.word = "names" → bs ≠ []
  some_ : st.brs ≠ []
  few : ∀ b ∈ st.brs, b.things.length ≤ 900 ∧ b.kinds ≠ [] ∧ b.kinds.length ≤ 10
structure Ok (st : Rd) : Prop extends OkL st where
  many : st.brs.length ≤ 900
  num : st.reads = some ("number" : Str) → st.token = "-" ∨ ∃ n, intText? st.token = some n
  cal : ∀ b ∈ st.brs, b.word = "call" → 1 ≤ b.least
/-! ### objects -/
def bf (w : Str) (kt : Addr) (lo hi : Nat) (tl : Addr) : List (Str × V) := [("word", .str w), ("kinds", .ref kt), ("least", .int (lo : Nat)), ("most", .int (hi : Nat)), ("things", .ref tl)]
def rV : Option Str → V
  | none => .non
  | some z => .str z
def rf (bl : Addr) (z : Str) (r : Option Str) : List (Str × V) := [("brackets", .ref bl), ("token", .str z), ("reads", rV r)]
theorem bf_word {w : Str} {kt tl : Addr} {lo hi : Nat} : (bf w kt lo hi tl).lookup ("word" : Str) = some (V.str w) := rfl
theorem bf_kinds {w : Str} {kt tl : Addr} {lo hi : Nat} : (bf w kt lo hi tl).lookup ("kinds" : Str) = some (V.ref kt) := rfl
theorem bf_least {w : Str} {kt tl : Addr} {lo hi : Nat} : (bf w kt lo hi tl).lookup ("least" : Str) = some (V.int (lo : Nat)) := rfl
theorem bf_most {w : Str} {kt tl : Addr} {lo hi : Nat} : (bf w kt lo hi tl).lookup ("most" : Str) = some (V.int (hi : Nat)) := rfl
theorem bf_things {w : Str} {kt tl : Addr} {lo hi : Nat} : (bf w kt lo hi tl).lookup ("things" : Str) = some (V.ref tl) := rfl
theorem rf_brs {bl : Addr} {z : Str} {r : Option Str} : (rf bl z r).lookup ("brackets" : Str) = some (V.ref bl) := rfl
theorem rf_tok {bl : Addr} {z : Str} {r : Option Str} : (rf bl z r).lookup ("token" : Str) = some (V.str z) := rfl
theorem rf_reads {bl : Addr} {z : Str} {r : Option Str} : (rf bl z r).lookup ("reads" : Str) = some (rV r) := rfl
theorem rf_put_tok {bl : Addr} {z y : Str} {r : Option Str} : putF "token" (.str y) (rf bl z r) = rf bl y r := rfl
theorem rf_put_reads {bl : Addr} {z : Str} {r q : Option Str} : putF "reads" (rV q) (rf bl z r) = rf bl z q := rfl
theorem bf_put {w : Str} {kt tl : Addr} {lo hi : Nat} : putF "things" (.ref tl) (putF "most" (.int (hi : Nat)) (putF "least" (.int (lo : Nat)) (putF "kinds" (.ref kt) (putF "word" (.str w) [])))) = bf w kt lo hi tl := rfl
theorem rf_put {bl : Addr} : putF "reads" .non (putF "token" (.str "") (putF "brackets" (.ref bl) [])) = rf bl "" none := rfl
theorem bf_rf {w z : Str} {kt tl bl : Addr} {lo hi : Nat} {r : Option Str} : bf w kt lo hi tl ≠ rf bl z r := fun h => by
  unfold bf rf at h
  have := congrArg List.length h
  simp at this
/-- a bracket at p, its list of things at tl, which was not there at H0 -/
def BrAt (CB : Addr) (H0 H : Hp) (p tl : Addr) (b : Br) : Prop := H0 tl = none ∧ ∃ dx kt vs, H p = some (.ins CB dx (bf b.word kt b.least b.most tl)) ∧ H kt = some (.tup (b.kinds.map V.str)) ∧ H tl = some (.lst vs) ∧ DzL H vs b.things
inductive BrAll (CB : Addr) (H0 H : Hp) : List (Addr × Addr) → List Br → Prop
  | nil : BrAll CB H0 H [] []
  | cons {p tl : Addr} {b : Br} {qs : List (Addr × Addr)} {bs : List Br} : BrAt CB H0 H p tl b → BrAll CB H0 H qs bs → BrAll CB H0 H ((p, tl) :: qs) (b :: bs)
/-- the reader at r; what stood at H0 stands still -/
def RdAt (CB CR : Addr) (H0 H : Hp) (r : Addr) (st : Rd) : Prop := Same H0 H ∧ H0 r = none ∧ ∃ (dx bl : Addr) (qs : List (Addr × Addr)), H r = some (.ins CR dx (rf bl st.token st.reads)) ∧ H0 bl = none ∧ H bl = some (.lst (qs.reverse.map fun q => V.ref q.1)) ∧
  BrAll CB H0 H qs st.brs ∧ (bl :: qs.map (·.2)).Nodup
theorem BrAt.st {CB : Addr} {H0 H H' : Hp} {p tl : Addr} {b : Br} (h : BrAt CB H0 H p tl b) (k1 : ∀ q C dx w kt lo hi t, H q = some (.ins C dx (bf w kt lo hi t)) → H' q = some (.ins C dx (bf w kt lo hi t))) (k2 : Tp H H') (k3 : ∀ vs, H tl = some (.lst vs) → H' tl = some (.lst vs)) : BrAt CB H0 H' p tl b := by
  obtain ⟨h0, dx, kt, vs, e1, e2, e3, e4⟩ := h
  exact ⟨h0, dx, kt, vs, k1 _ _ _ _ _ _ _ _ e1, k2 _ _ e2, k3 _ e3, e4.tp k2⟩
theorem BrAll.st {CB : Addr} {H0 H H' : Hp} {qs : List (Addr × Addr)} {bs : List Br} (h : BrAll CB H0 H qs bs) (k1 : ∀ q C dx w kt lo hi t, H q = some (.ins C dx (bf w kt lo hi t)) → H' q = some (.ins C dx (bf w kt lo hi t))) (k2 : Tp H H') (k3 : ∀ t ∈ qs.map (·.2), ∀ vs, H t = some (.lst vs) → H' t = some (.lst vs)) : BrAll CB H0 H' qs bs := by
  induction h with
  | nil => exact .nil
  | cons h _ ih => exact .cons (h.st k1 k2 (k3 _ List.mem_cons_self)) (ih fun t ht => k3 t (List.mem_cons_of_mem _ ht))
theorem BrAll.len {CB : Addr} {H0 H : Hp} {qs : List (Addr × Addr)} {bs : List Br} (h : BrAll CB H0 H qs bs) : qs.length = bs.length := by
  induction h with
  | nil => rfl
  | cons _ _ ih => rw [List.length_cons, List.length_cons, ih]
/-- new objects change nothing in it -/
theorem RdAt.same {CB CR : Addr} {H0 H H' : Hp} {r : Addr} {st : Rd} (h : RdAt CB CR H0 H r st) (s : Same H H') : RdAt CB CR H0 H' r st := by
  obtain ⟨s0, r0, dx, bl, qs, e1, b0, e2, e3, nd⟩ := h
  exact ⟨s0.trans s, r0, dx, bl, qs, s _ _ e1, b0, s _ _ e2, e3.st (fun q C dx w kt lo hi t e => s _ _ e) (same_tp s) (fun t _ vs e => s _ _ e), nd⟩
/-- the reader's own fields are written -/
theorem RdAt.put {CB CR : Addr} {H0 H : Hp} {r dx bl : Addr} {st : Rd} {qs : List (Addr × Addr)} {z : Str} {q : Option Str} (s0 : Same H0 H) (r0 : H0 r = none) (e1 : H r = some (.ins CR dx (rf bl st.token st.reads))) (b0 : H0 bl = none) (e2 : H bl = some (.lst (qs.reverse.map fun q => V.ref q.1))) (e3 : BrAll CB H0 H qs st.brs) (nd : (bl :: qs.map (·.2)).Nodup) :
    RdAt CB CR H0 (upd H r (.ins CR dx (rf bl z q))) r { st with token := z, reads := q } := by
  have nb : bl ≠ r := ne_of e2 e1 (by intro z; cases z)
  refine ⟨fun b u e => ?_, r0, dx, bl, qs, upd_same, b0, by rw [upd_ne nb]; exact e2, e3.st (fun p C d w kt lo hi t e => ?_) (fun p xs e => ?_) (fun t _ vs e => ?_), nd⟩
  · rw [upd_ne (ne_of_none e r0)]
    exact s0 _ _ e
  · rw [upd_ne (ne_of e e1 (by intro z; cases z))]
    exact e
  · rw [upd_ne (ne_of e e1 (by intro z; cases z))]
    exact e
  · rw [upd_ne (ne_of e e1 (by intro z; cases z))]
    exact e
end Wp
set_option Elab.async false
set_option linter.all false
set_option maxRecDepth 100000
namespace Wp
open PySem PySem.Spec PyProof.Rows L2
def top (i : Nat) : Stmt := PySem.Challenge.pw_windpoints_k66_terms_written_and_read.main.body.getD i (.Pass ⟨0, 0, 0, 0⟩)
-- Bracket___init__: slots self 0, word 1, kinds 2, least 3, most 4
abbrev sBracket___init__ : Stmt := inClass (top 20) 0
theorem scBracket___init__ : FnScope ["self", "word", "kinds", "least", "most"] ["self", "word", "kinds", "least", "most"] (defScope sBracket___init__) := ⟨rfl, rfl, rfl, by decide +kernel, rfl, by decide +kernel, by decide +kernel⟩
abbrev slBracket___init__ : List Str := ["self", "word", "kinds", "least", "most"]
-- root_bracket: slots 
abbrev sroot_bracket : Stmt := top 21
theorem scroot_bracket : FnScope [] [] (defScope sroot_bracket) := ⟨rfl, rfl, rfl, by decide +kernel, rfl, by decide +kernel, by decide +kernel⟩
abbrev slroot_bracket : List Str := []
-- new_bracket: slots 
abbrev snew_bracket : Stmt := top 22
theorem scnew_bracket : FnScope [] [] (defScope snew_bracket) := ⟨rfl, rfl, rfl, by decide +kernel, rfl, by decide +kernel, by decide +kernel⟩
abbrev slnew_bracket : List Str := []
-- names_bracket: slots least 0, most 1
abbrev snames_bracket : Stmt := top 23
theorem scnames_bracket : FnScope ["least", "most"] [] (defScope snames_bracket) := ⟨rfl, rfl, rfl, by decide +kernel, rfl, by decide +kernel, by decide +kernel⟩
abbrev slnames_bracket : List Str := ["least", "most"]
-- expected_in: slots bracket 0, many 1
abbrev sexpected_in : Stmt := top 25
theorem scexpected_in : FnScope ["bracket", "many"] ["bracket"] (defScope sexpected_in) := ⟨rfl, rfl, rfl, by decide +kernel, rfl, by decide +kernel, by decide +kernel⟩
abbrev slexpected_in : List Str := ["bracket", "many"]
theorem pe_has0 {X : Cx} {x : Str} {ps : List Str} {k : Nat} {sp : Sp} {p pos : Pos} (h : Has X.prog X.w X.K X.mg X.base x ps k sp) (hr : Room k X.A) (hg : Gl X x := by rfl) (hdb : (x == ("__debug__" : Str)) = false := by decide) : PE X (.Call (.Name x p) [] [] pos) (tCall sp [] E0 tNil) := by
  obtain ⟨f, fd, F, m, kp, b⟩ := h
  exact pe_call0 F hr hg m kp b .nil pass0 hdb
structure TxB (K : PySem.W.Frag) (CB : Addr) : Prop where
  cl : Cls K CB
  nW : NoAttr K CB "word"
  nK : NoAttr K CB "kinds"
  nL : NoAttr K CB "least"
  nM : NoAttr K CB "most"
  nT : NoAttr K CB "things"
def spBI (CB : Addr) : Sp := fun vs H Q _ => ∃ (H0 : Hp) (x dx kt : Addr) (w : Str) (lo hi : Nat) (ks : List Str), vs = [.ref x, .str w, .ref kt, .int (lo : Nat), .int (hi : Nat)] ∧ Same H0 H ∧ H0 x = none ∧ H x = some (.ins CB dx []) ∧ H kt = some (.tup (ks.map V.str)) ∧
  ∀ tl H', Same H0 H' → BrAt CB H0 H' x tl ⟨w, ks, lo, hi, []⟩ → Q .non H'
/-- a new bracket -/
def NewB (CB : Addr) (b : Br) (H : Hp) (Q : VK) : Prop := ∀ p tl H', Same H H' → H p = none → BrAt CB H H' p tl b → Q (.ref p) H'
def spB0 (CB : Addr) (b : Br) : Sp := fun vs H Q _ => vs = [] ∧ NewB CB b H Q
def spExp (CB : Addr) : Sp := fun vs H Q _ => ∃ (H0 : Hp) (p tl : Addr) (b : Br), vs = [.ref p] ∧ BrAt CB H0 H p tl b ∧ b.kinds ≠ [] ∧ b.kinds.length ≤ 10 ∧ Q (rV (expectF b)) H
section
variable {P : Program} {w : World} {K : PySem.W.Frag} {mg : Str → Option Value} {base : Heap} {f CB bo : Addr} {fd : FuncData}
theorem ok_binit (F : Fun K "__init__" "Bracket.__init__" sBracket___init__ f fd) (T : TxB K CB) : FnOk P w K mg base CX0 1 f fd ["self", "word", "kinds", "least", "most"] (spBI CB) := by
  refine F.ok scBracket___init__ (fun vs H Q E h => ?_) (fun cdv A outer s H vs Q E hr h => ?_)
  · obtain ⟨H0, x, dx, kt, w, lo, hi, ks, rfl, _⟩ := h
    rfl
  obtain ⟨H0, x, dx, kt, z, lo, hi, ks, rfl, s0, x0, hx, hk, q⟩ := h
  refine ⟨_, (pss_cons (ps_fld (pv 0) (pv 1) rfl)
  (pss_cons (ps_fld (pv 0) (pv 2) rfl)
  (pss_cons (ps_fld (pv 0) (pv 3) rfl)
  (pss_cons (ps_fld (pv 0) (pv 4) rfl)
  (pss_one (ps_fld (pv 0) (pe_lst pa_nil) rfl)))))), ?_⟩
  have nk : kt ≠ x := ne_of hk hx (by intro z; cases z)
  refine ⟨_, rfl, _, rfl, x, CB, dx, [], rfl, hx, T.cl, T.nW, (by show 0 < 1000; decide), ?_⟩
  refine ⟨_, rfl, _, rfl, x, CB, dx, _, rfl, upd_same, T.cl, T.nK, (by show 1 < 1000; decide), ?_⟩
  refine ⟨_, rfl, _, rfl, x, CB, dx, _, rfl, upd_same, T.cl, T.nL, (by show 2 < 1000; decide), ?_⟩
  refine ⟨_, rfl, _, rfl, x, CB, dx, _, rfl, upd_same, T.cl, T.nM, (by show 3 < 1000; decide), ?_⟩
  refine ⟨Nat.zero_le _, fun tl htl => ?_⟩
  have n1 : tl ≠ x := fun e => by rw [e, upd_same] at htl; cases htl
  have ht : H tl = none := by
    rw [upd_ne n1, upd_ne n1, upd_ne n1, upd_ne n1] at htl
    exact htl
  refine ⟨_, rfl, x, CB, dx, _, rfl, by rw [upd_ne n1.symm]; exact upd_same, T.cl, T.nT, (by show 4 < 1000; decide), ?_⟩
  have nkt : kt ≠ tl := ne_of_none hk ht
  refine q tl _ (fun b o e => ?_) ⟨same_none s0 ht, dx, kt, [], by rw [upd_same]; rfl, ?_, ?_, .nil⟩
  · have b1 : b ≠ x := ne_of_none e x0
    have b2 : b ≠ tl := ne_of_none (s0 _ _ e) ht
    rw [upd_ne b1, upd_ne b2, upd_ne b1, upd_ne b1, upd_ne b1, upd_ne b1]
    exact s0 _ _ e
  · rw [upd_ne nk, upd_ne nkt, upd_ne nk, upd_ne nk, upd_ne nk, upd_ne nk]
    exact hk
  · rw [upd_ne n1, upd_same]
/-- Bracket(..) -/
theorem mk_br {H : Hp} {Q : VK} {kt : Addr} {z : Str} {ks : List Str} {lo hi : Nat} {E : XK} (hk : H kt = some (.tup (ks.map V.str))) (q : NewB CB ⟨z, ks, lo, hi, []⟩ H Q) :
    ∀ x dx, H x = none → H dx = none → dx ≠ x → spBI CB (.ref x :: ([.str z, .ref kt, .int (lo : Nat), .int (hi : Nat)] ++ [])) (upd (upd H dx (.own x)) x (.ins CB dx [])) (fun v H2 => v = .non ∧ Q (.ref x) H2) E := by
  intro x dx nx nd ne
  have s1 : Same H (upd (upd H dx (.own x)) x (.ins CB dx [])) := fun b o e => by
    rw [upd_ne (ne_of_none e nx), upd_ne (ne_of_none e nd)]
    exact e
  exact ⟨H, x, dx, kt, z, lo, hi, ks, rfl, s1, nx, upd_same, s1 _ _ hk, fun tl H' s' b => ⟨rfl, q x tl H' s' nx b⟩⟩
theorem NewB.up {H H1 : Hp} {Q : VK} {b : Br} (q : NewB CB b H Q) (s : Same H H1) : NewB CB b H1 Q := fun p tl H' s' n b' => q p tl H' (s.trans s') (same_none s n) ⟨same_none s b'.1, b'.2⟩
theorem ok_root (F : Fun K "root_bracket" "root_bracket" sroot_bracket f fd) (CBracket : HasC P w K mg base "Bracket" CB ["self", "word", "kinds", "least", "most"] 1 (spBI CB)) : FnOk P w K mg base CX0 3 f fd [] (spB0 CB rootBr) := by
  refine F.ok scroot_bracket (fun vs H Q E h => by rw [h.1]; rfl) (fun cdv A outer s H vs Q E hr h => ?_)
  obtain ⟨rfl, q⟩ := h
  refine ⟨_, (pss_one (ps_ret (pe_hasC CBracket (hr.mono (by omega)) (pa_cons pe_str (pa_cons (pe_tup (pa_cons pe_str pa_nil)) (pa_cons pe_int (pa_cons pe_int pa_nil))))))), ?_⟩
  refine ⟨(by show 1 ≤ sizeLine; decide), fun kt hk => ?_⟩
  exact mk_br (lo := 1) (hi := 1) (ks := ["part"]) upd_same (NewB.up q (same_new hk))
theorem ok_new (F : Fun K "new_bracket" "new_bracket" snew_bracket f fd) (CBracket : HasC P w K mg base "Bracket" CB ["self", "word", "kinds", "least", "most"] 1 (spBI CB)) : FnOk P w K mg base CX0 3 f fd [] (spB0 CB newBr) := by
  refine F.ok scnew_bracket (fun vs H Q E h => by rw [h.1]; rfl) (fun cdv A outer s H vs Q E hr h => ?_)
  obtain ⟨rfl, q⟩ := h
  refine ⟨_, (pss_one (ps_ret (pe_hasC CBracket (hr.mono (by omega)) (pa_cons pe_str (pa_cons (pe_tup (pa_cons pe_str pa_nil)) (pa_cons pe_int (pa_cons pe_int pa_nil))))))), ?_⟩
  refine ⟨(by show 1 ≤ sizeLine; decide), fun kt hk => ?_⟩
  exact mk_br (lo := 1) (hi := 1) (ks := ["word"]) upd_same (NewB.up q (same_new hk))
/-- the table of bounds -/
def BoundsOk (K : PySem.W.Frag) (w : World) (bo : Addr) : Prop := ∀ p ∈ bounds, ∃ t, KDct K w bo p.1 (.ref t) ∧ ∀ H, SqT K H t [.int (p.2.1 : Nat), .int (p.2.2 : Nat)]
theorem ok_names (F : Fun K "names_bracket" "names_bracket" snames_bracket f fd) (CBracket : HasC P w K mg base "Bracket" CB ["self", "word", "kinds", "least", "most"] 1 (spBI CB)) (m_BOUNDS : mg "BOUNDS" = some (.ref bo)) (hB : BoundsOk K w bo) : FnOk P w K mg base CX0 3 f fd [] (spB0 CB namesBr) := by
  refine F.ok scnames_bracket (fun vs H Q E h => by rw [h.1]; rfl) (fun cdv A outer s H vs Q E hr h => ?_)
  obtain ⟨rfl, q⟩ := h
  refine ⟨_, (pss_cons (ps_asg (pe_ix ix_kdict (pe_glob (v := .ref bo) rfl m_BOUNDS rfl) pe_str (fun _ _ => rfl)) (pg_tup rfl (pgs_cons (pg_name (i := 0) scnames_bracket.nd rfl (.inl rfl)) (pgs_cons (pg_name (i := 1) scnames_bracket.nd rfl (.inl rfl)) pgs_nil))))
  (pss_one (ps_ret (pe_hasC CBracket (hr.mono (by omega)) (pa_cons pe_str (pa_cons (pe_tup (pa_cons pe_str pa_nil)) (pa_cons (pv 0) (pa_cons (pv 1) pa_nil)))))))), ?_⟩
  obtain ⟨t, kd, sq⟩ := hB ("binders", 0, 6) (by decide +kernel)
  refine ⟨bo, "binders", .ref t, rfl, rfl, kd, t, _, rfl, sq H, rfl, _, _, rfl, _, _, rfl, rfl, ?_⟩
  refine ⟨(by show 1 ≤ sizeLine; decide), fun kt hk => ⟨_, rfl, _, rfl, ?_⟩⟩
  exact mk_br (lo := 0) (hi := 6) (ks := ["binder"]) upd_same (NewB.up q (same_new hk))
theorem ok_exp (F : Fun K "expected_in" "expected_in" sexpected_in f fd) (T : TxB K CB) (m_len : mg "len" = none) (m_min : mg "min" = none) : FnOk P w K mg base CX0 1 f fd ["bracket"] (spExp CB) := by
  refine F.ok scexpected_in (fun vs H Q E h => ?_) (fun cdv A outer s H vs Q E hr h => ?_)
  · obtain ⟨H0, p, tl, b, rfl, _⟩ := h
    rfl
  obtain ⟨H0, p, tl, b, rfl, ⟨t0, dx, kt, vs, e1, e2, e3, e4⟩, k0, k1, q⟩ := h
  refine ⟨_, (pss_cons (ps_set (i := 1) scexpected_in.nd rfl (.inl rfl) (pe_callB call_len_seq rfl m_len PySem.boot_len (pa_cons (pe_fld (pv 0) rfl) pa_nil)))
  (pss_cons (ps_if (pt_cmpR op_ge (pv 1) (pe_fld (pv 0) rfl) (nomark _)) (pss_one (ps_ret pe_non)) pss_nil)
  (pss_one (ps_ret (pe_ix ix_tup (pe_fld (pv 0) rfl) (pe_callB (call_min2 rfl) rfl m_min PyProof.Rows.Boot.min (pa_cons (pv 1) (pa_cons (pe_op op_sub (pe_callB call_len_seq rfl m_len PySem.boot_len (pa_cons (pe_fld (pv 0) rfl) pa_nil)) pe_int) pa_nil))) (fun _ _ => rfl)))))), ?_⟩
  have lv := e4.len
  refine ⟨_, rfl, p, CB, dx, _, _, rfl, e1, T.cl, T.nT, bf_things, tl, vs, rfl, .inl (SqL.of e3), ?_⟩
  refine ⟨_, rfl, _, rfl, p, CB, dx, _, _, rfl, e1, T.cl, T.nM, bf_most, _, _, rfl, rfl, _, rfl, ?_⟩
  unfold expectF at q
  by_cases h : b.most ≤ b.things.length
  · refine ite_t (decide_eq_true (by omega)) ?_
    rw [if_pos h] at q
    exact q
  · refine ite_f (decide_eq_false (by omega)) ?_
    rw [if_neg h] at q
    have kl : 0 < b.kinds.length := List.length_pos_iff.mpr k0
    refine ⟨_, rfl, p, CB, dx, _, _, rfl, e1, T.cl, T.nK, bf_kinds, _, rfl, _, rfl, p, CB, dx, _, _, rfl, e1, T.cl, T.nK, bf_kinds, kt, _, rfl, .inr (SqT.of e2), _, _, rfl, rfl, _, _, rfl, ?_⟩
    rw [List.length_map]
    have hm : min b.things.length (b.kinds.length - 1) < b.kinds.length := by omega
    rw [List.getElem?_eq_getElem hm] at q
    have ei : (if ((b.kinds.length : Nat) : Int) - 1 < ((vs.length : Nat) : Int) then ((b.kinds.length : Nat) : Int) - 1 else ((vs.length : Nat) : Int)) = ((min b.things.length (b.kinds.length - 1) : Nat) : Int) := by
      rw [lv]
      split <;> omega
    refine ⟨kt, _, _, _, rfl, rfl, SqT.of e2, ?_, q⟩
    rw [ei]
    refine atI_nat ?_
    rw [List.getElem?_map, List.getElem?_eq_getElem hm]
    rfl
end
end Wp
set_option Elab.async false
set_option linter.all false
set_option maxRecDepth 100000
namespace Wp
open PySem PySem.Spec PyProof.Rows L2
-- is_word: slots token 0
abbrev sis_word : Stmt := top 27
theorem scis_word : FnScope ["token"] ["token"] (defScope sis_word) := ⟨rfl, rfl, rfl, by decide +kernel, rfl, by decide +kernel, by decide +kernel⟩
abbrev slis_word : List Str := ["token"]
-- begins_word: slots token 0, word 1
abbrev sbegins_word : Stmt := top 28
theorem scbegins_word : FnScope ["token", "word"] ["token"] (defScope sbegins_word) := ⟨rfl, rfl, rfl, by decide +kernel, rfl, by decide +kernel, by decide +kernel⟩
abbrev slbegins_word : List Str := ["token", "word"]
-- begins_number: slots token 0, figures 1, sign 2
abbrev sbegins_number : Stmt := top 29
theorem scbegins_number : FnScope ["token", "figures", "sign"] ["token"] (defScope sbegins_number) := ⟨rfl, rfl, rfl, by decide +kernel, rfl, by decide +kernel, by decide +kernel⟩
abbrev slbegins_number : List Str := ["token", "figures", "sign"]
-- is_name: slots thing 0, sign 1
abbrev sis_name : Stmt := top 13
theorem scis_name : FnScope ["thing", "sign"] ["thing"] (defScope sis_name) := ⟨rfl, rfl, rfl, by decide +kernel, rfl, by decide +kernel, by decide +kernel⟩
abbrev slis_name : List Str := ["thing", "sign"]
-- is_text_sign: slots sign 0, number 1
abbrev sis_text_sign : Stmt := top 14
theorem scis_text_sign : FnScope ["sign", "number"] ["sign"] (defScope sis_text_sign) := ⟨rfl, rfl, rfl, by decide +kernel, rfl, by decide +kernel, by decide +kernel⟩
abbrev slis_text_sign : List Str := ["sign", "number"]
-- word_bracket: slots word 0, form 1, least 2, most 3, fixed 4
abbrev sword_bracket : Stmt := top 24
theorem scword_bracket : FnScope ["word", "form", "least", "most", "fixed"] ["word"] (defScope sword_bracket) := ⟨rfl, rfl, rfl, by decide +kernel, rfl, by decide +kernel, by decide +kernel⟩
abbrev slword_bracket : List Str := ["word", "form", "least", "most", "fixed"]
-- made_of: slots bracket 0, things 1
abbrev smade_of : Stmt := top 26
theorem scmade_of : FnScope ["bracket", "things"] ["bracket"] (defScope smade_of) := ⟨rfl, rfl, rfl, by decide +kernel, rfl, by decide +kernel, by decide +kernel⟩
abbrev slmade_of : List Str := ["bracket", "things"]
/-! ### a text among a written dict's keys -/
def InOk (K : PySem.W.Frag) (w : World) (d : Addr) (z : Str) (b : Bool) : Prop := ∃ es n r, KDict K w d es n ∧ PySem.W.nsIn K d z = some r ∧ r.isSome = b
def rInKd (K : PySem.W.Frag) (w : World) (neg : Bool) : R2 := fun x y H Q => ∃ (z : Str) (d : Addr) (b : Bool), x = .str z ∧ y = .ref d ∧ InOk K w d z b ∧ Q (.bl (if neg then !b else b)) H
theorem op_in_kdA {X : Cx} : OpR X (compareOp .In) (rInKd X.K X.w false) := by
  intro pins s σ H x y v u Q I rx ry h
  obtain ⟨z, d, b, rfl, rfl, ⟨es, n, r, D, e, rfl⟩, q⟩ := h
  exact op_in_kd D pins s σ H _ _ v u Q I rx ry ⟨z, r, rfl, rfl, e, q⟩
theorem keys_find : ∀ {l : List DictEntry} {zs : List Str} (z : Str), keysD l = some zs → (l.find? (·.key.isStr z)).isSome = decide (z ∈ zs) ∧ l.any (·.refKey) = false
  | [], zs, z, h => by
    cases h
    exact ⟨rfl, rfl⟩
  | e :: es, zs, z, h => by
    unfold keysD at h
    split at h
    · rename_i y t hk
      cases hr : keysD es with
      | none => rw [hr] at h; cases h
      | some ys =>
        rw [hr] at h
        cases h
        obtain ⟨i1, i2⟩ := keys_find z hr
        have nr : e.refKey = false := by
          unfold DictEntry.refKey
          rw [hk]
        refine ⟨?_, by rw [List.any_cons, nr, i2]; rfl⟩
        have es' : e.key.isStr z = decide (y = z) := by
          rw [hk]
          show (y == z) = _
          by_cases q : y = z
          · simp [q]
          · simp [q]
        rw [List.find?_cons, es']
        by_cases q : y = z
        · subst q
          simp
        · have q' : ¬ z = y := fun e => q e.symm
          simp only [q, decide_false]
          rw [i1]
          simp [q']
    · cases h
theorem KAll.in_ {K : PySem.W.Frag} {w : World} {a : Addr} {zs : List Str} (h : KAll K w a zs) (z : Str) : InOk K w a z (decide (z ∈ zs)) := by
  obtain ⟨es, n, hl, hk, low, hz, _⟩ := h
  obtain ⟨i1, i2⟩ := keys_find z hz
  have e : PySem.W.nsIn K a z = (match es.toList.find? (·.key.isStr z) with
      | some e => some (some e.val)
      | none => if es.toList.any (·.refKey) then none else some none) := by
    unfold PySem.W.nsIn
    rw [hl]
    rfl
  cases hf : es.toList.find? (·.key.isStr z) with
  | some u =>
    rw [hf] at e i1
    exact ⟨es, n, some u.val, ⟨hl, hk, low⟩, e, i1⟩
  | none =>
    rw [hf] at e i1
    rw [i2] at e
    exact ⟨es, n, none, ⟨hl, hk, low⟩, e, i1⟩
def rSignIn : R2 := fun x y H Q => ∃ (c : Nat) (z : Str), x = .str ⟨#[c]⟩ ∧ y = .str z ∧ Q (.bl (decide (c ∈ z.cps.toList))) H
def rStart : V → List V → Hp → VK → Prop := fun x xs H Q => ∃ a b, x = .str a ∧ xs = [.str b] ∧ Q (.bl (Txt.startswith a b)) H
theorem inV_strs {k : Str} : ∀ {ks : List Str}, inV (.str k) (ks.map V.str) = decide (k ∈ ks)
  | [] => by simp [inV]
  | z :: ks => by
    have ih := inV_strs (k := k) (ks := ks)
    unfold inV at ih ⊢
    rw [List.map_cons, List.any_cons, ih]
    by_cases h : z = k
    · subst h
      simp [eqV]
    · have h' : ¬ k = z := fun e => h e.symm
      simp [eqV, h, h']
theorem flat_strs : ∀ ks : List Str, (ks.map V.str).all flatV = true
  | [] => rfl
  | z :: zs => by
    rw [List.map_cons, List.all_cons, flat_strs zs]
    rfl
/-- a written tuple of texts -/
def TxtT (K : PySem.W.Frag) (a : Addr) (zs : List Str) : Prop := ∀ H, SqT K H a (zs.map V.str)
def spIsWord : Sp := fun vs H Q _ => ∃ z : Str, vs = [.str z] ∧ Q (.bl (isWordB z)) H
def spBegW : Sp := fun vs H Q _ => ∃ z : Str, vs = [.str z] ∧ ∀ H', Same H H' → Q (.bl (beginsW z)) H'
def spBegN : Sp := fun vs H Q _ => ∃ z : Str, vs = [.str z] ∧ 1 ≤ z.length ∧ z.length ≤ 1000 ∧ ∀ H', Same H H' → Q (.bl (beginsN z)) H'
/-- any text of few signs -/
def spName : Sp := fun vs H Q _ => ∃ z : Str, vs = [.str z] ∧ z.length ≤ 1000 ∧ ∀ H', Same H H' → Q (.bl (isName z)) H'
def spSign : Sp := fun vs H Q _ => ∃ c : Nat, vs = [.str ⟨#[c]⟩] ∧ Q (.bl (textSign c)) H
/-- the walk of a text -/
theorem walk_text {x : Str} : Walk (Its x) x.cps.toList.length (fun _ => True) (fun i H v H' => H' = H ∧ ∃ c, x.cps.toList[i]? = some c ∧ v = .str ⟨#[c]⟩) := by
  have e : x.cps.toList.length = x.cps.size := Array.length_toList
  refine ⟨fun i _ hi _ => ?_, fun _ _ => ?_, fun i _ v _ hi _ y => ?_⟩
  · show i < x.cps.size
    omega
  · show x.cps.size ≤ _
    omega
  · obtain ⟨e1, c, e2, e3⟩ := y
    exact ⟨e1, c, by rw [Array.getElem?_toList]; exact e2, e3⟩
def BarsOk (K : PySem.W.Frag) (ba : Addr) : Prop := ∀ H, SqT K H ba [.int 34, .int 37, .int 92]
theorem bars_in (c : Nat) : inV (.int (c : Int)) [.int 34, .int 37, .int 92] = (decide (c = 34) || decide (c = 37) || decide (c = 92)) := by
  have e : ∀ k : Nat, eqV (.int (k : Int)) (.int (c : Int)) = decide (c = k) := fun k => by
    by_cases h : c = k
    · subst h
      simp [eqV]
    · have h' : ¬ (k : Int) = (c : Int) := by omega
      simp [eqV, h, h']
  show ([V.int ((34 : Nat) : Int), V.int ((37 : Nat) : Int), V.int ((92 : Nat) : Int)].any fun y => eqV y (V.int (c : Int))) = _
  simp only [List.any_cons, List.any_nil, e, Bool.or_false, Bool.or_assoc]
section
variable {P : Program} {w : World} {K : PySem.W.Frag} {mg : Str → Option Value} {base : Heap} {f fo oo bo ub ba CB : Addr} {fd : FuncData}
theorem ok_isWord (F : Fun K "is_word" "is_word" sis_word f fd) (m_OPS : mg "OPS" = some (.ref oo)) (m_FORMS : mg "FORMS" = some (.ref fo)) (m_UNBRACKETED : mg "UNBRACKETED" = some (.ref ub)) (hO : KAll K w oo opWords) (hF : KAll K w fo formWords) (hU : TxtT K ub unbr) : FnOk P w K mg base CX0 1 f fd ["token"] spIsWord := by
  refine F.ok scis_word (fun vs H Q E h => ?_) (fun cdv A outer s H vs Q E hr h => ?_)
  · obtain ⟨z, rfl, _⟩ := h
    rfl
  obtain ⟨z, rfl, q⟩ := h
  refine ⟨_, (pss_one (ps_ret (pe_or (pe_cmpR op_in_kdA (pv 0) (pe_glob (v := .ref oo) rfl m_OPS rfl) rfl) (pe_one (pe_and (pe_cmpR op_in_kdA (pv 0) (pe_glob (v := .ref fo) rfl m_FORMS rfl) rfl) (pe_one (pe_cmpR op_notIn_seq (pv 0) (pe_glob (v := .ref ub) rfl m_UNBRACKETED rfl) rfl))))))), ?_⟩
  unfold isWordB at q
  refine ⟨_, rfl, z, oo, _, rfl, rfl, hO.in_ z, _, rfl, ?_⟩
  by_cases h1 : z ∈ opWords
  · refine ite_t (by simp [h1]) ?_
    rw [decide_eq_true h1] at q
    exact q
  · refine ite_f (by simp [h1]) ?_
    rw [decide_eq_false h1, Bool.false_or] at q
    refine ⟨_, rfl, z, fo, _, rfl, rfl, hF.in_ z, _, rfl, ?_⟩
    by_cases h2 : z ∈ formWords
    · refine ite_t (by simp [h2]) ⟨_, rfl, ub, _, rfl, .inr (hU _), rfl, flat_strs _, ?_⟩
      rw [decide_eq_true h2, Bool.true_and] at q
      show Q (.bl (!inV (.str z) (unbr.map V.str))) H
      rw [inV_strs]
      exact q
    · refine ite_f (by simp [h2]) ?_
      rw [decide_eq_false h2, Bool.false_and] at q
      exact q
theorem any_take {α : Type} (f : α → Bool) : ∀ (l : List α), (l.map f).any id = l.any f
  | [] => rfl
  | x :: l => by rw [List.map_cons, List.any_cons, List.any_cons, any_take f l]; rfl
theorem ok_begW (F : Fun K "begins_word" "begins_word" sbegins_word f fd) (m_OPS : mg "OPS" = some (.ref oo)) (m_FORMS : mg "FORMS" = some (.ref fo)) (m_list : mg "list" = none) (m_any : mg "any" = none) (hO : KAll K w oo opWords) (hF : KAll K w fo formWords) (Gis_word : Has P w K mg base "is_word" ["token"] 1 spIsWord) : FnOk P w K mg base CX0 2 f fd ["token"] spBegW := by
  refine F.ok scbegins_word (fun vs H Q E h => ?_) (fun cdv A outer s H vs Q E hr h => ?_)
  · obtain ⟨z, rfl, _⟩ := h
    rfl
  obtain ⟨z, rfl, q⟩ := h
  refine ⟨_, (pss_one (ps_ret (pe_callB (cr_any rfl) rfl m_any PyProof.Rows.Boot.any (pa_cons (pe_lc (own := [("word", 1)]) (g := gName 1) (tt := tYes) (te := (tAndV (tCall (spIsWord) [] E0 (tCons (tVar 1) tNil)) (tM1 rStart (tVar 1) (tVar 0)))) rfl scbegins_word.nd (pi_list (pe_op op_cat (pe_callTy (call_listK rfl) rfl m_list PyProof.Rows.Boot.«list» (pa_cons (pe_glob (v := .ref fo) rfl m_FORMS rfl) pa_nil)) (pe_callTy (call_listK rfl) rfl m_list PyProof.Rows.Boot.«list» (pa_cons (pe_glob (v := .ref oo) rfl m_OPS rfl) pa_nil)))) (blkOk_by (N := slbegins_word) (sc := defScope sbegins_word) (by decide +kernel)) (fun _ _ _ _ _ => (pg_name (i := 1) scbegins_word.nd rfl (.inl rfl))) (fun _ _ _ _ _ => pts_nil) (fun _ _ _ _ _ => (pe_and (pe_has Gis_word (hr.mono (by omega)) (pa_cons (pv 1) pa_nil)) (pe_one (pe_m1 PySem.F.slot_str_startswith PySem.F.type_str_startswith mt_startswith (pv 1) (pv 0)))))) pa_nil)))), ?_⟩
  refine ⟨fo, _, rfl, hF, fun l1 h1 => ⟨oo, _, rfl, hO, fun l2 h2 => ?_⟩⟩
  have s1 : Same H (upd H l1 (.lst (formWords.map V.str))) := same_new h1
  have e1 : upd H l1 (.lst (formWords.map V.str)) l1 = some (.lst (formWords.map V.str)) := upd_same
  generalize upd H l1 (.lst (formWords.map V.str)) = H1 at *
  have s2 : Same H1 (upd H1 l2 (.lst (opWords.map V.str))) := same_new h2
  have e2 : upd H1 l2 (.lst (opWords.map V.str)) l2 = some (.lst (opWords.map V.str)) := upd_same
  generalize upd H1 l2 (.lst (opWords.map V.str)) = H2 at *
  refine ⟨l1, l2, _, _, rfl, rfl, s2 _ _ e1, e2, (by decide +kernel), fun L hL => ?_⟩
  have s3 : Same H2 (upd H2 L (.lst (formWords.map V.str ++ opWords.map V.str))) := same_new hL
  have e3 : upd H2 L (.lst (formWords.map V.str ++ opWords.map V.str)) L = some (.lst ((formWords ++ opWords).map V.str)) := by rw [upd_same, List.map_append]
  generalize upd H2 L (.lst (formWords.map V.str ++ opWords.map V.str)) = H3 at *
  refine ⟨L, rfl, ⟨_, SqL.of e3⟩, fun D hD => ?_⟩
  refine lc_list (xs := (formWords ++ opWords).map V.str) (fun i H' => Same H3 H' ∧ H' D = some (.lst (((formWords ++ opWords).take i).map fun w => V.bl (isWordB w && Txt.startswith w z)))) ?_ ?_ ?_ ?_
  · exact ⟨same_new hD, by rw [List.take_zero]; exact upd_same⟩
  · rintro i H' _ ⟨g, _⟩
    exact SqL.of (g _ _ e3)
  · rintro i x H' hx ⟨g, hD'⟩
    rw [List.getElem?_map] at hx
    obtain ⟨y, ey, rfl⟩ := Option.map_eq_some_iff.mp hx
    have li : i < (formWords ++ opWords).length := (List.getElem?_eq_some_iff.mp ey).1
    have ll : (formWords ++ opWords).length = 36 := by decide +kernel
    refine ⟨rfl, ?_⟩
    unfold tYes
    dsimp only
    rw [if_pos rfl]
    refine ⟨_, rfl, y, rfl, _, rfl, ?_⟩
    have fin : ∀ b : Bool, b = (isWordB y && Txt.startswith y z) → ∃ acc, H' D = some (.lst acc) ∧ acc.length < sizeLine ∧ (Same H3 (upd H' D (.lst (acc ++ [V.bl b]))) ∧ upd H' D (.lst (acc ++ [V.bl b])) D = some (.lst (((formWords ++ opWords).take (i + 1)).map fun w => V.bl (isWordB w && Txt.startswith w z)))) := fun b eb => by
      refine ⟨_, hD', ?_, same_grow g hD, ?_⟩
      · rw [List.length_map, List.length_take]
        exact small1000 (by omega)
      · rw [upd_same, List.take_add_one, ey, List.map_append, eb]
        rfl
    by_cases hw : isWordB y = true
    · refine ite_t hw ⟨_, rfl, ⟨_, rfl⟩, _, rfl, y, z, rfl, rfl, ?_⟩
      exact fin _ (by rw [hw, Bool.true_and])
    · have hw := Bool.eq_false_iff.mpr hw
      exact ite_f hw (fin _ (by rw [hw, Bool.false_and]))
  · rintro H' ⟨g, hD'⟩
    rw [List.length_map, List.take_length] at hD'
    refine ⟨D, (formWords ++ opWords).map fun w => isWordB w && Txt.startswith w z, rfl, SqL.of ?_, ?_⟩
    · rw [hD', List.map_map]
      rfl
    · rw [any_take]
      exact q H' (s1.trans (s2.trans (s3.trans g)))
theorem ok_name {u1 u2 : Tok} {u3 : Tok} (F : Fun K "is_name" "is_name" sis_name f fd) (m_isinstance : mg "isinstance" = none) (m_str : mg "str" = none) (m_len : mg "len" = none) (m_all : mg "all" = none) (m_MOST_NAME_SIGNS : mg "MOST_NAME_SIGNS" = some (.int 12 u1)) (m_LETTERS : mg "LETTERS" = some (.str letters u2)) (m_NAME_SIGNS : mg "NAME_SIGNS" = some (.str nameSigns u3)) : FnOk P w K mg base CX0 1 f fd ["thing"] spName := by
  refine F.ok scis_name (fun vs H Q E h => ?_) (fun cdv A outer s H vs Q E hr h => ?_)
  · obtain ⟨z, rfl, _⟩ := h
    rfl
  obtain ⟨z, rfl, lz, q⟩ := h
  refine ⟨_, (pss_cons (ps_if (PW.pt (pw_or (pt_not (pt_val (pe_callB call_isi rfl m_isinstance PyProof.Rows.Boot.isinstance (pa_cons (pv 0) (pa_cons (pe_bltn (v := .ty "str") rfl m_str PyProof.Rows.Boot.«str» rfl) pa_nil))))) (pw_or1 (pt_not (pt_chain op_le op_le pe_int (pe_callB call_len_str rfl m_len PySem.boot_len (pa_cons (pv 0) pa_nil)) (pe_glob (v := (.int 12)) rfl m_MOST_NAME_SIGNS ⟨_, rfl⟩)))))) (pss_one (ps_ret pe_bl)) pss_nil)
  (pss_one (ps_ret (pe_and (pe_cmpR op_in_sign (pe_ix ix_str (pv 0) pe_int (fun _ _ => rfl)) (pe_glob (v := (.str letters)) rfl m_LETTERS ⟨_, rfl⟩) rfl) (pe_one (pe_callB (cr_all rfl) rfl m_all PyProof.Rows.Boot.all (pa_cons (pe_lc (own := [("sign", 1)]) (g := gName 1) (tt := tYes) (te := (tOp rSignIn (tVar 1) (tC (.str nameSigns)))) rfl scis_name.nd (pi_str (pv 0)) (blkOk_by (N := slis_name) (sc := defScope sis_name) (by decide +kernel)) (fun _ _ _ _ _ => (pg_name (i := 1) scis_name.nd rfl (.inl rfl))) (fun _ _ _ _ _ => pts_nil) (fun _ _ _ _ _ => (pe_cmpR op_in_sign (pv 1) (pe_glob (v := (.str nameSigns)) rfl m_NAME_SIGNS ⟨_, rfl⟩) rfl))) pa_nil))))))), ?_⟩
  have zl : z.length ≤ sizeLine := by
    have : (1000 : Nat) ≤ sizeLine := by decide
    omega
  refine ⟨_, rfl, _, _, _, _, true, rfl, .ty "str", .base (.str z), kit_ty (by decide +kernel), _, rfl, iteF ?_⟩
  refine ⟨_, rfl, z, rfl, zl, ?_⟩
  have no : isName z = false → Q (.bl false) H := fun e => by
    have := q H (Same.refl H)
    rwa [e] at this
  by_cases h1 : 1 ≤ z.length
  · refine ⟨_, _, rfl, rfl, _, rfl, ite_t (decide_eq_true (by omega)) ⟨_, _, rfl, rfl, _, rfl, ?_⟩⟩
    by_cases h2 : z.length ≤ 12
    · refine ite_f (by rw [decide_eq_true (show ((z.length : Nat) : Int) ≤ 12 by omega)]; rfl) ?_
      have l0 : 0 < z.cps.toList.length := by
        rw [Array.length_toList]
        exact h1
      have e0 : z.cps.toList[0]? = some (z.cps.getD 0 0) := by
        rw [Array.getElem?_toList]
        have : 0 < z.cps.size := by rw [Array.length_toList] at l0; exact l0
        simp [Array.getD, this]
      refine ⟨_, rfl, z, 0, _, rfl, rfl, zl, atI_nat (j := 0) e0, _, letters, rfl, rfl, _, rfl, ?_⟩
      by_cases h3 : z.cps.getD 0 0 ∈ letters.cps.toList
      · refine ite_t (decide_eq_true h3) ?_
        refine ⟨_, rfl, z, rfl, fun D hD => ?_⟩
        refine lc_it walk_text (fun i H' => Same H H' ∧ H' D = some (.lst ((z.cps.toList.take i).map fun c => V.bl (decide (c ∈ nameSigns.cps.toList))))) ?_ ?_ ?_ ?_
        · exact ⟨same_new hD, by rw [List.take_zero]; exact upd_same⟩
        · intro _ _ _ _
          trivial
        · rintro i x H' H2 hi ⟨g, hD'⟩ ⟨rfl, c, ec, rfl⟩
          refine ⟨rfl, ?_⟩
          unfold tYes
          dsimp only
          rw [if_pos rfl]
          refine ⟨_, rfl, c, nameSigns, rfl, rfl, _, hD', small1000 (by rw [List.length_map, List.length_take, Array.length_toList]; show min i z.length ≤ _; omega), same_grow g hD, ?_⟩
          rw [upd_same, List.take_add_one, ec, List.map_append]
          rfl
        · rintro H' ⟨g, hD'⟩
          rw [List.take_length] at hD'
          refine ⟨D, z.cps.toList.map fun c => decide (c ∈ nameSigns.cps.toList), rfl, SqL.of ?_, ?_⟩
          · rw [hD', List.map_map]
            rfl
          · have := q H' g
            have e : isName z = (z.cps.toList.map fun c => decide (c ∈ nameSigns.cps.toList)).all id := by
              unfold isName
              rw [decide_eq_true h1, decide_eq_true h2, decide_eq_true h3, List.all_map]
              rfl
            rwa [e] at this
      · refine ite_f (decide_eq_false h3) (no ?_)
        unfold isName
        rw [decide_eq_false h3, Bool.and_false, Bool.false_and]
    · refine ite_t (by rw [decide_eq_false (show ¬ ((z.length : Nat) : Int) ≤ 12 by omega)]; rfl) ?_
      refine no ?_
      unfold isName
      rw [decide_eq_false h2, Bool.and_false, Bool.false_and, Bool.false_and]
  · refine ⟨_, _, rfl, rfl, _, rfl, ite_f (decide_eq_false (by omega)) ⟨_, rfl, iteT (no ?_)⟩⟩
    unfold isName
    rw [decide_eq_false h1, Bool.false_and, Bool.false_and, Bool.false_and]
theorem ok_sign {u1 u2 : Tok} (F : Fun K "is_text_sign" "is_text_sign" sis_text_sign f fd) (m_ord : mg "ord" = none) (m_FIRST_SIGN : mg "FIRST_SIGN" = some (.int 32 u1)) (m_LAST_SIGN : mg "LAST_SIGN" = some (.int 126 u2)) (m_BARRED_SIGNS : mg "BARRED_SIGNS" = some (.ref ba)) (hB : BarsOk K ba) : FnOk P w K mg base CX0 1 f fd ["sign"] spSign := by
  refine F.ok scis_text_sign (fun vs H Q E h => ?_) (fun cdv A outer s H vs Q E hr h => ?_)
  · obtain ⟨c, rfl, _⟩ := h
    rfl
  obtain ⟨c, rfl, q⟩ := h
  refine ⟨_, (pss_cons (ps_set (i := 1) scis_text_sign.nd rfl (.inl rfl) (pe_callB call_ord rfl m_ord PyProof.Rows.Boot.ord (pa_cons (pv 0) pa_nil)))
  (pss_one (ps_ret (pe_and (pe_chain op_le op_le (pe_glob (v := (.int 32)) rfl m_FIRST_SIGN ⟨_, rfl⟩) (pv 1) (pe_glob (v := (.int 126)) rfl m_LAST_SIGN ⟨_, rfl⟩)) (pe_one (pe_cmpR op_notIn_seq (pv 1) (pe_glob (v := .ref ba) rfl m_BARRED_SIGNS rfl) rfl)))))), ?_⟩
  refine ⟨_, rfl, _, rfl, rfl, ?_⟩
  show _
  refine ⟨_, rfl, _, _, rfl, rfl, _, rfl, ?_⟩
  by_cases h1 : 32 ≤ (c : Int)
  · refine ite_t (decide_eq_true h1) ⟨_, _, rfl, rfl, _, rfl, ?_⟩
    by_cases h2 : (c : Int) ≤ 126
    · refine ite_t (decide_eq_true h2) ⟨_, rfl, ba, _, rfl, .inr (hB _), rfl, rfl, ?_⟩
      have e : textSign c = !(inV (.int (c : Int)) [.int 34, .int 37, .int 92]) := by
        rw [bars_in]
        unfold textSign
        rw [decide_eq_true h1, decide_eq_true h2]
        rfl
      rw [e] at q
      exact q
    · refine ite_f (decide_eq_false h2) ?_
      unfold textSign at q
      rw [decide_eq_false h2, Bool.and_false, Bool.false_and] at q
      exact q
  · refine ite_f (decide_eq_false h1) ⟨_, rfl, ?_⟩
    unfold textSign at q
    rw [decide_eq_false h1, Bool.false_and, Bool.false_and] at q
    exact q
end
end Wp
set_option Elab.async false
set_option linter.all false
set_option maxRecDepth 100000
namespace Wp
open PySem PySem.Spec PyProof.Rows L2
theorem one_eq {c d : Nat} : (V.str ⟨#[c]⟩ = V.str ⟨#[d]⟩) ↔ c = d := by
  constructor
  · intro h
    have h1 : (⟨#[c]⟩ : Str) = ⟨#[d]⟩ := V.str.inj h
    have h2 : #[c] = #[d] := congrArg Str.cps h1
    simpa using h2
  · intro h
    rw [h]
theorem str_list {x y : Str} : x = y ↔ x.cps.toList = y.cps.toList := by
  constructor
  · intro h
    rw [h]
  · intro h
    obtain ⟨⟨a⟩⟩ := x
    obtain ⟨⟨b⟩⟩ := y
    cases h
    rfl
theorem cut_from (z : Str) (k : Nat) : (cutS z (some (k : Int)) none).cps.toList = z.cps.toList.drop k := by
  unfold cutS
  rw [HT.sIx_nat, HT.sIx_none, List.toList_toArray]
  have e : z.cps.toList.length = z.length := Array.length_toList
  rw [List.take_of_length_le (by rw [List.length_drop, e]; exact Nat.le_refl _)]
  by_cases h : k ≤ z.length
  · rw [Nat.min_eq_left h]
  · rw [Nat.min_eq_right (by omega), List.drop_eq_nil_of_le (by omega), List.drop_eq_nil_of_le (by omega)]
theorem cut_to (z : Str) (k : Nat) : (cutS z none (some (k : Int))).cps.toList = z.cps.toList.take k := by
  unfold cutS
  have e : z.cps.toList.length = z.length := Array.length_toList
  rw [HT.sIx_nat, HT.sIx_none, List.toList_toArray, List.drop_zero, Nat.sub_zero, ← e, ← List.take_eq_take_min]
theorem cut_to1 (z : Str) : (cutS z none (some 1)).cps.toList = z.cps.toList.take 1 := cut_to z 1
theorem cut_from1 (z : Str) : (cutS z (some 1) none).cps.toList = z.cps.toList.drop 1 := cut_from z 1
theorem figs_le (z : Str) : (figs z).length ≤ z.length := by
  unfold figs
  split
  · show ((z.cps.toList.drop 1).toArray).size ≤ z.cps.size
    rw [List.size_toArray, List.length_drop, Array.length_toList]
    omega
  · exact Nat.le_refl _
theorem ite_join {c : Bool} {σ : L2.St} {H : Hp} {A B : TE} {Kt : VK} (y : V) (hk : Kt y H) (hA : c = true → Kt y H → A σ H Kt) (hB : c = false → Kt y H → B σ H Kt) : if c = true then A σ H Kt else B σ H Kt := by
  cases c with
  | true => exact hA rfl hk
  | false => exact hB rfl hk
section
variable {P : Program} {w : World} {K : PySem.W.Frag} {mg : Str → Option Value} {base : Heap} {f fo oo bo ub ba CB : Addr} {fd : FuncData} {u1 : Tok}
theorem ok_begN (F : Fun K "begins_number" "begins_number" sbegins_number f fd) (m_all : mg "all" = none) (m_FIGURES : mg "FIGURES" = some (.str figures u1)) : FnOk P w K mg base CX0 1 f fd ["token"] spBegN := by
  refine F.ok scbegins_number (fun vs H Q E h => ?_) (fun cdv A outer s H vs Q E hr h => ?_)
  · obtain ⟨z, rfl, _⟩ := h
    rfl
  obtain ⟨z, rfl, l1, l2, q⟩ := h
  refine ⟨_, (pss_cons (ps_set (i := 1) scbegins_number.nd rfl (.inl rfl) (pe_ifExp (pt_cmpR op_eq (pe_ix ix_str (pv 0) pe_int (fun _ _ => rfl)) pe_str (nomark _)) (pe_slice sl_str (pv 0) (po_some pe_int) po_none) (pv 0)))
  (pss_cons (ps_if (pt_not (pt_val (pe_callB (cr_all rfl) rfl m_all PyProof.Rows.Boot.all (pa_cons (pe_lc (own := [("sign", 2)]) (g := gName 2) (tt := tYes) (te := (tOp rSignIn (tVar 2) (tC (.str figures)))) rfl scbegins_number.nd (pi_str (pv 1)) (blkOk_by (N := slbegins_number) (sc := defScope sbegins_number) (by decide +kernel)) (fun _ _ _ _ _ => (pg_name (i := 2) scbegins_number.nd rfl (.inl rfl))) (fun _ _ _ _ _ => pts_nil) (fun _ _ _ _ _ => (pe_cmpR op_in_sign (pv 2) (pe_glob (v := (.str figures)) rfl m_FIGURES ⟨_, rfl⟩) rfl))) pa_nil)))) (pss_one (ps_ret pe_bl)) pss_nil)
  (pss_one (ps_ret (pe_or (pe_cmpR op_ne (pe_slice sl_str (pv 1) po_none (po_some pe_int)) pe_str (nomark _)) (pe_one (pe_cmpR op_eq (pv 0) pe_str (nomark _)))))))), ?_⟩
  have big : (1000 : Nat) ≤ sizeLine := by decide
  have zl : z.length ≤ sizeLine := by omega
  have e0 : z.cps.toList[0]? = some (z.cps.getD 0 0) := by
    rw [Array.getElem?_toList]
    have : 0 < z.cps.size := l1
    simp [Array.getD, this]
  refine ⟨_, rfl, z, 0, _, rfl, rfl, zl, atI_nat (j := 0) e0, rfl, _, rfl, ?_⟩
  have c45 : decide (V.str ⟨#[z.cps.getD 0 0]⟩ = V.str "-") = decide (z.cps.getD 0 0 = 45) := by
    have : (V.str ⟨#[z.cps.getD 0 0]⟩ = V.str "-") ↔ z.cps.getD 0 0 = 45 := one_eq (d := 45)
    simp only [this]
  refine ite_join (.str (figs z)) ?_ (fun hc k => ?_) (fun hc k => ?_)
  · have fl : (figs z).length ≤ 1000 := Nat.le_trans (figs_le z) l2
    refine ⟨_, rfl, figs z, rfl, fun D hD => ?_⟩
    refine lc_it walk_text (fun i H' => Same H H' ∧ H' D = some (.lst (((figs z).cps.toList.take i).map fun c => V.bl (decide (c ∈ figures.cps.toList))))) ?_ ?_ ?_ ?_
    · exact ⟨same_new hD, by rw [List.take_zero]; exact upd_same⟩
    · intro _ _ _ _
      trivial
    · rintro i x H' H2 hi ⟨g, hD'⟩ ⟨rfl, c, ec, rfl⟩
      refine ⟨rfl, ?_⟩
      unfold tYes
      dsimp only
      rw [if_pos rfl]
      refine ⟨_, rfl, c, figures, rfl, rfl, _, hD', small1000 (by rw [List.length_map, List.length_take, Array.length_toList]; show min i (figs z).length ≤ _; omega), same_grow g hD, ?_⟩
      rw [upd_same, List.take_add_one, ec, List.map_append]
      rfl
    · rintro H' ⟨g, hD'⟩
      rw [List.take_length] at hD'
      refine ⟨D, (figs z).cps.toList.map fun c => decide (c ∈ figures.cps.toList), rfl, SqL.of ?_, _, rfl, ?_⟩
      · rw [hD', List.map_map]
        rfl
      have eb : ((figs z).cps.toList.map fun c => decide (c ∈ figures.cps.toList)).all id = (figs z).cps.toList.all fun c => decide (c ∈ figures.cps.toList) := by
        rw [List.all_map]
        rfl
      rw [eb]
      have q := q H' g
      unfold beginsN at q
      by_cases h1 : ((figs z).cps.toList.all fun c => decide (c ∈ figures.cps.toList)) = true
      · refine ite_f (by rw [h1]; rfl) ?_
        rw [h1, Bool.true_and] at q
        refine ⟨_, rfl, 1, rfl, figs z, rfl, by omega, rfl, _, rfl, ?_⟩
        have e1 : (V.str (cutS (figs z) none (some 1)) = V.str "0") ↔ (figs z).cps.toList.take 1 = [48] := by
          constructor
          · intro h
            have h := V.str.inj h
            rw [str_list, cut_to1] at h
            exact h
          · intro h
            congr 1
            rw [str_list, cut_to1, h]
            rfl
        by_cases h2 : (figs z).cps.toList.take 1 = [48]
        · refine ite_f (by simp [e1.mpr h2]) ⟨_, rfl, rfl, ?_⟩
          rw [decide_eq_true h2, Bool.not_true, Bool.false_or] at q
          have e2 : (V.str z = V.str "0") ↔ z = "0" := ⟨fun h => V.str.inj h, fun h => by rw [h]⟩
          simp only [e2]
          exact q
        · refine ite_t (by simp [e1, h2]) ?_
          rw [decide_eq_false h2, Bool.not_false, Bool.true_or] at q
          exact q
      · have h1 := Bool.eq_false_iff.mpr h1
        refine ite_t (by rw [h1]; rfl) ?_
        rw [h1, Bool.false_and] at q
        exact q
  · rw [c45] at hc
    refine ⟨_, rfl, 1, rfl, z, rfl, zl, ?_⟩
    have e : cutS z (some 1) none = figs z := by
      rw [str_list]
      unfold figs
      rw [if_pos (of_decide_eq_true hc), cut_from1, List.toList_toArray]
    rw [e]
    exact k
  · rw [c45] at hc
    refine ⟨_, rfl, ?_⟩
    have e : figs z = z := by
      unfold figs
      rw [if_neg (of_decide_eq_false hc)]
    rw [e] at k
    exact k
/-! ### the bracket of a word -/
def FormsOk (K : PySem.W.Frag) (w : World) (fo : Addr) : Prop := ∀ p ∈ forms, ∃ t, KDct K w fo p.1 (.ref t) ∧ ∀ H, SqT K H t (p.2.map V.str)
def OpsOk (K : PySem.W.Frag) (w : World) (oo : Addr) : Prop := ∀ p ∈ ops, KDct K w oo p.1 (.int (p.2 : Nat))
def spWB (CB : Addr) : Sp := fun vs H Q _ => ∃ z : Str, vs = [.str z] ∧ isWordB z = true ∧ NewB CB (wordBr z) H Q
theorem ops_at : ∀ z ∈ opWords, (z, opK z) ∈ ops := by decide +kernel
def lastOf (z : Str) : Str := (formOf z).getLastD ""
theorem form_at : ∀ z ∈ formWords, z ∉ unbr → (z, formOf z) ∈ forms ∧ (formOf z).length ≤ 3 ∧ formOf z = (formOf z).dropLast ++ [lastOf z] ∧ (((lastOf z, boundOf (lastOf z)) ∈ bounds ∧ lastOf z ∈ bounds.map (·.1)) ∨ (lastOf z ∉ bounds.map (·.1) ∧ boundOf (lastOf z) = (1, 1))) := by decide +kernel
theorem kall_miss {z : Str} {zs : List Str} {a : Addr} (h : KAll K w a zs) (n : z ∉ zs) : KMiss K w a z := by
  obtain ⟨es, m, r, D, e, b⟩ := h.in_ z
  rw [decide_eq_false n] at b
  cases r with
  | none => exact ⟨es, m, D.at_, D.lit, D.low, e⟩
  | some v => cases b
theorem kall_low {zs : List Str} {a : Addr} (h : KAll K w a zs) : (a == sysModules) = false := by
  obtain ⟨_, _, _, _, l, _⟩ := h
  exact l
theorem kall_at {zs : List Str} {a : Addr} (h : KAll K w a zs) : ∃ es n, K.lookup a = some ⟨.type "dict", none, .dict es n, #[]⟩ := by
  obtain ⟨es, n, l, _⟩ := h
  exact ⟨es, n, l⟩
theorem at_lastV (xs : List V) (x : V) : atI (xs ++ [x]) (-1) = some x := by
  unfold atI ixN
  rw [if_neg (by decide), List.length_append, if_pos (by simp; omega)]
  show (xs ++ [x])[((((xs.length + 1 : Nat) : Int)) + -1).toNat]? = _
  rw [show (((xs.length + 1 : Nat) : Int) + -1).toNat = xs.length by omega]
  simp
theorem cut_ix (xs : List V) (x : V) : HT.sIx (xs ++ [x]).length (xs ++ [x]).length (some (-1)) = xs.length := by
  show (if (-1 : Int) < 0 then (-1 + (((xs ++ [x]).length : Nat) : Int)).toNat else min (-1 : Int).toNat (xs ++ [x]).length) = _
  rw [if_pos (by decide), List.length_append]
  show (-1 + ((xs.length + 1 : Nat) : Int)).toNat = _
  omega
theorem cut_init (xs : List V) (x : V) : cutV (xs ++ [x]) none (some (-1)) = xs := by
  have e : HT.sIx (xs ++ [x]).length (xs ++ [x]).length (some (-1)) = xs.length := by
    show (if (-1 : Int) < 0 then (-1 + (((xs ++ [x]).length : Nat) : Int)).toNat else min (-1 : Int).toNat (xs ++ [x]).length) = _
    rw [if_pos (by decide), List.length_append]
    show (-1 + ((xs.length + 1 : Nat) : Int)).toNat = _
    omega
  unfold cutV
  rw [e, HT.sIx_none, List.drop_zero, Nat.sub_zero, List.take_left']
  rfl
theorem ok_wordBr (F : Fun K "word_bracket" "word_bracket" sword_bracket f fd) (m_OPS : mg "OPS" = some (.ref oo)) (m_FORMS : mg "FORMS" = some (.ref fo)) (m_BOUNDS : mg "BOUNDS" = some (.ref bo)) (m_len : mg "len" = none) (hO : KAll K w oo opWords) (hO2 : OpsOk K w oo) (hF : FormsOk K w fo) (hB : KAll K w bo (bounds.map (·.1))) (hB2 : BoundsOk K w bo)
    (CBracket : HasC P w K mg base "Bracket" CB ["self", "word", "kinds", "least", "most"] 1 (spBI CB)) : FnOk P w K mg base CX0 3 f fd ["word"] (spWB CB) := by
  refine F.ok scword_bracket (fun vs H Q E h => ?_) (fun cdv A outer s H vs Q E hr h => ?_)
  · obtain ⟨z, rfl, _⟩ := h
    rfl
  obtain ⟨z, rfl, hz, q⟩ := h
  refine ⟨_, (pss_cons (ps_if (pt_cmpR op_in_kdA (pv 0) (pe_glob (v := .ref oo) rfl m_OPS rfl) rfl) (pss_one (ps_ret (pe_hasC CBracket (hr.mono (by omega)) (pa_cons (pv 0) (pa_cons (pe_tup (pa_cons pe_str pa_nil)) (pa_cons (pe_ix ix_kdict (pe_glob (v := .ref oo) rfl m_OPS rfl) (pv 0) (fun _ _ => rfl)) (pa_cons (pe_ix ix_kdict (pe_glob (v := .ref oo) rfl m_OPS rfl) (pv 0) (fun _ _ => rfl)) pa_nil))))))) pss_nil)
  (pss_cons (ps_set (i := 1) scword_bracket.nd rfl (.inl rfl) (pe_ix ix_kdict (pe_glob (v := .ref fo) rfl m_FORMS rfl) (pv 0) (fun _ _ => rfl)))
  (pss_cons (ps_asg (pe_kget2 (pe_glob (v := .ref bo) rfl m_BOUNDS rfl) (pe_ix ix_tup (pv 1) (pe_un un_neg pe_int) (fun _ _ => rfl)) (pe_tup (pa_cons pe_int (pa_cons pe_int pa_nil))) ⟨rfl, rfl, rfl, rfl⟩) (pg_tup rfl (pgs_cons (pg_name (i := 2) scword_bracket.nd rfl (.inl rfl)) (pgs_cons (pg_name (i := 3) scword_bracket.nd rfl (.inl rfl)) pgs_nil))))
  (pss_cons (ps_set (i := 4) scword_bracket.nd rfl (.inl rfl) (pe_slice sl_tupA (pv 1) po_none (po_some (pe_un un_neg pe_int))))
  (pss_one (ps_ret (pe_hasC CBracket (hr.mono (by omega)) (pa_cons (pv 0) (pa_cons (pe_op op_catA (pv 4) (pe_tup (pa_cons pe_str pa_nil))) (pa_cons (pe_op op_add (pe_callB call_len_seq rfl m_len PySem.boot_len (pa_cons (pv 4) pa_nil)) (pv 2)) (pa_cons (pe_op op_add (pe_callB call_len_seq rfl m_len PySem.boot_len (pa_cons (pv 4) pa_nil)) (pv 3)) pa_nil))))))))))), ?_⟩
  refine ⟨_, rfl, z, oo, _, rfl, rfl, hO.in_ z, _, rfl, ?_⟩
  unfold wordBr at q
  by_cases h1 : z ∈ opWords
  · refine ite_t (by simp [h1]) ?_
    rw [if_pos h1] at q
    have kd := hO2 _ (ops_at z h1)
    refine ⟨_, rfl, (by show 1 ≤ sizeLine; decide), fun kt hk => ⟨_, rfl, oo, z, _, rfl, rfl, kd, _, rfl, oo, z, _, rfl, rfl, kd, ?_⟩⟩
    exact mk_br (lo := opK z) (hi := opK z) (ks := ["part"]) upd_same (NewB.up q (same_new hk))
  · refine ite_f (by simp [h1]) ?_
    rw [if_neg h1] at q
    have h2 : z ∈ formWords ∧ z ∉ unbr := by
      unfold isWordB at hz
      rw [decide_eq_false h1, Bool.false_or, Bool.and_eq_true] at hz
      exact ⟨of_decide_eq_true hz.1, fun h => by simp [h] at hz⟩
    obtain ⟨g1, g2, g3, g4⟩ := form_at z h2.1 h2.2
    obtain ⟨t, kd, sq⟩ := hF _ g1
    have g3v : (formOf z).map V.str = (formOf z).dropLast.map V.str ++ [V.str (lastOf z)] := by
      conv => lhs; rw [g3]
      rw [List.map_append]
      rfl
    have q : NewB CB ⟨z, (formOf z).dropLast ++ (["part"] : List Str), (formOf z).dropLast.length + (boundOf (lastOf z)).1, (formOf z).dropLast.length + (boundOf (lastOf z)).2, []⟩ H Q := q
    refine ⟨_, rfl, fo, z, .ref t, rfl, rfl, kd, ?_⟩
    refine ⟨bo, rfl, kall_at hB, _, rfl, 1, rfl, t, _, _, _, rfl, rfl, sq H, by rw [g3v]; exact at_lastV _ _, (by show 2 ≤ sizeLine; decide), fun d hd => ?_⟩
    have s2 : Same H (upd H d (.tup [.int 1, .int 1])) := same_new hd
    have e2 : upd H d (.tup [.int 1, .int 1]) d = some (.tup [.int 1, .int 1]) := upd_same
    generalize upd H d (.tup [.int 1, .int 1]) = H3 at *
    refine ⟨lastOf z, rfl, ?_⟩
    rcases g4 with ⟨gb, gm⟩ | ⟨gm, gd⟩
    · obtain ⟨tb, kb, sb⟩ := hB2 _ gb
      refine .inl ⟨_, kb, kall_low hB, ?_⟩
      have s3 := s2
      refine ⟨tb, _, rfl, sb _, rfl, _, _, rfl, _, _, rfl, rfl, ?_⟩
      refine ⟨_, rfl, _, rfl, _, rfl, t, _, rfl, sq _, fun hw => absurd hw.2 (by rw [g3v, cut_ix]; simp), fun _ p4 h4 => ?_⟩
      rw [g3v, cut_init]
      have s4 : Same H3 (upd H3 p4 (.tup ((formOf z).dropLast.map V.str))) := same_new h4
      have e4 : upd H3 p4 (.tup ((formOf z).dropLast.map V.str)) p4 = some (.tup ((formOf z).dropLast.map V.str)) := upd_same
      generalize upd H3 p4 (.tup ((formOf z).dropLast.map V.str)) = H4 at *
      refine ⟨_, rfl, _, rfl, (by show 1 ≤ sizeLine; decide), fun kt hk => ?_⟩
      have s5 : Same H4 (upd H4 kt (.tup [.str "part"])) := same_new hk
      have e5 : upd H4 kt (.tup [.str "part"]) kt = some (.tup [.str "part"]) := upd_same
      generalize upd H4 kt (.tup [.str "part"]) = H5 at *
      have e45 := s5 _ _ e4
      have ll : ((formOf z).dropLast.map V.str).length = (formOf z).dropLast.length := List.length_map _
      have ls : (formOf z).dropLast.length ≤ 3 := by rw [List.length_dropLast]; omega
      refine ⟨p4, kt, _, _, rfl, rfl, SqT.of e45, SqT.of e5, Nat.le_of_lt (small1000 (by rw [ll]; show _ + 1 ≤ 1000; omega)), fun hn => ?_, fun _ hn => absurd hn (by simp), fun hn _ k2 hk2 => ?_⟩
      · have hn : (formOf z).dropLast = [] := List.map_eq_nil_iff.mp hn
        refine ⟨_, rfl, p4, _, rfl, .inr (SqT.of e45), _, rfl, _, _, rfl, rfl, _, rfl, p4, _, rfl, .inr (SqT.of e45), _, rfl, _, _, rfl, rfl, ?_⟩
        rw [hn] at q ⊢
        exact mk_br (lo := 0 + (boundOf (lastOf z)).1) (hi := 0 + (boundOf (lastOf z)).2) (ks := ["part"]) e5 (NewB.up q (s3.trans (s4.trans s5)))
      · have s6 : Same H5 (upd H5 k2 (.tup ((formOf z).dropLast.map V.str ++ [.str "part"]))) := same_new hk2
        have e6 : upd H5 k2 (.tup ((formOf z).dropLast.map V.str ++ [.str "part"])) k2 = some (.tup (((formOf z).dropLast ++ (["part"] : List Str)).map V.str)) := by
          rw [upd_same, List.map_append]
          rfl
        generalize upd H5 k2 (.tup ((formOf z).dropLast.map V.str ++ [.str "part"])) = H6 at *
        have e46 := s6 _ _ e45
        refine ⟨_, rfl, p4, _, rfl, .inr (SqT.of e46), _, rfl, _, _, rfl, rfl, _, rfl, p4, _, rfl, .inr (SqT.of e46), _, rfl, _, _, rfl, rfl, ?_⟩
        rw [ll]
        exact mk_br (lo := (formOf z).dropLast.length + (boundOf (lastOf z)).1) (hi := (formOf z).dropLast.length + (boundOf (lastOf z)).2) e6 (NewB.up q (s3.trans (s4.trans (s5.trans s6))))
    · refine .inr ⟨kall_miss hB gm, ?_⟩
      have s3 := s2
      have e2 : H3 d = some (.tup [.int ((boundOf (lastOf z)).1 : Nat), .int ((boundOf (lastOf z)).2 : Nat)]) := by rw [gd]; exact e2
      refine ⟨d, _, rfl, SqT.of e2, rfl, _, _, rfl, _, _, rfl, rfl, ?_⟩
      refine ⟨_, rfl, _, rfl, _, rfl, t, _, rfl, sq _, fun hw => absurd hw.2 (by rw [g3v, cut_ix]; simp), fun _ p4 h4 => ?_⟩
      rw [g3v, cut_init]
      have s4 : Same H3 (upd H3 p4 (.tup ((formOf z).dropLast.map V.str))) := same_new h4
      have e4 : upd H3 p4 (.tup ((formOf z).dropLast.map V.str)) p4 = some (.tup ((formOf z).dropLast.map V.str)) := upd_same
      generalize upd H3 p4 (.tup ((formOf z).dropLast.map V.str)) = H4 at *
      refine ⟨_, rfl, _, rfl, (by show 1 ≤ sizeLine; decide), fun kt hk => ?_⟩
      have s5 : Same H4 (upd H4 kt (.tup [.str "part"])) := same_new hk
      have e5 : upd H4 kt (.tup [.str "part"]) kt = some (.tup [.str "part"]) := upd_same
      generalize upd H4 kt (.tup [.str "part"]) = H5 at *
      have e45 := s5 _ _ e4
      have ll : ((formOf z).dropLast.map V.str).length = (formOf z).dropLast.length := List.length_map _
      have ls : (formOf z).dropLast.length ≤ 3 := by rw [List.length_dropLast]; omega
      refine ⟨p4, kt, _, _, rfl, rfl, SqT.of e45, SqT.of e5, Nat.le_of_lt (small1000 (by rw [ll]; show _ + 1 ≤ 1000; omega)), fun hn => ?_, fun _ hn => absurd hn (by simp), fun hn _ k2 hk2 => ?_⟩
      · have hn : (formOf z).dropLast = [] := List.map_eq_nil_iff.mp hn
        refine ⟨_, rfl, p4, _, rfl, .inr (SqT.of e45), _, rfl, _, _, rfl, rfl, _, rfl, p4, _, rfl, .inr (SqT.of e45), _, rfl, _, _, rfl, rfl, ?_⟩
        rw [hn] at q ⊢
        exact mk_br (lo := 0 + (boundOf (lastOf z)).1) (hi := 0 + (boundOf (lastOf z)).2) (ks := ["part"]) e5 (NewB.up q (s3.trans (s4.trans s5)))
      · have s6 : Same H5 (upd H5 k2 (.tup ((formOf z).dropLast.map V.str ++ [.str "part"]))) := same_new hk2
        have e6 : upd H5 k2 (.tup ((formOf z).dropLast.map V.str ++ [.str "part"])) k2 = some (.tup (((formOf z).dropLast ++ (["part"] : List Str)).map V.str)) := by
          rw [upd_same, List.map_append]
          rfl
        generalize upd H5 k2 (.tup ((formOf z).dropLast.map V.str ++ [.str "part"])) = H6 at *
        have e46 := s6 _ _ e45
        refine ⟨_, rfl, p4, _, rfl, .inr (SqT.of e46), _, rfl, _, _, rfl, rfl, _, rfl, p4, _, rfl, .inr (SqT.of e46), _, rfl, _, _, rfl, rfl, ?_⟩
        rw [ll]
        exact mk_br (lo := (formOf z).dropLast.length + (boundOf (lastOf z)).1) (hi := (formOf z).dropLast.length + (boundOf (lastOf z)).2) e6 (NewB.up q (s3.trans (s4.trans (s5.trans s6))))
/-! ### what a shut bracket makes -/
def spMade (CB : Addr) : Sp := fun vs H Q _ => ∃ (H0 : Hp) (p tl : Addr) (b : Br), vs = [.ref p] ∧ BrAt CB H0 H p tl b ∧ b.things.length ≤ 900 ∧ (b.word = "call" → b.things ≠ []) ∧ ∀ v H', Same H H' → Dz H' v (madeF b) → Q v H'
theorem dzl_drop1 {H : Hp} {v : V} {vs : List V} {ds : List PyData} (h : DzL H (v :: vs) ds) : ∃ d es, ds = d :: es ∧ Dz H v d ∧ DzL H vs es := by
  cases h with
  | cons a b => exact ⟨_, _, rfl, a, b⟩
theorem ok_made (F : Fun K "made_of" "made_of" smade_of f fd) (T : TxB K CB) (m_OPS : mg "OPS" = some (.ref oo)) (m_tuple : mg "tuple" = none) (hO : KAll K w oo opWords) : FnOk P w K mg base CX0 1 f fd ["bracket"] (spMade CB) := by
  refine F.ok scmade_of (fun vs H Q E h => ?_) (fun cdv A outer s H vs Q E hr h => ?_)
  · obtain ⟨H0, p, tl, b, rfl, _⟩ := h
    rfl
  obtain ⟨H0, p, tl, b, rfl, ⟨t0, dx, kt, vs, e1, e2, e3, e4⟩, lb, hc, q⟩ := h
  refine ⟨_, (pss_cons (ps_set (i := 1) scmade_of.nd rfl (.inl rfl) (pe_callTy call_tuple_of rfl m_tuple PyProof.Rows.Boot.«tuple» (pa_cons (pe_fld (pv 0) rfl) pa_nil)))
  (pss_cons (ps_if (pt_cmpR op_eq (pe_fld (pv 0) rfl) pe_str (nomark _)) (pss_one (ps_ret (pv 1))) pss_nil)
  (pss_cons (ps_if (pt_cmpR op_in_kdA (pe_fld (pv 0) rfl) (pe_glob (v := .ref oo) rfl m_OPS rfl) rfl) (pss_one (ps_ret (pe_tup (pa_cons pe_str (pa_cons (pe_fld (pv 0) rfl) (pa_cons (pv 1) pa_nil)))))) pss_nil)
  (pss_cons (ps_if (pt_cmpR op_eq (pe_fld (pv 0) rfl) pe_str (nomark _)) (pss_one (ps_ret (pe_tup (pa_cons pe_str (pa_cons (pe_ix ix_tup (pv 1) pe_int (fun _ _ => rfl)) (pa_cons (pe_slice sl_tupA (pv 1) (po_some pe_int) po_none) pa_nil)))))) pss_nil)
  (pss_cons (ps_if (pt_cmpR op_eq (pe_fld (pv 0) rfl) pe_str (nomark _)) (pss_one (ps_ret (pe_tup (pa_cons pe_str (pa_cons (pv 1) pa_nil))))) pss_nil)
  (pss_one (ps_ret (pe_tup (pa_cons (pe_fld (pv 0) rfl) (StX.pa_star (pv 1) pa_nil)))))))))), ?_⟩
  have lv := e4.len
  refine ⟨_, rfl, p, CB, dx, _, _, rfl, e1, T.cl, T.nT, bf_things, tl, vs, rfl, .inl ⟨SqL.of e3, fun t ht => ?_⟩⟩
  have s1 : Same H (upd H t (.tup vs)) := same_new ht
  have et : upd H t (.tup vs) t = some (.tup vs) := upd_same
  generalize upd H t (.tup vs) = H1 at *
  have e1 := s1 _ _ e1
  have d1 := e4.tp (same_tp s1)
  unfold madeF at q
  refine ⟨_, rfl, p, CB, dx, _, _, rfl, e1, T.cl, T.nW, bf_word, rfl, _, rfl, ?_⟩
  by_cases h1 : b.word = "names"
  · refine ite_t (by simp [h1]) ⟨_, rfl, ?_⟩
    rw [if_pos h1] at q
    exact q _ _ s1 (.tup et d1)
  refine ite_f (by simp [h1]) ?_
  rw [if_neg h1] at q
  refine ⟨_, rfl, p, CB, dx, _, _, rfl, e1, T.cl, T.nW, bf_word, b.word, oo, _, rfl, rfl, hO.in_ _, _, rfl, ?_⟩
  by_cases h2 : b.word ∈ opWords
  · refine ite_t (by simp [h2]) ?_
    rw [if_pos h2] at q
    refine ⟨_, rfl, p, CB, dx, _, _, rfl, e1, T.cl, T.nW, bf_word, _, rfl, (by show 3 ≤ sizeLine; decide), fun u hu => ?_⟩
    have s2 : Same H1 (upd H1 u (.tup [.str "op", .str b.word, .ref t])) := same_new hu
    exact q _ _ (s1.trans s2) (.tup upd_same (.cons (.str _) (.cons (.str _) (.cons (.tup (s2 _ _ et) (d1.tp (same_tp s2))) .nil))))
  refine ite_f (by simp [h2]) ?_
  rw [if_neg h2] at q
  refine ⟨_, rfl, p, CB, dx, _, _, rfl, e1, T.cl, T.nW, bf_word, rfl, _, rfl, ?_⟩
  by_cases h3 : b.word = "call"
  · refine ite_t (by simp [h3]) ?_
    rw [if_pos h3] at q
    have hn := hc h3
    match vs, d1, et with
    | [], d1, _ =>
      have := d1.len
      simp at this
      exact absurd (List.length_eq_zero_iff.mp this.symm) hn
    | x :: xs, d1, et =>
      obtain ⟨d, es, ed, dx1, dxs⟩ := dzl_drop1 d1
      rw [ed] at q
      refine ⟨_, rfl, t, _, 0, x, rfl, rfl, SqT.of et, atI_nat (j := 0) rfl, _, rfl, 1, rfl, t, _, rfl, SqT.of et, fun hw => absurd hw.1 ?_, fun _ u hu => ?_⟩
      · show ¬ HT.sIx (x :: xs).length 0 (some ((1 : Nat) : Int)) = 0
        rw [HT.sIx_nat]
        simp
      have ec : cutV (x :: xs) (some 1) none = xs := by
        show ((x :: xs).drop (HT.sIx (x :: xs).length 0 (some ((1 : Nat) : Int)))).take ((x :: xs).length - HT.sIx (x :: xs).length 0 (some ((1 : Nat) : Int))) = xs
        rw [HT.sIx_nat]
        simp
      rw [ec]
      have s2 : Same H1 (upd H1 u (.tup xs)) := same_new hu
      have eu : upd H1 u (.tup xs) u = some (.tup xs) := upd_same
      generalize upd H1 u (.tup xs) = H2 at *
      refine ⟨(by show 3 ≤ sizeLine; decide), fun r hr' => ?_⟩
      have s3 : Same H2 (upd H2 r (.tup [.str "call", x, .ref u])) := same_new hr'
      have tp2 := same_tp (s2.trans s3)
      exact q _ _ (s1.trans (s2.trans s3)) (.tup upd_same (.cons (.str _) (.cons (dx1.tp tp2) (.cons (.tup (s3 _ _ eu) (dxs.tp tp2)) .nil))))
  refine ite_f (by simp [h3]) ?_
  rw [if_neg h3] at q
  refine ⟨_, rfl, p, CB, dx, _, _, rfl, e1, T.cl, T.nW, bf_word, rfl, _, rfl, ?_⟩
  by_cases h4 : b.word = "do"
  · refine ite_t (by simp [h4]) ?_
    rw [if_pos h4] at q
    refine ⟨_, rfl, (by show 2 ≤ sizeLine; decide), fun u hu => ?_⟩
    have s2 : Same H1 (upd H1 u (.tup [.str "do", .ref t])) := same_new hu
    exact q _ _ (s1.trans s2) (.tup upd_same (.cons (.str _) (.cons (.tup (s2 _ _ et) (d1.tp (same_tp s2))) .nil)))
  refine ite_f (by simp [h4]) ?_
  rw [if_neg h4] at q
  refine ⟨_, rfl, p, CB, dx, _, _, rfl, e1, T.cl, T.nW, bf_word, _, rfl, t, vs, rfl, .inl (SqT.of et), ?_⟩
  refine ⟨?_, fun u hu => ?_⟩
  · show (vs ++ []).length + 1 ≤ sizeLine
    rw [List.append_nil]
    exact Nat.le_of_lt (small1000 (by omega))
  · have s2 : Same H1 (upd H1 u (.tup (.str b.word :: (vs ++ [])))) := same_new hu
    have eu : upd H1 u (.tup (.str b.word :: (vs ++ []))) u = some (.tup (.str b.word :: vs)) := by rw [upd_same, List.append_nil]
    exact q _ _ (s1.trans s2) (.tup eu (.cons (.str _) (d1.tp (same_tp s2))))
end
end Wp
set_option Elab.async false
set_option linter.all false
set_option maxRecDepth 100000
namespace Wp
open PySem PySem.Spec PyProof.Rows L2
-- Reader___init__: slots self 0
abbrev sReader___init__ : Stmt := inClass (top 30) 0
theorem scReader___init__ : FnScope ["self"] ["self"] (defScope sReader___init__) := ⟨rfl, rfl, rfl, by decide +kernel, rfl, by decide +kernel, by decide +kernel⟩
abbrev slReader___init__ : List Str := ["self"]
-- Reader_add_thing: slots self 0, thing 1
abbrev sReader_add_thing : Stmt := inClass (top 30) 11
theorem scReader_add_thing : FnScope ["self", "thing"] ["self", "thing"] (defScope sReader_add_thing) := ⟨rfl, rfl, rfl, by decide +kernel, rfl, by decide +kernel, by decide +kernel⟩
abbrev slReader_add_thing : List Str := ["self", "thing"]
-- Reader_names_here: slots self 0, bracket 1, outer 2
abbrev sReader_names_here : Stmt := inClass (top 30) 9
theorem scReader_names_here : FnScope ["self", "bracket", "outer"] ["self"] (defScope sReader_names_here) := ⟨rfl, rfl, rfl, by decide +kernel, rfl, by decide +kernel, by decide +kernel⟩
abbrev slReader_names_here : List Str := ["self", "bracket", "outer"]
structure TxR (K : PySem.W.Frag) (CR : Addr) : Prop where
  cl : Cls K CR
  nB : NoAttr K CR "brackets"
  nT : NoAttr K CR "token"
  nR : NoAttr K CR "reads"
/-- the reader laid open -/
structure RdO (CB CR : Addr) (H0 H : Hp) (r : Addr) (b : Br) (bs : List Br) (z : Str) (q : Option Str) (dx bl p tl dxb kt : Addr) (qs : List (Addr × Addr)) (vs : List V) : Prop where
  s0 : Same H0 H
  r0 : H0 r = none
  hr : H r = some (.ins CR dx (rf bl z q))
  b0 : H0 bl = none
  hb : H bl = some (.lst ((qs.reverse.map fun q => V.ref q.1) ++ [V.ref p]))
  t0 : H0 tl = none
  hp : H p = some (.ins CB dxb (bf b.word kt b.least b.most tl))
  hk : H kt = some (.tup (b.kinds.map V.str))
  ht : H tl = some (.lst vs)
  hd : DzL H vs b.things
  all : BrAll CB H0 H qs bs
  nd : (bl :: tl :: qs.map (·.2)).Nodup
theorem RdAt.open_ {CB CR : Addr} {H0 H : Hp} {r : Addr} {b : Br} {bs : List Br} {z : Str} {q : Option Str} (h : RdAt CB CR H0 H r ⟨b :: bs, z, q⟩) : ∃ dx bl p tl dxb kt qs vs, RdO CB CR H0 H r b bs z q dx bl p tl dxb kt qs vs := by
  obtain ⟨s0, r0, dx, bl, qs, e1, b0, e2, e3, nd⟩ := h
  cases e3 with
  | @cons p tl _ qs' _ hb ha =>
    obtain ⟨t0, dxb, kt, vs, f1, f2, f3, f4⟩ := hb
    refine ⟨dx, bl, p, tl, dxb, kt, qs', vs, s0, r0, e1, b0, ?_, t0, f1, f2, f3, f4, ha, nd⟩
    rw [e2, List.reverse_cons, List.map_append]
    rfl
theorem RdO.at_ {CB CR : Addr} {H0 H : Hp} {r : Addr} {b : Br} {bs : List Br} {z : Str} {q : Option Str} {dx bl p tl dxb kt : Addr} {qs : List (Addr × Addr)} {vs : List V} (h : RdO CB CR H0 H r b bs z q dx bl p tl dxb kt qs vs) : RdAt CB CR H0 H r ⟨b :: bs, z, q⟩ := by
  refine ⟨h.s0, h.r0, dx, bl, (p, tl) :: qs, h.hr, h.b0, ?_, .cons ⟨h.t0, dxb, kt, vs, h.hp, h.hk, h.ht, h.hd⟩ h.all, h.nd⟩
  rw [h.hb, List.reverse_cons, List.map_append]
  rfl
section
variable {CB CR : Addr} {H0 H : Hp} {r : Addr} {b : Br} {bs : List Br} {z : Str} {q : Option Str} {dx bl p tl dxb kt : Addr} {qs : List (Addr × Addr)} {vs : List V}
/-- the reader's own fields are written -/
theorem RdO.put (h : RdO CB CR H0 H r b bs z q dx bl p tl dxb kt qs vs) (z' : Str) (q' : Option Str) : RdO CB CR H0 (upd H r (.ins CR dx (rf bl z' q'))) r b bs z' q' dx bl p tl dxb kt qs vs := by
  have k : ∀ u o, H u = some o → (∀ dy fs, o ≠ .ins CR dy fs ∨ u ≠ r) → u ≠ r → upd H r (.ins CR dx (rf bl z' q')) u = some o := fun u o e _ n => by rw [upd_ne n]; exact e
  have nb : bl ≠ r := ne_of h.hb h.hr (by intro z; cases z)
  have np : p ≠ r := fun e => by
    have := h.hp
    rw [e, h.hr] at this
    injection this with this
    injection this with _ _ this
    exact bf_rf this.symm
  have nk : kt ≠ r := ne_of h.hk h.hr (by intro z; cases z)
  have nt : tl ≠ r := ne_of h.ht h.hr (by intro z; cases z)
  have tp : Tp H (upd H r (.ins CR dx (rf bl z' q'))) := fun u xs e => by rw [upd_ne (ne_of e h.hr (by intro z; cases z))]; exact e
  refine ⟨same_grow h.s0 h.r0, h.r0, upd_same, h.b0, by rw [upd_ne nb]; exact h.hb, h.t0, by rw [upd_ne np]; exact h.hp, by rw [upd_ne nk]; exact h.hk, by rw [upd_ne nt]; exact h.ht, h.hd.tp tp, ?_, h.nd⟩
  refine h.all.st (fun u C d w kt lo hi t e => ?_) tp (fun t _ us e => ?_)
  · rw [upd_ne (fun e' => by
      rw [e', h.hr] at e
      injection e with e
      injection e with _ _ e
      exact bf_rf e.symm)]
    exact e
  · rw [upd_ne (ne_of e h.hr (by intro z; cases z))]
    exact e
/-- the innermost bracket's list of things is written -/
theorem RdO.add (h : RdO CB CR H0 H r b bs z q dx bl p tl dxb kt qs vs) {v : V} {d : PyData} (hv : Dz H v d) : RdO CB CR H0 (upd H tl (.lst (vs ++ [v]))) r { b with things := b.things ++ [d] } bs z q dx bl p tl dxb kt qs (vs ++ [v]) := by
  have nd := h.nd
  rw [List.nodup_cons, List.nodup_cons] at nd
  have nb : bl ≠ tl := fun e => nd.1 (by rw [e]; exact List.mem_cons_self)
  have tp : Tp H (upd H tl (.lst (vs ++ [v]))) := fun u xs e => by rw [upd_ne (ne_of e h.ht (by intro z; cases z))]; exact e
  refine ⟨same_grow h.s0 h.t0, h.r0, by rw [upd_ne (ne_of h.hr h.ht (by intro z; cases z))]; exact h.hr, h.b0, by rw [upd_ne nb]; exact h.hb, h.t0, by rw [upd_ne (ne_of h.hp h.ht (by intro z; cases z))]; exact h.hp, tp _ _ h.hk, upd_same, (h.hd.tp tp).app (.cons (hv.tp tp) .nil), ?_, h.nd⟩
  refine h.all.st (fun u C d w kt lo hi t e => ?_) tp (fun t ht us e => ?_)
  · rw [upd_ne (ne_of e h.ht (by intro z; cases z))]
    exact e
  · rw [upd_ne (fun e' => nd.2.1 (by rw [← e']; exact ht))]
    exact e
theorem RdO.same {H' : Hp} (h : RdO CB CR H0 H r b bs z q dx bl p tl dxb kt qs vs) (s : Same H H') : RdO CB CR H0 H' r b bs z q dx bl p tl dxb kt qs vs :=
  ⟨h.s0.trans s, h.r0, s _ _ h.hr, h.b0, s _ _ h.hb, h.t0, s _ _ h.hp, s _ _ h.hk, s _ _ h.ht, h.hd.tp (same_tp s), h.all.st (fun _ _ _ _ _ _ _ _ e => s _ _ e) (same_tp s) (fun _ _ _ e => s _ _ e), h.nd⟩
end
def spRI (CB CR : Addr) : Sp := fun vs H Q _ => ∃ (H0 : Hp) (x dx : Addr), vs = [.ref x] ∧ Same H0 H ∧ H0 x = none ∧ H x = some (.ins CR dx []) ∧ ∀ H', RdAt CB CR H0 H' x ⟨[rootBr], "", none⟩ → Q .non H'
def spAdd (CB CR : Addr) : Sp := fun vs H Q _ => ∃ (H0 : Hp) (r : Addr) (v : V) (d : PyData) (b : Br) (bs : List Br) (z : Str) (q : Option Str), vs = [.ref r, v] ∧ RdAt CB CR H0 H r ⟨b :: bs, z, q⟩ ∧ b.things.length ≤ 900 ∧ Dz H v d ∧ ∀ H', RdAt CB CR H0 H' r (addF ⟨b :: bs, z, q⟩ d) → Q .non H'
def spNH (CB CR : Addr) : Sp := fun vs H Q _ => ∃ (H0 : Hp) (r : Addr) (st : Rd), vs = [.ref r] ∧ RdAt CB CR H0 H r st ∧ OkL st ∧ ∀ (p : Addr) (zs : List Str) H', Same H H' → H' p = some (.lst (zs.map V.str)) → namesF st = zs.map PyData.str → Q (.ref p) H'
theorem dzl_strs {H : Hp} : ∀ {zs : List Str} {xs : List V}, DzL H xs (zs.map .str) → xs = zs.map V.str
  | [], _, .nil => rfl
  | z :: zs, _, .cons (.str _) t => by rw [List.map_cons, dzl_strs t]
theorem strs_of : ∀ {ds : List PyData}, (∀ d ∈ ds, ∃ z, d = .str z) → ∃ zs : List Str, ds = zs.map PyData.str
  | [], _ => ⟨[], rfl⟩
  | d :: ds, h => by
    obtain ⟨z, rfl⟩ := h d List.mem_cons_self
    obtain ⟨zs, e⟩ := strs_of fun x hx => h x (List.mem_cons_of_mem _ hx)
    exact ⟨z :: zs, by rw [e]; rfl⟩
theorem at_last2 (xs : List V) (x y : V) : atI (xs ++ [x] ++ [y]) (-2) = some x := by
  unfold atI ixN
  rw [if_neg (by decide), List.length_append, List.length_append, if_pos (by simp; omega)]
  show (xs ++ [x] ++ [y])[((((xs.length + 1 + 1 : Nat) : Int)) + -2).toNat]? = _
  rw [show (((xs.length + 1 + 1 : Nat) : Int) + -2).toNat = xs.length by omega]
  simp
section
variable {P : Program} {w : World} {K : PySem.W.Frag} {mg : Str → Option Value} {base : Heap} {f CB CR : Addr} {fd : FuncData}
theorem ok_rinit (F : Fun K "__init__" "Reader.__init__" sReader___init__ f fd) (T : TxR K CR) (Groot_bracket : Has P w K mg base "root_bracket" [] 3 (spB0 CB rootBr)) : FnOk P w K mg base CX0 4 f fd ["self"] (spRI CB CR) := by
  refine F.ok scReader___init__ (fun vs H Q E h => ?_) (fun cdv A outer s H vs Q E hr h => ?_)
  · obtain ⟨H0, x, dx, rfl, _⟩ := h
    rfl
  obtain ⟨H0, x, dx, rfl, s0, x0, hx, q⟩ := h
  refine ⟨_, (pss_cons (ps_fld (pv 0) (pe_lst (pa_cons (pe_has0 Groot_bracket (hr.mono (by omega))) pa_nil)) rfl)
  (pss_cons (ps_fld (pv 0) pe_str rfl)
  (pss_one (ps_fld (pv 0) pe_non rfl)))), ?_⟩
  refine ⟨rfl, fun p tl H1 s1 np bb => ⟨(by show 1 ≤ sizeLine; decide), fun bl hbl => ?_⟩⟩
  have s2 : Same H1 (upd H1 bl (.lst [.ref p])) := same_new hbl
  have e2 : upd H1 bl (.lst [.ref p]) bl = some (.lst [.ref p]) := upd_same
  have bb2 : BrAt CB H (upd H1 bl (.lst [.ref p])) p tl rootBr := bb.st (fun _ _ _ _ _ _ _ _ e => s2 _ _ e) (same_tp s2) (fun _ e => s2 _ _ e)
  have nbl : bl ≠ tl := fun e => by
    obtain ⟨_, _, _, _, _, _, e3, _⟩ := bb
    rw [e, e3] at hbl
    cases hbl
  have hx2 := s2 _ _ (s1 _ _ hx)
  have bl0 : H bl = none := same_none s1 hbl
  have s02 := s0.trans (s1.trans s2)
  generalize upd H1 bl (.lst [.ref p]) = H2 at *
  refine ⟨_, rfl, x, CR, dx, [], rfl, hx2, T.cl, T.nB, (by show 0 < 1000; decide), ?_⟩
  refine ⟨_, rfl, x, CR, dx, _, rfl, upd_same, T.cl, T.nT, (by show 1 < 1000; decide), ?_⟩
  refine ⟨_, rfl, x, CR, dx, _, rfl, upd_same, T.cl, T.nR, (by show 2 < 1000; decide), ?_⟩
  obtain ⟨t0, dxb, kt, vs, f1, f2, f3, f4⟩ := bb2
  have nx : ∀ u o, H2 u = some o → (∀ C d fs, o ≠ .ins C d fs) ∨ u ≠ x → u ≠ x → upd (upd (upd H2 x (.ins CR dx (putF "brackets" (.ref bl) []))) x (.ins CR dx (putF "token" (.str "") (putF "brackets" (.ref bl) [])))) x (.ins CR dx (putF "reads" .non (putF "token" (.str "") (putF "brackets" (.ref bl) [])))) u = some o := fun u o e _ n => by
    rw [upd_ne n, upd_ne n, upd_ne n]
    exact e
  have npx : p ≠ x := fun e => by rw [e, hx] at np; cases np
  refine q _ ⟨fun u o e => nx u o (s02 _ _ e) (.inr (ne_of_none e x0)) (ne_of_none e x0), x0, dx, bl, [(p, tl)], by rw [upd_same]; rfl, same_none s0 bl0, ?_, .cons ⟨same_none s0 t0, dxb, kt, vs, ?_, ?_, ?_, ?_⟩ .nil, ?_⟩
  · exact nx _ _ e2 (.inl fun _ _ _ z => by cases z) (ne_of e2 hx2 (by intro z; cases z))
  · exact nx _ _ f1 (.inr npx) npx
  · exact nx _ _ f2 (.inl fun _ _ _ z => by cases z) (ne_of f2 hx2 (by intro z; cases z))
  · exact nx _ _ f3 (.inl fun _ _ _ z => by cases z) (ne_of f3 hx2 (by intro z; cases z))
  · have : vs = [] := by
      have := f4.len
      exact List.length_eq_zero_iff.mp this
    subst this
    exact .nil
  · simp [nbl]
theorem ok_add (F : Fun K "add_thing" "Reader.add_thing" sReader_add_thing f fd) (T : TxR K CR) (TB : TxB K CB) : FnOk P w K mg base CX0 1 f fd ["self", "thing"] (spAdd CB CR) := by
  refine F.ok scReader_add_thing (fun vs H Q E h => ?_) (fun cdv A outer s H vs Q E hr h => ?_)
  · obtain ⟨H0, r, v, d, b, bs, z, q, rfl, _⟩ := h
    rfl
  obtain ⟨H0, r, v, d, b, bs, z, q0, rfl, ra, lb, dv, q⟩ := h
  refine ⟨_, (pss_cons (ps_fld (pv 0) pe_non rfl)
  (pss_cons (ps_fld (pv 0) pe_str rfl)
  (pss_one (ps_expr (pe_bm PySem.F.plainAttrs_list PySem.F.slot_list_append PySem.F.type_list_append mt_append (pe_fld (pe_ix ix_list (pe_fld (pv 0) rfl) (pe_un un_neg pe_int) (fun _ _ => rfl)) rfl) (pa_cons (pv 1) pa_nil)))))), ?_⟩
  obtain ⟨dx, bl, p, tl, dxb, kt, qs, vs, o⟩ := ra.open_
  have o1 := o.put z none
  have o2 := o1.put "" none
  refine ⟨_, rfl, r, CR, dx, _, rfl, o.hr, T.cl, T.nR, (by show 3 < 1000; decide), ?_⟩
  refine ⟨_, rfl, r, CR, dx, _, rfl, upd_same, T.cl, T.nT, (by show 3 < 1000; decide), ?_⟩
  have dv2 : Dz (upd (upd H r (.ins CR dx (rf bl z none))) r (.ins CR dx (rf bl "" none))) v d := dv.tp fun u xs e => by
    have n := ne_of e o.hr (by intro z; cases z)
    rw [upd_ne n, upd_ne n]
    exact e
  show _
  have o2 : RdO CB CR H0 (upd (upd H r (.ins CR dx (putF "reads" .non (rf bl z q0)))) r (.ins CR dx (putF "token" (.str "") (putF "reads" .non (rf bl z q0))))) r b bs "" none dx bl p tl dxb kt qs vs := o2
  have dv2 : Dz (upd (upd H r (.ins CR dx (putF "reads" .non (rf bl z q0)))) r (.ins CR dx (putF "token" (.str "") (putF "reads" .non (rf bl z q0))))) v d := dv2
  generalize upd (upd H r (.ins CR dx (putF "reads" .non (rf bl z q0)))) r (.ins CR dx (putF "token" (.str "") (putF "reads" .non (rf bl z q0)))) = H2 at *
  refine ⟨_, rfl, r, CR, dx, _, _, rfl, o2.hr, T.cl, T.nB, rf_brs, 1, rfl, bl, _, _, _, rfl, rfl, SqL.of o2.hb, at_lastV _ _, p, CB, dxb, _, _, rfl, o2.hp, TB.cl, TB.nT, bf_things, .inl ⟨rfl, _, SqL.of o2.ht⟩, _, rfl, tl, _, _, rfl, rfl, o2.ht, ?_, ?_⟩
  · rw [o2.hd.len]
    exact small1000 (by omega)
  · exact q _ (o2.add dv2).at_
theorem ok_nh (F : Fun K "names_here" "Reader.names_here" sReader_names_here f fd) (T : TxR K CR) (TB : TxB K CB) : FnOk P w K mg base CX0 1 f fd ["self"] (spNH CB CR) := by
  refine F.ok scReader_names_here (fun vs H Q E h => ?_) (fun cdv A outer s H vs Q E hr h => ?_)
  · obtain ⟨H0, r, st, rfl, _⟩ := h
    rfl
  obtain ⟨H0, r, ⟨brs, z, q0⟩, rfl, ra, ok, q⟩ := h
  refine ⟨_, (pss_cons (ps_set (i := 1) scReader_names_here.nd rfl (.inl rfl) (pe_ix ix_list (pe_fld (pv 0) rfl) (pe_un un_neg pe_int) (fun _ _ => rfl)))
  (pss_cons (ps_if (pt_cmpR op_ne (pe_fld (pv 1) rfl) pe_str (nomark _)) (pss_one (ps_ret (pe_lst pa_nil))) pss_nil)
  (pss_cons (ps_set (i := 2) scReader_names_here.nd rfl (.inl rfl) (pe_ix ix_list (pe_fld (pv 0) rfl) (pe_un un_neg pe_int) (fun _ _ => rfl)))
  (pss_one (ps_ret (pe_op op_cat (pe_fld (pv 1) rfl) (pe_ifExp (pt_cmpR op_eq (pe_fld (pv 2) rfl) pe_str (nomark _)) (pe_slice sl_list (pe_fld (pv 2) rfl) po_none (po_some pe_int)) (pe_lst pa_nil)))))))), ?_⟩
  match brs, ok.some_, ra, ok, q with
  | b :: bs, _, ra, ok, q =>
    obtain ⟨dx, bl, p, tl, dxb, kt, qs, vs, o⟩ := ra.open_
    refine ⟨_, rfl, r, CR, dx, _, _, rfl, o.hr, T.cl, T.nB, rf_brs, 1, rfl, bl, _, _, _, rfl, rfl, SqL.of o.hb, at_lastV _ _, ?_⟩
    refine ⟨_, rfl, p, CB, dxb, _, _, rfl, o.hp, TB.cl, TB.nW, bf_word, rfl, _, rfl, ?_⟩
    by_cases hn : b.word = "names"
    · refine ite_f (by simp [hn]) ?_
      have n2 := ok.two b bs rfl hn
      match bs, n2, ra, ok, q, o with
      | ob :: obs, _, ra, ok, q, o =>
        have hall := o.all
        have hb := o.hb
        cases hall with
        | @cons po tlo _ qs' _ hbo hao =>
          obtain ⟨t0o, dxo, kto, vso, f1, f2, f3, f4⟩ := hbo
          rw [List.reverse_cons, List.map_append] at hb
          refine ⟨_, rfl, r, CR, dx, _, _, rfl, o.hr, T.cl, T.nB, rf_brs, 2, rfl, bl, _, _, _, rfl, rfl, SqL.of hb, at_last2 _ _ _, ?_⟩
          refine ⟨_, rfl, p, CB, dxb, _, _, rfl, o.hp, TB.cl, TB.nT, bf_things, ?_⟩
          refine ⟨_, rfl, po, CB, dxo, _, _, rfl, f1, TB.cl, TB.nW, bf_word, rfl, _, rfl, ?_⟩
          have nm := ok.nams
          have en : namesF ⟨b :: ob :: obs, z, q0⟩ = b.things ++ (if ob.word = "rec" then ob.things.take 1 else []) := by
            show (if b.word = "names" then _ else _) = _
            rw [if_pos hn]
          rw [en] at nm
          obtain ⟨zs1, ez1⟩ := strs_of fun d hd => nm d (List.mem_append_left _ hd)
          have ev1 : vs = zs1.map V.str := dzl_strs (by rw [← ez1]; exact o.hd)
          have fb := (ok.few b (List.mem_cons_self)).1
          have fob := (ok.few ob (List.mem_cons_of_mem _ List.mem_cons_self)).1
          by_cases hc : ob.word = "rec"
          · refine ite_t (by simp [hc]) ?_
            refine ⟨_, rfl, po, CB, dxo, _, _, rfl, f1, TB.cl, TB.nT, bf_things, 1, rfl, tlo, _, rfl, SqL.of f3, fun c1 hc1 => ?_⟩
            rw [if_pos hc] at nm en
            obtain ⟨zs2, ez2⟩ := strs_of fun d hd => nm d (List.mem_append_right _ hd)
            have ec : cutV vso none (some 1) = vso.take 1 := by
              show (vso.drop 0).take (HT.sIx vso.length vso.length (some ((1 : Nat) : Int)) - 0) = _
              rw [HT.sIx_nat, List.drop_zero, Nat.sub_zero, ← List.take_eq_take_min]
            have dt : DzL H (vso.take 1) (ob.things.take 1) := by
              generalize ob.things = ts at f4
              cases f4 with
              | nil => exact .nil
              | cons a _ => exact .cons a .nil
            have ev2 : vso.take 1 = zs2.map V.str := dzl_strs (by rw [← ez2]; exact dt)
            rw [ec, ev2]
            have s1 : Same H (upd H c1 (.lst (zs2.map V.str))) := same_new hc1
            have e1 : upd H c1 (.lst (zs2.map V.str)) c1 = some (.lst (zs2.map V.str)) := upd_same
            generalize upd H c1 (.lst (zs2.map V.str)) = H1 at *
            have l2 : (zs2.map V.str).length ≤ 1 := by
              rw [← ev2, List.length_take]
              omega
            refine ⟨tl, c1, _, _, rfl, rfl, s1 _ _ o.ht, e1, Nat.le_of_lt (small1000 (by rw [o.hd.len]; omega)), fun c2 hc2 => ?_⟩
            refine q c2 (zs1 ++ zs2) _ (s1.trans (same_new hc2)) ?_ ?_
            · rw [upd_same, ev1, List.map_append]
            · rw [en, ez1, ez2, List.map_append]
          · refine ite_f (by simp [hc]) ⟨(by show 0 ≤ sizeLine; decide), fun c1 hc1 => ?_⟩
            rw [if_neg hc, List.append_nil] at nm en
            have s1 : Same H (upd H c1 (.lst [])) := same_new hc1
            have e1 : upd H c1 (.lst []) c1 = some (.lst []) := upd_same
            generalize upd H c1 (.lst []) = H1 at *
            refine ⟨tl, c1, _, _, rfl, rfl, s1 _ _ o.ht, e1, Nat.le_of_lt (small1000 (by rw [o.hd.len]; show _ + 0 ≤ _; omega)), fun c2 hc2 => ?_⟩
            refine q c2 zs1 _ (s1.trans (same_new hc2)) ?_ ?_
            · rw [upd_same, ev1, List.append_nil]
            · rw [en, ez1]
    · refine ite_t (by simp [hn]) ⟨(by show 0 ≤ sizeLine; decide), fun c hc => ?_⟩
      refine q c [] _ (same_new hc) upd_same ?_
      unfold namesF
      match bs with
      | [] => rfl
      | o :: bs => simp [hn]
end
end Wp
set_option Elab.async false
set_option linter.all false
set_option maxRecDepth 100000
namespace Wp
open PySem PySem.Spec PyProof.Rows L2
-- Reader_lengthens: slots self 0, sign 1, is_last 2
abbrev sReader_lengthens : Stmt := inClass (top 30) 8
theorem scReader_lengthens : FnScope ["self", "sign", "is_last"] ["self", "sign"] (defScope sReader_lengthens) := ⟨rfl, rfl, rfl, by decide +kernel, rfl, by decide +kernel, by decide +kernel⟩
abbrev slReader_lengthens : List Str := ["self", "sign", "is_last"]
-- Reader_completes: slots self 0, token 1
abbrev sReader_completes : Stmt := inClass (top 30) 10
theorem scReader_completes : FnScope ["self", "token"] ["self"] (defScope sReader_completes) := ⟨rfl, rfl, rfl, by decide +kernel, rfl, by decide +kernel, by decide +kernel⟩
abbrev slReader_completes : List Str := ["self", "token"]
/-- what a method tells of the reader -/
def Out (CB CR : Addr) (H0 : Hp) (r : Addr) (o : Option Rd) (Q : VK) : Prop := match o with
  | some st => ∀ H', RdAt CB CR H0 H' r st → Q (.bl true) H'
  | none => ∀ H', Same H0 H' → Q (.bl false) H'
theorem rV_eq {q : Option Str} {z : Str} : (rV q = V.str z) ↔ q = some z := by
  cases q with
  | none => simp [rV]
  | some y => simp [rV]
theorem rV_non {q : Option Str} : (rV q = V.non) ↔ q = none := by
  cases q <;> simp [rV]
theorem rV_scal {q : Option Str} {z : Str} : scal (rV q) (.str z) = true := by
  cases q <;> rfl
theorem names_any (z : Str) : ∀ zs : List Str, (zs.map PyData.str).any (isIn z) = decide (z ∈ zs)
  | [] => rfl
  | y :: zs => by
    rw [List.map_cons, List.any_cons, names_any z zs]
    by_cases h : y = z
    · subst h
      simp [isIn]
    · have h' : ¬ z = y := fun e => h e.symm
      simp [isIn, h, h']
theorem app_len (x y : Str) : (x ++ y).length = x.length + y.length := by
  show (x.cps ++ y.cps).size = _
  rw [Array.size_append]
  rfl
def spLen (CB CR : Addr) : Sp := fun vs H Q _ => ∃ (H0 : Hp) (r : Addr) (c : Nat) (st : Rd), vs = [.ref r, .str (sg c)] ∧ RdAt CB CR H0 H r st ∧ OkL st ∧ Out CB CR H0 r (lengthenF st c) Q
section
variable {P : Program} {w : World} {K : PySem.W.Frag} {mg : Str → Option Value} {base : Heap} {f CB CR nn : Addr} {fd : FuncData} {u1 : Tok}
theorem ok_len (F : Fun K "lengthens" "Reader.lengthens" sReader_lengthens f fd) (T : TxR K CR) (m_len : mg "len" = none) (m_MOST_NAME_SIGNS : mg "MOST_NAME_SIGNS" = some (.int 12 u1)) (Gbegins_number : Has P w K mg base "begins_number" ["token"] 1 spBegN) (Gbegins_word : Has P w K mg base "begins_word" ["token"] 2 spBegW) (Gis_name : Has P w K mg base "is_name" ["thing"] 1 spName) (Mnames_here : HasM P w K mg base CR "names_here" ["self"] 1 (spNH CB CR)) : FnOk P w K mg base CX0 3 f fd ["self", "sign"] (spLen CB CR) := by
  have clR := T.cl
  refine F.ok scReader_lengthens (fun vs H Q E h => ?_) (fun cdv A outer s H vs Q E hr h => ?_)
  · obtain ⟨H0, r, c, st, rfl, _⟩ := h
    rfl
  obtain ⟨H0, r, c, ⟨brs, z, q0⟩, rfl, ra, ok, q⟩ := h
  refine ⟨_, (pss_cons (ps_fld (pv 0) (pe_op op_add_str (pe_fld (pv 0) rfl) (pv 1)) rfl)
  (pss_cons (ps_if (pt_cmpR op_eq (pe_fld (pv 0) rfl) pe_str (nomark _)) (pss_one (ps_ret (pe_has Gbegins_number (hr.mono (by omega)) (pa_cons (pe_fld (pv 0) rfl) pa_nil)))) pss_nil)
  (pss_cons (ps_if (pt_cmpR op_eq (pe_fld (pv 0) rfl) pe_str (nomark _)) (pss_one (ps_ret (pe_has Gbegins_word (hr.mono (by omega)) (pa_cons (pe_fld (pv 0) rfl) pa_nil)))) pss_nil)
  (pss_cons (ps_set (i := 2) scReader_lengthens.nd rfl (.inl rfl) (pe_and (pe_cmpR op_eq (pe_fld (pv 0) rfl) pe_str (nomark _)) (pe_one (pe_cmpR op_eq (pe_callB call_len_str rfl m_len PySem.boot_len (pa_cons (pe_fld (pv 0) rfl) pa_nil)) (pe_glob (v := (.int 12)) rfl m_MOST_NAME_SIGNS ⟨_, rfl⟩) (nomark _)))))
  (pss_one (ps_ret (pe_and (pe_has Gis_name (hr.mono (by omega)) (pa_cons (pe_fld (pv 0) rfl) pa_nil)) (pe_one (pe_not (pe_and (pv 2) (pe_one (pe_cmpR op_in_seq (pe_fld (pv 0) rfl) (pe_hasM0 clR Mnames_here (hr.mono (by omega)) (pv 0)) rfl)))))))))))), ?_⟩
  match brs, ok.some_, ra, ok, q with
  | b :: bs, _, ra, ok, q =>
    obtain ⟨dx, bl, p, tl, dxb, kt, qs, vs, o⟩ := ra.open_
    have tk : z.length ≤ 600 := ok.tok
    have zl : (z ++ sg c).length = z.length + 1 := app_len z (sg c)
    have big : (1000 : Nat) ≤ sizeLine := by decide
    refine ⟨_, rfl, r, CR, dx, _, _, rfl, o.hr, T.cl, T.nT, rf_tok, _, rfl, z, sg c, rfl, rfl, ?_, _, rfl, r, CR, dx, _, rfl, o.hr, T.cl, T.nT, (by show 3 < 1000; decide), ?_⟩
    · show z.length + 1 ≤ _
      omega
    have o1 : RdO CB CR H0 (upd H r (.ins CR dx (putF "token" (.str (z ++ sg c)) (rf bl z q0)))) r b bs (z ++ sg c) q0 dx bl p tl dxb kt qs vs := o.put (z ++ sg c) q0
    generalize upd H r (.ins CR dx (putF "token" (.str (z ++ sg c)) (rf bl z q0))) = H1 at *
    generalize hy : z ++ sg c = y at *
    have ra1 := o1.at_
    unfold lengthenF at q
    simp only [hy] at q
    refine ⟨_, rfl, r, CR, dx, _, _, rfl, o1.hr, T.cl, T.nR, rf_reads, rV_scal, _, rfl, ?_⟩
    by_cases h1 : q0 = some ("number" : Str)
    · refine ite_t (decide_eq_true (rV_eq.mpr h1)) ?_
      rw [if_pos h1] at q
      refine ⟨_, rfl, r, CR, dx, _, _, rfl, o1.hr, T.cl, T.nT, rf_tok, y, rfl, by omega, by omega, fun H2 s2 => ?_⟩
      by_cases hb : beginsN y = true
      · rw [if_pos hb] at q
        rw [hb]
        exact q _ (ra1.same s2)
      · rw [if_neg hb] at q
        rw [Bool.eq_false_iff.mpr hb]
        exact q _ (o1.s0.trans s2)
    refine ite_f (decide_eq_false fun h => h1 (rV_eq.mp h)) ?_
    rw [if_neg h1] at q
    refine ⟨_, rfl, r, CR, dx, _, _, rfl, o1.hr, T.cl, T.nR, rf_reads, rV_scal, _, rfl, ?_⟩
    by_cases h2 : q0 = some ("word" : Str)
    · refine ite_t (decide_eq_true (rV_eq.mpr h2)) ?_
      rw [if_pos h2] at q
      refine ⟨_, rfl, r, CR, dx, _, _, rfl, o1.hr, T.cl, T.nT, rf_tok, y, rfl, fun H2 s2 => ?_⟩
      by_cases hb : beginsW y = true
      · rw [if_pos hb] at q
        rw [hb]
        exact q _ (ra1.same s2)
      · rw [if_neg hb] at q
        rw [Bool.eq_false_iff.mpr hb]
        exact q _ (o1.s0.trans s2)
    refine ite_f (decide_eq_false fun h => h2 (rV_eq.mp h)) ?_
    rw [if_neg h2] at q
    refine ⟨_, rfl, r, CR, dx, _, _, rfl, o1.hr, T.cl, T.nR, rf_reads, rV_scal, _, rfl, ?_⟩
    refine ite_join (A := _) (B := tC (.bl false)) (.bl (decide (q0 = some ("binder" : Str)) && decide (y.length = 12))) ?_ (fun hc k => ?_) (fun hc k => ?_)
    · refine ⟨_, rfl, r, CR, dx, _, _, rfl, o1.hr, T.cl, T.nT, rf_tok, y, rfl, by omega, fun H2 s2 => ⟨_, rfl, ?_⟩⟩
      have o2 := o1.same s2
      have ra2 := ra1.same s2
      have ok2 : OkL ⟨b :: bs, y, q0⟩ → True := fun _ => trivial
      by_cases hn : isName y = true
      · refine ite_t hn ?_
        rw [hn, Bool.true_and] at q
        refine ⟨_, rfl, _, rfl, ?_⟩
        cases hl : (decide (q0 = some ("binder" : Str)) && decide (y.length = 12)) with
        | false =>
          refine ite_f rfl ⟨_, rfl, ?_⟩
          rw [hl, Bool.false_and] at q
          exact q _ ra2
        | true =>
          rw [hl, Bool.true_and] at q
          refine ite_t rfl ⟨_, rfl, r, CR, dx, _, _, rfl, o2.hr, T.cl, T.nT, rf_tok, _, rfl, r, dx, _, rfl, o2.hr, rfl, H0, r, ⟨b :: bs, y, q0⟩, rfl, ra2, ⟨?_, ok.nams, ok.two, ok.some_, ok.few⟩, fun p zs H3 s3 hp en => ⟨p, _, rfl, .inl (SqL.of hp), rfl, flat_strs zs, _, rfl, ?_⟩⟩
          · rw [Bool.and_eq_true] at hl
            have := of_decide_eq_true hl.2
            show y.length ≤ 600
            omega
          · have en : namesF ⟨b :: bs, z, q0⟩ = zs.map PyData.str := en
            have ea : ((namesF ⟨b :: bs, z, q0⟩).any (isIn y)) = decide (y ∈ zs) := by
              rw [en]
              exact names_any y zs
            rw [ea] at q
            show Q (.bl (!inV (.str y) (zs.map V.str))) H3
            rw [inV_strs]
            by_cases hm : y ∈ zs
            · rw [decide_eq_true hm] at q ⊢
              exact q _ (o2.s0.trans s3)
            · rw [decide_eq_false hm] at q ⊢
              exact q _ (ra2.same s3)
      · have hn := Bool.eq_false_iff.mpr hn
        refine ite_f hn ?_
        rw [hn, Bool.false_and] at q
        exact q _ o2.s0
    · have hc : decide (rV q0 = V.str "binder") = true := hc
      have hb : q0 = some ("binder" : Str) := rV_eq.mp (of_decide_eq_true hc)
      refine ⟨_, rfl, r, CR, dx, _, _, rfl, o1.hr, T.cl, T.nT, rf_tok, y, rfl, by omega, rfl, ?_⟩
      rw [decide_eq_true hb, Bool.true_and] at k
      have e : decide (V.int ((y.length : Nat) : Int) = V.int 12) = decide (y.length = 12) := by
        have : (V.int ((y.length : Nat) : Int) = V.int 12) ↔ y.length = 12 := by
          constructor
          · intro h
            have := V.int.inj h
            omega
          · intro h
            rw [h]
            rfl
        simp only [this]
      rw [e]
      exact k
    · have hc : decide (rV q0 = V.str "binder") = false := hc
      have hb : ¬ q0 = some ("binder" : Str) := fun h => of_decide_eq_false hc (rV_eq.mpr h)
      rw [decide_eq_false hb, Bool.false_and] at k
      exact k
end
end Wp
set_option Elab.async false
set_option linter.all false
set_option maxRecDepth 100000
namespace Wp
open PySem PySem.Spec PyProof.Rows L2
theorem BrAll.tls {CB : Addr} {H0 H : Hp} {qs : List (Addr × Addr)} {bs : List Br} (h : BrAll CB H0 H qs bs) : ∀ t ∈ qs.map (·.2), ∃ vs, H t = some (.lst vs) := by
  induction h with
  | nil => intro t ht; cases ht
  | cons h _ ih =>
    intro t ht
    rw [List.map_cons] at ht
    rcases List.mem_cons.mp ht with e | e
    · rw [e]
      obtain ⟨_, _, _, vs, _, _, e3, _⟩ := h
      exact ⟨vs, e3⟩
    · exact ih t e
/-- the list of brackets is written -/
theorem RdAt.relist {CB CR : Addr} {H0 H : Hp} {r dx bl : Addr} {bs : List Br} {z : Str} {q : Option Str} {qs : List (Addr × Addr)} {L : List V} (s0 : Same H0 H) (r0 : H0 r = none) (hr : H r = some (.ins CR dx (rf bl z q))) (b0 : H0 bl = none) (hb : H bl = some (.lst L)) (all : BrAll CB H0 H qs bs) (nd : (bl :: qs.map (·.2)).Nodup) :
    RdAt CB CR H0 (upd H bl (.lst (qs.reverse.map fun q => V.ref q.1))) r ⟨bs, z, q⟩ := by
  have tp : Tp H (upd H bl (.lst (qs.reverse.map fun q => V.ref q.1))) := fun u xs e => by rw [upd_ne (ne_of e hb (by intro z; cases z))]; exact e
  rw [List.nodup_cons] at nd
  refine ⟨same_grow s0 b0, r0, dx, bl, qs, by rw [upd_ne (ne_of hr hb (by intro z; cases z))]; exact hr, b0, upd_same, ?_, by rw [List.nodup_cons]; exact nd⟩
  refine all.st (fun u C d w kt lo hi t e => ?_) tp (fun t ht us e => ?_)
  · rw [upd_ne (ne_of e hb (by intro z; cases z))]
    exact e
  · rw [upd_ne (fun e' => nd.1 (by rw [← e']; exact ht))]
    exact e
theorem set_lastV (xs : List V) (x y : V) : (xs ++ [x]).set xs.length y = xs ++ [y] := by
  rw [List.set_append]
  simp
theorem ix_lastV (xs : List V) (x : V) : ixN (xs ++ [x]).length (-1) = some xs.length := by
  unfold ixN
  rw [if_neg (by decide), List.length_append, if_pos (by simp; omega)]
  show some ((((xs.length + 1 : Nat) : Int)) + -1).toNat = _
  congr 1
  omega
def spCompl (CB CR : Addr) : Sp := fun vs H Q _ => ∃ (H0 : Hp) (r : Addr) (st : Rd), vs = [.ref r] ∧ RdAt CB CR H0 H r st ∧ Ok st ∧ Out CB CR H0 r (completeF st) Q
section
variable {P : Program} {w : World} {K : PySem.W.Frag} {mg : Str → Option Value} {base : Heap} {f CB CR nn : Addr} {fd : FuncData} {u1 : Tok}
theorem ok_compl (F : Fun K "completes" "Reader.completes" sReader_completes f fd) (T : TxR K CR) (m_int : mg "int" = none) (m_NO_NAMES : mg "NO_NAMES" = some (.ref nn)) (hN : TxtT K nn noNames) (Gis_word : Has P w K mg base "is_word" ["token"] 1 spIsWord) (Gword_bracket : Has P w K mg base "word_bracket" ["word"] 3 (spWB CB)) (Madd_thing : HasM P w K mg base CR "add_thing" ["self", "thing"] 1 (spAdd CB CR)) (Mnames_here : HasM P w K mg base CR "names_here" ["self"] 1 (spNH CB CR)) : FnOk P w K mg base CX0 4 f fd ["self"] (spCompl CB CR) := by
  have clR := T.cl
  refine F.ok scReader_completes (fun vs H Q E h => ?_) (fun cdv A outer s H vs Q E hr h => ?_)
  · obtain ⟨H0, r, st, rfl, _⟩ := h
    rfl
  obtain ⟨H0, r, ⟨brs, z, q0⟩, rfl, ra, ok, q⟩ := h
  refine ⟨_, (pss_cons (ps_set (i := 1) scReader_completes.nd rfl (.inl rfl) (pe_fld (pv 0) rfl))
  (pss_cons (ps_if (pt_cmpR op_eq (pe_fld (pv 0) rfl) pe_str (nomark _)) (pss_cons (ps_if (pt_cmpR op_eq (pv 1) pe_str (nomark _)) (pss_one (ps_ret pe_bl)) pss_nil)
  (pss_one (ps_expr (pe_hasM clR Madd_thing (hr.mono (by omega)) (pv 0) (pa_cons (pe_tup (pa_cons pe_str (pa_cons (pe_callTy call_int_str rfl m_int PyProof.Rows.Boot.«int» (pa_cons (pv 1) pa_nil)) pa_nil))) pa_nil))))) (pss_one (ps_if (pt_cmpR op_eq (pe_fld (pv 0) rfl) pe_str (nomark _)) (pss_cons (ps_if (pt_not (pt_val (pe_has Gis_word (hr.mono (by omega)) (pa_cons (pv 1) pa_nil)))) (pss_one (ps_ret pe_bl)) pss_nil)
  (pss_cons (ps_fld (pv 0) pe_non rfl)
  (pss_cons (ps_fld (pv 0) pe_str rfl)
  (pss_one (ps_asg (pe_has Gword_bracket (hr.mono (by omega)) (pa_cons (pv 1) pa_nil)) (pg_sub (pe_fld (pv 0) rfl) (pe_un un_neg pe_int) set_list)))))) (pss_one (ps_if (PW.pt (pw_and (pt_cmpR op_eq (pe_fld (pv 0) rfl) pe_str (nomark _)) (pw_and1 (PW.pt (pw_or (pt_cmpR op_in_seq (pv 1) (pe_glob (v := .ref nn) rfl m_NO_NAMES rfl) rfl) (pw_or1 (pt_cmpR op_in_seq (pv 1) (pe_hasM0 clR Mnames_here (hr.mono (by omega)) (pv 0)) rfl))))))) (pss_one (ps_ret pe_bl)) (pss_one (ps_if (pt_cmpR op_eq (pe_fld (pv 0) rfl) pe_str (nomark _)) (pss_one (ps_expr (pe_hasM clR Madd_thing (hr.mono (by omega)) (pv 0) (pa_cons (pe_ifExp (pt_cmpR op_in_seq (pv 1) (pe_glob (v := .ref nn) rfl m_NO_NAMES rfl) rfl) (pe_tup (pa_cons (pv 1) pa_nil)) (pe_tup (pa_cons pe_str (pa_cons (pv 1) pa_nil)))) pa_nil)))) (pss_one (ps_if (pt_cmpR op_notN (pe_fld (pv 0) rfl) pe_non (nomark _)) (pss_one (ps_expr (pe_hasM clR Madd_thing (hr.mono (by omega)) (pv 0) (pa_cons (pv 1) pa_nil)))) pss_nil)))))))))
  (pss_one (ps_ret pe_bl)))), ?_⟩
  match brs, ok.some_, ra, ok, q with
  | b :: bs, _, ra, ok, q =>
    obtain ⟨dx, bl, p, tl, dxb, kt, qs, vs, o⟩ := ra.open_
    have tk : z.length ≤ 600 := ok.tok
    have lb := (ok.few b List.mem_cons_self).1
    refine ⟨_, rfl, r, CR, dx, _, _, rfl, o.hr, T.cl, T.nT, rf_tok, ?_⟩
    refine ⟨_, rfl, r, CR, dx, _, _, rfl, o.hr, T.cl, T.nR, rf_reads, rV_scal, _, rfl, ?_⟩
    unfold completeF at q
    by_cases h1 : q0 = some ("number" : Str)
    · refine ite_t (decide_eq_true (rV_eq.mpr h1)) ?_
      subst h1
      simp only [if_true] at q
      refine ⟨_, rfl, rfl, _, rfl, ?_⟩
      by_cases h2 : z = "-"
      · refine ite_t (decide_eq_true (by rw [h2])) ?_
        rw [if_pos h2] at q
        exact q _ o.s0
      · refine ite_f (decide_eq_false fun h => h2 (V.str.inj h)) ?_
        rw [if_neg h2] at q
        obtain ⟨n, hn⟩ := (ok.num rfl).resolve_left h2
        rw [hn] at q
        refine ⟨_, rfl, r, dx, _, rfl, o.hr, rfl, _, rfl, z, n, rfl, hn, by omega, (by show 2 ≤ sizeLine; decide), fun t ht => ?_⟩
        exact ⟨H0, r, _, _, b, bs, z, _, rfl, ra.same (same_new ht), lb, .tup upd_same (.cons (.str _) (.cons (.int _) .nil)), fun H' ra' => q H' ra'⟩
    refine ite_f (decide_eq_false fun h => h1 (rV_eq.mp h)) ?_
    refine ⟨_, rfl, r, CR, dx, _, _, rfl, o.hr, T.cl, T.nR, rf_reads, rV_scal, _, rfl, ?_⟩
    by_cases h2 : q0 = some ("word" : Str)
    · refine ite_t (decide_eq_true (rV_eq.mpr h2)) ?_
      subst h2
      have q : Out CB CR H0 r (if isWordB z then some ⟨wordBr z :: bs, "", none⟩ else none) Q := q
      refine ⟨_, rfl, z, rfl, _, rfl, ?_⟩
      by_cases hw : isWordB z = true
      · refine ite_f (by rw [hw]; rfl) ?_
        rw [if_pos hw] at q
        refine ⟨_, rfl, r, CR, dx, _, rfl, o.hr, T.cl, T.nR, (by show 3 < 1000; decide), ?_⟩
        refine ⟨_, rfl, r, CR, dx, _, rfl, upd_same, T.cl, T.nT, (by show 3 < 1000; decide), ?_⟩
        have o2 : RdO CB CR H0 (upd (upd H r (.ins CR dx (putF "reads" .non (rf bl z (some ("word" : Str)))))) r (.ins CR dx (putF "token" (.str "") (putF "reads" .non (rf bl z (some ("word" : Str))))))) r b bs "" none dx bl p tl dxb kt qs vs := (o.put z none).put "" none
        generalize upd (upd H r (.ins CR dx (putF "reads" .non (rf bl z (some ("word" : Str)))))) r (.ins CR dx (putF "token" (.str "") (putF "reads" .non (rf bl z (some ("word" : Str)))))) = H2 at *
        refine ⟨_, rfl, z, rfl, hw, fun p' tl' H3 s3 np' bb => ?_⟩
        have o3 := o2.same s3
        refine ⟨_, rfl, r, CR, dx, _, _, rfl, o3.hr, T.cl, T.nB, rf_brs, 1, rfl, bl, _, _, _, rfl, rfl, o3.hb, ix_lastV _ _, ?_⟩
        have t0' : H2 tl' = none := bb.1
        have nd := o.nd
        rw [List.nodup_cons, List.nodup_cons] at nd
        have rr := RdAt.relist (qs := (p', tl') :: qs) (bs := wordBr z :: bs) o3.s0 o3.r0 o3.hr o3.b0 o3.hb (.cons ⟨same_none o2.s0 t0', bb.2⟩ o3.all) (by
          show (bl :: tl' :: qs.map (·.2)).Nodup
          rw [List.nodup_cons, List.nodup_cons]
          refine ⟨fun h => ?_, fun h => ?_, nd.2.2⟩
          · rcases List.mem_cons.mp h with e | e
            · have := o2.hb
              rw [e, t0'] at this
              cases this
            · exact nd.1 (List.mem_cons_of_mem _ e)
          · obtain ⟨us, e⟩ := o2.all.tls _ h
            rw [t0'] at e
            cases e)
        have el : ((p', tl') :: qs).reverse.map (fun q : Addr × Addr => V.ref q.1) = (qs.reverse.map fun q : Addr × Addr => V.ref q.1) ++ [V.ref p'] := by
          rw [List.reverse_cons, List.map_append]
          rfl
        rw [el] at rr
        rw [set_lastV]
        exact q _ rr
      · have hw := Bool.eq_false_iff.mpr hw
        refine ite_t (by rw [hw]; rfl) ?_
        rw [hw] at q
        exact q _ o.s0
    refine ite_f (decide_eq_false fun h => h2 (rV_eq.mp h)) ?_
    refine ⟨_, rfl, r, CR, dx, _, _, rfl, o.hr, T.cl, T.nR, rf_reads, rV_scal, _, rfl, ?_⟩
    have okl : OkL ⟨b :: bs, z, q0⟩ := ok.toOkL
    by_cases h3 : q0 = some ("binder" : Str)
    · refine ite_t (decide_eq_true (rV_eq.mpr h3)) ?_
      subst h3
      have e1 : ¬ ("binder" : Str) = "number" := by decide +kernel
      have e2 : ¬ ("binder" : Str) = "word" := by decide +kernel
      have e3 : ¬ ("binder" : Str) = "atom" := by decide +kernel
      simp only [if_neg e1, if_neg e2, if_neg e3, true_and] at q
      refine ⟨_, rfl, nn, _, rfl, .inr (hN _), rfl, flat_strs _, _, rfl, ?_⟩
      show if inV (.str z) (noNames.map V.str) = true then _ else _
      rw [inV_strs]
      by_cases h4 : z ∈ noNames
      · refine ite_t (decide_eq_true h4) (iteT ?_)
        rw [if_pos (.inl h4)] at q
        exact q _ o.s0
      refine ite_f (decide_eq_false h4) ?_
      refine ⟨_, rfl, _, rfl, r, dx, _, rfl, o.hr, rfl, H0, r, _, rfl, ra, okl, fun pz zs H3 s3 hp en => ⟨pz, _, rfl, .inl (SqL.of hp), rfl, flat_strs zs, _, rfl, ?_⟩⟩
      show if inV (.str z) (zs.map V.str) = true then _ else _
      rw [inV_strs]
      rw [en, names_any] at q
      have o3 := o.same s3
      by_cases h5 : z ∈ zs
      · refine ite_t (decide_eq_true h5) ?_
        rw [if_pos (.inr (decide_eq_true h5))] at q
        exact q _ o3.s0
      refine ite_f (decide_eq_false h5) ?_
      rw [if_neg (fun h => h.elim h4 fun h => h5 (of_decide_eq_true h))] at q
      refine ⟨_, rfl, r, CR, dx, _, _, rfl, o3.hr, T.cl, T.nR, rf_reads, rV_scal, _, rfl, ite_f (decide_eq_false fun h => e3 (Option.some.inj (rV_eq.mp h))) ?_⟩
      refine ⟨_, rfl, r, CR, dx, _, _, rfl, o3.hr, T.cl, T.nR, rf_reads, rfl, _, rfl, ?_⟩
      refine ite_t rfl ⟨_, rfl, r, dx, _, rfl, o3.hr, rfl, _, rfl, ?_⟩
      exact ⟨H0, r, _, _, b, bs, z, _, rfl, ra.same s3, lb, .str _, fun H' ra' => q H' ra'⟩
    · refine ite_f (decide_eq_false fun h => h3 (rV_eq.mp h)) ?_
      refine iteF ?_
      cases q0 with
      | none =>
        have na : ¬ (none : Option Str) = some ("atom" : Str) := by simp
        refine ⟨_, rfl, r, CR, dx, _, _, rfl, o.hr, T.cl, T.nR, rf_reads, rV_scal, _, rfl, ite_f (decide_eq_false fun h => na (rV_eq.mp h)) ?_⟩
        refine ⟨_, rfl, r, CR, dx, _, _, rfl, o.hr, T.cl, T.nR, rf_reads, rfl, _, rfl, ?_⟩
        exact ite_f rfl (q _ ra)
      | some k =>
        have k1 : ¬ k = "number" := fun e => h1 (by rw [e])
        have k2 : ¬ k = "word" := fun e => h2 (by rw [e])
        have k3 : ¬ k = "binder" := fun e => h3 (by rw [e])
        simp only [if_neg k1, if_neg k2, k3, false_and, if_false] at q
        by_cases k4 : k = "atom"
        · rw [if_pos k4] at q
          refine ⟨_, rfl, r, CR, dx, _, _, rfl, o.hr, T.cl, T.nR, rf_reads, rV_scal, _, rfl, ite_t (decide_eq_true (rV_eq.mpr (by rw [k4]))) ?_⟩
          refine ⟨_, rfl, r, dx, _, rfl, o.hr, rfl, ?_⟩
          refine ⟨_, rfl, nn, _, rfl, .inr (hN _), rfl, flat_strs _, _, rfl, ?_⟩
          show if inV (.str z) (noNames.map V.str) = true then _ else _
          rw [inV_strs]
          by_cases h4 : z ∈ noNames
          · refine ite_t (decide_eq_true h4) ⟨_, rfl, (by show 1 ≤ sizeLine; decide), fun t ht => ?_⟩
            rw [if_pos h4] at q
            exact ⟨H0, r, _, _, b, bs, z, _, rfl, ra.same (same_new ht), lb, .tup upd_same (.cons (.str _) .nil), fun H' ra' => q H' ra'⟩
          · refine ite_f (decide_eq_false h4) ⟨_, rfl, (by show 2 ≤ sizeLine; decide), fun t ht => ?_⟩
            rw [if_neg h4] at q
            exact ⟨H0, r, _, _, b, bs, z, _, rfl, ra.same (same_new ht), lb, .tup upd_same (.cons (.str _) (.cons (.str _) .nil)), fun H' ra' => q H' ra'⟩
        · rw [if_neg k4] at q
          refine ⟨_, rfl, r, CR, dx, _, _, rfl, o.hr, T.cl, T.nR, rf_reads, rV_scal, _, rfl, ite_f (decide_eq_false fun h => k4 (Option.some.inj (rV_eq.mp h))) ?_⟩
          refine ⟨_, rfl, r, CR, dx, _, _, rfl, o.hr, T.cl, T.nR, rf_reads, rfl, _, rfl, ?_⟩
          refine ite_t rfl ⟨_, rfl, r, dx, _, rfl, o.hr, rfl, _, rfl, ?_⟩
          exact ⟨H0, r, _, _, b, bs, z, _, rfl, ra, lb, .str _, fun H' ra' => q H' ra'⟩
end
end Wp
set_option Elab.async false
set_option linter.all false
set_option maxRecDepth 100000
namespace Wp
open PySem PySem.Spec PyProof.Rows L2
-- Reader_shuts: slots self 0, bracket 1
abbrev sReader_shuts : Stmt := inClass (top 30) 5
theorem scReader_shuts : FnScope ["self", "bracket"] ["self"] (defScope sReader_shuts) := ⟨rfl, rfl, rfl, by decide +kernel, rfl, by decide +kernel, by decide +kernel⟩
abbrev slReader_shuts : List Str := ["self", "bracket"]
-- Reader_unlocks: slots self 0, expected 1
abbrev sReader_unlocks : Stmt := inClass (top 30) 4
theorem scReader_unlocks : FnScope ["self", "expected"] ["self", "expected"] (defScope sReader_unlocks) := ⟨rfl, rfl, rfl, by decide +kernel, rfl, by decide +kernel, by decide +kernel⟩
abbrev slReader_unlocks : List Str := ["self", "expected"]
-- Reader_begins: slots self 0, kind 1, sign 2
abbrev sReader_begins : Stmt := inClass (top 30) 7
theorem scReader_begins : FnScope ["self", "kind", "sign"] ["self", "kind", "sign"] (defScope sReader_begins) := ⟨rfl, rfl, rfl, by decide +kernel, rfl, by decide +kernel, by decide +kernel⟩
abbrev slReader_begins : List Str := ["self", "kind", "sign"]
-- Reader_begins_part: slots self 0, sign 1
abbrev sReader_begins_part : Stmt := inClass (top 30) 6
theorem scReader_begins_part : FnScope ["self", "sign"] ["self", "sign"] (defScope sReader_begins_part) := ⟨rfl, rfl, rfl, by decide +kernel, rfl, by decide +kernel, by decide +kernel⟩
abbrev slReader_begins_part : List Str := ["self", "sign"]
-- Reader_takes_between: slots self 0, sign 1, expected 2
abbrev sReader_takes_between : Stmt := inClass (top 30) 3
theorem scReader_takes_between : FnScope ["self", "sign", "expected"] ["self", "sign"] (defScope sReader_takes_between) := ⟨rfl, rfl, rfl, by decide +kernel, rfl, by decide +kernel, by decide +kernel⟩
abbrev slReader_takes_between : List Str := ["self", "sign", "expected"]
-- Reader_takes_in_text: slots self 0, sign 1
abbrev sReader_takes_in_text : Stmt := inClass (top 30) 2
theorem scReader_takes_in_text : FnScope ["self", "sign"] ["self", "sign"] (defScope sReader_takes_in_text) := ⟨rfl, rfl, rfl, by decide +kernel, rfl, by decide +kernel, by decide +kernel⟩
abbrev slReader_takes_in_text : List Str := ["self", "sign"]
-- Reader_takes: slots self 0, sign 1
abbrev sReader_takes : Stmt := inClass (top 30) 1
theorem scReader_takes : FnScope ["self", "sign"] ["self", "sign"] (defScope sReader_takes) := ⟨rfl, rfl, rfl, by decide +kernel, rfl, by decide +kernel, by decide +kernel⟩
abbrev slReader_takes : List Str := ["self", "sign"]
-- Reader_is_whole_text: slots self 0
abbrev sReader_is_whole_text : Stmt := inClass (top 30) 12
theorem scReader_is_whole_text : FnScope ["self"] ["self"] (defScope sReader_is_whole_text) := ⟨rfl, rfl, rfl, by decide +kernel, rfl, by decide +kernel, by decide +kernel⟩
abbrev slReader_is_whole_text : List Str := ["self"]
def spShut (CB CR : Addr) : Sp := fun vs H Q _ => ∃ (H0 : Hp) (r : Addr) (st : Rd), vs = [.ref r] ∧ RdAt CB CR H0 H r st ∧ Ok st ∧ Out CB CR H0 r (shutF st) Q
def spUnl (CB CR : Addr) : Sp := fun vs H Q _ => ∃ (H0 : Hp) (r : Addr) (st : Rd) (e : Option Str), vs = [.ref r, rV e] ∧ RdAt CB CR H0 H r st ∧ Ok st ∧ Out CB CR H0 r (unlockF st e) Q
def spBeg (CB CR : Addr) : Sp := fun vs H Q _ => ∃ (H0 : Hp) (r : Addr) (k : Str) (c : Nat) (st : Rd), vs = [.ref r, .str k, .str (sg c)] ∧ RdAt CB CR H0 H r st ∧ OkL st ∧ Out CB CR H0 r (beginF st k c) Q
def spBP (CB CR : Addr) : Sp := fun vs H Q _ => ∃ (H0 : Hp) (r : Addr) (c : Nat) (st : Rd), vs = [.ref r, .str (sg c)] ∧ RdAt CB CR H0 H r st ∧ OkL st ∧ Out CB CR H0 r (partF st c) Q
def spBtw (CB CR : Addr) : Sp := fun vs H Q _ => ∃ (H0 : Hp) (r : Addr) (c : Nat) (st : Rd), vs = [.ref r, .str (sg c)] ∧ RdAt CB CR H0 H r st ∧ Ok st ∧ Out CB CR H0 r (betweenF st c) Q
def spInT (CB CR : Addr) : Sp := fun vs H Q _ => ∃ (H0 : Hp) (r : Addr) (c : Nat) (st : Rd), vs = [.ref r, .str (sg c)] ∧ RdAt CB CR H0 H r st ∧ Ok st ∧ Out CB CR H0 r (inTextF st c) Q
def spTakes (CB CR : Addr) : Sp := fun vs H Q _ => ∃ (H0 : Hp) (r : Addr) (c : Nat) (st : Rd), vs = [.ref r, .str (sg c)] ∧ RdAt CB CR H0 H r st ∧ Ok st ∧ (∀ st', completeF st = some st' → Ok st') ∧ Out CB CR H0 r (takeF st c) Q
def spWhl (CB CR : Addr) : Sp := fun vs H Q _ => ∃ (H0 : Hp) (r : Addr) (st : Rd), vs = [.ref r] ∧ RdAt CB CR H0 H r st ∧ Ok st ∧ (∀ st', completeF st = some st' → Ok st') ∧
  match wholeF st with
  | some d => ∀ H' b z q, RdAt CB CR H0 H' r ⟨[b], z, q⟩ → b.things = [d] → Q (.bl true) H'
  | none => ∀ H', Same H0 H' → Q (.bl false) H'
section
variable {P : Program} {w : World} {K : PySem.W.Frag} {mg : Str → Option Value} {base : Heap} {f CB CR nn : Addr} {fd : FuncData} {u1 u2 u3 : Tok}
theorem ok_shut (F : Fun K "shuts" "Reader.shuts" sReader_shuts f fd) (T : TxR K CR) (TB : TxB K CB) (m_len : mg "len" = none) (Gmade_of : Has P w K mg base "made_of" ["bracket"] 1 (spMade CB)) (Madd_thing : HasM P w K mg base CR "add_thing" ["self", "thing"] 1 (spAdd CB CR)) : FnOk P w K mg base CX0 2 f fd ["self"] (spShut CB CR) := by
  have clR := T.cl
  refine F.ok scReader_shuts (fun vs H Q E h => ?_) (fun cdv A outer s H vs Q E hr h => ?_)
  · obtain ⟨H0, r, st, rfl, _⟩ := h
    rfl
  obtain ⟨H0, r, ⟨brs, z, q0⟩, rfl, ra, ok, q⟩ := h
  refine ⟨_, (pss_cons (ps_set (i := 1) scReader_shuts.nd rfl (.inl rfl) (pe_ix ix_list (pe_fld (pv 0) rfl) (pe_un un_neg pe_int) (fun _ _ => rfl)))
  (pss_cons (ps_if (PW.pt (pw_or (pt_cmpR op_eq (pe_callB call_len_seq rfl m_len PySem.boot_len (pa_cons (pe_fld (pv 0) rfl) pa_nil)) pe_int (nomark _)) (pw_or1 (pt_cmpR op_lt (pe_callB call_len_seq rfl m_len PySem.boot_len (pa_cons (pe_fld (pv 1) rfl) pa_nil)) (pe_fld (pv 1) rfl) (nomark _))))) (pss_one (ps_ret pe_bl)) pss_nil)
  (pss_cons (ps_expr (pe_bm0 PySem.F.plainAttrs_list PySem.F.slot_list_pop PySem.F.type_list_pop mt_pop (pe_fld (pv 0) rfl)))
  (pss_cons (ps_expr (pe_hasM clR Madd_thing (hr.mono (by omega)) (pv 0) (pa_cons (pe_has Gmade_of (hr.mono (by omega)) (pa_cons (pv 1) pa_nil)) pa_nil)))
  (pss_one (ps_ret pe_bl)))))), ?_⟩
  match brs, ok.some_, ra, ok, q with
  | b :: bs, _, ra, ok, q =>
    obtain ⟨dx, bl, p, tl, dxb, kt, qs, vs, o⟩ := ra.open_
    have ll := o.all.len
    have lv := o.hd.len
    refine ⟨_, rfl, r, CR, dx, _, _, rfl, o.hr, T.cl, T.nB, rf_brs, 1, rfl, bl, _, _, _, rfl, rfl, SqL.of o.hb, at_lastV _ _, ?_⟩
    refine ⟨_, rfl, r, CR, dx, _, _, rfl, o.hr, T.cl, T.nB, rf_brs, bl, _, rfl, .inl (SqL.of o.hb), rfl, _, rfl, ?_⟩
    have el : (((qs.reverse.map fun q : Addr × Addr => V.ref q.1) ++ [V.ref p]).length) = bs.length + 1 := by
      rw [List.length_append, List.length_map, List.length_reverse, ll]
      rfl
    rw [el]
    match bs, ra, ok, q, o, ll with
    | [], ra, ok, q, o, ll => exact ite_t (by simp) (iteT (q _ o.s0))
    | ob :: obs, ra, ok, q, o, ll =>
      refine ite_f (by simp; omega) ?_
      refine ⟨_, rfl, p, CB, dxb, _, _, rfl, o.hp, TB.cl, TB.nT, bf_things, tl, _, rfl, .inl (SqL.of o.ht), _, rfl, p, CB, dxb, _, _, rfl, o.hp, TB.cl, TB.nL, bf_least, _, _, rfl, rfl, _, rfl, ?_⟩
      have q : Out CB CR H0 r (if b.things.length < b.least then none else some (addF ⟨ob :: obs, z, q0⟩ (madeF b))) Q := q
      by_cases hl : b.things.length < b.least
      · refine ite_t (decide_eq_true (by omega)) ?_
        rw [if_pos hl] at q
        exact q _ o.s0
      refine ite_f (decide_eq_false (by omega)) ?_
      rw [if_neg hl] at q
      refine ⟨_, rfl, r, CR, dx, _, _, rfl, o.hr, T.cl, T.nB, rf_brs, .inl ⟨rfl, _, SqL.of o.hb⟩, bl, _, V.ref p, rfl, rfl, o.hb, (by rw [List.length_append]; simp), ?_⟩
      rw [List.dropLast_concat]
      have nd := o.nd
      rw [List.nodup_cons, List.nodup_cons] at nd
      have nbt : tl ≠ bl := fun e => nd.1 (by rw [e]; exact List.mem_cons_self)
      have rr := RdAt.relist o.s0 o.r0 o.hr o.b0 o.hb o.all (by
        rw [List.nodup_cons]
        exact ⟨fun h => nd.1 (List.mem_cons_of_mem _ h), nd.2.2⟩)
      have bb : BrAt CB H0 (upd H bl (.lst (qs.reverse.map fun q : Addr × Addr => V.ref q.1))) p tl b := by
        have b1 : BrAt CB H0 H p tl b := ⟨o.t0, dxb, kt, vs, o.hp, o.hk, o.ht, o.hd⟩
        refine b1.st (fun u C d w kt lo hi t e => ?_) (fun u xs e => ?_) (fun us e => ?_)
        · rw [upd_ne (ne_of e o.hb (by intro z; cases z))]
          exact e
        · rw [upd_ne (ne_of e o.hb (by intro z; cases z))]
          exact e
        · rw [upd_ne nbt]
          exact e
      have hr1 : upd H bl (.lst (qs.reverse.map fun q : Addr × Addr => V.ref q.1)) r = some (.ins CR dx (rf bl z q0)) := by
        rw [upd_ne (ne_of o.hr o.hb (by intro z; cases z))]
        exact o.hr
      generalize upd H bl (.lst (qs.reverse.map fun q : Addr × Addr => V.ref q.1)) = H1 at *
      refine ⟨_, rfl, r, dx, _, rfl, hr1, rfl, _, rfl, H0, p, tl, b, rfl, bb, (ok.few b List.mem_cons_self).1, fun hc e => ?_, fun v H2 s2 dz => ?_⟩
      · have := ok.cal b List.mem_cons_self hc
        rw [e] at hl
        simp at hl
        omega
      · exact ⟨H0, r, _, _, ob, obs, z, _, rfl, rr.same s2, (ok.few ob (List.mem_cons_of_mem _ List.mem_cons_self)).1, dz, fun H' ra' => q H' ra'⟩
theorem push_ok {H0 H H1 : Hp} {r : Addr} {b nb : Br} {bs : List Br} {z : Str} {q : Option Str} {dx bl p tl dxb kt p' tl' : Addr} {qs : List (Addr × Addr)} {vs : List V} (o : RdO CB CR H0 H r b bs z q dx bl p tl dxb kt qs vs) (s1 : Same H H1) (bb : BrAt CB H H1 p' tl' nb) :
    RdAt CB CR H0 (upd H1 bl (.lst ((qs.reverse.map fun q => V.ref q.1) ++ [V.ref p] ++ [V.ref p']))) r ⟨nb :: b :: bs, z, q⟩ := by
  have o1 := o.same s1
  have nd := o.nd
  have nd0 := o.nd
  rw [List.nodup_cons, List.nodup_cons] at nd
  have t0' := bb.1
  have rr := RdAt.relist (qs := (p', tl') :: (p, tl) :: qs) (bs := nb :: b :: bs) o1.s0 o1.r0 o1.hr o1.b0 o1.hb (.cons ⟨same_none o.s0 t0', bb.2⟩ (.cons ⟨o1.t0, dxb, kt, vs, o1.hp, o1.hk, o1.ht, o1.hd⟩ o1.all)) (by
    show (bl :: tl' :: tl :: qs.map (·.2)).Nodup
    rw [List.nodup_cons, List.nodup_cons]
    refine ⟨fun h => ?_, fun h => ?_, by rw [List.nodup_cons]; exact nd.2⟩
    · rcases List.mem_cons.mp h with e | e
      · have := o.hb
        rw [e, t0'] at this
        cases this
      · exact nd.1 e
    · rcases List.mem_cons.mp h with e | e
      · have := o.ht
        rw [← e, t0'] at this
        cases this
      · obtain ⟨us, e⟩ := o.all.tls _ e
        rw [t0'] at e
        cases e)
  have el : ((p', tl') :: (p, tl) :: qs).reverse.map (fun q : Addr × Addr => V.ref q.1) = (qs.reverse.map fun q : Addr × Addr => V.ref q.1) ++ [V.ref p] ++ [V.ref p'] := by
    rw [List.reverse_cons, List.reverse_cons, List.map_append, List.map_append]
    rfl
  rw [el] at rr
  exact rr
theorem flat_rV {q : Option Str} : flatV (rV q) = true := by
  cases q <;> rfl
def inE (q : Option Str) (ks : List Str) : Bool := match q with
  | some z => decide (z ∈ ks)
  | none => false
theorem in_rV {q : Option Str} {ks : List Str} : inV (rV q) (ks.map V.str) = inE q ks := by
  cases q with
  | some z => exact inV_strs
  | none =>
    show (ks.map V.str).any (fun y => eqV y .non) = false
    rw [List.any_map]
    induction ks with
    | nil => rfl
    | cons k ks ih =>
      rw [List.any_cons, ih]
      rfl
theorem ok_unl (F : Fun K "unlocks" "Reader.unlocks" sReader_unlocks f fd) (T : TxR K CR) (Gnew_bracket : Has P w K mg base "new_bracket" [] 3 (spB0 CB newBr)) (Gnames_bracket : Has P w K mg base "names_bracket" [] 3 (spB0 CB namesBr)) : FnOk P w K mg base CX0 4 f fd ["self", "expected"] (spUnl CB CR) := by
  refine F.ok scReader_unlocks (fun vs H Q E h => ?_) (fun cdv A outer s H vs Q E hr h => ?_)
  · obtain ⟨H0, r, st, e, rfl, _⟩ := h
    rfl
  obtain ⟨H0, r, ⟨brs, z, q0⟩, e, rfl, ra, ok, q⟩ := h
  refine ⟨_, (pss_cons (ps_if (pt_cmpR op_eq (pv 1) pe_str (nomark _)) (pss_one (ps_expr (pe_bm PySem.F.plainAttrs_list PySem.F.slot_list_append PySem.F.type_list_append mt_append (pe_fld (pv 0) rfl) (pa_cons (pe_has0 Gnew_bracket (hr.mono (by omega))) pa_nil)))) (pss_one (ps_if (pt_cmpR op_eq (pv 1) pe_str (nomark _)) (pss_one (ps_expr (pe_bm PySem.F.plainAttrs_list PySem.F.slot_list_append PySem.F.type_list_append mt_append (pe_fld (pv 0) rfl) (pa_cons (pe_has0 Gnames_bracket (hr.mono (by omega))) pa_nil)))) pss_nil)))
  (pss_one (ps_ret (pe_cmpR op_in_seq (pv 1) (pe_tup (pa_cons pe_str (pa_cons pe_str pa_nil))) rfl)))), ?_⟩
  match brs, ok.some_, ra, ok, q with
  | b :: bs, _, ra, ok, q =>
    obtain ⟨dx, bl, p, tl, dxb, kt, qs, vs, o⟩ := ra.open_
    have lm : bs.length + 1 ≤ 900 := ok.many
    have ll := o.all.len
    have el : (((qs.reverse.map fun q : Addr × Addr => V.ref q.1) ++ [V.ref p]).length) < sizeLine := by
      rw [List.length_append, List.length_map, List.length_reverse, ll]
      exact small1000 (by show bs.length + 1 ≤ 1000; omega)
    unfold unlockF at q
    refine ⟨_, rfl, rV_scal, _, rfl, ?_⟩
    by_cases h1 : e = some ("part" : Str)
    · refine ite_t (decide_eq_true (rV_eq.mpr h1)) ?_
      rw [if_pos h1] at q
      refine ⟨_, rfl, r, CR, dx, _, _, rfl, o.hr, T.cl, T.nB, rf_brs, .inl ⟨rfl, _, SqL.of o.hb⟩, rfl, fun p' tl' H1 s1 np bb => ⟨bl, _, _, rfl, rfl, (o.same s1).hb, el, ?_⟩⟩
      have rr := push_ok o s1 bb
      refine ⟨_, rfl, (by show 2 ≤ sizeLine; decide), fun t ht => ⟨t, _, rfl, .inr (SqT.of upd_same), flat_rV, rfl, ?_⟩⟩
      show Q (.bl (inV (rV e) ((["part", "binders"] : List Str).map V.str))) _
      rw [in_rV, h1]
      have ei : inE (some ("part" : Str)) ["part", "binders"] = true := by decide +kernel
      rw [ei]
      exact q _ (rr.same (same_new ht))
    refine ite_f (decide_eq_false fun h => h1 (rV_eq.mp h)) ?_
    rw [if_neg h1] at q
    refine ⟨_, rfl, rV_scal, _, rfl, ?_⟩
    by_cases h2 : e = some ("binders" : Str)
    · refine ite_t (decide_eq_true (rV_eq.mpr h2)) ?_
      rw [if_pos h2] at q
      refine ⟨_, rfl, r, CR, dx, _, _, rfl, o.hr, T.cl, T.nB, rf_brs, .inl ⟨rfl, _, SqL.of o.hb⟩, rfl, fun p' tl' H1 s1 np bb => ⟨bl, _, _, rfl, rfl, (o.same s1).hb, el, ?_⟩⟩
      have rr := push_ok o s1 bb
      refine ⟨_, rfl, (by show 2 ≤ sizeLine; decide), fun t ht => ⟨t, _, rfl, .inr (SqT.of upd_same), flat_rV, rfl, ?_⟩⟩
      show Q (.bl (inV (rV e) ((["part", "binders"] : List Str).map V.str))) _
      rw [in_rV, h2]
      have ei : inE (some ("binders" : Str)) ["part", "binders"] = true := by decide +kernel
      rw [ei]
      exact q _ (rr.same (same_new ht))
    refine ite_f (decide_eq_false fun h => h2 (rV_eq.mp h)) ?_
    rw [if_neg h2] at q
    refine ⟨_, rfl, (by show 2 ≤ sizeLine; decide), fun t ht => ⟨t, _, rfl, .inr (SqT.of upd_same), flat_rV, rfl, ?_⟩⟩
    show Q (.bl (inV (rV e) ((["part", "binders"] : List Str).map V.str))) _
    rw [in_rV]
    have e0 : inE e ["part", "binders"] = false := by
      match e, h1, h2 with
      | none, _, _ => rfl
      | some k, h1, h2 =>
        have k1 : ¬ k = "part" := fun h => h1 (by rw [h])
        have k2 : ¬ k = "binders" := fun h => h2 (by rw [h])
        simp [inE, k1, k2]
    rw [e0]
    exact q _ (o.s0.trans (same_new ht))
theorem ok_beg (F : Fun K "begins" "Reader.begins" sReader_begins f fd) (T : TxR K CR) (Mlengthens : HasM P w K mg base CR "lengthens" ["self", "sign"] 3 (spLen CB CR)) : FnOk P w K mg base CX0 4 f fd ["self", "kind", "sign"] (spBeg CB CR) := by
  have clR := T.cl
  refine F.ok scReader_begins (fun vs H Q E h => ?_) (fun cdv A outer s H vs Q E hr h => ?_)
  · obtain ⟨H0, r, k, c, st, rfl, _⟩ := h
    rfl
  obtain ⟨H0, r, k, c, ⟨brs, z, q0⟩, rfl, ra, ok, q⟩ := h
  refine ⟨_, (pss_cons (ps_fld (pv 0) (pv 1) rfl)
  (pss_one (ps_ret (pe_hasM clR Mlengthens (hr.mono (by omega)) (pv 0) (pa_cons (pv 2) pa_nil))))), ?_⟩
  match brs, ok.some_, ra, ok, q with
  | b :: bs, _, ra, ok, q =>
    obtain ⟨dx, bl, p, tl, dxb, kt, qs, vs, o⟩ := ra.open_
    refine ⟨_, rfl, _, rfl, r, CR, dx, _, rfl, o.hr, T.cl, T.nR, (by show 3 < 1000; decide), ?_⟩
    have o1 : RdO CB CR H0 (upd H r (.ins CR dx (putF "reads" (.str k) (rf bl z q0)))) r b bs z (some k) dx bl p tl dxb kt qs vs := o.put z (some k)
    generalize upd H r (.ins CR dx (putF "reads" (.str k) (rf bl z q0))) = H1 at *
    exact ⟨_, rfl, r, dx, _, rfl, o1.hr, rfl, _, rfl, H0, r, c, _, rfl, o1.at_, ⟨ok.tok, ok.nams, ok.two, ok.some_, ok.few⟩, q⟩
theorem sg_eq {c : Nat} {d : Nat} : (V.str (sg c) = V.str ⟨#[d]⟩) ↔ c = d := one_eq
theorem ok_bp (F : Fun K "begins_part" "Reader.begins_part" sReader_begins_part f fd) (T : TxR K CR) (m_LETTERS : mg "LETTERS" = some (.str letters u1)) (Mbegins : HasM P w K mg base CR "begins" ["self", "kind", "sign"] 4 (spBeg CB CR)) : FnOk P w K mg base CX0 5 f fd ["self", "sign"] (spBP CB CR) := by
  have clR := T.cl
  refine F.ok scReader_begins_part (fun vs H Q E h => ?_) (fun cdv A outer s H vs Q E hr h => ?_)
  · obtain ⟨H0, r, c, st, rfl, _⟩ := h
    rfl
  obtain ⟨H0, r, c, ⟨brs, z, q0⟩, rfl, ra, ok, q⟩ := h
  refine ⟨_, (pss_cons (ps_if (pt_cmpR op_eq (pv 1) pe_str (nomark _)) (pss_cons (ps_fld (pv 0) pe_str rfl)
  (pss_one (ps_ret pe_bl))) pss_nil)
  (pss_one (ps_ret (pe_hasM clR Mbegins (hr.mono (by omega)) (pv 0) (pa_cons (pe_ifExp (pt_cmpR op_in_sign (pv 1) (pe_glob (v := (.str letters)) rfl m_LETTERS ⟨_, rfl⟩) rfl) pe_str pe_str) (pa_cons (pv 1) pa_nil)))))), ?_⟩
  match brs, ok.some_, ra, ok, q with
  | b :: bs, _, ra, ok, q =>
    obtain ⟨dx, bl, p, tl, dxb, kt, qs, vs, o⟩ := ra.open_
    unfold partF at q
    refine ⟨_, rfl, rfl, _, rfl, ?_⟩
    have c34 : (V.str (sg c) = V.str "\"") ↔ c = 34 := sg_eq (d := 34)
    by_cases h1 : c = 34
    · refine ite_t (decide_eq_true (c34.mpr h1)) ?_
      rw [if_pos h1] at q
      refine ⟨_, rfl, r, CR, dx, _, rfl, o.hr, T.cl, T.nR, (by show 3 < 1000; decide), ?_⟩
      exact q _ (o.put z (some ("text" : Str))).at_
    refine ite_f (decide_eq_false fun h => h1 (c34.mp h)) ?_
    rw [if_neg h1] at q
    refine ⟨_, rfl, r, dx, _, rfl, o.hr, rfl, _, rfl, c, letters, rfl, rfl, _, rfl, ?_⟩
    by_cases h2 : c ∈ letters.cps.toList
    · refine ite_t (decide_eq_true h2) ⟨_, rfl, ?_⟩
      rw [if_pos h2] at q
      exact ⟨H0, r, _, c, _, rfl, ra, ok, q⟩
    · refine ite_f (decide_eq_false h2) ⟨_, rfl, ?_⟩
      rw [if_neg h2] at q
      exact ⟨H0, r, _, c, _, rfl, ra, ok, q⟩
end
end Wp
set_option Elab.async false
set_option linter.all false
set_option maxRecDepth 100000
namespace Wp
open PySem PySem.Spec PyProof.Rows L2
section
variable {P : Program} {w : World} {K : PySem.W.Frag} {mg : Str → Option Value} {base : Heap} {f CB CR nn : Addr} {fd : FuncData} {u1 u2 u3 : Tok}
theorem ok_btw (F : Fun K "takes_between" "Reader.takes_between" sReader_takes_between f fd) (T : TxR K CR) (m_BLANKS : mg "BLANKS" = some (.str blanks u1)) (Gexpected_in : Has P w K mg base "expected_in" ["bracket"] 1 (spExp CB)) (Mshuts : HasM P w K mg base CR "shuts" ["self"] 2 (spShut CB CR)) (Munlocks : HasM P w K mg base CR "unlocks" ["self", "expected"] 4 (spUnl CB CR)) (Mbegins_part : HasM P w K mg base CR "begins_part" ["self", "sign"] 5 (spBP CB CR)) (Mbegins : HasM P w K mg base CR "begins" ["self", "kind", "sign"] 4 (spBeg CB CR)) : FnOk P w K mg base CX0 6 f fd ["self", "sign"] (spBtw CB CR) := by
  have clR := T.cl
  refine F.ok scReader_takes_between (fun vs H Q E h => ?_) (fun cdv A outer s H vs Q E hr h => ?_)
  · obtain ⟨H0, r, c, st, rfl, _⟩ := h
    rfl
  obtain ⟨H0, r, c, ⟨brs, z, q0⟩, rfl, ra, ok, q⟩ := h
  refine ⟨_, (pss_cons (ps_set (i := 2) scReader_takes_between.nd rfl (.inl rfl) (pe_has Gexpected_in (hr.mono (by omega)) (pa_cons (pe_ix ix_list (pe_fld (pv 0) rfl) (pe_un un_neg pe_int) (fun _ _ => rfl)) pa_nil)))
  (pss_cons (ps_if (pt_cmpR op_in_sign (pv 1) (pe_glob (v := (.str blanks)) rfl m_BLANKS ⟨_, rfl⟩) rfl) (pss_one (ps_ret pe_bl)) pss_nil)
  (pss_cons (ps_if (pt_cmpR op_eq (pv 1) pe_str (nomark _)) (pss_one (ps_ret (pe_hasM0 clR Mshuts (hr.mono (by omega)) (pv 0)))) pss_nil)
  (pss_cons (ps_if (pt_cmpR op_eq (pv 1) pe_str (nomark _)) (pss_one (ps_ret (pe_hasM clR Munlocks (hr.mono (by omega)) (pv 0) (pa_cons (pv 2) pa_nil)))) pss_nil)
  (pss_cons (ps_if (pt_cmpR op_eq (pv 2) pe_str (nomark _)) (pss_one (ps_ret (pe_hasM clR Mbegins_part (hr.mono (by omega)) (pv 0) (pa_cons (pv 1) pa_nil)))) pss_nil)
  (pss_one (ps_ret (pe_and (pe_cmpR op_in_seq (pv 2) (pe_tup (pa_cons pe_str (pa_cons pe_str (pa_cons pe_str pa_nil)))) rfl) (pe_one (pe_hasM clR Mbegins (hr.mono (by omega)) (pv 0) (pa_cons (pv 2) (pa_cons (pv 1) pa_nil)))))))))))), ?_⟩
  match brs, ok.some_, ra, ok, q with
  | b :: bs, _, ra, ok, q =>
    obtain ⟨dx, bl, p, tl, dxb, kt, qs, vs, o⟩ := ra.open_
    have fb := ok.few b List.mem_cons_self
    refine ⟨_, rfl, r, CR, dx, _, _, rfl, o.hr, T.cl, T.nB, rf_brs, 1, rfl, bl, _, _, _, rfl, rfl, SqL.of o.hb, at_lastV _ _, H0, p, tl, b, rfl, ⟨o.t0, dxb, kt, vs, o.hp, o.hk, o.ht, o.hd⟩, fb.2.1, fb.2.2, ?_⟩
    unfold betweenF at q
    have te : topE ⟨b :: bs, z, q0⟩ = expectF b := rfl
    rw [te] at q
    generalize expectF b = ex at *
    refine ⟨_, rfl, c, blanks, rfl, rfl, _, rfl, ?_⟩
    by_cases h1 : c ∈ blanks.cps.toList
    · refine ite_t (decide_eq_true h1) ?_
      rw [if_pos h1] at q
      exact q _ ra
    refine ite_f (decide_eq_false h1) ?_
    rw [if_neg h1] at q
    refine ⟨_, rfl, rfl, _, rfl, ?_⟩
    have c41 : (V.str (sg c) = V.str ")") ↔ c = 41 := sg_eq (d := 41)
    have c40 : (V.str (sg c) = V.str "(") ↔ c = 40 := sg_eq (d := 40)
    by_cases h2 : c = 41
    · refine ite_t (decide_eq_true (c41.mpr h2)) ?_
      rw [if_pos h2] at q
      exact ⟨_, rfl, r, dx, _, rfl, o.hr, rfl, H0, r, _, rfl, ra, ok, q⟩
    refine ite_f (decide_eq_false fun h => h2 (c41.mp h)) ?_
    rw [if_neg h2] at q
    refine ⟨_, rfl, rfl, _, rfl, ?_⟩
    by_cases h3 : c = 40
    · refine ite_t (decide_eq_true (c40.mpr h3)) ?_
      rw [if_pos h3] at q
      exact ⟨_, rfl, r, dx, _, rfl, o.hr, rfl, _, rfl, H0, r, _, ex, rfl, ra, ok, q⟩
    refine ite_f (decide_eq_false fun h => h3 (c40.mp h)) ?_
    rw [if_neg h3] at q
    refine ⟨_, rfl, rV_scal, _, rfl, ?_⟩
    by_cases h4 : ex = some ("part" : Str)
    · refine ite_t (decide_eq_true (rV_eq.mpr h4)) ?_
      rw [if_pos h4] at q
      exact ⟨_, rfl, r, dx, _, rfl, o.hr, rfl, _, rfl, H0, r, c, _, rfl, ra, ok.toOkL, q⟩
    refine ite_f (decide_eq_false fun h => h4 (rV_eq.mp h)) ?_
    rw [if_neg h4] at q
    refine ⟨_, rfl, (by show 3 ≤ sizeLine; decide), fun t ht => ⟨t, _, rfl, .inr (SqT.of upd_same), flat_rV, rfl, _, rfl, ?_⟩⟩
    show if inV (rV ex) ((["word", "binder", "tag"] : List Str).map V.str) = true then _ else _
    rw [in_rV]
    have s1 := same_new (o := .tup [V.str "word", V.str "binder", V.str "tag"]) ht
    have o1 := o.same s1
    match ex, q with
    | none, q => exact ite_f rfl (q _ o1.s0)
    | some k, q =>
      have q : Out CB CR H0 r (if k ∈ (["word", "binder", "tag"] : List Str) then beginF ⟨b :: bs, z, q0⟩ k c else none) Q := q
      show if decide (k ∈ (["word", "binder", "tag"] : List Str)) = true then _ else _
      by_cases h5 : k ∈ (["word", "binder", "tag"] : List Str)
      · refine ite_t (decide_eq_true h5) ?_
        rw [if_pos h5] at q
        exact ⟨_, rfl, r, dx, _, rfl, o1.hr, rfl, _, rfl, _, rfl, H0, r, k, c, _, rfl, o1.at_, ok.toOkL, q⟩
      · refine ite_f (decide_eq_false h5) ?_
        rw [if_neg h5] at q
        exact q _ o1.s0
theorem ok_int (F : Fun K "takes_in_text" "Reader.takes_in_text" sReader_takes_in_text f fd) (T : TxR K CR) (Gis_text_sign : Has P w K mg base "is_text_sign" ["sign"] 1 spSign) (Madd_thing : HasM P w K mg base CR "add_thing" ["self", "thing"] 1 (spAdd CB CR)) : FnOk P w K mg base CX0 2 f fd ["self", "sign"] (spInT CB CR) := by
  have clR := T.cl
  refine F.ok scReader_takes_in_text (fun vs H Q E h => ?_) (fun cdv A outer s H vs Q E hr h => ?_)
  · obtain ⟨H0, r, c, st, rfl, _⟩ := h
    rfl
  obtain ⟨H0, r, c, ⟨brs, z, q0⟩, rfl, ra, ok, q⟩ := h
  refine ⟨_, (pss_cons (ps_if (pt_cmpR op_eq (pv 1) pe_str (nomark _)) (pss_cons (ps_expr (pe_hasM clR Madd_thing (hr.mono (by omega)) (pv 0) (pa_cons (pe_tup (pa_cons pe_str (pa_cons (pe_fld (pv 0) rfl) pa_nil))) pa_nil)))
  (pss_one (ps_ret pe_bl))) pss_nil)
  (pss_cons (ps_if (pt_not (pt_val (pe_has Gis_text_sign (hr.mono (by omega)) (pa_cons (pv 1) pa_nil)))) (pss_one (ps_ret pe_bl)) pss_nil)
  (pss_cons (ps_fld (pv 0) (pe_op op_add_str (pe_fld (pv 0) rfl) (pv 1)) rfl)
  (pss_one (ps_ret pe_bl))))), ?_⟩
  match brs, ok.some_, ra, ok, q with
  | b :: bs, _, ra, ok, q =>
    obtain ⟨dx, bl, p, tl, dxb, kt, qs, vs, o⟩ := ra.open_
    have tk : z.length ≤ 600 := ok.tok
    have big : (1000 : Nat) ≤ sizeLine := by decide
    unfold inTextF at q
    refine ⟨_, rfl, rfl, _, rfl, ?_⟩
    have c34 : (V.str (sg c) = V.str "\"") ↔ c = 34 := sg_eq (d := 34)
    by_cases h1 : c = 34
    · refine ite_t (decide_eq_true (c34.mpr h1)) ?_
      rw [if_pos h1] at q
      refine ⟨_, rfl, r, dx, _, rfl, o.hr, rfl, _, rfl, r, CR, dx, _, _, rfl, o.hr, T.cl, T.nT, rf_tok, (by show 2 ≤ sizeLine; decide), fun t ht => ?_⟩
      exact ⟨H0, r, _, _, b, bs, z, _, rfl, ra.same (same_new ht), (ok.few b List.mem_cons_self).1, .tup upd_same (.cons (.str _) (.cons (.str _) .nil)), fun H' ra' => q H' ra'⟩
    refine ite_f (decide_eq_false fun h => h1 (c34.mp h)) ?_
    rw [if_neg h1] at q
    refine ⟨_, rfl, c, rfl, _, rfl, ?_⟩
    by_cases h2 : textSign c = true
    · refine ite_f (by rw [h2]; rfl) ?_
      rw [if_pos h2] at q
      refine ⟨_, rfl, r, CR, dx, _, _, rfl, o.hr, T.cl, T.nT, rf_tok, _, rfl, z, sg c, rfl, rfl, ?_, _, rfl, r, CR, dx, _, rfl, o.hr, T.cl, T.nT, (by show 3 < 1000; decide), ?_⟩
      · show z.length + 1 ≤ _
        omega
      · exact q _ (o.put (z ++ sg c) q0).at_
    · have h2 := Bool.eq_false_iff.mpr h2
      refine ite_t (by rw [h2]; rfl) ?_
      rw [h2] at q
      exact q _ o.s0
theorem ok_takes (F : Fun K "takes" "Reader.takes" sReader_takes f fd) (T : TxR K CR) (m_NAME_SIGNS : mg "NAME_SIGNS" = some (.str nameSigns u1)) (Mtakes_in_text : HasM P w K mg base CR "takes_in_text" ["self", "sign"] 2 (spInT CB CR)) (Mlengthens : HasM P w K mg base CR "lengthens" ["self", "sign"] 3 (spLen CB CR)) (Mcompletes : HasM P w K mg base CR "completes" ["self"] 4 (spCompl CB CR)) (Mtakes_between : HasM P w K mg base CR "takes_between" ["self", "sign"] 6 (spBtw CB CR)) : FnOk P w K mg base CX0 7 f fd ["self", "sign"] (spTakes CB CR) := by
  have clR := T.cl
  refine F.ok scReader_takes (fun vs H Q E h => ?_) (fun cdv A outer s H vs Q E hr h => ?_)
  · obtain ⟨H0, r, c, st, rfl, _⟩ := h
    rfl
  obtain ⟨H0, r, c, ⟨brs, z, q0⟩, rfl, ra, ok, okc, q⟩ := h
  refine ⟨_, (pss_cons (ps_if (pt_cmpR op_eq (pe_fld (pv 0) rfl) pe_str (nomark _)) (pss_one (ps_ret (pe_hasM clR Mtakes_in_text (hr.mono (by omega)) (pv 0) (pa_cons (pv 1) pa_nil)))) pss_nil)
  (pss_cons (ps_if (pt_cmpR op_notN (pe_fld (pv 0) rfl) pe_non (nomark _)) (pss_cons (ps_if (pt_cmpR op_in_sign (pv 1) (pe_glob (v := (.str nameSigns)) rfl m_NAME_SIGNS ⟨_, rfl⟩) rfl) (pss_one (ps_ret (pe_hasM clR Mlengthens (hr.mono (by omega)) (pv 0) (pa_cons (pv 1) pa_nil)))) pss_nil)
  (pss_one (ps_if (PW.pt (pw_or (pt_cmpR op_eq (pv 1) pe_str (nomark _)) (pw_or1 (pt_not (pt_val (pe_hasM0 clR Mcompletes (hr.mono (by omega)) (pv 0))))))) (pss_one (ps_ret pe_bl)) pss_nil))) pss_nil)
  (pss_one (ps_ret (pe_hasM clR Mtakes_between (hr.mono (by omega)) (pv 0) (pa_cons (pv 1) pa_nil)))))), ?_⟩
  match brs, ok.some_, ra, ok, okc, q with
  | b :: bs, _, ra, ok, okc, q =>
    obtain ⟨dx, bl, p, tl, dxb, kt, qs, vs, o⟩ := ra.open_
    unfold takeF at q
    refine ⟨_, rfl, r, CR, dx, _, _, rfl, o.hr, T.cl, T.nR, rf_reads, rV_scal, _, rfl, ?_⟩
    by_cases h1 : q0 = some ("text" : Str)
    · refine ite_t (decide_eq_true (rV_eq.mpr h1)) ?_
      rw [if_pos h1] at q
      exact ⟨_, rfl, r, dx, _, rfl, o.hr, rfl, _, rfl, H0, r, c, _, rfl, ra, ok, q⟩
    refine ite_f (decide_eq_false fun h => h1 (rV_eq.mp h)) ?_
    rw [if_neg h1] at q
    refine ⟨_, rfl, r, CR, dx, _, _, rfl, o.hr, T.cl, T.nR, rf_reads, rfl, _, rfl, ?_⟩
    by_cases h2 : q0 = none
    · refine ite_f (by simp [rV_non.mpr h2]) ?_
      rw [if_pos h2] at q
      exact ⟨_, rfl, r, dx, _, rfl, o.hr, rfl, _, rfl, H0, r, c, _, rfl, ra, ok, q⟩
    refine ite_t (by simp [rV_non, h2]) ?_
    rw [if_neg h2] at q
    refine ⟨_, rfl, c, nameSigns, rfl, rfl, _, rfl, ?_⟩
    by_cases h3 : c ∈ nameSigns.cps.toList
    · refine ite_t (decide_eq_true h3) ?_
      rw [if_pos h3] at q
      exact ⟨_, rfl, r, dx, _, rfl, o.hr, rfl, _, rfl, H0, r, c, _, rfl, ra, ok.toOkL, q⟩
    refine ite_f (decide_eq_false h3) ?_
    rw [if_neg h3] at q
    refine ⟨_, rfl, rfl, _, rfl, ?_⟩
    have c45 : (V.str (sg c) = V.str "-") ↔ c = 45 := sg_eq (d := 45)
    by_cases h4 : c = 45
    · refine ite_t (decide_eq_true (c45.mpr h4)) (iteT ?_)
      rw [if_pos h4] at q
      exact q _ o.s0
    refine ite_f (decide_eq_false fun h => h4 (c45.mp h)) ?_
    rw [if_neg h4] at q
    refine ⟨_, rfl, r, dx, _, rfl, o.hr, rfl, H0, r, _, rfl, ra, ok, ?_⟩
    cases hc : completeF ⟨b :: bs, z, q0⟩ with
    | none =>
      rw [hc] at q
      exact fun H' s' => ⟨_, rfl, iteT (q _ s')⟩
    | some st' =>
      rw [hc] at q
      have q : Out CB CR H0 r (betweenF st' c) Q := q
      refine fun H' ra' => ⟨_, rfl, iteF ?_⟩
      have ok' := okc st' hc
      obtain ⟨brs', z', q'⟩ := st'
      match brs', ok'.some_, ra', ok', q with
      | b' :: bs', _, ra', ok', q =>
        obtain ⟨dx', bl', p', tl', dxb', kt', qs', vs', o'⟩ := ra'.open_
        exact ⟨_, rfl, r, dx', _, rfl, o'.hr, rfl, _, rfl, H0, r, c, _, rfl, ra', ok', q⟩
theorem ok_whl (F : Fun K "is_whole_text" "Reader.is_whole_text" sReader_is_whole_text f fd) (T : TxR K CR) (TB : TxB K CB) (m_len : mg "len" = none) (Mcompletes : HasM P w K mg base CR "completes" ["self"] 4 (spCompl CB CR)) : FnOk P w K mg base CX0 5 f fd ["self"] (spWhl CB CR) := by
  have clR := T.cl
  refine F.ok scReader_is_whole_text (fun vs H Q E h => ?_) (fun cdv A outer s H vs Q E hr h => ?_)
  · obtain ⟨H0, r, st, rfl, _⟩ := h
    rfl
  obtain ⟨H0, r, ⟨brs, z, q0⟩, rfl, ra, ok, okc, q⟩ := h
  refine ⟨_, (pss_cons (ps_if (PW.pt (pw_or (pt_cmpR op_eq (pe_fld (pv 0) rfl) pe_str (nomark _)) (pw_or1 (pt_not (pt_val (pe_hasM0 clR Mcompletes (hr.mono (by omega)) (pv 0))))))) (pss_one (ps_ret pe_bl)) pss_nil)
  (pss_one (ps_ret (pe_and (pe_cmpR op_eq (pe_callB call_len_seq rfl m_len PySem.boot_len (pa_cons (pe_fld (pv 0) rfl) pa_nil)) pe_int (nomark _)) (pe_one (pe_cmpR op_eq (pe_callB call_len_seq rfl m_len PySem.boot_len (pa_cons (pe_fld (pe_ix ix_list (pe_fld (pv 0) rfl) pe_int (fun _ _ => rfl)) rfl) pa_nil)) pe_int (nomark _))))))), ?_⟩
  match brs, ok.some_, ra, ok, okc, q with
  | b :: bs, _, ra, ok, okc, q =>
    obtain ⟨dx, bl, p, tl, dxb, kt, qs, vs, o⟩ := ra.open_
    unfold wholeF at q
    refine ⟨_, rfl, r, CR, dx, _, _, rfl, o.hr, T.cl, T.nR, rf_reads, rV_scal, _, rfl, ?_⟩
    by_cases h1 : q0 = some ("text" : Str)
    · refine ite_t (decide_eq_true (rV_eq.mpr h1)) (iteT ?_)
      rw [if_pos h1] at q
      exact q _ o.s0
    refine ite_f (decide_eq_false fun h => h1 (rV_eq.mp h)) ?_
    rw [if_neg h1] at q
    refine ⟨_, rfl, r, dx, _, rfl, o.hr, rfl, H0, r, _, rfl, ra, ok, ?_⟩
    cases hc : completeF ⟨b :: bs, z, q0⟩ with
    | none =>
      rw [hc] at q
      exact fun H' s' => ⟨_, rfl, iteT (q _ s')⟩
    | some st' =>
      rw [hc] at q
      refine fun H' ra' => ⟨_, rfl, iteF ?_⟩
      have ok' := okc st' hc
      obtain ⟨brs', z', q'⟩ := st'
      match brs', ok'.some_, ra', ok', q with
      | b' :: bs', _, ra', ok', q =>
        obtain ⟨dx', bl', p', tl', dxb', kt', qs', vs', o'⟩ := ra'.open_
        have ll := o'.all.len
        have lv := o'.hd.len
        refine ⟨_, rfl, r, CR, dx', _, _, rfl, o'.hr, T.cl, T.nB, rf_brs, bl', _, rfl, .inl (SqL.of o'.hb), rfl, _, rfl, ?_⟩
        have el : (((qs'.reverse.map fun q : Addr × Addr => V.ref q.1) ++ [V.ref p']).length) = bs'.length + 1 := by
          rw [List.length_append, List.length_map, List.length_reverse, ll]
          rfl
        rw [el]
        match bs', qs', ll, o', ra', q with
        | [], [], _, o', ra', q =>
          refine ite_t (by simp) ?_
          refine ⟨_, rfl, r, CR, dx', _, _, rfl, o'.hr, T.cl, T.nB, rf_brs, bl', _, _, _, rfl, rfl, SqL.of o'.hb, atI_nat (j := 0) rfl, p', CB, dxb', _, _, rfl, o'.hp, TB.cl, TB.nT, bf_things, tl', _, rfl, .inl (SqL.of o'.ht), rfl, ?_⟩
          rw [lv]
          match hb : b'.things, q with
          | [], q =>
            have q : ∀ H', Same H0 H' → Q (.bl false) H' := by
              simpa [hb] using q
            exact q _ o'.s0
          | [d], q =>
            have q : ∀ H' b z q, RdAt CB CR H0 H' r ⟨[b], z, q⟩ → b.things = [d] → Q (.bl true) H' := by
              simpa [hb] using q
            exact q _ b' z' q' ra' hb
          | d :: d2 :: ds, q =>
            have q : ∀ H', Same H0 H' → Q (.bl false) H' := by
              simpa [hb] using q
            have e : decide (V.int (((d :: d2 :: ds).length : Nat) : Int) = V.int 1) = false := by
              refine decide_eq_false fun h => ?_
              have := V.int.inj h
              simp at this
              omega
            show Q (.bl (decide (V.int (((d :: d2 :: ds).length : Nat) : Int) = V.int 1))) _
            rw [e]
            exact q _ o'.s0
        | ob :: obs, _, _, o', ra', q =>
          refine ite_f (by simp; omega) ?_
          exact q _ o'.s0
end
end Wp
set_option Elab.async false
set_option linter.all false
set_option maxRecDepth 100000
set_option maxHeartbeats 4000000
namespace Wp
open PySem PySem.Spec PyProof.Rows L2
/-! ### errors over a built-in class other than the hand layer's: made, stored to -/
abbrev leTail : List Value := [.type "LookupError", .type "Exception", .type "BaseException", .type "object"]
section
open Builtin Builtin.ObjectAttr PySem.HandSPX PySem.W
variable {pr : Program} {wo : World} {Ar : Around} {Rs : Result → Shared → Prop} {h0 : Heap} {gs : Array GenState} {dn : Drawn} {tk0 : Nat} {oz : OsState}
theorem exc_store {K : PySem.W.Frag} {nm : Str} {tk : Tok} {u : Value} {e C : Addr} {fv : Array Value} {cd : ClassData} {bmB : List Value}
    (kin : K.In h0) (he : h0.get? e = some { cls := .ref C, data := .fields fv }) (hcd : PySem.W.clsIn K C = some cd) (hm : PySem.W.excTail bmB cd.mro = true) (hob : bmB.contains (.type "object") = true) (hps : ∀ self, refuseLoop self "__setattr__" bmB = pure ()) (hh : cd.hasDict = true) (ha : PySem.W.findIn K (.ref C) nm = some none)
    (k : ∀ h1 tk1 dx, (∀ b o, b ≠ e → h0.get? b = some o → h1.get? b = some o) → h0.objs.size ≤ dx → dx ≠ e → h1.get? e = some { cls := .ref C, dict := some dx, data := .fields fv } →
      h1.Ns1 dx (fun y => if y = nm then some u else none) → Rs (.ok (.ret .none)) ⟨h1, gs, dn, tk1, oz⟩) :
    codeAny (model pr wo) Ar (.call (.builtin "object.__setattr__") ⟨[.ref e, .str nm tk, u], []⟩) Rs ⟨h0, gs, dn, tk0, oz⟩ := by
  have at_ : PySem.W.InstAt h0 e { cls := .ref C, data := .fields fv } C none := ⟨he, rfl, rfl, trivial⟩
  have sf := F.store_object
  have hobj : cd.mro.contains (.type "object") = true := (PySem.W.excTail_contains "object" _ hm).trans hob
  have nemp : cd.mro.isEmpty = false := by
    cases q : cd.mro with
    | nil => rw [q] at hobj; cases hobj
    | cons _ _ => rfl
  have hes : e ≠ h0.objs.size := Nat.ne_of_lt (Heap.lt_size he)
  have isO : PySem.W.Looks (model pr wo) h0 (isInstance (.ref e) (.type "object")) true :=
    at_.type.andThen (PySem.W.looks_mroIn kin (by unfold PySem.W.mroIn; rw [hcd, Option.bind_some, if_neg (by rw [nemp]; decide), hobj]))
  refine codeAny_call_builtin sf.slot.plain sf.entry
    (@PySem.W.check_slot (model pr wo) _ _ ⟨h0, gs, dn, tk0, oz⟩ "object.__setattr__" "object" "__setattr__" (.ref e) [.str nm tk, u] [] _ sf.kind sf.split isO (sf.args (.ref e) (.str nm tk) u) ?_)
  have lm : PySem.W.Looks (model pr wo) h0 (mroOf (.ref C)) cd.mro := (PySem.W.looks_clsIn kin hcd).andThen .now
  have ln : PySem.W.Looks (model pr wo) h0 (storeTaker? none) none := .now
  have lc : PySem.W.Looks (model pr wo) h0 (classData C) cd := PySem.W.looks_clsIn kin hcd
  rw [PySem.W.osa_eq, refuse_eq]
  refine wpAny_bind (wpAny_bind (at_.type.at (wpAny_bind (lm.at ?_))))
  rw [PySem.W.excTail_pass _ (hps _) _ hm]
  refine wpAny_pure (wpAny_bind (at_.type.at (wpAny_bind ((PySem.W.looks_findIn kin ha).at (wpAny_bind (ln.at ?_))))))
  show wpAny _ _ (storeInOwnDict (.ref e) (.ref C) (.str nm tk) nm u false) _ _ _
  obtain ⟨n1, n2, n3, n4, n5, n6, n7, n8, n9, n10, n11⟩ := cd
  dsimp only at hh
  subst hh
  unfold storeInOwnDict ownDictForStores
  repeat (first | with_reducible refine store_in_new ?_ ?_ | with_reducible refine wpAny_loadPart_at he ?_ | with_reducible refine lc.at ?_ | wp_step)
  · exact ⟨_, #[], _, (Heap.get?_update_ne _ _ _ _ hes.symm).trans (Heap.get?_push_at rfl rfl), rfl, fun z hz => absurd hz (by simp), fun _ => rfl⟩
  · intro h1 tk1 ns1 same
    have he1 : (h0.push { cls := .type "dict", data := .dict #[] }).get? e = some { cls := .ref C, data := .fields fv } := Heap.get?_push_of_some _ he
    refine k h1 tk1 h0.objs.size (fun b o nb hb => ?_) (Nat.le_refl _) hes.symm ?_ ns1
    · exact (same.2 b (Nat.ne_of_lt (Heap.lt_size hb))).trans ((Heap.get?_update_ne _ _ _ _ nb).trans (Heap.get?_push_of_some _ hb))
    · exact (same.2 e hes).trans (Heap.get?_update_self _ he1 rfl)
end
/-- what the written part says of such a class -/
structure LeC (K : PySem.W.Frag) (C : Addr) : Prop where
  cls : ∃ nm q N bs bm sn sub ab col dd k0 k1 k2 k3 k5, K.lookup C = some (excClassObj nm q C N bs bm true sn sub ab col dd k0 k1 k2 k3 k5 "LookupError.__new__") ∧ PySem.W.excTail leTail bm = true
  sa : PySem.W.findIn K (.ref C) "__setattr__" = some (some (.builtin "object.__setattr__"))
  exC : PySem.W.subIn K (.ref C) (.type "BaseException") = some true
  tyC : PySem.W.typeIn K (.ref C) = some (.type "type")
  kC : PySem.W.keepIn K (.ref C) = true
section
variable {X : Cx} {pins : List (Addr × Obj)} {σ : L2.St} {H : Hp} {s : Shared} {a C : Addr} {f : Str} {y : V} {u : Value} {Q : Unit → Shared → Prop} {E : Value → Shared → Prop} {A : Around}
theorem le_store (T : LeC X.K C) (I : Inv X pins σ H s) (e : H a = some (exo a C none)) (hno : PySem.W.findIn X.K (.ref C) f = some none) (ry : RelV y u)
    (k : ∀ dx s1, H dx = none → dx ≠ a → Inv X pins σ (upd (upd H dx (exd dx [(f, y)])) a (exo a C (some dx))) s1 → Q () s1) : wpAny (model X.prog X.w) A (setAttr (.ref a) f u) Q E s := by
  obtain ⟨nm, q, N, bs, bm, sn, sub, ab, col, dd, k0, k1, k2, k3, k5, hC, hbm⟩ := T.cls
  have hcl : PySem.W.clsIn X.K C = some { name := nm, bases := bs, mro := .ref C :: bm, ns := N, qualname := q, hasDict := true, slotNames := sn, subclasses := sub, abstract := ab, collection := col, hasDel := false } := by unfold PySem.W.clsIn; rw [hC] <;> rfl
  obtain ⟨t1, ho⟩ := exo_at I.hok e
  obtain ⟨hp, g, d, t, os⟩ := s
  refine PySem.W.set_plain I.kIn (ox := { cls := .ref C, dict := none, data := .fields #[.ref t1, .none, .none, .none, .bool false, .none] }) (od := none) ⟨ho, rfl, rfl, trivial⟩ T.sa ?_
  refine exc_store (bmB := leTail) I.kIn ho hcl hbm (by decide +kernel) (fun self => F.store_LookupError.passes self) rfl hno (fun h1 tk1 dx kp dn dne hx hn => ?_)
  have hnd : H dx = none := I.hok.fresh dn
  have nd : ∀ {b : Addr} {o : Obj}, hp.get? b = some o → b ≠ dx := fun {b o} w => Nat.ne_of_lt (Nat.lt_of_lt_of_le (Heap.lt_size w) dn)
  have na : ∀ {b : Addr}, H b = none → b ≠ a := fun {b} n z => by
    rw [z, e] at n
    cases n
  have un : Un X.fs [] H (upd (upd H dx (exd dx [(f, y)])) a (exo a C (some dx))) hp h1 :=
    { keep := fun b o w n _ _ => kp b o (na n) w
      slot := fun b o w n _ _ => ⟨o.slots, kp b o (na n) w⟩
      free := fun b o w n _ => by rw [upd_ne (na n), upd_ne (nd w)]; exact n
      there := fun b o w _ => by
        by_cases hb : b = a
        · exact ⟨_, by rw [hb]; exact hx⟩
        · exact ⟨o, kp b o hb w⟩
      tups := fun b xs w => by rw [upd_ne (at_ne e w exo_tup), upd_ne (ne_of_none w hnd)]; exact w
      frzs := fun b o v w => by rw [upd_ne (at_ne e w exo_frz), upd_ne (ne_of_none w hnd)]; exact w
      tbls := fun b ps w => ⟨#[], by rw [upd_ne (at_ne e w exo_tbl), upd_ne (ne_of_none w hnd), w]; simp⟩ }
  refine k dx _ hnd dne (I.un (t' := tk1) un fun b o w => ?_)
  by_cases hb : b = a
  · subst hb
    rw [upd_same] at w
    cases w
    exact exo_ok hx
  rw [upd_ne hb] at w
  by_cases hd : b = dx
  · subst hd
    rw [upd_same] at w
    cases w
    exact exd_ok hn (relO_put (fs := []) ry fun _ => True.intro)
  rw [upd_ne hd] at w
  refine (I.hok b o w).stay (fun c v hc z => kp c v ?_ z) (fun c hc => ?_) (fun c xs hc => ?_)
  · rcases hc with hc | hc
    · rw [hc]; exact hb
    · exact at_ne e hc exo_own
  · rw [upd_ne (at_ne e hc exo_own), upd_ne (ne_of_none hc hnd)]; exact hc
  · rw [upd_ne (at_ne e hc exo_tup), upd_ne (ne_of_none hc hnd)]; exact hc
theorem le_init {us : List Value} {Q : Value → Shared → Prop} (T : LeC X.K C) (I : Inv X pins σ H s) (e : H a = some (exo a C none)) (hl : us.length ≤ sizeLine) (k : ∀ s1, Inv X pins σ H s1 → Q .none s1) :
    wpAny (model X.prog X.w) A (call (.builtin "LookupError.__init__") (.ref a :: us)) Q E s := by
  obtain ⟨nm, q, N, bs, bm, sn, sub, ab, col, dd, k0, k1, k2, k3, k5, hC, hbm⟩ := T.cls
  obtain ⟨t1, ho⟩ := exo_at I.hok e
  obtain ⟨hp, g, d, t, os⟩ := s
  refine wpAny_call (PySem.HandSPX.init_base F.excBase_LookupError (fun Y => PySem.W.excTail_contains Y bm hbm) (I.kIn _ _ hC) ho hl fun h1 t2 kp hx => ?_)
  have J := I.write (t' := t) (x := a) (e := a) (o := exo a C none) (by rw [e]; exact True.intro) (.inl rfl) kp ⟨_, hx⟩ (exo_ok hx)
  have same : upd H a (exo a C none) = H := funext fun b => by
    by_cases hb : b = a
    · rw [hb, upd_same, e]
    · rw [upd_ne hb]
  rw [same] at J
  exact k _ J
end
def tLeI (K : PySem.W.Frag) (ta : TA) : TE := fun σ H Q => ta σ H fun vs H1 => ∃ (a C : Addr) (ws : List V), vs = .ref a :: ws ∧ ws.length ≤ 1000 ∧ LeC K C ∧ H1 a = some (exo a C none) ∧ Q .non H1
def tLeS (K : PySem.W.Frag) (f : Str) (to te : TE) : TS := fun D σ H => te σ H fun y H1 => to σ H1 fun x H2 => ∃ a C : Addr, x = .ref a ∧ LeC K C ∧ PySem.W.findIn K (.ref C) f = some none ∧ H2 a = some (exo a C none) ∧
  ∀ dx, H2 dx = none → dx ≠ a → D.nx σ (upd (upd H2 dx (exd dx [(f, y)])) a (exo a C (some dx)))
theorem typ_LE : typeOf (.type "LookupError") = pure (.type "type") := by kernel_rfl
section
variable {X : Cx} {o e : Expr} {es : List Expr} {to te : TE} {ta : TA} {f : Str} {p p' p1 p2 pos : Pos}
theorem pe_leinit {pl : Sem Bool} (hg : Gl X "LookupError") (hm : X.mg "LookupError" = none) (vV : PySem.W.findCls X.K (.type "LookupError") (.type "type") "__init__" = some (.val (.builtin "LookupError.__init__"))) (ha : PA X (e :: es) ta)
    (hc : eval (.Call (.Attribute (.Name "LookupError" p1) "__init__" p2) (e :: es) [] pos) X.env = (do
      let ov ← eval (.Name "LookupError" p1) X.env
      standAt p2.atName
      let (f, first) ← holding [ov] (getMethod ov "__init__" pl)
      callWith pos f first (backTo pos (starEach (e :: es) X.env)) (backToKw pos (keywordEach [] X.env))) := by rfl)
    (he : starEach (e :: es) X.env = (false, eval e X.env) :: starEach es X.env := by rfl) (hpl : (backTo pos (starEach es X.env)).any (·.1) = false := by rfl) :
    PE X (.Call (.Attribute (.Name "LookupError" p1) "__init__" p2) (e :: es) [] pos) (tLeI X.K ta) := by
  refine ⟨fun pins s σ H Q I h => ?_⟩
  refine PySem.W.methodCall_KW (ld_blt I hg hm PyProof.Rows.Boot.«LookupError» ?_ (by decide) (by decide)) hc
  obtain ⟨m, fr⟩ := I.fr
  refine PySem.W.method_type fr I.ok.mod.kin typ_LE (by decide +kernel) vV (by decide +kernel) ?_
  show wpAny _ _ (callWith pos (Value.builtin "LookupError.__init__") [] (backTo pos (starEach (e :: es) X.env)) []) _ _ _
  refine PyProof.Rows.callWith_method1 (thn (ha.run pos pins _ σ H _ (I.tok _) h) fun us s1 hh => ?_) he hpl
  obtain ⟨vs, H1, I1, r1, a, C, ws, ev, hl, T, ea, q⟩ := hh
  subst ev
  cases r1 with
  | @cons _ u0 _ ur ra rw' =>
    obtain rfl : u0 = Value.ref a := ra
    refine le_init T I1 ea ?_ fun s1 J => ⟨.non, H1, J, rfl, q⟩
    rw [← Paired.length rw', sizeLine_eq]
    omega
theorem ps_lest (ho : PE X o to) (he : PE X e te) (hs : swapsWith e (some (.Attribute o f p')) pos.line X.env = pure false := by rfl) : PS X (.Assign [.Attribute o f p'] e pos) (tLeS X.K f to te) := by
  refine ⟨fun pins s σ H D I h => ?_⟩
  refine plainObj_wpAny_Assign_Attribute (thn (he.run pins s σ H _ I h) fun v s1 h1 => ?_) hs
  obtain ⟨y, H1, I1, r1, q1⟩ := h1
  refine thn (ho.run pins s1 σ H1 _ I1 q1) fun u s2 h2 => ?_
  obtain ⟨x, H2, I2, r2, a, C, ex, T, hno, ea, q⟩ := h2
  subst ex
  obtain rfl : u = Value.ref a := r2
  exact le_store T I2 ea hno r1 fun dx s3 n ne J => ⟨σ, _, J, q dx n ne⟩
theorem pmk_le {CX : CXT} {x : Str} {C fI : Addr} {k : Nat} {fd : FuncData} {ps : List Str} {sp : Sp} (T : LeC X.K C) (iC : PySem.W.findIn X.K (.ref C) "__init__" = some (some (.ref fI))) (tI : PySem.W.typeIn X.K (.ref fI) = some (.type "function"))
    (F1 : FnOk X.prog X.w X.K X.mg X.base CX k fI fd ps sp) (hr : Room (k + 1) X.A) (hb : Binds X.K fd ps []) (hx : Passes CX X (fun _ _ _ => False)) (hg : Gl X x) (hm : X.mg x = some (.ref C)) (ha : PA X (e :: es) ta)
    (hdb : (x == ("__debug__" : Str)) = false := by decide) (he : starEach (e :: es) X.env = (false, eval e X.env) :: starEach es X.env := by rfl) (hpl : (backTo pos (starEach es X.env)).any (·.1) = false := by rfl) :
    PMk X (.Call (.Name x p) (e :: es) [] pos) (tMkO C sp [] ta) := by
  intro pins s σ H Q I h
  obtain ⟨nm, q, N, bs, bm, sn, sub, ab, col, dd, k0, k1, k2, k3, k5, hC, hbm⟩ := T.cls
  refine wpAny_Call_Name_kw (ld_glob I hg hm ?_ hdb)
  refine PySem.W.callWith_K (h₀ := X.base) I.ok.mod.kin T.kC (thn (ha.run pos pins s σ H _ I h) fun us s1 hh => ?_) he hpl
  obtain ⟨vs, H1, I1, r1, hz, q1⟩ := hh
  refine ⟨I1.kIn, ?_⟩
  show wpAny _ _ (call (.ref C) us) _ _ _
  obtain ⟨hp, g, dr, tk, os⟩ := s1
  have hsz : hp.objs.size ≤ hp.objs.size + 1 := Nat.le_succ _
  have hn : H1 (hp.objs.size + 1) = none := I1.hok.fresh hsz
  have hq := q1 (hp.objs.size + 1) hn
  have kk : ∀ b o, hp.get? b = some o → ((hp.push (PySem.W.kdv_tup us)).push (PySem.HandSPX.excO C hp.objs.size)).get? b = some o := fun b o z => Heap.get?_push_of_some _ (Heap.get?_push_of_some _ z)
  have hget : ((hp.push (PySem.W.kdv_tup us)).push (PySem.HandSPX.excO C hp.objs.size)).get? (hp.objs.size + 1) = some (PySem.HandSPX.excO C hp.objs.size) := by heap_get
  have I2 : Inv X pins σ (upd H1 (hp.objs.size + 1) (exo (hp.objs.size + 1) C none)) ⟨(hp.push (PySem.W.kdv_tup us)).push (PySem.HandSPX.excO C hp.objs.size), g, dr, tk, os⟩ :=
    I1.laid (t' := tk) (a := hp.objs.size + 1) (o := exo (hp.objs.size + 1) C none) (h' := (hp.push (PySem.W.kdv_tup us)).push (PySem.HandSPX.excO C hp.objs.size)) kk hsz (exo_ok hget)
  have r2 : Vals (V.ref (hp.objs.size + 1) :: (vs ++ [])) (Value.ref (hp.objs.size + 1) :: (us ++ [])) := .cons rfl (r1.append .nil)
  have hl : (Value.ref (hp.objs.size + 1) :: us ++ []).length = ps.length := by
    have z := r2.length
    rw [F1.len _ _ _ _ hq] at z
    exact z.symm
  have hus : us.length ≤ sizeLine := by
    rw [← Paired.length r1, sizeLine_eq]
    omega
  refine wpAny_call (PySem.HandSPX.call_own F.excBase_LookupError (fun Y => PySem.W.excTail_contains Y bm hbm) (I1.kIn _ _ hC) (PySem.W.looks_findIn I1.kIn iC) (fun self => PySem.W.bind_fn I1.kIn self tI) hus
    (codeAny_mono (F1.run _ X.stack _ _ ⟨Value.ref (hp.objs.size + 1) :: us, []⟩ (Value.ref (hp.objs.size + 1) :: (us ++ [])) _ _ (fun _ _ _ => False) (hr.make C us []) (I2.env0.make C us []) (show BindsTo _ fd _ (ps.zip (Value.ref (hp.objs.size + 1) :: (us ++ []))) from hb _ (Value.ref (hp.objs.size + 1) :: us) I2.kIn hl) r2 hq) fun r s2 back => ?_))
  cases r with
  | error er => exact hx pins σ _ _ er s2 I2 back
  | ok fl =>
    cases fl with
    | ret u =>
      obtain ⟨v, H2, os2, bare2, un2, hok2, rv, ev, d, fs, ea, ed, hd1, q2⟩ := back
      subst ev
      obtain ⟨h2, g2, d2, t2, os'⟩ := s2
      exact ⟨rv, mk_end (raises_own T.exC T.tyC) I1 hsz kk un2 hok2 os2 bare2 ea ed hd1 q2⟩
    | next => exact False.elim back
    | brk => exact False.elim back
    | cont => exact False.elim back
end
end Wp
set_option Elab.async false
set_option linter.all false
set_option maxRecDepth 100000
set_option maxHeartbeats 4000000
namespace Wp
open PySem PySem.Spec PyProof.Rows L2
/-- a caught error that is kept: its class, its dict -/
def exK (e : Addr) (cls : Value) (d : Option Addr) : HO := .ext fun h => ∃ (oe : Obj) (vs : Array Value), h.get? e = some oe ∧ Zc cls d oe ∧ oe.data = .fields vs
theorem exK_ok {P : Program} {w : World} {H : Hp} {h : Heap} {e : Addr} {cls : Value} {d : Option Addr} {oe : Obj} {vs : Array Value} (g : h.get? e = some oe) (z : Zc cls d oe) (q : oe.data = .fields vs) : ObjOk P w H h e (exK e cls d) :=
  ⟨⟨oe, vs, g, z, q⟩, ⟨oe, g⟩, fun _ _ ⟨o, v, g, r⟩ k => ⟨o, v, k o g, r⟩⟩
theorem exK_at {P : Program} {w : World} {H : Hp} {h : Heap} {e : Addr} {cls : Value} {d : Option Addr} (hok : HOk P w H h) (q : H e = some (exK e cls d)) : ∃ (oe : Obj) (vs : Array Value), h.get? e = some oe ∧ Zc cls d oe ∧ oe.data = .fields vs :=
  (show ObjOk P w H h e (.ext fun h => ∃ (oe : Obj) (vs : Array Value), h.get? e = some oe ∧ Zc cls d oe ∧ oe.data = .fields vs) from hok e _ q).1
section
variable {X : Cx} {pins : List (Addr × Obj)} {σ : L2.St} {H : Hp} {s : Shared}
/-- an object of ours that is new since the entry is tracked from now on -/
theorem inv_track {a : Addr} {o : HO} (I : Inv X pins σ H s) (n0 : X.s_0.heap.get? a = none) (na : H a = none) (nL : a ≠ X.env.locals) (nC : ∀ x c, X.env.cells.lookup x = some c → c ≠ a) (np : ∀ p ∈ X.pn ++ pins, p.1 ≠ a) (new : ObjOk X.prog X.w (upd H a o) s.heap a o) :
    Inv X pins σ (upd H a o) s where
  ok := I.ok
  os := I.os
  bare := I.bare
  base :=
    { keep := I.base.keep
      slot := I.base.slot
      free := fun b u e n x => by
        rw [upd_ne (fun z => by rw [z, n0] at e; cases e)]
        exact I.base.free b u e n x
      there := I.base.there
      tups := fun b xs e => by
        have q := I.base.tups b xs e
        rw [upd_ne (ne_of_none q na)]
        exact q
      frzs := fun b u v e => by
        have q := I.base.frzs b u v e
        rw [upd_ne (ne_of_none q na)]
        exact q
      tbls := fun b ps e => by
        obtain ⟨m, q⟩ := I.base.tbls b ps e
        exact ⟨m, by rw [upd_ne (ne_of_none q na)]; exact q⟩ }
  loc := I.loc
  cell := I.cell
  free := by rw [upd_ne (Ne.symm nL)]; exact I.free
  freeC := fun x c e => by rw [upd_ne (nC x c e)]; exact I.freeC x c e
  pin := fun p hp => by
    obtain ⟨e, n, r⟩ := I.pin p hp
    exact ⟨e, by rw [upd_ne (np p hp)]; exact n, r⟩
  hok := fun b u e => by
    by_cases hb : b = a
    · subst hb
      rw [upd_same] at e
      cases e
      exact new
    · rw [upd_ne hb] at e
      exact (I.hok b u e).stay (fun _ _ _ q => q) (fun c q => by rw [upd_ne (ne_of_none q na)]; exact q) fun c xs q => by rw [upd_ne (ne_of_none q na)]; exact q
  len := I.len
end
/-- more objects: the flight goes on -/
theorem fly_keep {B h h' : Heap} {l : List Env} {e : Addr} {Z : Obj → Prop} (f : HandSPX.FlyingZ B l e Z h) (k : ∀ b o, h.get? b = some o → h'.get? b = some o) : HandSPX.FlyingZ B l e Z h' := by
  obtain ⟨f1, f2, f3, oe, vs, T, oT, ts, g1, g2, g3, g4, g5, g6, g7, g8, g9⟩ := f
  exact ⟨fun b o q => k b o (f1 b o q), f2, PySem.Heap.FunFrames.of_keeps (fun b o q _ => ⟨o, k b o q, rfl⟩) f3, oe, vs, T, oT, ts, k _ _ g1, g2, g3, g4, g5, g6, k _ _ g7, g8, g9⟩
/-- what «except (x1, x2, x3) as n» wishes, the error being kept behind it -/
def wKeep (K : PySem.W.Frag) (c1 c2 c3 : Value) (i : Nat) (ts : Addr → Value → Option Addr → TS) (D : Ends) : WX := fun cls d σ H =>
  PySem.W.exmAny K cls [c1, c2, c3] = some true ∧ ∀ a, H a = none → ts a cls d { nx := fun σ' H' => D.nx (σ'.set i none) (upd H' a (exK a cls d)), rt := fun _ _ => False, bk := fun _ _ => False, ct := fun _ _ => False } (σ.set i (some (.ref a))) H
section
variable {X : Cx} {x1 x2 x3 n : Str} {C1 C2 C3 : Addr} {i : Nat} {body suite : List Stmt} {b0 : Stmt} {p1 p2 p3 tp pos pos' : Pos} {kk : Nat} {tb : WX → TS} {ts : Addr → Value → Option Addr → TS}
theorem ps_try_keep (hs : X.stack = X.env :: X.outer) (hf : X.env.frame = some X.env.locals) (hex : X.ex = []) (hN : X.N.Nodup) (hi : X.N[i]? = some n) (hln : X.env.kindOf n = some .local)
    (g1 : Gl X x1) (m1 : X.mg x1 = some (.ref C1)) (g2 : Gl X x2) (m2 : X.mg x2 = some (.ref C2)) (g3 : Gl X x3) (m3 : X.mg x3 = some (.ref C3))
    (hb : ∀ (W : WX) (pn : List (Addr × Obj)) (xe : Value → Shared → Prop), Takes (X.tr pn xe) W → PassesOwn (model X.prog X.w) X.A X.env xe → PSs (X.tr pn xe) body (tb W))
    (hsu : ∀ (a : Addr) (oe : Obj) (cls : Value) (d : Option Addr) (pn : List (Addr × Obj)), Zc cls d oe → (∃ vs, oe.data = .fields vs) → PSs (X.suite a ((a, oe) :: pn)) (b0 :: suite) (ts a cls d))
    (d1 : (x1 == ("__debug__" : Str)) = false := by decide) (d2 : (x2 == ("__debug__" : Str)) = false := by decide) (d3 : (x3 == ("__debug__" : Str)) = false := by decide) :
    PS X (.Try body [.ExceptHandler (some (.Tuple [.Name x1 p1, .Name x2 p2, .Name x3 p3] kk tp)) (some n) (b0 :: suite) pos'] [] [] pos) (fun D σ H => tb (wKeep X.K (.ref C1) (.ref C2) (.ref C3) i ts D) D σ H) := by
  refine ⟨fun pins s σ H D I h => ?_⟩
  have ok := I.ok
  have hfr : X.A.frames = some (X.env :: X.outer) := by rw [ok.frames, hs]
  have hloc : Loc X.env.scope n := .inl hln
  refine wpAny_Try_except ?_
  refine wpAny_mono ((hb (wKeep X.K (.ref C1) (.ref C2) (.ref C3) i ts D) (X.pn ++ pins)
    (fun e s1 => wpAny (model X.prog X.w) X.A (noteFrame e X.env) (fun _ s2 => wpAny (model X.prog X.w) X.A (setFlight e none) (fun _ s3 =>
      wpAny (model X.prog X.w) X.A (handleBy e X.env [.ExceptHandler (some (.Tuple [.Name x1 p1, .Name x2 p2, .Name x3 p3] kk tp)) (some n) (b0 :: suite) pos']) (SP X pins D) X.xe s3) X.xe s2) X.xe s1)
    (fun u s' xx => ?_) PassesOwn.looking).run [] s σ H D (I.toTry _) h) (fun fl s1 hsp => ?_) (fun e s1 he => he)
  · obtain ⟨a, B, sI, pins', σ', H', cls, d, rfl, J', nb, up, sky, na, os, ag, hb1, hyes⟩ := xx
    have J : Inv X pins σ' H' sI := J'.ofTry ok
    have sky' : Sky B (X.env :: X.outer) a (Zc cls d) X.env.locals s'.heap := by rw [← hs]; exact sky
    show wpAny (model X.prog X.w) X.A (noteFrame (.ref a) X.env) _ _ _
    refine Sky.land Zc.steady hfr hf sky' fun h3 fl3 up3 => ?_
    have J3 : Inv X pins σ' H' { s' with heap := h3 } := J.landed nb fl3.1 (up.trans up3) os ag
    obtain ⟨oe3, vs3, he3, hz3, hd3⟩ := fl3.there
    have nfr : a ∉ frs (X.env :: X.outer) := fun hm => by
      obtain ⟨_, o', e', hnf⟩ := fl3.2.2.1.mem hm
      rw [he3] at e'
      cases e'
      exact hnf _ hd3
    have nL : a ≠ X.env.locals := fun z => nfr (List.mem_filterMap.mpr ⟨X.env, List.mem_cons_self, by rw [hf, z]⟩)
    have nF : a ∉ X.fs := fun hm => by
      obtain ⟨e, he, q⟩ := List.mem_filterMap.mp hm
      exact nfr (List.mem_filterMap.mpr ⟨e, List.mem_cons_of_mem _ he, q⟩)
    have nI : sI.heap.get? a = none := by
      cases q : sI.heap.get? a with
      | none => rfl
      | some o =>
        have z := nb a o q (by rw [hs]; exact nfr)
        rw [fl3.2.1] at z
        cases z
    have n0 : X.s_0.heap.get? a = none := by
      cases q : X.s_0.heap.get? a with
      | none => rfl
      | some o =>
        obtain ⟨o', z⟩ := J.base.there a o q (by rw [hex]; exact fun z => nomatch z)
        rw [nI] at z
        cases z
    have nP : ∀ p ∈ X.pn ++ pins, p.1 ≠ a := fun p hp z => by
      have q := (J.pin p hp).1
      rw [z, nI] at q
      cases q
    have S3 := J3.suite he3 hd3 na nL nF
    refine wpAny_handleBy_cons (codeAny_handlers_test ?_) (by intro q; cases q)
    have LT : PySem.W.Looks (model X.prog X.w) h3 (typeOf (.ref a)) cls := fun A Q E s k q => wpAny_typeOf_ref (k _ _ he3) (by rw [hz3.1]; exact q)
    have nm : ∀ {x : Str} {C : Addr} {p : Pos} {Q : Value → Shared → Prop} {E : Value → Shared → Prop}, Gl X x → X.mg x = some (.ref C) → (x == ("__debug__" : Str)) = false → Q (.ref C) { s' with heap := h3 } → wpAny (model X.prog X.w) (X.A.mark (some (.ref a))) (eval (.Name x p) X.env) Q E { s' with heap := h3 } :=
      fun {x C p Q E} hg hm hd q => ld_glob (X := X.suite a ((a, oe3) :: (X.pn ++ pins))) S3 hg hm q hd
    refine wpAny_Tuple ?_
    refine wpAny_items_cons (nm g1 m1 d1 ?_)
    refine wpAny_items_cons (nm g2 m2 d2 ?_)
    refine wpAny_items_cons (nm g3 m3 d3 ?_)
    refine wpAny_items_nil ⟨(by show 3 ≤ sizeLine; decide), ?_⟩
    have kp : ∀ q o, h3.get? q = some o → (h3.push { cls := .type "tuple", data := .seq [Value.ref C1, Value.ref C2, Value.ref C3].toArray }).get? q = some o := fun _ _ z => Heap.get?_push_of_some _ z
    refine (PySem.W.exm_tup3 (J3.kIn.keeps kp) (LT.keeps kp) (Heap.get?_push_size h3 rfl) hb1).here ?_
    refine codeAny_handlers_suite_as ?_
    refine HandSPX.lands_againZ (fly_keep fl3 kp) fun h4 fl4 up4 => ?_
    have st : B.StaysIn h4 := fl4.1
    have up3' : sI.heap.UpToSlots (h3.push { cls := .type "tuple", data := .seq [Value.ref C1, Value.ref C2, Value.ref C3].toArray }) := fun b o e n => by
      obtain ⟨sl, z⟩ := (up.trans up3) b o e n
      exact ⟨sl, kp _ _ z⟩
    have J4 : Inv X pins σ' H' { s' with heap := h4 } := J.landed nb st (up3'.trans up4) os ag
    obtain ⟨oe4, vs4, he4, hz4, hd4⟩ := fl4.there
    have S4 := J4.suite he4 hd4 na nL nF
    refine store_ok (X := X.suite a ((a, oe4) :: (X.pn ++ pins))) (v := .ref a) S4 hN hi hloc rfl (fun s5 S5 => ?_) (.inr hln)
    refine wpAny_mono ((hsu a oe4 cls d (X.pn ++ pins) hz4 ⟨_, hd4⟩).run [] s5 _ H' _ S5 (hyes a na)) (fun fl s6 hsp => ?_) (fun _ _ z => False.elim z)
    cases fl with
    | next =>
      obtain ⟨σ6, H6, S6, q6⟩ := hsp
      obtain ⟨e6, n6, _⟩ := S6.pin (a, oe4) (List.mem_append_left _ List.mem_cons_self)
      have T6 := S6.unsuite ok
      have nC : ∀ x c, X.env.cells.lookup x = some c → c ≠ a := fun x c e z => by
        obtain ⟨v, o, ho, hc⟩ := T6.cell x c e
        rw [z] at ho
        have e7 : s6.heap.get? a = some oe4 := e6
        rw [e7] at ho
        cases ho
        rw [hd4] at hc
        cases hc
      have T7 := inv_track (o := exK a cls d) T6 n0 n6 nL nC nP (exK_ok e6 hz4 hd4)
      exact gone_ok T7 hN hi hln fun s7 J7 => ⟨_, _, J7, q6⟩
    | brk =>
      obtain ⟨_, _, _, q6⟩ := hsp
      exact q6.elim
    | cont =>
      obtain ⟨_, _, _, q6⟩ := hsp
      exact q6.elim
    | ret u =>
      obtain ⟨_, _, _, _, _, q6⟩ := hsp
      exact q6.elim
  · cases fl with
    | next =>
      obtain ⟨σ', H', J', q⟩ := hsp
      exact wpAny_execs_nil ⟨σ', H', J'.ofTry ok, q⟩
    | brk =>
      obtain ⟨σ', H', J', q⟩ := hsp
      exact ⟨σ', H', J'.ofTry ok, q⟩
    | cont =>
      obtain ⟨σ', H', J', q⟩ := hsp
      exact ⟨σ', H', J'.ofTry ok, q⟩
    | ret u =>
      obtain ⟨v, σ', H', J', r, q⟩ := hsp
      exact ⟨v, σ', H', J'.ofTry ok, r, q⟩
end
/-- kept.f -/
def tKf (K : PySem.W.Frag) (f : Str) (te : TE) : TE := fun σ H Q => te σ H fun x H1 => ∃ (a C dd : Addr) (fs : List (Str × V)) (v : V), x = .ref a ∧ H1 a = some (exK a (.ref C) (some dd)) ∧ XfC K C ∧ PySem.W.findIn K (.ref C) f = some none ∧ H1 dd = some (.xd fs) ∧ fs.lookup f = some v ∧ Q v H1
theorem pe_kf {X : Cx} {e : Expr} {te : TE} {pos : Pos} {f : Str} (he : PE X e te) (hb : attributeBase e f X.env (eval e X.env) = eval e X.env := by rfl) : PE X (.Attribute e f pos) (tKf X.K f te) := by
  refine ⟨fun pins s σ H Q I h => ?_⟩
  refine attr_of hb (thn (he.run pins s σ H _ I h) fun u s1 hh => ?_)
  obtain ⟨x, H1, I1, rx, a, C, dd, fs, v, ex, ea, T, hno, ed, l, q⟩ := hh
  subst ex
  obtain rfl : u = Value.ref a := rx
  obtain ⟨oe, vs, ho, hz, hd⟩ := exK_at I1.hok ea
  obtain ⟨mA, hns, hr⟩ := (show ObjOk X.prog X.w H1 s1.heap dd (.xd fs) from I1.hok dd _ ed)
  obtain ⟨od, hod, hl⟩ := lookIn_ns hns
  obtain ⟨u, hu, ru⟩ := RelO.some_of (v := v) (o := mA f) (by rw [← l]; exact hr f)
  have J : PySem.W.InstAt s1.heap a oe C (some od) := ⟨ho, hz.1, by unfold PySem.W.notCls; rw [hd] <;> rfl, by rw [hz.2]; exact hod⟩
  exact HandSPX.exc_get I1.kIn J T.ga T.gg T.exC (PySem.W.findObj_own T.hdC hno rfl (by rw [hl, hu])) (handed_of ru) ⟨v, H1, I1.tok _, ru, q⟩
/-- what isinstance asks of the class of a kept error -/
structure IsC (K : PySem.W.Frag) (C : Addr) : Prop where
  cl : (PySem.W.clsIn K C).isSome = true
  ga : PySem.W.findIn K (.ref C) "__getattribute__" = some (some (.builtin "BaseException.__getattribute__"))
  gg : PySem.W.findIn K (.ref C) "__getattr__" = some none
  su : PySem.W.subIn K (.ref C) (.type "BaseException") = some true
  hc : PySem.W.findIn K (.ref C) "__class__" = some (some (.builtin "object.__class__"))
  hn : PySem.W.specialIn K (.builtin "object.__class__") "__get__" = some (some (.builtin "getset_descriptor.__get__"))
  ht : PySem.W.takesIn K (.builtin "object.__class__") = some true
  hm : PySem.W.mroIn K C (.type "object") = some true
/-- isinstance(kept, c) -/
def rIsK (K : PySem.W.Frag) : List V → Hp → VK → Prop := fun xs H Q => ∃ (a C dd : Addr) (fs : List (Str × V)) (c : V) (u : Value) (b : Bool), xs = [.ref a, c] ∧ ClsV c u ∧ H a = some (exK a (.ref C) (some dd)) ∧ H dd = some (.xd fs) ∧ IsC K C ∧ PySem.W.kitOne K (.ref C) u = some b ∧ Q (.bl b) H
theorem call_isK {X : Cx} : CallR X (.builtin "isinstance") (rIsK X.K) := by
  intro pins s σ H xs us Q I r h
  obtain ⟨a, C, dd, fs, c, u, b, rfl, hc, ea, ed, T, e, q⟩ := h
  obtain ⟨u1, u2, rfl, r1, r2⟩ := vals2 r
  have e2 := hc.eq r2
  subst e2
  obtain rfl : u1 = Value.ref a := r1
  obtain ⟨oe, vs, ho, hz, hd⟩ := exK_at I.hok ea
  obtain ⟨mA, hns, hr⟩ := (show ObjOk X.prog X.w H s.heap dd (.xd fs) from I.hok dd _ ed)
  obtain ⟨od, hod, hl⟩ := lookIn_ns hns
  have J : PySem.W.InstAt s.heap a oe C (some od) := ⟨ho, hz.1, by unfold PySem.W.notCls; rw [hd] <;> rfl, by rw [hz.2]; exact hod⟩
  exact PySem.W.kia_one (PySem.W.kitx_exc T.cl T.ga T.gg T.su T.hc T.hn T.ht T.hm) I.kIn J e (fun z => nomatch z) fun tk => ⟨.bl b, H, I.tok tk, rfl, q⟩
end Wp
set_option Elab.async false
set_option linter.all false
set_option maxRecDepth 100000
set_option maxHeartbeats 4000000
namespace Wp
open PySem PySem.Spec PyProof.Rows L2
/-- seven classes, of which the sixth is the one -/
structure Ex7 (K : PySem.W.Frag) (cls c1 c2 c3 c4 c5 c6 c7 : Value) : Prop where
  y1 : PySem.W.exmOne K cls c1 = some false
  y2 : PySem.W.exmOne K cls c2 = some false
  y3 : PySem.W.exmOne K cls c3 = some false
  y4 : PySem.W.exmOne K cls c4 = some false
  y5 : PySem.W.exmOne K cls c5 = some false
  y6 : PySem.W.exmOne K cls c6 = some true
  y7 : PySem.W.exmOne K cls c7 = some false
theorem exm_tup7 {M : Model} {K : PySem.W.Frag} {c1 c2 c3 c4 c5 c6 c7 kl : Value} {at_ er : Addr} {hp : Heap} (X : K.In hp) (ty : PySem.W.Looks M hp (typeOf (.ref er)) kl) (tu : hp.get? at_ = some { cls := .type "tuple", data := .seq [c1, c2, c3, c4, c5, c6, c7].toArray }) (Y : Ex7 K kl c1 c2 c3 c4 c5 c6 c7) :
    PySem.W.Looks M hp (excMatches (.ref er) (.ref at_)) true := by
  intro A Q E s kp want
  obtain ⟨now, gn, dr, to, o_s⟩ := s
  have kk : ∀ b o, hp.get? b = some o → now.get? b = some o := kp
  have isT : PySem.W.Looks M hp (isInstance (.ref at_) (.type "tuple")) true := ((PySem.W.Looks.ld tu).andThen .now).andThen (PySem.W.Looks.of_pure isSubtype_tuple_tuple)
  obtain ⟨u1, v1⟩ := PySem.W.exm_cls (M := M) X Y.y1
  replace u1 := u1.keeps kk
  replace v1 := v1.keeps kk
  obtain ⟨u2, v2⟩ := PySem.W.exm_cls (M := M) X Y.y2
  replace u2 := u2.keeps kk
  replace v2 := v2.keeps kk
  obtain ⟨u3, v3⟩ := PySem.W.exm_cls (M := M) X Y.y3
  replace u3 := u3.keeps kk
  replace v3 := v3.keeps kk
  obtain ⟨u4, v4⟩ := PySem.W.exm_cls (M := M) X Y.y4
  replace u4 := u4.keeps kk
  replace v4 := v4.keeps kk
  obtain ⟨u5, v5⟩ := PySem.W.exm_cls (M := M) X Y.y5
  replace u5 := u5.keeps kk
  replace v5 := v5.keeps kk
  obtain ⟨u6, v6⟩ := PySem.W.exm_cls (M := M) X Y.y6
  replace u6 := u6.keeps kk
  replace v6 := v6.keeps kk
  obtain ⟨u7, v7⟩ := PySem.W.exm_cls (M := M) X Y.y7
  replace u7 := u7.keeps kk
  replace v7 := v7.keeps kk
  replace ty := ty.keeps kk
  replace isT := isT.keeps kk
  have tu2 := kk _ _ tu
  unfold excMatches
  refine wpAny_bind (isT.at ?_)
  dsimp only
  rw [if_pos rfl]
  first
    | refine wpAny_bind (wpAny_seqItems tu2 rfl ?_)
    | refine wpAny_bind (wpAny_bind (wpAny_seqItems tu2 rfl (wpAny_pure ?_)))
  dsimp only [Option.getD_some, Option.getD]
  (repeat (first | simp only [List.forIn_cons, List.forIn_nil, Bool.not_true, Bool.false_eq_true, if_false, if_true] | lk))
  exact want
/-- what «except (x1, .., x7) as n» wishes, the error being kept behind it -/
def wKeep7 (K : PySem.W.Frag) (c1 c2 c3 c4 c5 c6 c7 : Value) (i : Nat) (ts : Addr → Value → Option Addr → TS) (D : Ends) : WX := fun cls d σ H =>
  Ex7 K cls c1 c2 c3 c4 c5 c6 c7 ∧ ∀ a, H a = none → ts a cls d { nx := fun σ' H' => D.nx (σ'.set i none) (upd H' a (exK a cls d)), rt := fun _ _ => False, bk := fun _ _ => False, ct := fun _ _ => False } (σ.set i (some (.ref a))) H
section
variable {X : Cx} {x1 x2 x3 x4 x5 x6 x7 n : Str} {C1 C2 C3 C4 C5 C6 C7 : Addr} {i : Nat} {body suite : List Stmt} {b0 : Stmt} {p1 p2 p3 p4 p5 p6 p7 tp pos pos' : Pos} {kk : Nat} {tb : WX → TS} {ts : Addr → Value → Option Addr → TS}
theorem ps_try_keep7 (hs : X.stack = X.env :: X.outer) (hf : X.env.frame = some X.env.locals) (hex : X.ex = []) (hN : X.N.Nodup) (hi : X.N[i]? = some n) (hln : X.env.kindOf n = some .local)
    (g1 : Gl X x1) (m1 : X.mg x1 = some (.ref C1)) (g2 : Gl X x2) (m2 : X.mg x2 = some (.ref C2)) (g3 : Gl X x3) (m3 : X.mg x3 = some (.ref C3)) (g4 : Gl X x4) (m4 : X.mg x4 = some (.ref C4)) (g5 : Gl X x5) (m5 : X.mg x5 = some (.ref C5)) (g6 : Gl X x6) (m6 : X.mg x6 = some (.ref C6)) (g7 : Gl X x7) (m7 : X.mg x7 = some (.ref C7))
    (hb : ∀ (W : WX) (pn : List (Addr × Obj)) (xe : Value → Shared → Prop), Takes (X.tr pn xe) W → PassesOwn (model X.prog X.w) X.A X.env xe → PSs (X.tr pn xe) body (tb W))
    (hsu : ∀ (a : Addr) (oe : Obj) (cls : Value) (d : Option Addr) (pn : List (Addr × Obj)), Zc cls d oe → (∃ vs, oe.data = .fields vs) → PSs (X.suite a ((a, oe) :: pn)) (b0 :: suite) (ts a cls d))
    (d1 : (x1 == ("__debug__" : Str)) = false := by decide) (d2 : (x2 == ("__debug__" : Str)) = false := by decide) (d3 : (x3 == ("__debug__" : Str)) = false := by decide) (d4 : (x4 == ("__debug__" : Str)) = false := by decide) (d5 : (x5 == ("__debug__" : Str)) = false := by decide) (d6 : (x6 == ("__debug__" : Str)) = false := by decide) (d7 : (x7 == ("__debug__" : Str)) = false := by decide) :
    PS X (.Try body [.ExceptHandler (some (.Tuple [.Name x1 p1, .Name x2 p2, .Name x3 p3, .Name x4 p4, .Name x5 p5, .Name x6 p6, .Name x7 p7] kk tp)) (some n) (b0 :: suite) pos'] [] [] pos) (fun D σ H => tb (wKeep7 X.K (.ref C1) (.ref C2) (.ref C3) (.ref C4) (.ref C5) (.ref C6) (.ref C7) i ts D) D σ H) := by
  refine ⟨fun pins s σ H D I h => ?_⟩
  have ok := I.ok
  have hfr : X.A.frames = some (X.env :: X.outer) := by rw [ok.frames, hs]
  have hloc : Loc X.env.scope n := .inl hln
  refine wpAny_Try_except ?_
  refine wpAny_mono ((hb (wKeep7 X.K (.ref C1) (.ref C2) (.ref C3) (.ref C4) (.ref C5) (.ref C6) (.ref C7) i ts D) (X.pn ++ pins)
    (fun e s1 => wpAny (model X.prog X.w) X.A (noteFrame e X.env) (fun _ s2 => wpAny (model X.prog X.w) X.A (setFlight e none) (fun _ s3 =>
      wpAny (model X.prog X.w) X.A (handleBy e X.env [.ExceptHandler (some (.Tuple [.Name x1 p1, .Name x2 p2, .Name x3 p3, .Name x4 p4, .Name x5 p5, .Name x6 p6, .Name x7 p7] kk tp)) (some n) (b0 :: suite) pos']) (SP X pins D) X.xe s3) X.xe s2) X.xe s1)
    (fun u s' xx => ?_) PassesOwn.looking).run [] s σ H D (I.toTry _) h) (fun fl s1 hsp => ?_) (fun e s1 he => he)
  · obtain ⟨a, B, sI, pins', σ', H', cls, d, rfl, J', nb, up, sky, na, os, ag, hb1, hyes⟩ := xx
    have J : Inv X pins σ' H' sI := J'.ofTry ok
    have sky' : Sky B (X.env :: X.outer) a (Zc cls d) X.env.locals s'.heap := by rw [← hs]; exact sky
    show wpAny (model X.prog X.w) X.A (noteFrame (.ref a) X.env) _ _ _
    refine Sky.land Zc.steady hfr hf sky' fun h3 fl3 up3 => ?_
    have J3 : Inv X pins σ' H' { s' with heap := h3 } := J.landed nb fl3.1 (up.trans up3) os ag
    obtain ⟨oe3, vs3, he3, hz3, hd3⟩ := fl3.there
    have nfr : a ∉ frs (X.env :: X.outer) := fun hm => by
      obtain ⟨_, o', e', hnf⟩ := fl3.2.2.1.mem hm
      rw [he3] at e'
      cases e'
      exact hnf _ hd3
    have nL : a ≠ X.env.locals := fun z => nfr (List.mem_filterMap.mpr ⟨X.env, List.mem_cons_self, by rw [hf, z]⟩)
    have nF : a ∉ X.fs := fun hm => by
      obtain ⟨e, he, q⟩ := List.mem_filterMap.mp hm
      exact nfr (List.mem_filterMap.mpr ⟨e, List.mem_cons_of_mem _ he, q⟩)
    have nI : sI.heap.get? a = none := by
      cases q : sI.heap.get? a with
      | none => rfl
      | some o =>
        have z := nb a o q (by rw [hs]; exact nfr)
        rw [fl3.2.1] at z
        cases z
    have n0 : X.s_0.heap.get? a = none := by
      cases q : X.s_0.heap.get? a with
      | none => rfl
      | some o =>
        obtain ⟨o', z⟩ := J.base.there a o q (by rw [hex]; exact fun z => nomatch z)
        rw [nI] at z
        cases z
    have nP : ∀ p ∈ X.pn ++ pins, p.1 ≠ a := fun p hp z => by
      have q := (J.pin p hp).1
      rw [z, nI] at q
      cases q
    have S3 := J3.suite he3 hd3 na nL nF
    refine wpAny_handleBy_cons (codeAny_handlers_test ?_) (by intro q; cases q)
    have LT : PySem.W.Looks (model X.prog X.w) h3 (typeOf (.ref a)) cls := fun A Q E s k q => wpAny_typeOf_ref (k _ _ he3) (by rw [hz3.1]; exact q)
    have nm : ∀ {x : Str} {C : Addr} {p : Pos} {Q : Value → Shared → Prop} {E : Value → Shared → Prop}, Gl X x → X.mg x = some (.ref C) → (x == ("__debug__" : Str)) = false → Q (.ref C) { s' with heap := h3 } → wpAny (model X.prog X.w) (X.A.mark (some (.ref a))) (eval (.Name x p) X.env) Q E { s' with heap := h3 } :=
      fun {x C p Q E} hg hm hd q => ld_glob (X := X.suite a ((a, oe3) :: (X.pn ++ pins))) S3 hg hm q hd
    refine wpAny_Tuple ?_
    refine wpAny_items_cons (nm g1 m1 d1 ?_)
    refine wpAny_items_cons (nm g2 m2 d2 ?_)
    refine wpAny_items_cons (nm g3 m3 d3 ?_)
    refine wpAny_items_cons (nm g4 m4 d4 ?_)
    refine wpAny_items_cons (nm g5 m5 d5 ?_)
    refine wpAny_items_cons (nm g6 m6 d6 ?_)
    refine wpAny_items_cons (nm g7 m7 d7 ?_)
    refine wpAny_items_nil ⟨(by show 7 ≤ sizeLine; decide), ?_⟩
    have kp : ∀ q o, h3.get? q = some o → (h3.push { cls := .type "tuple", data := .seq [Value.ref C1, Value.ref C2, Value.ref C3, Value.ref C4, Value.ref C5, Value.ref C6, Value.ref C7].toArray }).get? q = some o := fun _ _ z => Heap.get?_push_of_some _ z
    refine (exm_tup7 (J3.kIn.keeps kp) (LT.keeps kp) (Heap.get?_push_size h3 rfl) hb1).here ?_
    refine codeAny_handlers_suite_as ?_
    refine HandSPX.lands_againZ (fly_keep fl3 kp) fun h4 fl4 up4 => ?_
    have st : B.StaysIn h4 := fl4.1
    have up3' : sI.heap.UpToSlots (h3.push { cls := .type "tuple", data := .seq [Value.ref C1, Value.ref C2, Value.ref C3, Value.ref C4, Value.ref C5, Value.ref C6, Value.ref C7].toArray }) := fun b o e n => by
      obtain ⟨sl, z⟩ := (up.trans up3) b o e n
      exact ⟨sl, kp _ _ z⟩
    have J4 : Inv X pins σ' H' { s' with heap := h4 } := J.landed nb st (up3'.trans up4) os ag
    obtain ⟨oe4, vs4, he4, hz4, hd4⟩ := fl4.there
    have S4 := J4.suite he4 hd4 na nL nF
    refine store_ok (X := X.suite a ((a, oe4) :: (X.pn ++ pins))) (v := .ref a) S4 hN hi hloc rfl (fun s5 S5 => ?_) (.inr hln)
    refine wpAny_mono ((hsu a oe4 cls d (X.pn ++ pins) hz4 ⟨_, hd4⟩).run [] s5 _ H' _ S5 (hyes a na)) (fun fl s6 hsp => ?_) (fun _ _ z => False.elim z)
    cases fl with
    | next =>
      obtain ⟨σ6, H6, S6, q6⟩ := hsp
      obtain ⟨e6, n6, _⟩ := S6.pin (a, oe4) (List.mem_append_left _ List.mem_cons_self)
      have T6 := S6.unsuite ok
      have nC : ∀ x c, X.env.cells.lookup x = some c → c ≠ a := fun x c e z => by
        obtain ⟨v, o, ho, hc⟩ := T6.cell x c e
        rw [z] at ho
        have e7 : s6.heap.get? a = some oe4 := e6
        rw [e7] at ho
        cases ho
        rw [hd4] at hc
        cases hc
      have T7 := inv_track (o := exK a cls d) T6 n0 n6 nL nC nP (exK_ok e6 hz4 hd4)
      exact gone_ok T7 hN hi hln fun s7 J7 => ⟨_, _, J7, q6⟩
    | brk =>
      obtain ⟨_, _, _, q6⟩ := hsp
      exact q6.elim
    | cont =>
      obtain ⟨_, _, _, q6⟩ := hsp
      exact q6.elim
    | ret u =>
      obtain ⟨_, _, _, _, _, q6⟩ := hsp
      exact q6.elim
  · cases fl with
    | next =>
      obtain ⟨σ', H', J', q⟩ := hsp
      exact wpAny_execs_nil ⟨σ', H', J'.ofTry ok, q⟩
    | brk =>
      obtain ⟨σ', H', J', q⟩ := hsp
      exact ⟨σ', H', J'.ofTry ok, q⟩
    | cont =>
      obtain ⟨σ', H', J', q⟩ := hsp
      exact ⟨σ', H', J'.ofTry ok, q⟩
    | ret u =>
      obtain ⟨v, σ', H', J', r, q⟩ := hsp
      exact ⟨v, σ', H', J'.ofTry ok, r, q⟩
end
/-- isinstance(kept, (c1, c2, ..)) -/
def rIsKT (K : PySem.W.Frag) : List V → Hp → VK → Prop := fun xs H Q => ∃ (a C dd tp : Addr) (fs : List (Str × V)) (cs : List V) (us : List Value) (b : Bool), xs = [.ref a, .ref tp] ∧ H tp = some (.tup cs) ∧ Paired ClsV cs us ∧ H a = some (exK a (.ref C) (some dd)) ∧ H dd = some (.xd fs) ∧ IsC K C ∧ PySem.W.kitAny K (.ref C) us = some b ∧ Q (.bl b) H
theorem call_isKT {X : Cx} : CallR X (.builtin "isinstance") (rIsKT X.K) := by
  intro pins s σ H xs us Q I r h
  obtain ⟨a, C, dd, tp, fs, cs, ws, b, rfl, hT, k, ea, ed, T, e, q⟩ := h
  obtain ⟨u1, u2, rfl, r1, r2⟩ := vals2 r
  cases (show u2 = Value.ref tp from r2)
  obtain rfl : u1 = Value.ref a := r1
  obtain ⟨oe, vs, ho, hz, hd⟩ := exK_at I.hok ea
  obtain ⟨mA, hns, hr⟩ := (show ObjOk X.prog X.w H s.heap dd (.xd fs) from I.hok dd _ ed)
  obtain ⟨od, hod, hl⟩ := lookIn_ns hns
  have J : PySem.W.InstAt s.heap a oe C (some od) := ⟨ho, hz.1, by unfold PySem.W.notCls; rw [hd] <;> rfl, by rw [hz.2]; exact hod⟩
  obtain ⟨_, its, rv, o, h1, h2, n, h3⟩ := (show ObjOk X.prog X.w H s.heap tp (.tup cs) from I.hok tp _ hT)
  have e3 := ClsV.all k rv
  subst e3
  obtain ⟨oc, od2, dt, sl⟩ := o
  simp only at h2 h3
  subst h2 h3
  exact PySem.W.kia_tup (PySem.W.kitx_exc T.cl T.ga T.gg T.su T.hc T.hn T.ht T.hm) I.kIn J h1 e (fun z => nomatch z) fun tk => ⟨.bl b, H, I.tok tk, rfl, q⟩
end Wp
set_option Elab.async false
set_option linter.all false
set_option maxRecDepth 100000
namespace Wp
open PySem PySem.Spec PyProof.Rows L2
-- read_term: slots text 0, reader 1, at 2, sign 3
abbrev sread_term : Stmt := top 36
theorem scread_term : FnScope ["text", "reader", "at", "sign"] ["text"] (defScope sread_term) := ⟨rfl, rfl, rfl, by decide +kernel, rfl, by decide +kernel, by decide +kernel⟩
abbrev slread_term : List Str := ["text", "reader", "at", "sign"]
inductive Runs : Rd → List Nat → Rd → Prop
  | nil {st : Rd} : Runs st [] st
  | cons {st st1 st2 : Rd} {c : Nat} {cs : List Nat} : Ok st → (∀ s', completeF st = some s' → Ok s') → takeF st c = some st1 → Runs st1 cs st2 → Runs st (c :: cs) st2
theorem Runs.app {s1 s2 s3 : Rd} {cs ds : List Nat} (h : Runs s1 cs s2) (h2 : Runs s2 ds s3) : Runs s1 (cs ++ ds) s3 := by
  induction h with
  | nil => exact h2
  | cons a b c _ ih => exact .cons a b c (ih h2)
/-- a text that is read as d -/
def ReadsTo (z : Str) (d : PyData) : Prop := ∃ st, Runs ⟨[rootBr], "", none⟩ z.cps.toList st ∧ Ok st ∧ (∀ st', completeF st = some st' → Ok st') ∧ wholeF st = some d
def spRead : Sp := fun vs H Q _ => ∃ (z : Str) (d : PyData), vs = [.str z] ∧ ReadsTo z d ∧ ∀ v H', Same H H' → Dz H' v d → Q v H'
section
variable {P : Program} {w : World} {K : PySem.W.Frag} {mg : Str → Option Value} {base : Heap} {f CB CR nn : Addr} {fd : FuncData} {u1 u2 u3 : Tok}
theorem ok_read (F : Fun K "read_term" "read_term" sread_term f fd) (T : TxR K CR) (TB : TxB K CB) (m_enumerate : mg "enumerate" = none) (CReader : HasC P w K mg base "Reader" CR ["self"] 4 (spRI CB CR)) (Mtakes : HasM P w K mg base CR "takes" ["self", "sign"] 7 (spTakes CB CR)) (Mis_whole_text : HasM P w K mg base CR "is_whole_text" ["self"] 5 (spWhl CB CR)) : FnOk P w K mg base CX0 8 f fd ["text"] spRead := by
  have clR := T.cl
  refine F.ok scread_term (fun vs H Q E h => ?_) (fun cdv A outer s H vs Q E hr h => ?_)
  · obtain ⟨z, d, rfl, _⟩ := h
    rfl
  obtain ⟨z, d, rfl, ⟨se, rn, oke, okc, wh⟩, q⟩ := h
  refine ⟨_, (pss_cons (ps_set (i := 1) scread_term.nd rfl (.inl rfl) (pe_hasC0 CReader (hr.mono (by omega))))
  (pss_cons (ps_for PassesOwn.never rfl (pi_enumS rfl m_enumerate (pa_cons (pv 0) pa_nil)) (pg_tup rfl (pgs_cons (pg_name (i := 2) scread_term.nd rfl (.inl rfl)) (pgs_cons (pg_name (i := 3) scread_term.nd rfl (.inl rfl)) pgs_nil))) (pss_one (ps_if (pt_not (pt_val (pe_hasM clR Mtakes (hr.mono (by omega)) (pv 1) (pa_cons (pv 3) pa_nil)))) (pss_one ps_never) pss_nil)))
  (pss_cons (ps_if (pt_not (pt_val (pe_hasM0 clR Mis_whole_text (hr.mono (by omega)) (pv 1)))) (pss_one ps_never) pss_nil)
  (pss_one (ps_ret (pe_ix ix_list (pe_fld (pe_ix ix_list (pe_fld (pv 1) rfl) pe_int (fun _ _ => rfl)) rfl) pe_int (fun _ _ => rfl))))))), ?_⟩
  intro r dx nr nd ne
  have s0 : Same H (upd (upd H dx (.own r)) r (.ins CR dx [])) := fun b o e => by
    rw [upd_ne (ne_of_none e nr), upd_ne (ne_of_none e nd)]
    exact e
  refine ⟨H, r, dx, rfl, s0, nr, upd_same, fun H1 ra => ⟨rfl, ?_⟩⟩
  refine ⟨_, rfl, z, rfl, for_it walk_enumS (fun i σ H' => ∃ st t2 t3, RdAt CB CR H H' r st ∧ Runs st (z.cps.toList.drop i) se ∧ σ = [some (.str z), some (.ref r), t2, t3]) ?_ ?_ ?_ ?_⟩
  · exact ⟨_, none, none, ra, rn, rfl⟩
  · intro _ _ _ _ _
    trivial
  · rintro i x σ H2 H3 hi ⟨st, t2, t3, ra, rn, rfl⟩ ⟨t, x1, y, rfl, hT, rfl, ex1, ey⟩
    cases ex1
    obtain ⟨c, ec, rfl⟩ := Option.map_eq_some_iff.mp ey
    refine ⟨t, _, rfl, SqT.of upd_same, rfl, _, _, rfl, _, _, rfl, rfl, ?_⟩
    have li : i < z.cps.toList.length := hi
    have ed : z.cps.toList.drop i = c :: z.cps.toList.drop (i + 1) := by
      rw [List.drop_eq_getElem_cons li]
      rw [List.getElem?_eq_getElem li] at ec
      rw [Option.some.inj ec]
    rw [ed] at rn
    cases rn with
    | cons o1 o2 tk rn =>
      have ra2 := ra.same (same_new (o := .tup [.int (i : Nat), .str ⟨#[c]⟩]) hT)
      obtain ⟨_, _, dr, _, _, hr2, _⟩ := id ra2
      refine ⟨_, rfl, r, dr, _, rfl, hr2, rfl, _, rfl, H, r, c, st, rfl, ra2, o1, o2, ?_⟩
      rw [tk]
      exact fun H4 ra4 => ⟨_, rfl, iteF ⟨_, _, _, ra4, rn, rfl⟩⟩
  · rintro σ H2 ⟨st, t2, t3, ra, rn, rfl⟩
    rw [List.drop_length] at rn
    cases rn
    obtain ⟨_, _, dr, _, _, hr2, _⟩ := id ra
    refine ⟨_, rfl, r, dr, _, rfl, hr2, rfl, H, r, _, rfl, ra, oke, okc, ?_⟩
    rw [wh]
    refine fun H3 b z' q' ra3 hb => ⟨_, rfl, iteF ?_⟩
    obtain ⟨dx3, bl, p, tl, dxb, kt, qs, vs, o⟩ := ra3.open_
    have hall := o.all
    cases hall
    have hd := o.hd
    rw [hb] at hd
    cases hd with
    | cons dv rest =>
      cases rest
      have ht := o.ht
      exact ⟨_, rfl, r, CR, dx3, _, _, rfl, o.hr, T.cl, T.nB, rf_brs, bl, _, _, _, rfl, rfl, SqL.of o.hb, atI_nat (j := 0) rfl, p, CB, dxb, _, _, rfl, o.hp, TB.cl, TB.nT, bf_things, tl, _, _, _, rfl, rfl, SqL.of ht, atI_nat (j := 0) rfl, q _ _ o.s0 dv⟩
end
end Wp
set_option Elab.async false
set_option linter.all false
set_option maxRecDepth 100000
namespace Wp
open PySem PySem.Spec PyProof.Rows L2
-- binders_of: slots term 0, names 1, what 2, thing 3
abbrev sbinders_of : Stmt := top 15
theorem scbinders_of : FnScope ["term", "names", "what", "thing"] ["term"] (defScope sbinders_of) := ⟨rfl, rfl, rfl, by decide +kernel, rfl, by decide +kernel, by decide +kernel⟩
abbrev slbinders_of : List Str := ["term", "names", "what", "thing"]
-- is_unclear: slots term 0, names 1, name 2
abbrev sis_unclear : Stmt := top 32
theorem scis_unclear : FnScope ["term", "names", "name"] ["term"] (defScope sis_unclear) := ⟨rfl, rfl, rfl, by decide +kernel, rfl, by decide +kernel, by decide +kernel⟩
abbrev slis_unclear : List Str := ["term", "names", "name"]
-- shown_atom: slots term 0
abbrev sshown_atom : Stmt := top 33
theorem scshown_atom : FnScope ["term"] ["term"] (defScope sshown_atom) := ⟨rfl, rfl, rfl, by decide +kernel, rfl, by decide +kernel, by decide +kernel⟩
abbrev slshown_atom : List Str := ["term"]
-- pieces_of: slots term 0, pieces 1, what 2, thing 3, part 4
abbrev spieces_of : Stmt := top 34
theorem scpieces_of : FnScope ["term", "pieces", "what", "thing", "part"] ["term"] (defScope spieces_of) := ⟨rfl, rfl, rfl, by decide +kernel, rfl, by decide +kernel, by decide +kernel⟩
abbrev slpieces_of : List Str := ["term", "pieces", "what", "thing", "part"]
/-! ### nodes of terms -/
inductive F1 : Str → PyData → Prop
  | num {i : Int} : i.natAbs.log2 < 1920 → ((toString i : String) : Str).length ≤ 1000 → F1 "number" (.int i)
  | str {k z : Str} : k ∈ (["text", "name", "tag", "word"] : List Str) → z.length ≤ 100 → F1 k (.str z)
  | bind {z : Str} : z.length ≤ 100 → F1 "binder" (.str z)
  | binds {zs : List Str} : zs.length ≤ 6 → (∀ z ∈ zs, z.length ≤ 100) → F1 "binders" (.tuple (zs.map .str))
  | part {d : PyData} : F1 "part" d
  | parts {k : Str} {ds : List PyData} : k ∈ (["handed parts", "row parts", "op parts"] : List Str) → ds.length ≤ 12 → F1 k (.tuple ds)
inductive Fit : List Str → List PyData → Prop
  | nil : Fit [] []
  | cons {k : Str} {x : PyData} {ks : List Str} {xs : List PyData} : F1 k x → Fit ks xs → Fit (k :: ks) (x :: xs)
theorem Fit.len : ∀ {ks : List Str} {xs : List PyData}, Fit ks xs → ks.length = xs.length
  | _, _, .nil => rfl
  | _, _, .cons _ t => by rw [List.length_cons, List.length_cons, t.len]
theorem Fit.at_ : ∀ {ks : List Str} {xs : List PyData}, Fit ks xs → ∀ {i : Nat} {k : Str} {x : PyData}, ks[i]? = some k → xs[i]? = some x → F1 k x
  | _, _, .nil, _, _, _, e, _ => by cases e
  | _, _, .cons h _, 0, _, _, e1, e2 => by
    cases e1
    cases e2
    exact h
  | _, _, .cons _ t, i + 1, _, _, e1, e2 => t.at_ (i := i) e1 e2
def zipF {α : Type} (g : Str → PyData → List α) : List Str → List PyData → List α
  | k :: ks, x :: xs => g k x ++ zipF g ks xs
  | _, _ => []
theorem zipF_take {α : Type} (g : Str → PyData → List α) : ∀ {ks : List Str} {xs : List PyData} {i : Nat} {k : Str} {x : PyData}, ks[i]? = some k → xs[i]? = some x → zipF g (ks.take (i + 1)) (xs.take (i + 1)) = zipF g (ks.take i) (xs.take i) ++ g k x
  | [], _, _, _, _, e, _ => by simp at e
  | _ :: _, [], _, _, _, _, e => by simp at e
  | a :: ks, b :: xs, 0, k, x, e1, e2 => by
    obtain rfl : a = k := by simpa using e1
    obtain rfl : b = x := by simpa using e2
    simp [zipF]
  | a :: ks, b :: xs, i + 1, k, x, e1, e2 => by
    have := zipF_take g (ks := ks) (xs := xs) (i := i) (k := k) (x := x) (by simpa using e1) (by simpa using e2)
    rw [List.take_succ_cons, List.take_succ_cons, zipF, this, List.take_succ_cons, List.take_succ_cons, zipF, List.append_assoc]
def strOf : PyData → List Str
  | .str z => [z]
  | _ => []
def itemsOf : PyData → List PyData
  | .tuple ds => ds
  | _ => []
def bind1 (k : Str) (x : PyData) : List Str := if k = "binder" then strOf x else if k = "binders" then (itemsOf x).flatMap strOf else []
theorem flat_strOf (zs : List Str) : (zs.map PyData.str).flatMap strOf = zs := by
  induction zs with
  | nil => rfl
  | cons z zs ih =>
    rw [List.map_cons, List.flatMap_cons, ih]
    rfl
/-- the names that a term's own place has -/
def namesZ (w : Str) (its : List PyData) : List Str := if w = "name" then its.flatMap strOf else zipF bind1 (formOf w) its
def unclearZ (w : Str) (its : List PyData) : Bool := (namesZ w its).any fun z => decide (z ∈ noNames)
abbrev Pc := Bool × PyData
def namesTx (x : PyData) : Str := "(" ++ Txt.join " " ((itemsOf x).flatMap strOf) ++ ")"
def pc1 (k : Str) (x : PyData) : List Pc := if k ∈ (["binder", "tag"] : List Str) then [(false, x)] else if k = "binders" then [(false, .str (namesTx x))] else if k = "part" then [(true, x)] else if k = "word" then [] else (itemsOf x).map fun d => (true, d)
theorem form_in : ∀ p ∈ forms, p.2 = formOf p.1 ∧ p.2.length ≤ 3 := by decide +kernel
theorem fo_name : formOf "name" = (["name"] : List Str) := by decide +kernel
def Node (w : Str) (its : List PyData) : Prop := w ∈ formWords ∧ Fit (formOf w) its
theorem node_in {w : Str} (h : w ∈ formWords) : (w, formOf w) ∈ forms := by
  have k : ∀ w ∈ formWords, (w, formOf w) ∈ forms := by decide +kernel
  exact k w h
def spBnd : Sp := fun vs H Q _ => ∃ (v : V) (w : Str) (its : List PyData), vs = [v] ∧ Dz H v (.tuple (.str w :: its)) ∧ Node w its ∧ ∀ p H', Same H H' → H' p = some (.tup ((zipF bind1 (formOf w) its).map V.str)) → Q (.ref p) H'
def spUncl : Sp := fun vs H Q _ => ∃ (v : V) (w : Str) (its : List PyData), vs = [v] ∧ Dz H v (.tuple (.str w :: its)) ∧ Node w its ∧ ∀ H', Same H H' → Q (.bl (unclearZ w its)) H'
theorem cut1 (x : V) (xs : List V) : cutV (x :: xs) (some 1) none = xs := by
  unfold cutV
  have e : HT.sIx (x :: xs).length 0 (some 1) = 1 := by
    show min 1 (xs.length + 1) = 1
    omega
  rw [e]
  show ((x :: xs).drop 1).take ((x :: xs).length - 1) = xs
  simp
theorem not_whole {x : V} {xs : List V} {hi : Option Int} : ¬ (HT.sIx (x :: xs).length 0 (some 1) = 0 ∧ HT.sIx (x :: xs).length (x :: xs).length hi = (x :: xs).length) := fun c => by
  have e : HT.sIx (x :: xs).length 0 (some 1) = 1 := by
    show min 1 (xs.length + 1) = 1
    omega
  rw [e] at c
  exact absurd c.1 (by decide)
theorem cat_go {K : PySem.W.Frag} {H : Hp} {pt u : Addr} {xs ys : List V} {Q : VK} (hx : H pt = some (.tup xs)) (hu : SqT K H u ys) (hu2 : H u = some (.tup ys)) (hl : xs.length + ys.length ≤ 1000) (q : ∀ r H', Same H H' → H' r = some (.tup (xs ++ ys)) → Q (.ref r) H') : rCatA K (.ref pt) (.ref u) H Q := by
  refine ⟨pt, u, xs, ys, rfl, rfl, SqT.of hx, hu, Nat.le_of_lt (small1000 hl), fun e => q u H (Same.refl _) (by rw [e]; exact hu2), fun _ e => q pt H (Same.refl _) (by rw [e, List.append_nil]; exact hx), fun _ _ p hp => q p _ (same_new hp) upd_same⟩
theorem bind1_len {k : Str} {x : PyData} (h : F1 k x) : (bind1 k x).length ≤ 6 := by
  cases h with
  | binds l _ =>
    have e1 : ¬ ("binders" : Str) = "binder" := by decide +kernel
    unfold bind1
    rw [if_neg e1, if_pos rfl]
    show ((List.map PyData.str _).flatMap strOf).length ≤ 6
    rw [flat_strOf]
    exact l
  | bind _ => exact (by decide : 1 ≤ 6)
  | num _ _ => exact Nat.zero_le _
  | part =>
    have e1 : ¬ ("part" : Str) = "binder" := by decide +kernel
    have e2 : ¬ ("part" : Str) = "binders" := by decide +kernel
    unfold bind1
    rw [if_neg e1, if_neg e2]
    exact Nat.zero_le _
  | str hk _ =>
    have k : ∀ k ∈ (["text", "name", "tag", "word"] : List Str), ¬ k = "binder" ∧ ¬ k = "binders" := by decide +kernel
    unfold bind1
    rw [if_neg (k _ hk).1, if_neg (k _ hk).2]
    exact Nat.zero_le _
  | parts hk _ =>
    have k : ∀ k ∈ (["handed parts", "row parts", "op parts"] : List Str), ¬ k = "binder" ∧ ¬ k = "binders" := by decide +kernel
    unfold bind1
    rw [if_neg (k _ hk).1, if_neg (k _ hk).2]
    exact Nat.zero_le _
section
variable {P : Program} {w : World} {K : PySem.W.Frag} {mg : Str → Option Value} {base : Heap} {f fo nn : Addr} {fd : FuncData} {u1 u2 u3 : Tok}
theorem ok_bnd (F : Fun K "binders_of" "binders_of" sbinders_of f fd) (m_zip : mg "zip" = none) (m_FORMS : mg "FORMS" = some (.ref fo)) (hF : FormsOk K w fo) : FnOk P w K mg base CX0 1 f fd ["term"] spBnd := by
  refine F.ok scbinders_of (fun vs H Q E h => ?_) (fun cdv A outer s H vs Q E hr h => ?_)
  · obtain ⟨v, z, its, rfl, _⟩ := h
    rfl
  obtain ⟨v, z, its, rfl, hd, ⟨hw, hfit⟩, q⟩ := h
  cases hd with
  | @tup p xs _ hp hx =>
    cases hx with
    | @cons x0 xr _ _ h0 hxr =>
      cases h0
      obtain ⟨t, hk, hsq⟩ := hF _ (node_in hw)
      refine ⟨_, (pss_cons (ps_set (i := 1) scbinders_of.nd rfl (.inl rfl) (pe_tup pa_nil))
  (pss_cons (ps_for PassesOwn.never rfl (RZ.pi_zipA rfl m_zip (pa_cons (pe_ix ix_kdict (pe_glob (v := .ref fo) rfl m_FORMS rfl) (pe_ix ix_tup (pv 0) pe_int (fun _ _ => rfl)) (fun _ _ => rfl)) (pa_cons (pe_slice sl_tupA (pv 0) (po_some pe_int) po_none) pa_nil))) (pg_tup rfl (pgs_cons (pg_name (i := 2) scbinders_of.nd rfl (.inl rfl)) (pgs_cons (pg_name (i := 3) scbinders_of.nd rfl (.inl rfl)) pgs_nil))) (pss_one (ps_if (pt_cmpR op_eq (pv 2) pe_str (nomark _)) (pss_one (ps_set (i := 1) scbinders_of.nd rfl (.inl rfl) (pe_op op_catA (pv 1) (pe_tup (pa_cons (pv 3) pa_nil))))) (pss_one (ps_if (pt_cmpR op_eq (pv 2) pe_str (nomark _)) (pss_one (ps_set (i := 1) scbinders_of.nd rfl (.inl rfl) (pe_op op_catA (pv 1) (pv 3)))) pss_nil)))))
  (pss_one (ps_ret (pv 1))))), ?_⟩
      refine ⟨(by show 0 ≤ sizeLine; decide), fun D hD => ?_⟩
      have s1 : Same H (upd H D (.tup [])) := same_new hD
      have e1 : upd H D (.tup []) D = some (.tup []) := upd_same
      generalize upd H D (.tup []) = H1 at *
      have hp1 := s1 _ _ hp
      refine ⟨_, rfl, p, _, _, _, rfl, rfl, SqT.of hp1, atI_nat (j := 0) rfl, fo, z, .ref t, rfl, rfl, hk, _, rfl, 1, rfl, p, _, rfl, SqT.of hp1, fun c => absurd c not_whole, fun _ tp htp => ?_⟩
      rw [cut1]
      have s2 : Same H1 (upd H1 tp (.tup xr)) := same_new htp
      have e2 : upd H1 tp (.tup xr) tp = some (.tup xr) := upd_same
      generalize upd H1 tp (.tup xr) = H2 at *
      have hl : its.length = (formOf z).length := hfit.len.symm
      have hl2 : xr.length = its.length := hxr.len
      have l3 : (formOf z).length ≤ 3 := (form_in _ (node_in hw)).2
      have s12 := s1.trans s2
      refine ⟨t, tp, (formOf z).map V.str, xr, rfl, .inr ⟨hsq _, SqT.of e2, RZ.for_zipT (K := K) (xs := (formOf z).map V.str) (ys := xr) (by rw [List.length_map]; omega)
        (fun i σ H' => Same H2 H' ∧ ∃ t2 t3 r, σ = [some (.ref p), some (.ref r), t2, t3] ∧ H' r = some (.tup ((zipF bind1 ((formOf z).take i) (its.take i)).map V.str)) ∧ (zipF bind1 ((formOf z).take i) (its.take i)).length ≤ 6 * i) ?_ ?_ ?_ ?_⟩⟩
      · exact ⟨Same.refl _, none, none, D, rfl, by rw [List.take_zero]; exact s2 _ _ e1, by rw [List.take_zero]; exact Nat.le_refl _⟩
      · rintro i σ H' ⟨s3, _⟩
        exact ⟨hsq _, SqT.of (s3 _ _ e2)⟩
      · rintro i x y T σ H' ex ey ⟨s3, t2, t3, r, rfl, hr3, lr3⟩ hT
        rw [List.getElem?_map] at ex
        obtain ⟨k, ek, rfl⟩ := Option.map_eq_some_iff.mp ex
        obtain ⟨e, ee, qe⟩ := hxr.get ey
        have li : i < (formOf z).length := (List.getElem?_eq_some_iff.mp ek).1
        have pt := zipF_take bind1 ek ee
        have f1 := hfit.at_ ek ee
        have b6 := bind1_len f1
        have sT : Same H' (upd H' T (.tup [.str k, y])) := same_new hT
        have eT : upd H' T (.tup [.str k, y]) T = some (.tup [.str k, y]) := upd_same
        generalize upd H' T (.tup [.str k, y]) = HT at *
        have qe : Dz HT y e := qe.tp (same_tp (s12.trans (s3.trans sT)))
        have hr4 := sT _ _ hr3
        have s4 := s3.trans sT
        refine ⟨T, _, rfl, SqT.of eT, rfl, _, _, rfl, _, _, rfl, rfl, ?_⟩
        have lr : ((zipF bind1 ((formOf z).take i) (its.take i)).map V.str).length ≤ 6 * i := by rw [List.length_map]; exact lr3
        have step : ∀ rr H5, Same HT H5 → H5 rr = some (.tup ((zipF bind1 ((formOf z).take i) (its.take i)).map V.str ++ (bind1 k e).map V.str)) → Same H2 H5 ∧ ∃ t2' t3' r', ([some (V.ref p), some (V.ref rr), some (V.str k), some y] : L2.St) = [some (.ref p), some (.ref r'), t2', t3'] ∧ H5 r' = some (.tup ((zipF bind1 ((formOf z).take (i + 1)) (its.take (i + 1))).map V.str)) ∧ (zipF bind1 ((formOf z).take (i + 1)) (its.take (i + 1))).length ≤ 6 * (i + 1) := fun rr H5 s5 e5 => by
          refine ⟨s4.trans s5, _, _, rr, rfl, by rw [pt, List.map_append]; exact e5, ?_⟩
          rw [pt, List.length_append]
          omega
        refine ⟨_, rfl, rfl, _, rfl, ?_⟩
        by_cases h1 : k = "binder"
        · refine ite_t (decide_eq_true (by rw [h1])) ?_
          subst h1
          cases f1 with
          | @bind zb lz =>
            cases qe
            refine ⟨_, rfl, _, rfl, (by show 1 ≤ sizeLine; decide), fun u hu => ?_⟩
            have s5 : Same HT (upd HT u (.tup [.str zb])) := same_new hu
            exact cat_go (s5 _ _ hr4) (SqT.of upd_same) upd_same (by show _ + 1 ≤ 1000; omega) fun rr H6 s6 e6 => step rr H6 (s5.trans s6) e6
          | str hk _ =>
            have k : ∀ k ∈ (["text", "name", "tag", "word"] : List Str), ¬ k = "binder" := by decide +kernel
            exact absurd rfl (k _ hk)
          | parts hk _ =>
            have k : ∀ k ∈ (["handed parts", "row parts", "op parts"] : List Str), ¬ k = "binder" := by decide +kernel
            exact absurd rfl (k _ hk)
        refine ite_f (decide_eq_false fun h => h1 (V.str.inj h)) ?_
        refine ⟨_, rfl, rfl, _, rfl, ?_⟩
        by_cases h2 : k = "binders"
        · refine ite_t (decide_eq_true (by rw [h2])) ?_
          subst h2
          cases f1 with
          | @binds zs lz _ =>
            cases qe with
            | @tup u us _ hu hus =>
              have eu : us = zs.map V.str := dzl_strs hus
              have eb : bind1 "binders" (.tuple (zs.map PyData.str)) = zs := by
                unfold bind1
                rw [if_neg h1, if_pos rfl]
                exact flat_strOf zs
              rw [eb] at step
              refine ⟨_, rfl, _, rfl, ?_⟩
              exact cat_go hr4 (SqT.of hu) hu (by
                have : (zs.map V.str).length = zs.length := List.length_map _
                rw [eu]
                omega) fun rr H6 s6 e6 => step rr H6 s6 (by rw [← eu]; exact e6)
          | str hk _ =>
            have k : ∀ k ∈ (["text", "name", "tag", "word"] : List Str), ¬ k = "binders" := by decide +kernel
            exact absurd rfl (k _ hk)
          | parts hk _ =>
            have k : ∀ k ∈ (["handed parts", "row parts", "op parts"] : List Str), ¬ k = "binders" := by decide +kernel
            exact absurd rfl (k _ hk)
        refine ite_f (decide_eq_false fun h => h2 (V.str.inj h)) ?_
        have eb : bind1 k e = [] := by
          unfold bind1
          rw [if_neg h1, if_neg h2]
        rw [eb] at step
        exact step r HT (Same.refl _) (by rw [List.map_nil, List.append_nil]; exact hr4)
      · rintro σ H' ⟨s3, t2, t3, r, rfl, hr3, _⟩
        refine ⟨_, rfl, ?_⟩
        have e1 : (formOf z).take xr.length = formOf z := List.take_of_length_le (by omega)
        have e2 : its.take xr.length = its := List.take_of_length_le (by omega)
        have ll : ((formOf z).map V.str).length = xr.length := by rw [List.length_map]; omega
        simp only [ll, e1, e2] at hr3
        exact q r H' (s12.trans s3) hr3
end
end Wp
set_option Elab.async false
set_option linter.all false
set_option maxRecDepth 100000
namespace Wp
open PySem PySem.Spec PyProof.Rows L2
def atomZ (w : Str) (its : List PyData) : Option Str :=
  if w = "num" then (match its with | [.int i] => some (toString i : String) | _ => none) else
  if w = "text" then (match its with | [.str z] => some ("\"" ++ z ++ "\"") | _ => none) else
  if w = "name" then (match its with | [.str z] => some z | _ => none) else
  if w ∈ noNames then some w else none
def spAtom : Sp := fun vs H Q _ => ∃ (v : V) (w : Str) (its : List PyData), vs = [v] ∧ Dz H v (.tuple (.str w :: its)) ∧ Node w its ∧ Q (rV (atomZ w its)) H
/-- rows of pieces -/
inductive PcAt (H : Hp) : List V → List Pc → Prop
  | nil : PcAt H [] []
  | cons {t : Addr} {b : Bool} {v : V} {d : PyData} {rs : List V} {ps : List Pc} : H t = some (.tup [.bl b, v]) → Dz H v d → PcAt H rs ps → PcAt H (.ref t :: rs) ((b, d) :: ps)
theorem PcAt.tp {H H' : Hp} {rs : List V} {ps : List Pc} (h : PcAt H rs ps) (s : Tp H H') : PcAt H' rs ps := by
  induction h with
  | nil => exact .nil
  | cons a b _ ih => exact .cons (s _ _ a) (b.tp s) ih
theorem PcAt.app {H : Hp} {rs rs2 : List V} {ps ps2 : List Pc} (h : PcAt H rs ps) (h2 : PcAt H rs2 ps2) : PcAt H (rs ++ rs2) (ps ++ ps2) := by
  induction h with
  | nil => exact h2
  | cons a b _ ih => exact .cons a b ih
theorem PcAt.len {H : Hp} {rs : List V} {ps : List Pc} (h : PcAt H rs ps) : rs.length = ps.length := by
  induction h with
  | nil => rfl
  | cons _ _ _ ih => rw [List.length_cons, List.length_cons, ih]
theorem PcAt.get {H : Hp} {rs : List V} {ps : List Pc} (h : PcAt H rs ps) : ∀ {i : Nat} {r : V}, rs[i]? = some r → ∃ t b v d, r = .ref t ∧ ps[i]? = some (b, d) ∧ H t = some (.tup [.bl b, v]) ∧ Dz H v d := by
  induction h with
  | nil => intro i r e; cases e
  | cons a b _ ih =>
    intro i r e
    cases i with
    | zero => cases e; exact ⟨_, _, _, _, rfl, rfl, a, b⟩
    | succ i => exact ih (i := i) e
def spPcs : Sp := fun vs H Q _ => ∃ (v : V) (w : Str) (its : List PyData), vs = [v] ∧ Dz H v (.tuple (.str w :: its)) ∧ Node w its ∧ (∀ k ∈ formOf w, ¬ k ∈ (["number", "text", "name"] : List Str)) ∧ ∀ p rs H', Same H H' → H p = none → H' p = some (.lst rs) → PcAt H' rs (zipF pc1 (formOf w) its) → rs.length ≤ 36 → Q (.ref p) H'
theorem pc1_len {k : Str} {x : PyData} (h : F1 k x) : (pc1 k x).length ≤ 12 := by
  unfold pc1
  split
  · exact (by decide : 1 ≤ 12)
  split
  · exact (by decide : 1 ≤ 12)
  split
  · exact (by decide : 1 ≤ 12)
  split
  · exact Nat.zero_le _
  · rw [List.length_map]
    cases h with
    | parts _ l => exact l
    | binds l _ =>
      show (List.map PyData.str _).length ≤ 12
      rw [List.length_map]
      omega
    | part => rename_i h3 _; exact absurd rfl h3
    | num _ _ => exact Nat.zero_le _
    | str _ _ => exact Nat.zero_le _
    | bind _ => exact Nat.zero_le _
theorem join_len (zs : List Str) (h : ∀ z ∈ zs, z.length ≤ 100) (l : zs.length ≤ 6) : (zs.map (·.length)).sum + zs.length * (" " : Str).length ≤ 700 := by
  have k : ∀ (zs : List Str), (∀ z ∈ zs, z.length ≤ 100) → (zs.map (·.length)).sum ≤ 100 * zs.length := by
    intro zs
    induction zs with
    | nil => intro _; exact Nat.le_refl _
    | cons z zs ih =>
      intro h
      have a := h z List.mem_cons_self
      have b := ih fun y hy => h y (List.mem_cons_of_mem _ hy)
      rw [List.map_cons, List.sum_cons, List.length_cons]
      omega
  have a := k zs h
  have e : (" " : Str).length = 1 := by decide +kernel
  rw [e]
  omega
theorem join_le (zs : List Str) (h : ∀ z ∈ zs, z.length ≤ 100) (l : zs.length ≤ 6) : (Txt.join " " zs).length ≤ 700 := by
  show (Builtin.Str.glued " " zs).length ≤ 700
  rw [StrLaws.glued_eq_join]
  exact Nat.le_trans (StrLaws.join_length_le " " zs) (join_len zs h l)
theorem ite_joinR {c : Bool} {σ : L2.St} {H : Hp} {A B : TE} {Kt : VK} (R : V → Hp → Prop) (hk : ∀ y H', R y H' → Kt y H') (hA : c = true → (∀ y H', R y H' → Kt y H') → A σ H Kt) (hB : c = false → (∀ y H', R y H' → Kt y H') → B σ H Kt) : if c = true then A σ H Kt else B σ H Kt := by
  cases c with
  | true => exact hA rfl hk
  | false => exact hB rfl hk
section
variable {P : Program} {w : World} {K : PySem.W.Frag} {mg : Str → Option Value} {base : Heap} {f fo nn : Addr} {fd : FuncData} {u1 u2 u3 : Tok}
theorem ok_uncl (F : Fun K "is_unclear" "is_unclear" sis_unclear f fd) (m_any : mg "any" = none) (m_NO_NAMES : mg "NO_NAMES" = some (.ref nn)) (hN : TxtT K nn noNames) (Gbinders_of : Has P w K mg base "binders_of" ["term"] 1 spBnd) : FnOk P w K mg base CX0 2 f fd ["term"] spUncl := by
  refine F.ok scis_unclear (fun vs H Q E h => ?_) (fun cdv A outer s H vs Q E hr h => ?_)
  · obtain ⟨v, z, its, rfl, _⟩ := h
    rfl
  obtain ⟨v, z, its, rfl, hd, nd, q⟩ := h
  refine ⟨_, (pss_cons (ps_set (i := 1) scis_unclear.nd rfl (.inl rfl) (pe_ifExp (pt_cmpR op_eq (pe_ix ix_tup (pv 0) pe_int (fun _ _ => rfl)) pe_str (nomark _)) (pe_slice sl_tupA (pv 0) (po_some pe_int) po_none) (pe_has Gbinders_of (hr.mono (by omega)) (pa_cons (pv 0) pa_nil))))
  (pss_one (ps_ret (pe_callB (cr_any rfl) rfl m_any PyProof.Rows.Boot.any (pa_cons (pe_lc (own := [("name", 2)]) (g := gName 2) (tt := tYes) (te := (tOp (rIn K false) (tVar 2) (tC (.ref nn)))) rfl scis_unclear.nd (pi_tup (pv 1)) (blkOk_by (N := slis_unclear) (sc := defScope sis_unclear) (by decide +kernel)) (fun _ _ _ _ _ => (pg_name (i := 2) scis_unclear.nd rfl (.inl rfl))) (fun _ _ _ _ _ => pts_nil) (fun _ _ _ _ _ => (pe_cmpR op_in_seq (pv 2) (pe_glob (v := .ref nn) rfl m_NO_NAMES rfl) rfl))) pa_nil))))), ?_⟩
  have hd0 := hd
  have nl : (namesZ z its).length ≤ 1000 := by
    unfold namesZ
    have l3 := (form_in _ (node_in nd.1)).2
    have ll := nd.2.len
    split
    · have k : ∀ l : List PyData, (l.flatMap strOf).length ≤ l.length := by
        intro l
        induction l with
        | nil => exact Nat.le_refl _
        | cons x l ih =>
          rw [List.flatMap_cons, List.length_append, List.length_cons]
          have : (strOf x).length ≤ 1 := by cases x <;> first | exact Nat.le_refl _ | exact Nat.zero_le _
          omega
      have := k its
      have l3 : (formOf z).length ≤ 3 := l3
      omega
    · have k : ∀ {ks : List Str} {xs : List PyData}, Fit ks xs → (zipF bind1 ks xs).length ≤ 6 * ks.length := by
        intro ks xs h
        induction h with
        | nil => exact Nat.le_refl _
        | cons a _ ih =>
          have := bind1_len a
          rw [zipF, List.length_append, List.length_cons]
          omega
      have := k nd.2
      have l3 : (formOf z).length ≤ 3 := l3
      omega
  cases hd with
  | @tup p xs _ hp hx =>
    cases hx with
    | @cons x0 xr _ _ h0 hxr =>
      cases h0
      refine ⟨_, rfl, p, _, _, _, rfl, rfl, SqT.of hp, atI_nat (j := 0) rfl, rfl, _, rfl, ?_⟩
      refine ite_joinR (fun y H1 => Same H H1 ∧ ∃ pn, y = .ref pn ∧ H1 pn = some (.tup ((namesZ z its).map V.str))) ?_ (fun hc k => ?_) (fun hc k => ?_)
      · rintro _ H1 ⟨s1, pn, rfl, hn⟩
        refine ⟨_, rfl, pn, rfl, ⟨_, SqT.of hn⟩, fun D hD => ?_⟩
        refine lc_tup (xs := (namesZ z its).map V.str) (fun i H' => Same H1 H' ∧ H' D = some (.lst (((namesZ z its).take i).map fun y => V.bl (decide (y ∈ noNames))))) ?_ ?_ ?_ ?_
        · exact ⟨same_new hD, by rw [List.take_zero]; exact upd_same⟩
        · rintro i H' _ ⟨g, _⟩
          exact SqT.of (g _ _ hn)
        · rintro i x H' hx ⟨g, hD'⟩
          rw [List.getElem?_map] at hx
          obtain ⟨y, ey, rfl⟩ := Option.map_eq_some_iff.mp hx
          refine ⟨rfl, ?_⟩
          unfold tYes
          dsimp only
          rw [if_pos rfl]
          refine ⟨_, rfl, nn, _, rfl, .inr (hN _), rfl, flat_strs _, ?_⟩
          show ∃ acc, _ ∧ _ ∧ _
          have ei : (if false = true then !inV (.str y) (noNames.map V.str) else inV (.str y) (noNames.map V.str)) = decide (y ∈ noNames) := inV_strs
          rw [ei]
          refine ⟨_, hD', ?_, same_grow g hD, ?_⟩
          · rw [List.length_map, List.length_take]
            exact small1000 (Nat.le_trans (Nat.min_le_right _ _) nl)
          · rw [upd_same, List.take_add_one, ey, List.map_append]
            rfl
        · rintro H' ⟨g, hD'⟩
          rw [List.length_map, List.take_length] at hD'
          refine ⟨D, (namesZ z its).map fun y => decide (y ∈ noNames), rfl, SqL.of ?_, ?_⟩
          · rw [hD', List.map_map]
            rfl
          · rw [any_take]
            exact q H' (s1.trans g)
      · have hz : z = "name" := V.str.inj (of_decide_eq_true hc)
        subst hz
        have ft := nd.2
        rw [fo_name] at ft
        cases ft with
        | cons f1 ft2 =>
          cases ft2
          cases hxr with
          | cons h1 h2 =>
            cases h2
            refine ⟨_, rfl, 1, rfl, p, _, rfl, SqT.of hp, fun c => absurd c not_whole, fun _ tp htp => ?_⟩
            rw [cut1]
            cases f1 with
            | @str _ y _ _ =>
              cases h1
              exact k _ _ ⟨same_new htp, tp, rfl, upd_same⟩
            | parts hk _ =>
              have kk : ∀ k ∈ (["handed parts", "row parts", "op parts"] : List Str), ¬ k = "name" := by decide +kernel
              exact absurd rfl (kk _ hk)
      · have hz : ¬ z = "name" := fun e => of_decide_eq_false hc (by rw [e])
        refine ⟨_, rfl, _, z, its, rfl, hd0, nd, fun pn H1 s1 hn => k _ _ ⟨s1, pn, rfl, ?_⟩⟩
        rw [hn]
        unfold namesZ
        rw [if_neg hz]
theorem ok_atom (F : Fun K "shown_atom" "shown_atom" sshown_atom f fd) (m_str : mg "str" = none) (m_NO_NAMES : mg "NO_NAMES" = some (.ref nn)) (hN : TxtT K nn noNames) : FnOk P w K mg base CX0 1 f fd ["term"] spAtom := by
  refine F.ok scshown_atom (fun vs H Q E h => ?_) (fun cdv A outer s H vs Q E hr h => ?_)
  · obtain ⟨v, z, its, rfl, _⟩ := h
    rfl
  obtain ⟨v, z, its, rfl, hd, ⟨hw, ft⟩, q⟩ := h
  refine ⟨_, (pss_cons (ps_if (pt_cmpR op_eq (pe_ix ix_tup (pv 0) pe_int (fun _ _ => rfl)) pe_str (nomark _)) (pss_one (ps_ret (pe_callTy call_str_int rfl m_str PyProof.Rows.Boot.«str» (pa_cons (pe_ix ix_tup (pv 0) pe_int (fun _ _ => rfl)) pa_nil)))) pss_nil)
  (pss_cons (ps_if (pt_cmpR op_eq (pe_ix ix_tup (pv 0) pe_int (fun _ _ => rfl)) pe_str (nomark _)) (pss_one (ps_ret (pe_op op_add_str (pe_op op_add_str pe_str (pe_ix ix_tup (pv 0) pe_int (fun _ _ => rfl))) pe_str))) pss_nil)
  (pss_cons (ps_if (pt_cmpR op_eq (pe_ix ix_tup (pv 0) pe_int (fun _ _ => rfl)) pe_str (nomark _)) (pss_one (ps_ret (pe_ix ix_tup (pv 0) pe_int (fun _ _ => rfl)))) pss_nil)
  (pss_one (ps_ret (pe_ifExp (pt_cmpR op_in_seq (pe_ix ix_tup (pv 0) pe_int (fun _ _ => rfl)) (pe_glob (v := .ref nn) rfl m_NO_NAMES rfl) rfl) (pe_ix ix_tup (pv 0) pe_int (fun _ _ => rfl)) pe_non)))))), ?_⟩
  cases hd with
  | @tup p xs _ hp hx =>
    cases hx with
    | @cons x0 xr _ _ h0 hxr =>
      cases h0
      have rd : ∀ {R : V → Hp → Prop}, R (.str z) H → tOp (rIxT K) (tVar 0) (tC (.int 0)) [some (.ref p)] H R := fun r => ⟨_, rfl, p, _, _, _, rfl, rfl, SqT.of hp, atI_nat (j := 0) rfl, r⟩
      unfold atomZ at q
      refine ⟨_, rfl, p, _, _, _, rfl, rfl, SqT.of hp, atI_nat (j := 0) rfl, rfl, _, rfl, ?_⟩
      by_cases h1 : z = "num"
      · refine ite_t (decide_eq_true (by rw [h1])) ?_
        rw [if_pos h1] at q
        subst h1
        have fo : formOf "num" = (["number"] : List Str) := by decide +kernel
        rw [fo] at ft
        cases ft with
        | cons f1 ft2 =>
          cases ft2
          cases hxr with
          | cons g1 g2 =>
            cases g2
            cases f1 with
            | num li _ =>
              cases g1
              exact ⟨_, rfl, p, _, _, _, rfl, rfl, SqT.of hp, atI_nat (j := 1) rfl, _, rfl, li, q⟩
            | str hk _ =>
              have kk : ∀ k ∈ (["text", "name", "tag", "word"] : List Str), ¬ k = "number" := by decide +kernel
              exact absurd rfl (kk _ hk)
            | parts hk _ =>
              have kk : ∀ k ∈ (["handed parts", "row parts", "op parts"] : List Str), ¬ k = "number" := by decide +kernel
              exact absurd rfl (kk _ hk)
      refine ite_f (decide_eq_false fun h => h1 (V.str.inj h)) ?_
      rw [if_neg h1] at q
      refine ⟨_, rfl, p, _, _, _, rfl, rfl, SqT.of hp, atI_nat (j := 0) rfl, rfl, _, rfl, ?_⟩
      by_cases h2 : z = "text"
      · refine ite_t (decide_eq_true (by rw [h2])) ?_
        rw [if_pos h2] at q
        subst h2
        have fo : formOf "text" = (["text"] : List Str) := by decide +kernel
        rw [fo] at ft
        cases ft with
        | cons f1 ft2 =>
          cases ft2
          cases hxr with
          | cons g1 g2 =>
            cases g2
            cases f1 with
            | @str _ y _ ly =>
              cases g1
              have e1 : ("\"" : Str).length = 1 := by decide +kernel
              have big : (1000 : Nat) ≤ sizeLine := by decide
              refine ⟨_, rfl, p, _, _, _, rfl, rfl, SqT.of hp, atI_nat (j := 1) rfl, _, _, rfl, rfl, by omega, _, _, rfl, rfl, ?_, q⟩
              rw [app_len]
              omega
            | parts hk _ =>
              have kk : ∀ k ∈ (["handed parts", "row parts", "op parts"] : List Str), ¬ k = "text" := by decide +kernel
              exact absurd rfl (kk _ hk)
      refine ite_f (decide_eq_false fun h => h2 (V.str.inj h)) ?_
      rw [if_neg h2] at q
      refine ⟨_, rfl, p, _, _, _, rfl, rfl, SqT.of hp, atI_nat (j := 0) rfl, rfl, _, rfl, ?_⟩
      by_cases h3 : z = "name"
      · refine ite_t (decide_eq_true (by rw [h3])) ?_
        rw [if_pos h3] at q
        subst h3
        rw [fo_name] at ft
        cases ft with
        | cons f1 ft2 =>
          cases ft2
          cases hxr with
          | cons g1 g2 =>
            cases g2
            cases f1 with
            | @str _ y _ ly =>
              cases g1
              exact ⟨_, rfl, p, _, _, _, rfl, rfl, SqT.of hp, atI_nat (j := 1) rfl, q⟩
            | parts hk _ =>
              have kk : ∀ k ∈ (["handed parts", "row parts", "op parts"] : List Str), ¬ k = "name" := by decide +kernel
              exact absurd rfl (kk _ hk)
      refine ite_f (decide_eq_false fun h => h3 (V.str.inj h)) ?_
      rw [if_neg h3] at q
      refine ⟨_, rfl, p, _, _, _, rfl, rfl, SqT.of hp, atI_nat (j := 0) rfl, nn, _, rfl, .inr (hN _), rfl, flat_strs _, _, rfl, ?_⟩
      show if inV (.str z) (noNames.map V.str) = true then _ else _
      rw [inV_strs]
      by_cases h4 : z ∈ noNames
      · refine ite_t (decide_eq_true h4) ?_
        rw [if_pos h4] at q
        exact ⟨_, rfl, p, _, _, _, rfl, rfl, SqT.of hp, atI_nat (j := 0) rfl, q⟩
      · refine ite_f (decide_eq_false h4) ?_
        rw [if_neg h4] at q
        exact q
end
end Wp
set_option Elab.async false
set_option linter.all false
set_option maxRecDepth 100000
namespace Wp
open PySem PySem.Spec PyProof.Rows L2
section
variable {P : Program} {w : World} {K : PySem.W.Frag} {mg : Str → Option Value} {base : Heap} {f fo nn : Addr} {fd : FuncData} {u1 u2 u3 : Tok}
theorem upd_tp {H : Hp} {D : Addr} {xs ys : List V} (h : H D = some (.lst xs)) : Tp H (upd H D (.lst ys)) := fun b zs e => by rw [upd_ne (ne_of e h (by intro z; cases z))]; exact e
theorem ok_pcs (F : Fun K "pieces_of" "pieces_of" spieces_of f fd) (m_zip : mg "zip" = none) (m_FORMS : mg "FORMS" = some (.ref fo)) (hF : FormsOk K w fo) : FnOk P w K mg base CX0 1 f fd ["term"] spPcs := by
  refine F.ok scpieces_of (fun vs H Q E h => ?_) (fun cdv A outer s H vs Q E hr h => ?_)
  · obtain ⟨v, z, its, rfl, _⟩ := h
    rfl
  obtain ⟨v, z, its, rfl, hd, ⟨hw, hfit⟩, hno, q⟩ := h
  cases hd with
  | @tup p xs _ hp hx =>
    cases hx with
    | @cons x0 xr _ _ h0 hxr =>
      cases h0
      obtain ⟨t, hk, hsq⟩ := hF _ (node_in hw)
      refine ⟨_, (pss_cons (ps_set (i := 1) scpieces_of.nd rfl (.inl rfl) (pe_lst pa_nil))
  (pss_cons (ps_for PassesOwn.never rfl (RZ.pi_zipA rfl m_zip (pa_cons (pe_ix ix_kdict (pe_glob (v := .ref fo) rfl m_FORMS rfl) (pe_ix ix_tup (pv 0) pe_int (fun _ _ => rfl)) (fun _ _ => rfl)) (pa_cons (pe_slice sl_tupA (pv 0) (po_some pe_int) po_none) pa_nil))) (pg_tup rfl (pgs_cons (pg_name (i := 2) scpieces_of.nd rfl (.inl rfl)) (pgs_cons (pg_name (i := 3) scpieces_of.nd rfl (.inl rfl)) pgs_nil))) (pss_one (ps_if (pt_cmpR op_in_seq (pv 2) (pe_tup (pa_cons pe_str (pa_cons pe_str pa_nil))) rfl) (pss_one (ps_expr (pe_bm PySem.F.plainAttrs_list PySem.F.slot_list_append PySem.F.type_list_append mt_append (pv 1) (pa_cons (pe_tup (pa_cons pe_bl (pa_cons (pv 3) pa_nil))) pa_nil)))) (pss_one (ps_if (pt_cmpR op_eq (pv 2) pe_str (nomark _)) (pss_one (ps_expr (pe_bm PySem.F.plainAttrs_list PySem.F.slot_list_append PySem.F.type_list_append mt_append (pv 1) (pa_cons (pe_tup (pa_cons pe_bl (pa_cons (pe_op op_add_str (pe_op op_add_str pe_str (pe_join pe_str (pv 3))) pe_str) pa_nil))) pa_nil)))) (pss_one (ps_if (pt_cmpR op_eq (pv 2) pe_str (nomark _)) (pss_one (ps_expr (pe_bm PySem.F.plainAttrs_list PySem.F.slot_list_append PySem.F.type_list_append mt_append (pv 1) (pa_cons (pe_tup (pa_cons pe_bl (pa_cons (pv 3) pa_nil))) pa_nil)))) (pss_one (ps_if (pt_cmpR op_ne (pv 2) pe_str (nomark _)) (pss_one (ps_expr (pe_bm PySem.F.plainAttrs_list PySem.F.slot_list_extend PySem.F.type_list_extend mt_extend (pv 1) (pa_cons (pe_lc (own := [("part", 4)]) (g := gName 4) (tt := tYes) (te := (tTup (tCons (tC (.bl true)) (tCons (tVar 4) tNil)))) rfl scpieces_of.nd (pi_tup (pv 3)) (blkOk_by (N := slpieces_of) (sc := defScope spieces_of) (by decide +kernel)) (fun _ _ _ _ _ => (pg_name (i := 4) scpieces_of.nd rfl (.inl rfl))) (fun _ _ _ _ _ => pts_nil) (fun _ _ _ _ _ => (pe_tup (pa_cons pe_bl (pa_cons (pv 4) pa_nil))))) pa_nil)))) pss_nil)))))))))
  (pss_one (ps_ret (pv 1))))), ?_⟩
      refine ⟨(by show 0 ≤ sizeLine; decide), fun D hD => ?_⟩
      have s1 : Same H (upd H D (.lst [])) := same_new hD
      have e1 : upd H D (.lst []) D = some (.lst []) := upd_same
      generalize upd H D (.lst []) = H1 at *
      have hp1 := s1 _ _ hp
      refine ⟨_, rfl, p, _, _, _, rfl, rfl, SqT.of hp1, atI_nat (j := 0) rfl, fo, z, .ref t, rfl, rfl, hk, _, rfl, 1, rfl, p, _, rfl, SqT.of hp1, fun c => absurd c not_whole, fun _ tp htp => ?_⟩
      rw [cut1]
      have s2 : Same H1 (upd H1 tp (.tup xr)) := same_new htp
      have e2 : upd H1 tp (.tup xr) tp = some (.tup xr) := upd_same
      generalize upd H1 tp (.tup xr) = H2 at *
      have hl : its.length = (formOf z).length := hfit.len.symm
      have hl2 : xr.length = its.length := hxr.len
      have l3 : (formOf z).length ≤ 3 := (form_in _ (node_in hw)).2
      have s12 := s1.trans s2
      refine ⟨t, tp, (formOf z).map V.str, xr, rfl, .inr ⟨hsq _, SqT.of e2, RZ.for_zipT (K := K) (xs := (formOf z).map V.str) (ys := xr) (by rw [List.length_map]; omega)
        (fun i σ H' => Same H H' ∧ Tp H2 H' ∧ ∃ t2 t3 rs, σ = [some (.ref p), some (.ref D), t2, t3, none] ∧ H' D = some (.lst rs) ∧ PcAt H' rs (zipF pc1 ((formOf z).take i) (its.take i)) ∧ rs.length ≤ 12 * i) ?_ ?_ ?_ ?_⟩⟩
      · exact ⟨s12, fun _ _ e => e, none, none, [], rfl, s2 _ _ e1, by rw [List.take_zero]; exact .nil, Nat.le_refl _⟩
      · rintro i σ H' ⟨_, s3, _⟩
        exact ⟨hsq _, SqT.of (s3 _ _ e2)⟩
      · rintro i x y T σ H' ex ey ⟨s0, s3, t2, t3, rs, rfl, hD3, pc3, lr3⟩ hT
        rw [List.getElem?_map] at ex
        obtain ⟨k, ek, rfl⟩ := Option.map_eq_some_iff.mp ex
        obtain ⟨e, ee, qe⟩ := hxr.get ey
        have li : i < (formOf z).length := (List.getElem?_eq_some_iff.mp ek).1
        have pt := zipF_take pc1 ek ee
        have f1 := hfit.at_ ek ee
        have kno := hno k (List.mem_of_getElem? ek)
        have p12 := pc1_len f1
        have sT : Same H' (upd H' T (.tup [.str k, y])) := same_new hT
        have eT : upd H' T (.tup [.str k, y]) T = some (.tup [.str k, y]) := upd_same
        generalize upd H' T (.tup [.str k, y]) = HT at *
        have s04 := s0.trans sT
        have qe : Dz HT y e := qe.tp (same_tp s04)
        have hD4 := sT _ _ hD3
        have pc4 := pc3.tp (same_tp sT)
        have tp4 : Tp H2 HT := fun b ys e => sT _ _ (s3 _ _ e)
        refine ⟨T, _, rfl, SqT.of eT, rfl, _, _, rfl, _, _, rfl, rfl, ?_⟩
        -- rows of pieces are put behind
        have step : ∀ (nw : List V) (H5 : Hp), Same HT H5 → PcAt H5 nw (pc1 k e) → Same H (upd H5 D (.lst (rs ++ nw))) ∧ Tp H2 (upd H5 D (.lst (rs ++ nw))) ∧ ∃ t2' t3' rs', ([some (V.ref p), some (V.ref D), some (V.str k), some y, none] : L2.St) = [some (.ref p), some (.ref D), t2', t3', none] ∧ upd H5 D (.lst (rs ++ nw)) D = some (.lst rs') ∧ PcAt (upd H5 D (.lst (rs ++ nw))) rs' (zipF pc1 ((formOf z).take (i + 1)) (its.take (i + 1))) ∧ rs'.length ≤ 12 * (i + 1) := fun nw H5 s5 pn => by
          have tu : Tp H5 (upd H5 D (.lst (rs ++ nw))) := upd_tp (s5 _ _ hD4)
          refine ⟨same_grow (s04.trans s5) hD, fun b ys e => tu _ _ (s5 _ _ (tp4 _ _ e)), _, _, rs ++ nw, rfl, upd_same, ?_, ?_⟩
          · rw [pt]
            exact ((pc4.tp (same_tp s5)).app pn).tp tu
          · rw [List.length_append, pn.len]
            omega
        have ls : rs.length < sizeLine := small1000 (by omega)
        refine ⟨_, rfl, (by show 2 ≤ sizeLine; decide), fun b0 hb0 => ?_⟩
        have s5 : Same HT (upd HT b0 (.tup [.str "binder", .str "tag"])) := same_new hb0
        have e5 : upd HT b0 (.tup [.str "binder", .str "tag"]) b0 = some (.tup [.str "binder", .str "tag"]) := upd_same
        generalize upd HT b0 (.tup [.str "binder", .str "tag"]) = H5 at *
        have hD5 := s5 _ _ hD4
        have qe5 := qe.tp (same_tp s5)
        refine ⟨b0, _, rfl, .inr (SqT.of e5), rfl, rfl, _, rfl, ?_⟩
        show if inV (.str k) ((["binder", "tag"] : List Str).map V.str) = true then _ else _
        rw [inV_strs]
        by_cases h1 : k ∈ (["binder", "tag"] : List Str)
        · refine ite_t (decide_eq_true h1) ?_
          refine ⟨_, rfl, .inl ⟨rfl, _, SqL.of hD5⟩, _, rfl, (by show 2 ≤ sizeLine; decide), fun u hu => ⟨D, _, _, rfl, rfl, same_new hu _ _ hD5, ls, ?_⟩⟩
          have s6 : Same H5 (upd H5 u (.tup [.bl false, y])) := same_new hu
          refine step [.ref u] _ (s5.trans s6) ?_
          have ep : pc1 k e = [(false, e)] := by
            unfold pc1
            rw [if_pos h1]
          rw [ep]
          exact .cons upd_same (qe5.tp (same_tp s6)) .nil
        refine ite_f (decide_eq_false h1) ?_
        refine ⟨_, rfl, rfl, _, rfl, ?_⟩
        by_cases h2 : k = "binders"
        · refine ite_t (decide_eq_true (by rw [h2])) ?_
          subst h2
          cases f1 with
          | @binds zs lz hz =>
            cases qe5 with
            | @tup u us _ hu hus =>
              have eu : us = zs.map V.str := dzl_strs hus
              have jl := join_len zs hz lz
              have e1 : ("(" : Str).length = 1 := by decide +kernel
              have e2 : (")" : Str).length = 1 := by decide +kernel
              have jl2 := join_le zs hz lz
              have big : (1000 : Nat) ≤ sizeLine := by decide
              refine ⟨_, rfl, .inl ⟨rfl, _, SqL.of hD5⟩, ?_⟩
              refine ⟨⟨_, rfl⟩, _, rfl, _, u, zs, rfl, rfl, .inr (SqT.of (by rw [hu, eu])), by omega, _, _, rfl, rfl, by omega, _, _, rfl, rfl, by rw [app_len]; omega, (by show 2 ≤ sizeLine; decide), fun b1 hb1 => ⟨D, _, _, rfl, rfl, same_new hb1 _ _ hD5, ls, ?_⟩⟩
              have s6 := same_new (o := .tup [.bl false, .str ("(" ++ Txt.join " " zs ++ ")")]) hb1
              refine step [.ref b1] _ (s5.trans s6) ?_
              have ep : pc1 "binders" (.tuple (zs.map PyData.str)) = [(false, .str ("(" ++ Txt.join " " zs ++ ")"))] := by
                unfold pc1
                rw [if_neg h1, if_pos rfl]
                unfold namesTx
                rw [show itemsOf (.tuple (zs.map PyData.str)) = zs.map PyData.str from rfl, flat_strOf]
              rw [ep]
              exact .cons upd_same (.str _) .nil
          | str hk _ =>
            have kk : ∀ k ∈ (["text", "name", "tag", "word"] : List Str), ¬ k = "binders" := by decide +kernel
            exact absurd rfl (kk _ hk)
          | parts hk _ =>
            have kk : ∀ k ∈ (["handed parts", "row parts", "op parts"] : List Str), ¬ k = "binders" := by decide +kernel
            exact absurd rfl (kk _ hk)
        refine ite_f (decide_eq_false fun h => h2 (V.str.inj h)) ?_
        refine ⟨_, rfl, rfl, _, rfl, ?_⟩
        by_cases h3 : k = "part"
        · refine ite_t (decide_eq_true (by rw [h3])) ?_
          refine ⟨_, rfl, .inl ⟨rfl, _, SqL.of hD5⟩, _, rfl, (by show 2 ≤ sizeLine; decide), fun u hu => ⟨D, _, _, rfl, rfl, same_new hu _ _ hD5, ls, ?_⟩⟩
          have s6 : Same H5 (upd H5 u (.tup [.bl true, y])) := same_new hu
          refine step [.ref u] _ (s5.trans s6) ?_
          have ep : pc1 k e = [(true, e)] := by
            unfold pc1
            rw [if_neg h1, if_neg h2, if_pos h3]
          rw [ep]
          exact .cons upd_same (qe5.tp (same_tp s6)) .nil
        refine ite_f (decide_eq_false fun h => h3 (V.str.inj h)) ?_
        refine ⟨_, rfl, rfl, _, rfl, ?_⟩
        by_cases h4 : k = "word"
        · refine ite_f (by simp [h4]) ?_
          have ep : pc1 k e = [] := by
            unfold pc1
            rw [if_neg h1, if_neg h2, if_neg h3, if_pos h4]
          have tu : Tp H2 H5 := fun b ys e => s5 _ _ (tp4 _ _ e)
          refine ⟨s04.trans s5, tu, _, _, rs, rfl, hD5, ?_, by omega⟩
          rw [pt, ep, List.append_nil]
          exact pc4.tp (same_tp s5)
        · refine ite_t (by simp [h4]) ?_
          cases f1 with
          | @parts _ ds hk ld =>
            cases qe5 with
            | @tup u us _ hu hus =>
              have ep : pc1 k (.tuple ds) = ds.map fun d => (true, d) := by
                unfold pc1
                rw [if_neg h1, if_neg h2, if_neg h3, if_neg h4]
                rfl
              have lu := hus.len
              refine ⟨_, rfl, .inl ⟨rfl, _, SqL.of hD5⟩, _, rfl, u, rfl, ⟨_, SqT.of hu⟩, fun L hL => ?_⟩
              refine lc_tup (xs := us) (fun j H' => Same H5 H' ∧ ∃ ws, H' L = some (.lst ws) ∧ PcAt H' ws ((ds.take j).map fun d => (true, d)) ∧ ws.length = min j us.length) ?_ ?_ ?_ ?_
              · exact ⟨same_new hL, [], upd_same, by rw [List.take_zero]; exact .nil, by simp⟩
              · rintro j H' _ ⟨g, _⟩
                exact SqT.of (g _ _ hu)
              · rintro j x H' hx ⟨g, ws, hL', pw, lw⟩
                obtain ⟨d, ed, qd⟩ := hus.get hx
                have lj : j < us.length := (List.getElem?_eq_some_iff.mp hx).1
                refine ⟨rfl, ?_⟩
                unfold tYes
                dsimp only
                rw [if_pos rfl]
                refine ⟨_, rfl, (by show 2 ≤ sizeLine; decide), fun b1 hb1 => ?_⟩
                have s7 : Same H' (upd H' b1 (.tup [.bl true, x])) := same_new hb1
                have e7 : upd H' b1 (.tup [.bl true, x]) b1 = some (.tup [.bl true, x]) := upd_same
                generalize upd H' b1 (.tup [.bl true, x]) = H7 at *
                have hL7 := s7 _ _ hL'
                have tu : Tp H7 (upd H7 L (.lst (ws ++ [.ref b1]))) := upd_tp hL7
                refine ⟨ws, hL7, small1000 (by omega), same_grow (g.trans s7) hL, ws ++ [.ref b1], upd_same, ?_, ?_⟩
                · rw [List.take_add_one, ed, List.map_append]
                  exact ((pw.tp (same_tp s7)).app (.cons e7 (qd.tp (same_tp (g.trans s7))) .nil)).tp tu
                · rw [List.length_append]
                  show ws.length + 1 = _
                  omega
              · rintro H' ⟨g, ws, hL', pw, lw⟩
                rw [List.take_of_length_le (by omega)] at pw
                have hD6 := g _ _ hD5
                refine ⟨D, L, _, _, rfl, rfl, hD6, hL', ?_, ?_⟩
                · rw [lw]
                  exact Nat.le_of_lt (small1000 (by omega))
                · exact step ws H' (s5.trans g) (by rw [ep]; exact pw)
          | num _ _ => exact absurd (by decide +kernel) kno
          | bind _ => exact absurd (by decide +kernel) h1
          | binds _ _ => exact absurd rfl h2
          | part => exact absurd rfl h3
          | str hk _ =>
            have kk : ∀ k ∈ (["text", "name", "tag", "word"] : List Str), k ∈ (["number", "text", "name"] : List Str) ∨ k ∈ (["binder", "tag"] : List Str) ∨ k = "word" := by decide +kernel
            rcases kk _ hk with h | h | h
            · exact absurd h kno
            · exact absurd h h1
            · exact absurd h h4
      · rintro σ H' ⟨s0, s3, t2, t3, rs, rfl, hD3, pc3, lr3⟩
        refine ⟨_, rfl, ?_⟩
        have e1 : (formOf z).take xr.length = formOf z := List.take_of_length_le (by omega)
        have e2 : its.take xr.length = its := List.take_of_length_le (by omega)
        have ll : ((formOf z).map V.str).length = xr.length := by rw [List.length_map]; omega
        simp only [ll, e1, e2] at pc3 lr3
        exact q D rs H' s0 hD hD3 pc3 (by omega)
end
end Wp
set_option Elab.async false
set_option linter.all false
set_option maxRecDepth 100000
namespace Wp
open PySem PySem.Spec PyProof.Rows L2
-- shown_term: slots term 0, told 1, waiting 2, is_term 3, thing 4, text 5, piece 6
abbrev sshown_term : Stmt := top 35
theorem scshown_term : FnScope ["term", "told", "waiting", "is_term", "thing", "text", "piece"] ["term"] (defScope sshown_term) := ⟨rfl, rfl, rfl, by decide +kernel, rfl, by decide +kernel, by decide +kernel⟩
abbrev slshown_term : List Str := ["term", "told", "waiting", "is_term", "thing", "text", "piece"]
/-! ### NoText -/
abbrev sInitX : Stmt := inClass (top 1) 0
theorem scInitX : FnScope ["self", "at"] ["self", "at"] (defScope sInitX) := ⟨rfl, rfl, rfl, by decide +kernel, rfl, by decide +kernel, by decide +kernel⟩
def spInitX (K : PySem.W.Frag) : Sp := fun vs H Q _ => ∃ (e C : Addr) (y : V), vs = [.ref e, y] ∧ H e = some (exo e C none) ∧ OexC K C ∧ PySem.W.findIn K (.ref C) "at" = some none ∧
  ∀ dx, H dx = none → dx ≠ e → Q .non (upd (upd H dx (exd dx [("at", y)])) e (exo e C (some dx)))
theorem same_err {H H2 : Hp} {e dx : Addr} {o : HO} (n1 : H e = none) (n2 : H dx = none) (s : ∀ b u, b ≠ e → b ≠ dx → H b = some u → H2 b = some u) : Same H (upd (del H2 e) dx o) := fun b u q => by
  rw [upd_ne (ne_of_none q n2), del_ne (ne_of_none q n1)]
  exact s b u (ne_of_none q n1) (ne_of_none q n2) q
/-! ### how a term is written -/
mutual
def wtD : PyData → Nat
  | .tuple ds => 2 + wtL ds
  | .none => 2
  | .bool _ => 2
  | .int _ => 2
  | .str _ => 2
  | .list _ => 2
  | .dict _ => 2
def wtL : List PyData → Nat
  | [] => 0
  | d :: ds => wtD d + 1 + wtL ds
end
theorem wtD_two (d : PyData) : 2 ≤ wtD d := by
  cases d <;> simp [wtD]
def wtP (p : Pc) : Nat := if p.1 then wtD p.2 else 1
def wtS : List Pc → Nat
  | [] => 0
  | p :: ps => wtP p + wtS ps
theorem wtS_app (xs ys : List Pc) : wtS (xs ++ ys) = wtS xs + wtS ys := by
  induction xs with
  | nil => simp [wtS]
  | cons x xs ih =>
    rw [List.cons_append, wtS, wtS, ih]
    omega
def firstZ : List PyData → Str
  | .str z :: _ => z
  | _ => ""
def hwZ (w : Str) (its : List PyData) : Str := if w = "op" then firstZ its else w
def headZ (w : Str) (its : List PyData) : Str := "(" ++ hwZ w its
def sepZ (ps : List Pc) : List Pc := ps.flatMap fun p => [(false, .str " "), p]
def pushZ (w : Str) (its : List PyData) : List Pc := sepZ (zipF pc1 (formOf w) its) ++ [(false, .str ")")]
def goS : Nat → List Pc → List Str → Option (List Str)
  | 0, _, told => some told
  | _ + 1, [], told => some told
  | n + 1, (false, .str z) :: ws, told => goS n ws (told ++ [z])
  | n + 1, (true, .tuple (.str w :: its)) :: ws, told => if unclearZ w its then none else match atomZ w its with
    | some z => goS n ws (told ++ [z])
    | none => goS n (pushZ w its ++ ws) (told ++ [headZ w its])
  | n + 1, _ :: ws, told => goS n ws told
/-- terms through and through -/
inductive Tz : PyData → Prop
  | mk {w : Str} {its : List PyData} : Node w its → (∀ d, (true, d) ∈ zipF pc1 (formOf w) its → Tz d) → Tz (.tuple (.str w :: its))
def Vp (p : Pc) : Prop := (p.1 = true → Tz p.2) ∧ (p.1 = false → ∃ z, p.2 = .str z ∧ z.length ≤ 1000)
theorem zipF_mem {α : Type} {g : Str → PyData → List α} {x : α} : ∀ {ks : List Str} {xs : List PyData}, Fit ks xs → x ∈ zipF g ks xs → ∃ k d, F1 k d ∧ x ∈ g k d
  | _, _, .nil, h => by simp [zipF] at h
  | _, _, .cons a t, h => by
    rw [zipF] at h
    rcases List.mem_append.mp h with e | e
    · exact ⟨_, _, a, e⟩
    · exact zipF_mem t e
theorem pc1_false {k : Str} {x d : PyData} (h : F1 k x) (m : (false, d) ∈ pc1 k x) : ∃ z, d = .str z ∧ z.length ≤ 1000 := by
  unfold pc1 at m
  split at m
  · rename_i hk
    have e : d = x := by simpa using m
    subst e
    cases h with
    | str _ l => exact ⟨_, rfl, by omega⟩
    | bind l => exact ⟨_, rfl, by omega⟩
    | num _ _ => exact absurd hk (by decide +kernel)
    | binds _ _ => exact absurd hk (by decide +kernel)
    | part => exact absurd hk (by decide +kernel)
    | parts h2 _ =>
      have kk : ∀ k ∈ (["handed parts", "row parts", "op parts"] : List Str), ¬ k ∈ (["binder", "tag"] : List Str) := by decide +kernel
      exact absurd hk (kk _ h2)
  split at m
  · rename_i hk
    have e : d = .str (namesTx x) := by simpa using m
    refine ⟨_, e, ?_⟩
    subst hk
    cases h with
    | @binds zs l hz =>
      have jl := join_le zs hz l
      have e1 : ("(" : Str).length = 1 := by decide +kernel
      have e2 : (")" : Str).length = 1 := by decide +kernel
      unfold namesTx
      rw [show itemsOf (.tuple (zs.map PyData.str)) = zs.map PyData.str from rfl, flat_strOf, app_len, app_len]
      omega
    | str h2 _ =>
      have kk : ∀ k ∈ (["text", "name", "tag", "word"] : List Str), ¬ k = "binders" := by decide +kernel
      exact absurd rfl (kk _ h2)
    | parts h2 _ =>
      have kk : ∀ k ∈ (["handed parts", "row parts", "op parts"] : List Str), ¬ k = "binders" := by decide +kernel
      exact absurd rfl (kk _ h2)
  split at m
  · simp at m
  split at m
  · simp at m
  · simp at m
theorem sep_vp {ps : List Pc} (h : ∀ p ∈ ps, Vp p) : ∀ p ∈ sepZ ps, Vp p := by
  intro p hp
  unfold sepZ at hp
  rw [List.mem_flatMap] at hp
  obtain ⟨q, hq, hm⟩ := hp
  rcases List.mem_cons.mp hm with e | e
  · rw [e]
    exact ⟨fun h => by simp at h, fun _ => ⟨_, rfl, by decide +kernel⟩⟩
  · rw [List.mem_singleton.mp e]
    exact h q hq
theorem push_vp {w : Str} {its : List PyData} (n : Node w its) (h : ∀ d, (true, d) ∈ zipF pc1 (formOf w) its → Tz d) : ∀ p ∈ pushZ w its, Vp p := by
  intro p hp
  unfold pushZ at hp
  rcases List.mem_append.mp hp with e | e
  · refine sep_vp (fun q hq => ?_) p e
    obtain ⟨b, d⟩ := q
    refine ⟨fun hb => ?_, fun hb => ?_⟩
    · have hb : b = true := hb
      subst hb
      exact h d hq
    · have hb : b = false := hb
      subst hb
      obtain ⟨k, x, f1, m⟩ := zipF_mem n.2 hq
      exact pc1_false f1 m
  · rw [List.mem_singleton.mp e]
    exact ⟨fun h => by simp at h, fun _ => ⟨_, rfl, by decide +kernel⟩⟩
theorem wt_map (ds : List PyData) : wtS (sepZ (ds.map fun d => ((true, d) : Pc))) = wtL ds := by
  induction ds with
  | nil => rfl
  | cons d ds ih =>
    have e : sepZ ((d :: ds).map fun d => ((true, d) : Pc)) = (false, .str " ") :: (true, d) :: sepZ (ds.map fun d => ((true, d) : Pc)) := rfl
    rw [e, wtS, wtS, ih, wtL]
    show 1 + (wtD d + wtL ds) = _
    omega
theorem wt_pc1 {k : Str} {x : PyData} (h : F1 k x) : wtS (sepZ (pc1 k x)) ≤ wtD x + 1 := by
  have w2 := wtD_two x
  unfold pc1
  split
  · show 1 + (1 + 0) ≤ _
    omega
  split
  · show 1 + (1 + 0) ≤ _
    omega
  split
  · show 1 + (wtD x + 0) ≤ _
    omega
  split
  · show 0 ≤ _
    omega
  · rw [wt_map]
    cases x with
    | tuple ds =>
      show wtL ds ≤ 2 + wtL ds + 1
      omega
    | _ => exact Nat.zero_le _
theorem sep_app (xs ys : List Pc) : sepZ (xs ++ ys) = sepZ xs ++ sepZ ys := List.flatMap_append
theorem wt_zip : ∀ {ks : List Str} {xs : List PyData}, Fit ks xs → wtS (sepZ (zipF pc1 ks xs)) ≤ wtL xs
  | _, _, .nil => Nat.le_refl _
  | _, _, .cons a t => by
    have h1 := wt_pc1 a
    have h2 := wt_zip t
    rw [zipF, sep_app, wtS_app, wtL]
    omega
theorem wt_push {w : Str} {its : List PyData} (n : Node w its) : wtS (pushZ w its) + 2 ≤ wtD (.tuple (.str w :: its)) := by
  have h := wt_zip n.2
  unfold pushZ
  rw [wtS_app]
  show wtS (sepZ (zipF pc1 (formOf w) its)) + (1 + 0) + 2 ≤ 2 + (2 + 1 + wtL its)
  omega
theorem len_wt : ∀ (ps : List Pc), ps.length ≤ wtS ps
  | [] => Nat.le_refl _
  | p :: ps => by
    have := len_wt ps
    have h : 1 ≤ wtP p := by
      unfold wtP
      have := wtD_two p.2
      split <;> omega
    rw [List.length_cons, wtS]
    omega
/-- no atom: nothing to be written as it is -/
theorem no_atom {w : Str} {its : List PyData} (n : Node w its) (h : atomZ w its = none) : (∀ k ∈ formOf w, ¬ k ∈ (["number", "text", "name"] : List Str)) ∧ (w = "op" → ∃ z ds, its = .str z :: ds ∧ z.length ≤ 100) := by
  have kk : ∀ w ∈ formWords, ¬ w = "num" → ¬ w = "text" → ¬ w = "name" → ∀ k ∈ formOf w, ¬ k ∈ (["number", "text", "name"] : List Str) := by decide +kernel
  have one : ∀ {k : Str}, formOf w = [k] → ∃ x, its = [x] ∧ F1 k x := fun {k} e => by
    have ft := n.2
    rw [e] at ft
    cases ft with
    | cons a t => cases t; exact ⟨_, rfl, a⟩
  unfold atomZ at h
  refine ⟨kk w n.1 (fun e => ?_) (fun e => ?_) (fun e => ?_), fun e => ?_⟩
  · rw [if_pos e] at h
    obtain ⟨x, rfl, f1⟩ := one (k := "number") (by rw [e]; decide +kernel)
    cases f1 with
    | num _ _ => cases h
    | str h2 _ => exact absurd h2 (by decide +kernel)
    | parts h2 _ => exact absurd h2 (by decide +kernel)
  · have e1 : ¬ w = "num" := by rw [e]; decide +kernel
    rw [if_neg e1, if_pos e] at h
    obtain ⟨x, rfl, f1⟩ := one (k := "text") (by rw [e]; decide +kernel)
    cases f1 with
    | str _ _ => cases h
    | parts h2 _ => exact absurd h2 (by decide +kernel)
  · have e1 : ¬ w = "num" := by rw [e]; decide +kernel
    have e2 : ¬ w = "text" := by rw [e]; decide +kernel
    rw [if_neg e1, if_neg e2, if_pos e] at h
    obtain ⟨x, rfl, f1⟩ := one (k := "name") (by rw [e]; decide +kernel)
    cases f1 with
    | str _ _ => cases h
    | parts h2 _ => exact absurd h2 (by decide +kernel)
  · have ft := n.2
    rw [e, show formOf "op" = (["word", "op parts"] : List Str) by decide +kernel] at ft
    cases ft with
    | cons a t =>
      cases a with
      | @str _ z _ l => exact ⟨z, _, rfl, l⟩
      | parts h2 _ => exact absurd h2 (by decide +kernel)
theorem atom_len {w : Str} {its : List PyData} {z : Str} (n : Node w its) (h : atomZ w its = some z) : z.length ≤ 1000 := by
  have one : ∀ {k : Str}, formOf w = [k] → ∃ x, its = [x] ∧ F1 k x := fun {k} e => by
    have ft := n.2
    rw [e] at ft
    cases ft with
    | cons a t => cases t; exact ⟨_, rfl, a⟩
  unfold atomZ at h
  by_cases e1 : w = "num"
  · rw [if_pos e1] at h
    obtain ⟨x, rfl, f1⟩ := one (k := "number") (by rw [e1]; decide +kernel)
    cases f1 with
    | num _ l => cases h; exact l
    | str h2 _ => exact absurd h2 (by decide +kernel)
    | parts h2 _ => exact absurd h2 (by decide +kernel)
  rw [if_neg e1] at h
  by_cases e2 : w = "text"
  · rw [if_pos e2] at h
    obtain ⟨x, rfl, f1⟩ := one (k := "text") (by rw [e2]; decide +kernel)
    cases f1 with
    | str _ l =>
      cases h
      have q1 : ("\"" : Str).length = 1 := by decide +kernel
      rw [app_len, app_len]
      omega
    | parts h2 _ => exact absurd h2 (by decide +kernel)
  rw [if_neg e2] at h
  by_cases e3 : w = "name"
  · rw [if_pos e3] at h
    obtain ⟨x, rfl, f1⟩ := one (k := "name") (by rw [e3]; decide +kernel)
    cases f1 with
    | str _ l => cases h; omega
    | parts h2 _ => exact absurd h2 (by decide +kernel)
  rw [if_neg e3] at h
  have kk : ∀ w ∈ formWords, w.length ≤ 10 := by decide +kernel
  have := kk w n.1
  split at h
  · cases h; omega
  · cases h
theorem Node.short {w : Str} {its : List PyData} (n : Node w its) : w.length ≤ 10 := by
  have kk : ∀ w ∈ formWords, w.length ≤ 10 := by decide +kernel
  exact kk w n.1
def spShown (C : Addr) : Sp := fun vs H Q E => ∃ (v : V) (d : PyData), vs = [v] ∧ Dz H v d ∧ Tz d ∧ wtD d ≤ 13000 ∧ match goS (wtD d) [(true, d)] [] with
  | some told => ∀ H', Same H H' → Q (.str (Txt.join "" told)) H'
  | none => ∀ dd H', Same H H' → H dd = none → H' dd = some (.xd [("at", .int 0)]) → E (.ref C) (some dd) H'
end Wp
set_option Elab.async false
set_option linter.all false
set_option maxRecDepth 100000
namespace Wp
open PySem PySem.Spec PyProof.Rows L2
theorem smallB {n : Nat} (h : n ≤ 14000) : n < sizeLine := Nat.lt_of_le_of_lt h (by decide)
def InvS (v : V) (TL W : Addr) (H : Hp) (G : Option (List Str)) (n : Nat) (σ : L2.St) (H' : Hp) : Prop := ∃ told ws rs t3 t4 t5 t6, σ = [some v, some (.ref TL), some (.ref W), t3, t4, t5, t6] ∧ Same H H' ∧ H' TL = some (.lst (told.map V.str)) ∧ H' W = some (.lst rs.reverse) ∧ PcAt H' rs ws ∧ (∀ p ∈ ws, Vp p) ∧ wtS ws ≤ n ∧ goS n ws told = G ∧ told.length + n ≤ 13000 ∧ ∀ t ∈ told, t.length ≤ 1100
theorem sum_len : ∀ (told : List Str), (∀ t ∈ told, t.length ≤ 1100) → (told.map (·.length)).sum ≤ 1100 * told.length
  | [], _ => Nat.le_refl _
  | t :: ts, h => by
    have a := h t List.mem_cons_self
    have b := sum_len ts fun y hy => h y (List.mem_cons_of_mem _ hy)
    rw [List.map_cons, List.sum_cons, List.length_cons]
    omega
theorem last_rev (rs : List V) (r : V) : (r :: rs).reverse[(r :: rs).reverse.length - 1]? = some r := by
  rw [List.reverse_cons]
  simp
theorem sep_snoc (ps : List Pc) (p : Pc) : sepZ (ps ++ [p]) = sepZ ps ++ [(false, .str " "), p] := by
  rw [sep_app]
  rfl
section
variable {P : Program} {w : World} {K : PySem.W.Frag} {mg : Str → Option Value} {base : Heap} {f C fI : Addr} {fd fdI : FuncData}
theorem ok_initX (F : Fun K "__init__" "NoText.__init__" sInitX f fd) (m_ValueError : mg "ValueError" = none) (vV : PySem.W.findCls K (.type "ValueError") (.type "type") "__init__" = some (.val (.builtin "ValueError.__init__"))) : FnOk P w K mg base CX0 1 f fd ["self", "at"] (spInitX K) := by
  refine F.ok scInitX (fun vs H Q E h => ?_) (fun cdv A outer s H vs Q E hr h => ?_)
  · obtain ⟨e, C, y, rfl, _⟩ := h
    rfl
  obtain ⟨e, C, y, rfl, he, T, n1, q⟩ := h
  refine ⟨_, pss_cons (ps_expr (pe_veinit rfl m_ValueError vV (pa_cons (pv 0) (pa_cons pe_str pa_nil)))) (pss_one (ps_ost (pv 0) (pv 1))), ?_⟩
  refine ⟨_, rfl, e, C, _, rfl, (by show 1 ≤ 1000; decide), T, he, ?_⟩
  exact ⟨_, rfl, _, rfl, e, C, rfl, T, n1, .inl ⟨he, fun dx hdx ne => q dx hdx ne⟩⟩
theorem ok_shown (F : Fun K "shown_term" "shown_term" sshown_term f fd) (m_reversed : mg "reversed" = none) (Gis_unclear : Has P w K mg base "is_unclear" ["term"] 2 spUncl) (Gshown_atom : Has P w K mg base "shown_atom" ["term"] 1 spAtom) (Gpieces_of : Has P w K mg base "pieces_of" ["term"] 1 spPcs)
    (T : OexC K C) (mC : mg "NoText" = some (.ref C)) (hn1 : PySem.W.findIn K (.ref C) "at" = some none) (iC : PySem.W.findIn K (.ref C) "__init__" = some (some (.ref fI))) (tI : PySem.W.typeIn K (.ref fI) = some (.type "function")) (FI : FnOk P w K mg base CX0 1 fI fdI ["self", "at"] (spInitX K)) (bI : Binds K fdI ["self", "at"] []) :
    FnOk P w K mg base (L2.CX P w) 4 f fd ["term"] (spShown C) := by
  refine F.okX scshown_term (fun vs H Q E h => ?_) (fun cdv A outer s H vs Q E hr h => ?_)
  · obtain ⟨v, d, rfl, _⟩ := h
    rfl
  obtain ⟨v, d, rfl, hd, tz, wt, q⟩ := h
  refine ⟨_, (pss_cons (ps_set (i := 1) scshown_term.nd rfl (.inl rfl) (pe_lst pa_nil))
  (pss_cons (ps_set (i := 2) scshown_term.nd rfl (.inl rfl) (pe_lst (pa_cons (pe_tup (pa_cons pe_bl (pa_cons (pv 0) pa_nil))) pa_nil)))
  (pss_cons (ps_while (passes_of rfl) (pt_truth (pv 2) (fun _ => rfl)) (pss_cons (ps_asg (pe_bm0 PySem.F.plainAttrs_list PySem.F.slot_list_pop PySem.F.type_list_pop mt_pop (pv 2)) (pg_tup rfl (pgs_cons (pg_name (i := 3) scshown_term.nd rfl (.inl rfl)) (pgs_cons (pg_name (i := 4) scshown_term.nd rfl (.inl rfl)) pgs_nil))))
  (pss_cons (ps_if (PW.pt (pw_and (pt_val (pv 3)) (pw_and1 (pt_val (pe_has Gis_unclear (hr.mono (by omega)) (pa_cons (pv 4) pa_nil)))))) (pss_one (ps_raise rfl (takes_of rfl rfl rfl rfl) (pmk_oex T iC tI FI (hr.mono (by decide)) bI .nil pass0 rfl mC (pa_cons pe_int pa_nil)))) pss_nil)
  (pss_cons (ps_set (i := 5) scshown_term.nd rfl (.inl rfl) (pe_ifExp (pt_val (pv 3)) (pe_has Gshown_atom (hr.mono (by omega)) (pa_cons (pv 4) pa_nil)) (pv 4)))
  (pss_one (ps_if (pt_cmpR op_notN (pv 5) pe_non (nomark _)) (pss_one (ps_expr (pe_bm PySem.F.plainAttrs_list PySem.F.slot_list_append PySem.F.type_list_append mt_append (pv 1) (pa_cons (pv 5) pa_nil)))) (pss_cons (ps_expr (pe_bm PySem.F.plainAttrs_list PySem.F.slot_list_append PySem.F.type_list_append mt_append (pv 1) (pa_cons (pe_op op_add_str pe_str (pe_ifExp (pt_cmpR op_eq (pe_ix ix_tup (pv 4) pe_int (fun _ _ => rfl)) pe_str (nomark _)) (pe_ix ix_tup (pv 4) pe_int (fun _ _ => rfl)) (pe_ix ix_tup (pv 4) pe_int (fun _ _ => rfl)))) pa_nil)))
  (pss_cons (ps_expr (pe_bm PySem.F.plainAttrs_list PySem.F.slot_list_append PySem.F.type_list_append mt_append (pv 2) (pa_cons (pe_tup (pa_cons pe_bl (pa_cons pe_str pa_nil))) pa_nil)))
  (pss_one (ps_for (passes_of rfl) rfl (pi_reversed rfl m_reversed (pa_cons (pe_has Gpieces_of (hr.mono (by omega)) (pa_cons (pv 4) pa_nil)) pa_nil)) (pg_name (i := 6) scshown_term.nd rfl (.inl rfl)) (pss_cons (ps_expr (pe_bm PySem.F.plainAttrs_list PySem.F.slot_list_append PySem.F.type_list_append mt_append (pv 2) (pa_cons (pv 6) pa_nil)))
  (pss_one (ps_expr (pe_bm PySem.F.plainAttrs_list PySem.F.slot_list_append PySem.F.type_list_append mt_append (pv 2) (pa_cons (pe_tup (pa_cons pe_bl (pa_cons pe_str pa_nil))) pa_nil)))))))))))))))
  (pss_one (ps_ret (pe_join pe_str (pv 1))))))), ?_⟩
  generalize hG : goS (wtD d) [(true, d)] [] = G at q
  refine ⟨(by show 0 ≤ sizeLine; decide), fun TL hTL => ?_⟩
  have s1 : Same H (upd H TL (.lst [])) := same_new hTL
  have e1 : upd H TL (.lst []) TL = some (.lst []) := upd_same
  generalize upd H TL (.lst []) = H1 at *
  refine ⟨_, rfl, (by show 2 ≤ sizeLine; decide), fun t0 ht0 => ?_⟩
  have s2 : Same H1 (upd H1 t0 (.tup [.bl true, v])) := same_new ht0
  have e2 : upd H1 t0 (.tup [.bl true, v]) t0 = some (.tup [.bl true, v]) := upd_same
  generalize upd H1 t0 (.tup [.bl true, v]) = H2 at *
  refine ⟨(by show 1 ≤ sizeLine; decide), fun W hW => ?_⟩
  have s3 : Same H2 (upd H2 W (.lst [.ref t0])) := same_new hW
  have e3 : upd H2 W (.lst [.ref t0]) W = some (.lst [.ref t0]) := upd_same
  have nTW : TL ≠ W := ne_of_none (s2 _ _ e1) hW
  have W0 : H W = none := same_none (s1.trans s2) hW
  generalize upd H2 W (.lst [.ref t0]) = H3 at *
  have s03 := s1.trans (s2.trans s3)
  refine ⟨fun n σ H' => InvS v TL W H G n σ H', ⟨wtD d, [], [(true, d)], [.ref t0], none, none, none, none, rfl, s03, s3 _ _ (s2 _ _ e1), e3, .cons (s3 _ _ e2) (hd.tp (same_tp s03)) .nil, ?_, ?_, hG, ?_, fun t ht => by cases ht⟩, ?_⟩
  · intro p hp
    rw [List.mem_singleton.mp hp]
    exact ⟨fun _ => tz, fun h => by cases h⟩
  · show wtD d + 0 ≤ wtD d
    omega
  · show 0 + wtD d ≤ 13000
    omega
  rintro n σ H4 ⟨told, ws, rs, t3, t4, t5, t6, rfl, s4, hT4, hW4, pc4, vp4, wt4, go4, tot, tl4⟩
  have lt : (told.map V.str).length = told.length := List.length_map _
  refine ⟨_, rfl, _, .inl ⟨rs.reverse, SqL.of hW4, rfl⟩, ?_⟩
  cases pc4 with
  | nil =>
    refine ite_f rfl ?_
    have eg : G = some told := by
      rw [← go4]
      cases n <;> rfl
    rw [eg] at q
    have sl := sum_len told tl4
    have e0 : ("" : Str).length = 0 := by decide +kernel
    refine ⟨⟨_, rfl⟩, _, rfl, _, TL, told, rfl, rfl, .inl (SqL.of hT4), ?_, q _ s4⟩
    rw [e0]
    omega
  | @cons t b x dx rs' ws' ht hdx pc5 =>
    refine ite_t (by simp) ?_
    obtain ⟨vt, vf⟩ := vp4 _ List.mem_cons_self
    have vp5 : ∀ p ∈ ws', Vp p := fun p hp => vp4 p (List.mem_cons_of_mem _ hp)
    have lw := len_wt ws'
    have lr := pc5.len
    have w1 : 1 ≤ wtP (b, dx) := by
      have := wtD_two dx
      cases b with
      | false => exact Nat.le_refl 1
      | true =>
        show 1 ≤ wtD dx
        omega
    have wt4 : wtP (b, dx) + wtS ws' ≤ n := wt4
    obtain ⟨m, rfl⟩ : ∃ m, n = m + 1 := ⟨n - 1, by omega⟩
    refine ⟨fun σ' H' => InvS v TL W H G m σ' H', fun σ' H' i => ⟨m, Nat.lt_succ_self m, i⟩, ?_⟩
    refine ⟨_, rfl, .inl ⟨rfl, _, SqL.of hW4⟩, W, _, .ref t, rfl, rfl, hW4, last_rev rs' (.ref t), ?_⟩
    have eW5 : upd H4 W (.lst (V.ref t :: rs').reverse.dropLast) W = some (.lst rs'.reverse) := by
      rw [upd_same, List.reverse_cons, List.dropLast_concat]
    have tp5 : Tp H4 (upd H4 W (.lst (V.ref t :: rs').reverse.dropLast)) := upd_tp hW4
    have s5 : Same H (upd H4 W (.lst (V.ref t :: rs').reverse.dropLast)) := same_grow s4 W0
    have hT5 : upd H4 W (.lst (V.ref t :: rs').reverse.dropLast) TL = some (.lst (told.map V.str)) := by rw [upd_ne nTW]; exact hT4
    generalize upd H4 W (.lst (V.ref t :: rs').reverse.dropLast) = H5 at *
    have ht5 := tp5 _ _ ht
    have dx5 := hdx.tp tp5
    have pc6 := pc5.tp tp5
    refine ⟨t, _, rfl, SqT.of ht5, rfl, _, _, rfl, _, _, rfl, rfl, ?_⟩
    -- a text is told
    have tell : ∀ (y : Str) (H6 : Hp), Same H5 H6 → y.length ≤ 1100 → goS m ws' (told ++ [y]) = G → ∀ t3' t4' t5' t6', InvS v TL W H G m [some v, some (.ref TL), some (.ref W), t3', t4', t5', t6'] (upd H6 TL (.lst (told.map V.str ++ [.str y]))) := fun y H6 s6 ly gy t3' t4' t5' t6' => by
      have hT6 := s6 _ _ hT5
      have tp6 : Tp H6 (upd H6 TL (.lst (told.map V.str ++ [.str y]))) := upd_tp hT6
      refine ⟨told ++ [y], ws', rs', t3', t4', t5', t6', rfl, same_grow (s5.trans s6) hTL, ?_, by rw [upd_ne nTW.symm]; exact s6 _ _ eW5, (pc6.tp (same_tp s6)).tp tp6, vp5, by omega, gy, ?_, fun z hz => ?_⟩
      · rw [upd_same, List.map_append]
        rfl
      · rw [List.length_append]
        show told.length + 1 + m ≤ 13000
        omega
      · rcases List.mem_append.mp hz with e | e
        · exact tl4 z e
        · rw [List.mem_singleton.mp e]
          exact ly
    have lts : (told.map V.str).length < sizeLine := by rw [lt]; exact smallB (by omega)
    cases b with
    | false =>
      obtain ⟨y, ey, ly⟩ := vf rfl
      have ey : dx = .str y := ey
      subst ey
      cases dx5
      have gy : goS m ws' (told ++ [y]) = G := go4
      refine ⟨_, rfl, _, rfl, iteF (iteF ?_)⟩
      refine ⟨_, rfl, _, rfl, iteF ⟨_, rfl, ?_⟩⟩
      refine ⟨_, rfl, rfl, _, rfl, ite_t rfl ?_⟩
      exact ⟨_, rfl, .inl ⟨rfl, _, SqL.of hT5⟩, _, rfl, TL, _, _, rfl, rfl, hT5, lts, tell y H5 (Same.refl _) (by omega) gy _ _ _ _⟩
    | true =>
      have tzx := vt rfl
      have tzx : Tz dx := tzx
      cases tzx with
      | @mk wd its nd sub =>
        have wp := wt_push nd
        have wt4 : wtD (.tuple (.str wd :: its)) + wtS ws' ≤ m + 1 := wt4
        refine ⟨_, rfl, _, rfl, iteT ⟨_, rfl, _, wd, its, rfl, dx5, nd, fun H6 s6 => ⟨_, rfl, ?_⟩⟩⟩
        by_cases hu : unclearZ wd its = true
        · refine ite_t hu ?_
          have eg : G = none := by
            rw [← go4]
            show (if unclearZ wd its = true then none else _) = none
            rw [if_pos hu]
          rw [eg] at q
          refine ⟨(by show 1 ≤ 1000; decide), fun er her => ⟨er, C, .int 0, rfl, upd_same, T, hn1, fun dd hdd ne => ?_⟩⟩
          have hdd0 : H6 dd = none := by
            rw [upd_ne ne] at hdd
            exact hdd
          refine ⟨rfl, dd, [("at", .int 0)], upd_same, by rw [upd_ne ne]; exact upd_same, hdd0, ?_⟩
          have sg := s5.trans s6
          refine q dd _ (same_err (same_none sg her) (same_none sg hdd0) fun b u n1 n2 e => ?_) (same_none sg hdd0) upd_same
          rw [upd_ne n1, upd_ne n2, upd_ne n1]
          exact sg _ _ e
        have hu := Bool.eq_false_iff.mpr hu
        refine ite_f hu ?_
        refine ⟨_, rfl, _, rfl, iteT ⟨_, rfl, _, wd, its, rfl, dx5.tp (same_tp s6), nd, ?_⟩⟩
        have gz : (match atomZ wd its with | some z => goS m ws' (told ++ [z]) | none => goS m (pushZ wd its ++ ws') (told ++ [headZ wd its])) = G := by
          rw [← go4]
          show _ = (if unclearZ wd its = true then none else _)
          rw [hu]
          rfl
        cases ha : atomZ wd its with
        | some y =>
          rw [ha] at gz
          have ly := atom_len nd ha
          refine ⟨_, rfl, rfl, _, rfl, ite_t rfl ?_⟩
          exact ⟨_, rfl, .inl ⟨rfl, _, SqL.of (s6 _ _ hT5)⟩, _, rfl, TL, _, _, rfl, rfl, s6 _ _ hT5, lts, tell y H6 s6 (by omega) gz _ _ _ _⟩
        | none =>
          rw [ha] at gz
          obtain ⟨kno, opz⟩ := no_atom nd ha
          refine ⟨_, rfl, rfl, _, rfl, ite_f rfl ?_⟩
          have dx6 := dx5.tp (same_tp s6)
          have hT6 := s6 _ _ hT5
          have eW6 := s6 _ _ eW5
          have pc7 := pc6.tp (same_tp s6)
          have s06 := s5.trans s6
          have dx60 := dx6
          cases dx6 with
          | @tup pa xs0 _ hpa hxs0 =>
            cases hxs0 with
            | @cons x0 xr _ _ h0 hxr =>
              cases h0
              have shrt := nd.short
              have big : (1000 : Nat) ≤ sizeLine := by decide
              have l1 : ("(" : Str).length = 1 := by decide +kernel
              refine ⟨_, rfl, .inl ⟨rfl, _, SqL.of hT6⟩, ?_⟩
              refine ⟨_, rfl, pa, _, _, _, rfl, rfl, SqT.of hpa, atI_nat (j := 0) rfl, rfl, _, rfl, ?_⟩
              have hl : (headZ wd its).length ≤ 1100 ∧ (hwZ wd its).length ≤ 900 := by
                unfold headZ hwZ
                rw [app_len]
                by_cases ho : wd = "op"
                · obtain ⟨z, ds, ez, lz⟩ := opz ho
                  subst ez
                  rw [if_pos ho]
                  show _ + z.length ≤ 1100 ∧ z.length ≤ 900
                  omega
                · rw [if_neg ho]
                  omega
              refine ite_join (.str (hwZ wd its)) ?_ (fun hc k => ?_) (fun hc k => ?_)
              · refine ⟨_, _, rfl, rfl, by omega, TL, _, _, rfl, rfl, hT6, lts, ?_⟩
                show _
                have eh : (("(" : Str) ++ hwZ wd its : Str) = headZ wd its := rfl
                rw [eh]
                have hT7 : upd H6 TL (.lst (told.map V.str ++ [.str (headZ wd its)])) TL = some (.lst ((told ++ [headZ wd its]).map V.str)) := by
                  rw [upd_same, List.map_append]
                  rfl
                have tp7 : Tp H6 (upd H6 TL (.lst (told.map V.str ++ [.str (headZ wd its)]))) := upd_tp hT6
                have eW7 : upd H6 TL (.lst (told.map V.str ++ [.str (headZ wd its)])) W = some (.lst rs'.reverse) := by rw [upd_ne nTW.symm]; exact eW6
                have s07 : Same H (upd H6 TL (.lst (told.map V.str ++ [.str (headZ wd its)]))) := same_grow s06 hTL
                have dx7 := dx60.tp tp7
                have pc8 := pc7.tp tp7
                generalize upd H6 TL (.lst (told.map V.str ++ [.str (headZ wd its)])) = H7 at *
                refine ⟨_, rfl, .inl ⟨rfl, _, SqL.of eW7⟩, (by show 2 ≤ sizeLine; decide), fun b1 hb1 => ?_⟩
                have s8 : Same H7 (upd H7 b1 (.tup [.bl false, .str ")"])) := same_new hb1
                have e8 : upd H7 b1 (.tup [.bl false, .str ")"]) b1 = some (.tup [.bl false, .str ")"]) := upd_same
                generalize upd H7 b1 (.tup [.bl false, .str ")"]) = H8 at *
                have lrr : rs'.reverse.length ≤ 13000 := by rw [List.length_reverse, lr]; omega
                refine ⟨W, _, _, rfl, rfl, s8 _ _ eW7, smallB (by omega), ?_⟩
                have eW9 : upd H8 W (.lst (rs'.reverse ++ [.ref b1])) W = some (.lst (V.ref b1 :: rs').reverse) := by rw [upd_same, List.reverse_cons]
                have tp9 : Tp H8 (upd H8 W (.lst (rs'.reverse ++ [.ref b1]))) := upd_tp (s8 _ _ eW7)
                have hT9 : upd H8 W (.lst (rs'.reverse ++ [.ref b1])) TL = some (.lst ((told ++ [headZ wd its]).map V.str)) := by rw [upd_ne nTW]; exact s8 _ _ hT7
                have s09 : Same H (upd H8 W (.lst (rs'.reverse ++ [.ref b1]))) := same_grow (s07.trans s8) W0
                have dx9 := (dx7.tp (same_tp s8)).tp tp9
                have pc9 : PcAt (upd H8 W (.lst (rs'.reverse ++ [.ref b1]))) (.ref b1 :: rs') ((false, .str ")") :: ws') := .cons (tp9 _ _ e8) (.str _) ((pc8.tp (same_tp s8)).tp tp9)
                generalize upd H8 W (.lst (rs'.reverse ++ [.ref b1])) = H9 at *
                refine ⟨_, rfl, _, wd, its, rfl, dx9, nd, kno, fun pl prs Ha sa npl hpl pcs lp => ⟨pl, prs, rfl, SqL.of hpl, ?_⟩⟩
                have nWl : pl ≠ W := fun e => by rw [e, eW9] at npl; cases npl
                have nTl : pl ≠ TL := fun e => by rw [e, hT9] at npl; cases npl
                have lps := pcs.len
                refine for_it (walk_rev (xs := prs)) (fun i σ H' => Same H H' ∧ H' pl = some (.lst prs) ∧ H' TL = some (.lst ((told ++ [headZ wd its]).map V.str)) ∧ Tp Ha H' ∧ ∃ rw t6', σ = [some v, some (.ref TL), some (.ref W), some (.bl true), some (.ref pa), some .non, t6'] ∧ H' W = some (.lst rw.reverse) ∧ PcAt H' rw (sepZ ((zipF pc1 (formOf wd) its).drop (prs.length - i)) ++ ((false, .str ")") :: ws')) ∧ rw.length ≤ 2 * i + 1 + rs'.length) ?_ ?_ ?_ ?_
                · refine ⟨s09.trans sa, hpl, sa _ _ hT9, fun _ _ e => e, _, _, rfl, sa _ _ eW9, ?_, ?_⟩
                  · rw [Nat.sub_zero, lps, List.drop_length]
                    exact pc9.tp (same_tp sa)
                  · rw [List.length_cons]
                    omega
                · rintro i σ H' _ ⟨_, hp', _⟩
                  exact SqL.of hp'
                · rintro i x σ H'' H' hi ⟨sb, hp', hT', tb, rw, t6', rfl, hW', pw, lw'⟩ ⟨rfl, ex⟩
                  obtain ⟨tq, bq, vq, dq, rfl, epq, etq, dvq⟩ := pcs.get ex
                  have etq := tb _ _ etq
                  have dvq := dvq.tp tb
                  have ed : (zipF pc1 (formOf wd) its).drop (prs.length - (i + 1)) = (bq, dq) :: (zipF pc1 (formOf wd) its).drop (prs.length - i) := by
                    have li : prs.length - 1 - i < (zipF pc1 (formOf wd) its).length := (List.getElem?_eq_some_iff.mp epq).1
                    rw [show prs.length - (i + 1) = prs.length - 1 - i by omega, List.drop_eq_getElem_cons li]
                    rw [List.getElem?_eq_getElem li] at epq
                    rw [Option.some.inj epq, show prs.length - 1 - i + 1 = prs.length - i by omega]
                  refine ⟨_, rfl, .inl ⟨rfl, _, SqL.of hW'⟩, _, rfl, W, _, _, rfl, rfl, hW', ?_, ?_⟩
                  · rw [List.length_reverse]
                    exact smallB (by omega)
                  have eWb : upd H' W (.lst (rw.reverse ++ [.ref tq])) W = some (.lst (V.ref tq :: rw).reverse) := by rw [upd_same, List.reverse_cons]
                  have tpb : Tp H' (upd H' W (.lst (rw.reverse ++ [.ref tq]))) := upd_tp hW'
                  have hTb : upd H' W (.lst (rw.reverse ++ [.ref tq])) TL = some (.lst ((told ++ [headZ wd its]).map V.str)) := by rw [upd_ne nTW]; exact hT'
                  have hpb : upd H' W (.lst (rw.reverse ++ [.ref tq])) pl = some (.lst prs) := by rw [upd_ne nWl]; exact hp'
                  have sbb : Same H (upd H' W (.lst (rw.reverse ++ [.ref tq]))) := same_grow sb W0
                  have pwb := pw.tp tpb
                  have etb := tpb _ _ etq
                  have dvb := dvq.tp tpb
                  have tbb : Tp Ha (upd H' W (.lst (rw.reverse ++ [.ref tq]))) := fun b ys e => tpb _ _ (tb _ _ e)
                  generalize upd H' W (.lst (rw.reverse ++ [.ref tq])) = Hb at *
                  refine ⟨_, rfl, .inl ⟨rfl, _, SqL.of eWb⟩, (by show 2 ≤ sizeLine; decide), fun b2 hb2 => ?_⟩
                  have sc : Same Hb (upd Hb b2 (.tup [.bl false, .str " "])) := same_new hb2
                  have ec : upd Hb b2 (.tup [.bl false, .str " "]) b2 = some (.tup [.bl false, .str " "]) := upd_same
                  generalize upd Hb b2 (.tup [.bl false, .str " "]) = Hc at *
                  have eWc := sc _ _ eWb
                  refine ⟨W, _, _, rfl, rfl, eWc, ?_, ?_⟩
                  · rw [List.length_reverse, List.length_cons]
                    exact smallB (by omega)
                  have tpd : Tp Hc (upd Hc W (.lst ((V.ref tq :: rw).reverse ++ [.ref b2]))) := upd_tp eWc
                  refine ⟨same_grow (sbb.trans sc) W0, by rw [upd_ne nWl]; exact sc _ _ hpb, by rw [upd_ne nTW]; exact sc _ _ hTb, fun b ys e => tpd _ _ (sc _ _ (tbb _ _ e)), .ref b2 :: .ref tq :: rw, _, rfl, ?_, ?_, ?_⟩
                  · rw [upd_same]
                    simp
                  · rw [ed]
                    exact PcAt.cons (tpd _ _ ec) (.str _) (PcAt.cons (tpd _ _ (sc _ _ etb)) ((dvb.tp (same_tp sc)).tp tpd) ((pwb.tp (same_tp sc)).tp tpd))
                  · rw [List.length_cons, List.length_cons]
                    omega
                · rintro σ H' ⟨sb, hp', hT', tb, rw, t6', rfl, hW', pw, lw'⟩
                  rw [Nat.sub_self, List.drop_zero] at pw
                  have ep : sepZ (zipF pc1 (formOf wd) its) ++ ((false, .str ")") :: ws') = pushZ wd its ++ ws' := by
                    unfold pushZ
                    rw [List.append_assoc]
                    rfl
                  rw [ep] at pw
                  refine ⟨told ++ [headZ wd its], pushZ wd its ++ ws', rw, _, _, _, _, rfl, sb, hT', hW', pw, fun p hp => ?_, ?_, gz, ?_, fun z hz => ?_⟩
                  · rcases List.mem_append.mp hp with e | e
                    · exact push_vp nd sub p e
                    · exact vp5 p e
                  · rw [wtS_app]
                    omega
                  · rw [List.length_append]
                    show told.length + 1 + m ≤ 13000
                    omega
                  · rcases List.mem_append.mp hz with e | e
                    · exact tl4 z e
                    · rw [List.mem_singleton.mp e]
                      exact hl.1
              · have ho : wd = "op" := V.str.inj (of_decide_eq_true hc)
                obtain ⟨z, ds, ez, lz⟩ := opz ho
                subst ez
                cases hxr with
                | @cons x1 xr2 _ _ h1 h2 =>
                  cases h1
                  unfold hwZ at k
                  rw [if_pos ho] at k
                  exact ⟨_, rfl, pa, _, _, _, rfl, rfl, SqT.of hpa, atI_nat (j := 1) rfl, k⟩
              · have ho : ¬ wd = "op" := fun e => of_decide_eq_false hc (by rw [e])
                unfold hwZ at k
                rw [if_neg ho] at k
                exact ⟨_, rfl, pa, _, _, _, rfl, rfl, SqT.of hpa, atI_nat (j := 0) rfl, k⟩
end
end Wp
set_option Elab.async false
set_option linter.all false
set_option maxRecDepth 100000
namespace Wp
open PySem PySem.Spec PyProof.Rows L2
/-! ### stacks of brackets -/
structure Gs (n : Nat) (bs : List Br) : Prop where
  ne : bs ≠ []
  len : bs.length ≤ 300
  few : ∀ b ∈ bs, b.things.length ≤ n ∧ b.kinds ≠ [] ∧ b.kinds.length ≤ 10
  cal : ∀ b ∈ bs, b.word = "call" → 1 ≤ b.least
  two : ∀ b r, bs = b :: r → b.word = "names" → r ≠ []
  nam : ∀ d ∈ namesF ⟨bs, "", none⟩, ∃ z, d = .str z
theorem Gs.mono {n m : Nat} {bs : List Br} (h : Gs n bs) (l : n ≤ m) : Gs m bs := ⟨h.ne, h.len, fun b hb => ⟨Nat.le_trans (h.few b hb).1 l, (h.few b hb).2⟩, h.cal, h.two, h.nam⟩
theorem Gs.ok {n : Nat} {bs : List Br} (h : Gs n bs) (hn : n ≤ 800) {z : Str} {q : Option Str} (hz : z.length ≤ 600) (hq : q = some ("number" : Str) → z = "-" ∨ ∃ i, intText? z = some i) : Ok ⟨bs, z, q⟩ :=
  ⟨⟨hz, h.nam, h.two, h.ne, fun b hb => ⟨by have := (h.few b hb).1; omega, (h.few b hb).2⟩⟩, by have := h.len; show bs.length ≤ 900; omega, hq, h.cal⟩
def addB (b : Br) (d : PyData) : Br := { b with things := b.things ++ [d] }
theorem Gs.add {n : Nat} {b : Br} {r : List Br} (h : Gs n (b :: r)) {d : PyData} (hd : b.word = "names" → ∃ z, d = .str z) : Gs (n + 1) (addB b d :: r) := by
  refine ⟨by simp, h.len, fun x hx => ?_, fun x hx hw => ?_, fun x t e hw => ?_, fun x hx => ?_⟩
  · rcases List.mem_cons.mp hx with e | e
    · rw [e]
      have := h.few b List.mem_cons_self
      refine ⟨?_, this.2⟩
      show (b.things ++ [d]).length ≤ n + 1
      rw [List.length_append]
      exact Nat.add_le_add_right this.1 1
    · have := h.few x (List.mem_cons_of_mem _ e)
      exact ⟨by omega, this.2⟩
  · rcases List.mem_cons.mp hx with e | e
    · rw [e] at hw ⊢
      exact h.cal b List.mem_cons_self hw
    · exact h.cal x (List.mem_cons_of_mem _ e) hw
  · cases e
    exact h.two b r rfl hw
  · have hn := h.nam
    unfold namesF at hx hn
    match r, hx, hn with
    | [], hx, _ => cases hx
    | o :: r, hx, hn =>
      dsimp only [addB] at hx hn
      by_cases hw : b.word = "names"
      · rw [if_pos hw] at hx hn
        rcases List.mem_append.mp hx with e | e
        · rcases List.mem_append.mp e with e | e
          · exact hn x (List.mem_append_left _ e)
          · rw [List.mem_singleton.mp e]
            exact hd hw
        · exact hn x (List.mem_append_right _ e)
      · rw [if_neg hw] at hx
        cases hx
theorem Gs.push {n : Nat} {b : Br} {r : List Br} (h : Gs n r) (hl : r.length ≤ 299) (hb : b.things = [] ∧ b.kinds ≠ [] ∧ b.kinds.length ≤ 10) (hc : b.word = "call" → 1 ≤ b.least) (hn : b.word = "names" → ∀ o t, r = o :: t → o.word = "rec" → ∀ d ∈ o.things.take 1, ∃ z, d = .str z) : Gs n (b :: r) := by
  refine ⟨by simp, by rw [List.length_cons]; omega, fun x hx => ?_, fun x hx hw => ?_, fun x t e hw => ?_, fun x hx => ?_⟩
  · rcases List.mem_cons.mp hx with e | e
    · rw [e, hb.1]
      exact ⟨Nat.zero_le _, hb.2⟩
    · exact h.few x e
  · rcases List.mem_cons.mp hx with e | e
    · rw [e] at hw ⊢
      exact hc hw
    · exact h.cal x e hw
  · cases e
    exact h.ne
  · unfold namesF at hx
    match r, hx, hn with
    | [], hx, _ => cases hx
    | o :: r, hx, hn =>
      dsimp only at hx
      by_cases hw : b.word = "names"
      · rw [if_pos hw, hb.1, List.nil_append] at hx
        by_cases hr : o.word = "rec"
        · rw [if_pos hr] at hx
          exact hn hw o r rfl hr x hx
        · rw [if_neg hr] at hx
          cases hx
      · rw [if_neg hw] at hx
        cases hx
theorem wordF : ∀ z : Str, isWordB z = true → ((wordBr z).things = [] ∧ (wordBr z).kinds ≠ [] ∧ (wordBr z).kinds.length ≤ 10) ∧ ((wordBr z).word = "call" → 1 ≤ (wordBr z).least) ∧ ¬ (wordBr z).word = "names" := by
  have k : ∀ z ∈ formWords ++ opWords, isWordB z = true → ((wordBr z).kinds ≠ [] ∧ (wordBr z).kinds.length ≤ 10) ∧ ((wordBr z).word = "call" → 1 ≤ (wordBr z).least) ∧ ¬ (wordBr z).word = "names" := by decide +kernel
  intro z h
  have m : z ∈ formWords ++ opWords := by
    unfold isWordB at h
    rw [Bool.or_eq_true, Bool.and_eq_true] at h
    rcases h with h | h
    · exact List.mem_append_right _ (of_decide_eq_true h)
    · exact List.mem_append_left _ (of_decide_eq_true h.1)
  obtain ⟨k1, k2, k3⟩ := k z m h
  refine ⟨⟨?_, k1⟩, k2, k3⟩
  unfold wordBr
  split <;> rfl
theorem Gs.pop {n : Nat} {b : Br} {r : List Br} (h : Gs n (b :: r)) (hr : r ≠ []) (ho : ∀ o t, r = o :: t → ¬ o.word = "names") : Gs n r := by
  refine ⟨hr, by have := h.len; rw [List.length_cons] at this; omega, fun x hx => h.few x (List.mem_cons_of_mem _ hx), fun x hx => h.cal x (List.mem_cons_of_mem _ hx), fun x t e hw => absurd hw (ho x t e), fun x hx => ?_⟩
  unfold namesF at hx
  match r, hx, ho with
  | [], hx, _ => cases hx
  | [o], hx, _ => cases hx
  | o :: p :: r, hx, ho =>
    dsimp only at hx
    rw [if_neg (ho o _ rfl)] at hx
    cases hx
theorem Gs.okc {n : Nat} {bs : List Br} (h : Gs n bs) (hn : n ≤ 700) {z : Str} {q : Option Str} (hz : z.length ≤ 600) (hq : q = some ("number" : Str) → z = "-" ∨ ∃ i, intText? z = some i) (hk : ∀ b r, bs = b :: r → b.word = "names" → q = none ∨ q = some ("binder" : Str)) (hw : q = some ("word" : Str) → ∀ b r, bs = b :: r → r ≠ [] ∧ ∀ o t, r = o :: t → ¬ o.word = "names") : ∀ s', completeF ⟨bs, z, q⟩ = some s' → Ok s' := by
  intro s' e
  have ok0 := h.ok (by omega) hz hq
  match bs, h, hk, hw, ok0, e with
  | [], h, _, _, _, _ => exact absurd rfl h.ne
  | b :: r, h, hk, hw, ok0, e =>
    have add : ∀ d, (b.word = "names" → ∃ y, d = .str y) → Ok (addF ⟨b :: r, z, q⟩ d) := fun d hd => (h.add hd).ok (by omega) (Nat.zero_le _) (fun e => by cases e)
    unfold completeF at e
    match q, e, hk, hw, ok0, add with
    | none, e, _, _, ok0, _ =>
      cases e
      exact ok0
    | some k, e, hk, hw, _, add =>
      have nb : k ≠ "binder" → ¬ b.word = "names" := fun hk2 hb => by
        rcases hk b r rfl hb with z | z
        · cases z
        · exact hk2 (Option.some.inj z)
      dsimp only at e
      split at e
      · rename_i k1
        split at e
        · cases e
        · cases e
          exact add _ fun hb => absurd hb (nb (by rw [k1]; decide +kernel))
      split at e
      · rename_i k2
        split at e
        · rename_i hw2
          cases e
          obtain ⟨w1, w2, w3⟩ := wordF z hw2
          obtain ⟨r1, r2⟩ := hw (by rw [k2]) b r rfl
          have g2 := h.pop r1 r2
          have := h.len
          rw [List.length_cons] at this
          exact (g2.push (b := wordBr z) (by omega) w1 w2 (fun hh => absurd hh w3)).ok (by omega) (Nat.zero_le _) (fun e => by cases e)
        · cases e
      split at e
      · cases e
      split at e
      · rename_i k4
        cases e
        exact add _ fun hb => absurd hb (nb (by rw [k4]; decide +kernel))
      · cases e
        exact add _ fun _ => ⟨_, rfl⟩
/-! ### where a piece has just ended -/
structure Pd (st : Rd) (bs : List Br) : Prop where
  ok : Ok st
  okc : ∀ s', completeF st = some s' → Ok s'
  nt : st.reads ≠ some ("text" : Str)
  cp : completeF st = some ⟨bs, "", none⟩
theorem Pd.here {n : Nat} {bs : List Br} (h : Gs n bs) (hn : n ≤ 700) : Pd ⟨bs, "", none⟩ bs :=
  ⟨h.ok (by omega) (Nat.zero_le _) (fun e => by cases e), fun s' e => by
    cases e
    exact h.ok (by omega) (Nat.zero_le _) (fun e => by cases e), by simp, rfl⟩
theorem Pd.take {st : Rd} {bs : List Br} (h : Pd st bs) {c : Nat} (c1 : ¬ c ∈ nameSigns.cps.toList) (c2 : ¬ c = 45) : takeF st c = betweenF ⟨bs, "", none⟩ c := by
  have cp := h.cp
  have nt := h.nt
  obtain ⟨bs0, z, q⟩ := st
  unfold takeF
  rw [if_neg nt]
  by_cases h3 : q = none
  · subst h3
    rw [if_pos rfl]
    cases cp
    rfl
  · rw [if_neg h3, if_neg c1, if_neg c2, cp]
    rfl
theorem Pd.one {st st2 : Rd} {bs : List Br} (h : Pd st bs) {c : Nat} (c1 : ¬ c ∈ nameSigns.cps.toList) (c2 : ¬ c = 45) (e : betweenF ⟨bs, "", none⟩ c = some st2) : Runs st [c] st2 :=
  .cons h.ok h.okc (by rw [h.take c1 c2]; exact e) .nil
/-- blanks and line ends -/
theorem Pd.gap {n : Nat} {bs : List Br} (g : Gs n bs) (hn : n ≤ 700) : ∀ {cs : List Nat} {st : Rd}, Pd st bs → (∀ c ∈ cs, c ∈ blanks.cps.toList) → ∃ st', Runs st cs st' ∧ Pd st' bs ∧ (st' = st ∨ st' = ⟨bs, "", none⟩) ∧ (cs ≠ [] → st' = ⟨bs, "", none⟩)
  | [], st, h, _ => ⟨st, .nil, h, .inl rfl, fun z => absurd rfl z⟩
  | c :: cs, st, h, hc => by
    have cb := hc c List.mem_cons_self
    have kk : ∀ c ∈ blanks.cps.toList, ¬ c ∈ nameSigns.cps.toList ∧ ¬ c = 45 := by decide +kernel
    have r := h.one (kk c cb).1 (kk c cb).2 (st2 := ⟨bs, "", none⟩) (by unfold betweenF; rw [if_pos cb])
    obtain ⟨st', r', p', e', _⟩ := Pd.gap g hn (cs := cs) (Pd.here g hn) fun x hx => hc x (List.mem_cons_of_mem _ hx)
    have e2 : st' = ⟨bs, "", none⟩ := by
      rcases e' with e | e <;> exact e
    exact ⟨st', r.app r', p', .inr e2, fun _ => e2⟩
end Wp
set_option Elab.async false
set_option linter.all false
set_option maxRecDepth 100000
namespace Wp
open PySem PySem.Spec PyProof.Rows L2
/-! ### a token, sign by sign -/
def lenB (bs : List Br) (k : Str) (z : Str) : Bool := if k = "number" then beginsN z else if k = "word" then beginsW z else isName z && !(decide (k = "binder") && decide (z.length = 12) && (namesF ⟨bs, "", none⟩).any (isIn z))
theorem len_eq {bs : List Br} {k z : Str} {c : Nat} (h : lenB bs k (z ++ sg c) = true) : lengthenF ⟨bs, z, some k⟩ c = some ⟨bs, z ++ sg c, some k⟩ := by
  unfold lenB at h
  unfold lengthenF
  dsimp only
  by_cases k1 : k = "number"
  · rw [if_pos k1] at h
    rw [if_pos (congrArg some k1), if_pos h]
  rw [if_neg k1] at h
  rw [if_neg (fun e => k1 (Option.some.inj e))]
  by_cases k2 : k = "word"
  · rw [if_pos k2] at h
    rw [if_pos (congrArg some k2), if_pos h]
  rw [if_neg k2] at h
  rw [if_neg (fun e => k2 (Option.some.inj e))]
  have e : decide (some k = some ("binder" : Str)) = decide (k = "binder") := decide_eq_decide.mpr ⟨fun e => Option.some.inj e, fun e => congrArg some e⟩
  rw [e]
  exact if_pos h
/-- signs that are read as one token -/
structure TokOk (bs : List Br) (k : Str) (cs : List Nat) : Prop where
  ne : cs ≠ []
  short : cs.length ≤ 600
  pre : ∀ i, i < cs.length → lenB bs k ⟨(cs.take (i + 1)).toArray⟩ = true
  sgn : ∀ c ∈ cs.drop 1, c ∈ nameSigns.cps.toList
  num : k = "number" → ∀ i, i < cs.length → (⟨(cs.take (i + 1)).toArray⟩ : Str) = "-" ∨ ∃ n, intText? ⟨(cs.take (i + 1)).toArray⟩ = some n
  nt : k ≠ "text"
theorem cat_sg (pre : List Nat) (c : Nat) : (⟨pre.toArray⟩ : Str) ++ sg c = ⟨(pre ++ [c]).toArray⟩ := by
  rw [str_list]
  show (pre.toArray ++ #[c]).toList = (pre ++ [c]).toArray.toList
  simp
theorem run_suf {n : Nat} {bs : List Br} {k : Str} (g : Gs n bs) (hn : n ≤ 700) (hk : ∀ b r, bs = b :: r → b.word = "names" → k = "binder") (hw : k = "word" → ∀ b r, bs = b :: r → r ≠ [] ∧ ∀ o t, r = o :: t → ¬ o.word = "names") {cs : List Nat} (T : TokOk bs k cs) :
    ∀ (pre suf : List Nat), pre ≠ [] → pre ++ suf = cs → Runs ⟨bs, ⟨pre.toArray⟩, some k⟩ suf ⟨bs, ⟨cs.toArray⟩, some k⟩
  | pre, [], hp, e => by
    rw [List.append_nil] at e
    subst e
    exact .nil
  | pre, c :: suf, hp, e => by
    have pl : pre.length ≠ 0 := fun z => hp (List.length_eq_zero_iff.mp z)
    have cl : cs.length = pre.length + (suf.length + 1) := by rw [← e, List.length_append, List.length_cons]
    have t1 : cs.take (pre.length + 1) = pre ++ [c] := by
      rw [← e, List.take_append, List.take_of_length_le (by omega), show pre.length + 1 - pre.length = 1 by omega]
      rfl
    have t0 : cs.take (pre.length - 1 + 1) = pre := by
      rw [show pre.length - 1 + 1 = pre.length by omega, ← e]
      simp
    have h1 := T.pre pre.length (by omega)
    rw [t1, ← cat_sg] at h1
    have cm : c ∈ nameSigns.cps.toList := T.sgn c (by
      rw [← e]
      match pre, hp with
      | p :: ps, _ =>
        show c ∈ ps ++ c :: suf
        exact List.mem_append_right _ List.mem_cons_self)
    have st : takeF ⟨bs, ⟨pre.toArray⟩, some k⟩ c = some ⟨bs, ⟨(pre ++ [c]).toArray⟩, some k⟩ := by
      unfold takeF
      rw [if_neg (fun e => T.nt (Option.some.inj e)), if_neg (by simp), if_pos cm, len_eq h1, cat_sg]
    have ht : (⟨pre.toArray⟩ : Str).length ≤ 600 := by
      show pre.toArray.size ≤ 600
      rw [List.size_toArray]
      have := T.short
      omega
    have hq : some k = some ("number" : Str) → (⟨pre.toArray⟩ : Str) = "-" ∨ ∃ i, intText? ⟨pre.toArray⟩ = some i := fun e => by
      have := T.num (Option.some.inj e) (pre.length - 1) (by omega)
      rw [t0] at this
      exact this
    refine .cons (g.ok (by omega) ht hq) (g.okc hn ht hq (fun b r e1 e2 => .inr (congrArg some (hk b r e1 e2))) (fun e => hw (Option.some.inj e))) st ?_
    exact run_suf g hn hk hw T (pre ++ [c]) suf (by simp) (by rw [List.append_assoc]; exact e)
theorem run_tok {n : Nat} {bs : List Br} {k : Str} (g : Gs n bs) (hn : n ≤ 700) (hk : ∀ b r, bs = b :: r → b.word = "names" → k = "binder") (hw : k = "word" → ∀ b r, bs = b :: r → r ≠ [] ∧ ∀ o t, r = o :: t → ¬ o.word = "names") {z : Str} (T : TokOk bs k z.cps.toList)
    (hg : ∀ c, z.cps.toList.head? = some c → betweenF ⟨bs, "", none⟩ c = beginF ⟨bs, "", none⟩ k c) : Runs ⟨bs, "", none⟩ z.cps.toList ⟨bs, z, some k⟩ := by
  match hcs : z.cps.toList, T, hg with
  | [], T, _ => exact absurd rfl T.ne
  | c :: cs, T, hg =>
    have e0 : (("" : Str) ++ sg c) = (⟨[c].toArray⟩ : Str) := by
      rw [str_list]
      show ((#[] : Array Nat) ++ #[c]).toList = _
      simp
    have h0 := T.pre 0 (by simp)
    have e1 : (⟨((c :: cs).take (0 + 1)).toArray⟩ : Str) = ⟨[c].toArray⟩ := rfl
    rw [e1, ← e0] at h0
    have f1 : Runs ⟨bs, "", none⟩ [c] ⟨bs, ⟨[c].toArray⟩, some k⟩ := by
      have p := Pd.here g hn
      refine .cons p.ok p.okc ?_ .nil
      unfold takeF
      rw [if_neg (show ¬ (none : Option Str) = some ("text" : Str) by simp), if_pos rfl, hg c rfl]
      unfold beginF
      rw [len_eq h0, e0]
    have f2 := run_suf g hn hk hw T [c] cs (by simp) rfl
    have ew : (⟨(c :: cs).toArray⟩ : Str) = z := by
      rw [str_list, List.toList_toArray]
      exact hcs.symm
    rw [ew] at f2
    exact f1.app f2
/-! ### which texts are tokens -/
theorem isName_iff {cs : List Nat} : isName ⟨cs.toArray⟩ = true ↔ 1 ≤ cs.length ∧ cs.length ≤ 12 ∧ cs.headD 0 ∈ letters.cps.toList ∧ ∀ c ∈ cs, c ∈ nameSigns.cps.toList := by
  unfold isName
  have e1 : (⟨cs.toArray⟩ : Str).length = cs.length := by
    show cs.toArray.size = _
    simp
  have e2 : (⟨cs.toArray⟩ : Str).cps.getD 0 0 = cs.headD 0 := by
    cases cs <;> rfl
  rw [e1, e2]
  simp only [Bool.and_eq_true, decide_eq_true_eq, List.all_eq_true, List.toList_toArray, and_assoc]
theorem isName_str {z : Str} : isName z = true ↔ 1 ≤ z.cps.toList.length ∧ z.cps.toList.length ≤ 12 ∧ z.cps.toList.headD 0 ∈ letters.cps.toList ∧ ∀ c ∈ z.cps.toList, c ∈ nameSigns.cps.toList := isName_iff (cs := z.cps.toList)
theorem tok_name {bs : List Br} {k z : Str} (hz : isName z = true) (k1 : k ≠ "number") (k2 : k ≠ "word") (k3 : k ≠ "text") (hb : k = "binder" → (namesF ⟨bs, "", none⟩).any (isIn z) = false) : TokOk bs k z.cps.toList := by
  obtain ⟨h1, h2, h3, h4⟩ := isName_str.mp hz
  refine ⟨fun e => by rw [e] at h1; exact absurd h1 (by decide), by omega, fun i hi => ?_, fun c hc => h4 c (List.mem_of_mem_drop hc), fun e => absurd e k1, k3⟩
  unfold lenB
  rw [if_neg k1, if_neg k2]
  have nm : isName ⟨(z.cps.toList.take (i + 1)).toArray⟩ = true := by
    refine isName_iff.mpr ⟨?_, ?_, ?_, fun c hc => h4 c (List.mem_of_mem_take hc)⟩
    · rw [List.length_take]
      omega
    · rw [List.length_take]
      omega
    · match hz2 : z.cps.toList, h3, hi with
      | c :: cs, h3, _ => exact h3
  rw [nm, Bool.true_and, Bool.not_eq_true']
  by_cases hk : k = "binder"
  · by_cases hl : (⟨(z.cps.toList.take (i + 1)).toArray⟩ : Str).length = 12
    · have e : (⟨(z.cps.toList.take (i + 1)).toArray⟩ : Str) = z := by
        have e1 : (z.cps.toList.take (i + 1)).length = 12 := by
          have : (z.cps.toList.take (i + 1)).toArray.size = 12 := hl
          simpa using this
        rw [List.length_take] at e1
        rw [str_list, List.toList_toArray, List.take_of_length_le (by omega)]
      rw [e, hb hk, Bool.and_false]
    · rw [decide_eq_false hl, Bool.and_false, Bool.false_and]
  · rw [decide_eq_false hk, Bool.false_and, Bool.false_and]
/-- a word's beginnings begin a word -/
theorem words_pre : ∀ w ∈ formWords ++ opWords, isWordB w = true → w.cps.toList ≠ [] ∧ w.cps.toList.length ≤ 20 ∧ (∀ c ∈ w.cps.toList, c ∈ nameSigns.cps.toList) ∧ (∀ i, i < w.cps.toList.length → beginsW ⟨(w.cps.toList.take (i + 1)).toArray⟩ = true) := by decide +kernel
theorem word_mem {z : Str} (h : isWordB z = true) : z ∈ formWords ++ opWords := by
  unfold isWordB at h
  rw [Bool.or_eq_true, Bool.and_eq_true] at h
  rcases h with h | h
  · exact List.mem_append_right _ (of_decide_eq_true h)
  · exact List.mem_append_left _ (of_decide_eq_true h.1)
theorem tok_word {bs : List Br} {z : Str} (hz : isWordB z = true) : TokOk bs "word" z.cps.toList := by
  obtain ⟨h1, h2, h3, h4⟩ := words_pre z (word_mem hz) hz
  refine ⟨h1, by omega, fun i hi => ?_, fun c hc => h3 c (List.mem_of_mem_drop hc), fun e => absurd e (by decide +kernel), by decide +kernel⟩
  unfold lenB
  rw [if_neg (by decide +kernel), if_pos rfl]
  exact h4 i hi
end Wp
set_option Elab.async false
set_option linter.all false
set_option maxRecDepth 100000
namespace Wp
open PySem PySem.Spec PyProof.Rows L2
/-! ### numbers as texts -/
theorem dig_sg : ∀ c, c < 58 → 48 ≤ c → c ∈ figures.cps.toList ∧ c ∈ nameSigns.cps.toList ∧ ¬ c ∈ letters.cps.toList ∧ ¬ c ∈ blanks.cps.toList := by decide +kernel
theorem numL_hd : ∀ (n : Nat), 1 ≤ n → ∃ c r, TL.numL n = c :: r ∧ 49 ≤ c ∧ c ≤ 57 := by
  intro n
  induction n using Nat.strongRecOn with
  | ind n ih =>
    intro h
    by_cases h10 : n < 10
    · exact ⟨48 + n, [], TL.numL_lt h10, by omega, by omega⟩
    · obtain ⟨c, r, e, h1, h2⟩ := ih (n / 10) (by omega) (by omega)
      rw [TL.numL_step (by omega), e]
      exact ⟨c, _, rfl, h1, h2⟩
theorem begN_dig {ds : List Nat} (h : ∀ c ∈ ds, 48 ≤ c ∧ c ≤ 57) (h0 : ds.take 1 = [48] → ds = [48]) : beginsN ⟨ds.toArray⟩ = true := by
  have e : figs ⟨ds.toArray⟩ = ⟨ds.toArray⟩ := by
    unfold figs
    rw [if_neg]
    cases ds with
    | nil => decide
    | cons c r =>
      show ¬ c = 45
      have := h c List.mem_cons_self
      omega
  unfold beginsN
  rw [e, Bool.and_eq_true, Bool.or_eq_true]
  refine ⟨List.all_eq_true.mpr fun c hc => ?_, ?_⟩
  · have := h c (by simpa using hc)
    exact decide_eq_true (dig_sg c (by omega) this.1).1
  · by_cases hz : ds.take 1 = [48]
    · right
      rw [h0 hz]
      decide +kernel
    · left
      rw [Bool.not_eq_true']
      exact decide_eq_false hz
theorem begN_neg {ds : List Nat} (h : ∀ c ∈ ds, 48 ≤ c ∧ c ≤ 57) (h0 : ds.take 1 ≠ [48]) : beginsN ⟨(45 :: ds).toArray⟩ = true := by
  have e : figs ⟨(45 :: ds).toArray⟩ = ⟨ds.toArray⟩ := by
    unfold figs
    rw [if_pos (show ((45 :: ds).toArray).getD 0 0 = 45 from rfl), str_list, List.toList_toArray, List.toList_toArray]
    rfl
  unfold beginsN
  rw [e, Bool.and_eq_true, Bool.or_eq_true]
  refine ⟨List.all_eq_true.mpr fun c hc => ?_, .inl ?_⟩
  · have := h c (by simpa using hc)
    exact decide_eq_true (dig_sg c (by omega) this.1).1
  · rw [Bool.not_eq_true']
    exact decide_eq_false h0
theorem take_hd {c : Nat} {r : List Nat} {i : Nat} : ((c :: r).take (i + 1)).take 1 = [c] := by
  rw [List.take_succ_cons]
  rfl
theorem num_pos {n : Nat} : (((toString ((n : Nat) : Int) : String) : Str)).cps.toList = TL.numL n := TL.tl_num n
theorem num_neg {n : Nat} : (((toString (Int.negSucc n) : String) : Str)).cps.toList = 45 :: TL.numL (n + 1) := by
  have e : toString (Int.negSucc n) = "-" ++ toString ((n + 1 : Nat)) := rfl
  rw [e]
  have k := TL.tl_num (n + 1)
  have k2 : ((toString ((n + 1 : Nat) : Int) : String) : Str).cps.toList = TL.numL (n + 1) := k
  have e2 : toString ((n + 1 : Nat) : Int) = toString (n + 1 : Nat) := rfl
  rw [e2] at k2
  rw [← k2]
  simp [Str.ofString_eq_toList]
theorem tok_num {bs : List Br} {i : Int} (hl : (((toString i : String) : Str)).cps.toList.length ≤ 600) : TokOk bs "number" (((toString i : String) : Str)).cps.toList ∧ intText? ((toString i : String) : Str) = some i ∧ ¬ ((toString i : String) : Str) = "-" ∧ ∃ c r, (((toString i : String) : Str)).cps.toList = c :: r ∧ (c = 45 ∨ (48 ≤ c ∧ c ≤ 57)) := by
  have l0 : ∀ z : Str, z.cps.toList.length = z.length := fun z => Array.length_toList
  have nn : ¬ ("number" : Str) = "text" := by decide +kernel
  cases i with
  | ofNat n =>
    have e := num_pos (n := n)
    have e' : (((toString (Int.ofNat n) : String) : Str)).cps.toList = TL.numL n := e
    rw [e'] at hl
    have dg := TL.numL_digits n
    have ne := TL.numL_ne n
    have iv := TL.int_num (n := n) (by omega)
    obtain ⟨c, r, ec⟩ : ∃ c r, TL.numL n = c :: r := by
      match h : TL.numL n, ne with
      | c :: r, _ => exact ⟨c, r, rfl⟩
    have hc := dg c (by rw [ec]; exact List.mem_cons_self)
    have zero : c = 48 → r = [] := fun e48 => by
      by_cases hn : n < 10
      · rw [TL.numL_lt hn] at ec
        cases ec
        rfl
      · obtain ⟨c2, r2, e2, h1, _⟩ := numL_hd n (by omega)
        rw [ec] at e2
        cases e2
        omega
    rw [e']
    have pre_dig : ∀ j, ∀ x ∈ (TL.numL n).take (j + 1), 48 ≤ x ∧ x ≤ 57 := fun j x hx => dg x (List.mem_of_mem_take hx)
    refine ⟨⟨ne, hl, fun j hj => ?_, fun x hx => ?_, fun _ j hj => .inr ?_, nn⟩, iv, fun hz => ?_, c, r, ec, .inr hc⟩
    · unfold lenB
      rw [if_pos rfl]
      refine begN_dig (pre_dig j) fun h1 => ?_
      rw [ec, take_hd] at h1
      have e48 : c = 48 := by simpa using h1
      rw [ec, zero e48, e48, List.take_succ_cons, List.take_nil]
    · have := dg x (List.mem_of_mem_drop hx)
      exact (dig_sg x (by omega) this.1).2.1
    · refine ⟨_, PySem.intText_digits (x := ⟨((TL.numL n).take (j + 1)).toArray⟩) ?_ ?_ ?_⟩
      · rw [List.toList_toArray]
        exact pre_dig j
      · rw [List.toList_toArray, ec, List.take_succ_cons]
        simp
      · rw [← l0, List.toList_toArray, List.length_take]
        omega
    · have h2 := congrArg (fun z : Str => z.cps.toList) hz
      have h3 : TL.numL n = [45] := by
        rw [← e']
        exact h2
      rw [ec] at h3
      cases h3
      omega
  | negSucc n =>
    have e := num_neg (n := n)
    rw [e] at hl
    rw [List.length_cons] at hl
    have dg := TL.numL_digits (n + 1)
    obtain ⟨c, r, ec, hc1, hc2⟩ := numL_hd (n + 1) (by omega)
    have iv := PySem.intText_neg (x := ((toString (Int.negSucc n) : String) : Str)) e dg (TL.numL_ne _) (by rw [← l0, e, List.length_cons]; omega)
    rw [TL.numL_val] at iv
    rw [e]
    have pre_dig : ∀ j, ∀ x ∈ (TL.numL (n + 1)).take j, 48 ≤ x ∧ x ≤ 57 := fun j x hx => dg x (List.mem_of_mem_take hx)
    have pre_hd : ∀ j, ((TL.numL (n + 1)).take j).take 1 ≠ [48] := fun j => by
      rw [ec]
      cases j with
      | zero => simp
      | succ j =>
        rw [take_hd]
        intro h
        have : c = 48 := by simpa using h
        omega
    refine ⟨⟨by simp, by rw [List.length_cons]; exact hl, fun j hj => ?_, fun x hx => ?_, fun _ j hj => ?_, nn⟩, iv, fun hz => ?_, 45, _, rfl, .inl rfl⟩
    · unfold lenB
      rw [if_pos rfl, List.take_succ_cons]
      exact begN_neg (pre_dig j) (pre_hd j)
    · have := dg x hx
      exact (dig_sg x (by omega) this.1).2.1
    · rw [List.take_succ_cons]
      cases j with
      | zero =>
        left
        rw [List.take_zero]
        decide +kernel
      | succ j =>
        refine .inr ⟨_, PySem.intText_neg (x := ⟨(45 :: (TL.numL (n + 1)).take (j + 1)).toArray⟩) (cs := (TL.numL (n + 1)).take (j + 1)) (by rw [List.toList_toArray]) (pre_dig (j + 1)) ?_ ?_⟩
        · rw [ec, List.take_succ_cons]
          simp
        · rw [← l0, List.toList_toArray, List.length_cons, List.length_take]
          omega
    · have h2 := congrArg (fun z : Str => z.cps.toList) hz
      have h3 : 45 :: TL.numL (n + 1) = [45] := by
        rw [← e]
        exact h2
      rw [ec] at h3
      cases h3
end Wp
set_option Elab.async false
set_option linter.all false
set_option maxRecDepth 100000
namespace Wp
open PySem PySem.Spec PyProof.Rows L2
/-! ### pieces -/
inductive Tk : Str → List Br → List Br → Prop
  | openP {B : Br} {r : List Br} : expectF B = some ("part" : Str) → Tk "(" (B :: r) (newBr :: B :: r)
  | openN {B : Br} {r : List Br} : expectF B = some ("binders" : Str) → Tk "(" (B :: r) (namesBr :: B :: r)
  | shut {b o : Br} {r : List Br} : b.least ≤ b.things.length → Tk ")" (b :: o :: r) (addB o (madeF b) :: r)
  | word {w : Str} {B : Br} {r : List Br} : isWordB w = true → ¬ B.word = "names" → Tk w (newBr :: B :: r) (wordBr w :: B :: r)
  | tag {z : Str} {B : Br} {r : List Br} : expectF B = some ("tag" : Str) → ¬ B.word = "names" → isName z = true → Tk z (B :: r) (addB B (.str z) :: r)
  | binder {z : Str} {B : Br} {r : List Br} : expectF B = some ("binder" : Str) → isName z = true → ¬ z ∈ noNames → (namesF ⟨B :: r, "", none⟩).any (isIn z) = false → Tk z (B :: r) (addB B (.str z) :: r)
  | name {z : Str} {B : Br} {r : List Br} : expectF B = some ("part" : Str) → ¬ B.word = "names" → isName z = true → ¬ z ∈ noNames → Tk z (B :: r) (addB B (.tuple [.str "name", .str z]) :: r)
  | yes {z : Str} {B : Br} {r : List Br} : expectF B = some ("part" : Str) → ¬ B.word = "names" → z ∈ noNames → Tk z (B :: r) (addB B (.tuple [.str z]) :: r)
  | num {i : Int} {B : Br} {r : List Br} : expectF B = some ("part" : Str) → ¬ B.word = "names" → (((toString i : String) : Str)).cps.toList.length ≤ 600 → Tk ((toString i : String) : Str) (B :: r) (addB B (.tuple [.str "num", .int i]) :: r)
  | text {z : Str} {B : Br} {r : List Br} : expectF B = some ("part" : Str) → ¬ B.word = "names" → (∀ c ∈ z.cps.toList, textSign c = true) → z.cps.toList.length ≤ 500 → Tk ("\"" ++ z ++ "\"") (B :: r) (addB B (.tuple [.str "text", .str z]) :: r)
/-- pieces that want a blank ahead of them where another such stands -/
def isTok (p : Str) : Bool := !decide (p = "(") && !decide (p = ")") && !decide (p.cps.toList.headD 0 = 34)
theorem name_hd {z : Str} (h : isName z = true) : ∀ c, z.cps.toList.head? = some c → c ∈ letters.cps.toList ∧ ¬ c ∈ blanks.cps.toList ∧ ¬ c = 41 ∧ ¬ c = 40 ∧ ¬ c = 34 := by
  intro c hc
  have kk : ∀ c ∈ letters.cps.toList, ¬ c ∈ blanks.cps.toList ∧ ¬ c = 41 ∧ ¬ c = 40 ∧ ¬ c = 34 := by decide +kernel
  obtain ⟨_, _, h3, _⟩ := isName_str.mp h
  have : z.cps.toList.headD 0 = c := by
    match hz : z.cps.toList, hc with
    | x :: xs, hc =>
      cases hc
      rfl
  rw [this] at h3
  exact ⟨h3, kk c h3⟩
theorem btw_open {B : Br} {r : List Br} : betweenF ⟨B :: r, "", none⟩ 40 = unlockF ⟨B :: r, "", none⟩ (expectF B) := by
  unfold betweenF
  rw [if_neg (by decide +kernel), if_neg (by decide), if_pos rfl]
  rfl
theorem btw_shut {st : Rd} : betweenF st 41 = shutF st := by
  unfold betweenF
  rw [if_neg (by decide +kernel), if_pos rfl]
theorem btw_begin {B : Br} {r : List Br} {k : Str} {c : Nat} (he : expectF B = some k) (k6 : k ∈ (["word", "binder", "tag"] : List Str)) (c1 : ¬ c ∈ blanks.cps.toList) (c2 : ¬ c = 41) (c3 : ¬ c = 40) : betweenF ⟨B :: r, "", none⟩ c = beginF ⟨B :: r, "", none⟩ k c := by
  have k5 : ∀ k ∈ (["word", "binder", "tag"] : List Str), ¬ k = "part" := by decide +kernel
  unfold betweenF
  have te : topE ⟨B :: r, "", none⟩ = some k := he
  rw [if_neg c1, if_neg c2, if_neg c3, te, if_neg (fun e => k5 k k6 (Option.some.inj e))]
  dsimp only
  rw [if_pos k6]
theorem btw_part {B : Br} {r : List Br} {c : Nat} (he : expectF B = some ("part" : Str)) (c1 : ¬ c ∈ blanks.cps.toList) (c2 : ¬ c = 41) (c3 : ¬ c = 40) : betweenF ⟨B :: r, "", none⟩ c = partF ⟨B :: r, "", none⟩ c := by
  unfold betweenF
  have te : topE ⟨B :: r, "", none⟩ = some ("part" : Str) := he
  rw [if_neg c1, if_neg c2, if_neg c3, te, if_pos rfl]
theorem pd_tok {n : Nat} {B : Br} {r : List Br} {k z : Str} {bs' : List Br} (g : Gs n (B :: r)) (hn : n ≤ 700) (hk : B.word = "names" → k = "binder") (hw : k = "word" → r ≠ [] ∧ ∀ o t, r = o :: t → ¬ o.word = "names") (T : TokOk (B :: r) k z.cps.toList) (hg : ∀ c, z.cps.toList.head? = some c → betweenF ⟨B :: r, "", none⟩ c = beginF ⟨B :: r, "", none⟩ k c)
    (hq : k = "number" → ∃ i, intText? z = some i) (cp : completeF ⟨B :: r, z, some k⟩ = some ⟨bs', "", none⟩) : Runs ⟨B :: r, "", none⟩ z.cps.toList ⟨B :: r, z, some k⟩ ∧ Pd ⟨B :: r, z, some k⟩ bs' := by
  have hk' : ∀ b t, B :: r = b :: t → b.word = "names" → k = "binder" := fun b t e hb => by
    cases e
    exact hk hb
  have hw' : k = "word" → ∀ b t, B :: r = b :: t → t ≠ [] ∧ ∀ o u, t = o :: u → ¬ o.word = "names" := fun e b t e2 => by
    cases e2
    exact hw e
  have zl : z.length ≤ 600 := by
    have := T.short
    rw [Array.length_toList] at this
    exact this
  have hq' : some k = some ("number" : Str) → z = "-" ∨ ∃ i, intText? z = some i := fun e => .inr (hq (Option.some.inj e))
  refine ⟨run_tok g hn hk' hw' T hg, ⟨g.ok (by omega) zl hq', g.okc hn zl hq' (fun b t e hb => .inr (congrArg some (hk' b t e hb))) (fun e => hw' (Option.some.inj e)), fun e => T.nt (Option.some.inj e), cp⟩⟩
/-- the signs of a text, within the quotes -/
theorem run_text {n : Nat} {B : Br} {r : List Br} (g : Gs n (B :: r)) (hn : n ≤ 700) (hB : ¬ B.word = "names") : ∀ (cs : List Nat) (t : Str), t.length + cs.length ≤ 600 → (∀ c ∈ cs, textSign c = true) → Runs ⟨B :: r, t, some ("text" : Str)⟩ cs ⟨B :: r, ⟨(t.cps.toList ++ cs).toArray⟩, some ("text" : Str)⟩
  | [], t, _, _ => by
    rw [List.append_nil]
    exact .nil
  | c :: cs, t, hl, hc => by
    have h1 := hc c List.mem_cons_self
    have nq : ¬ c = 34 := fun e => by
      rw [e] at h1
      exact absurd h1 (by decide)
    rw [List.length_cons] at hl
    have e1 : t ++ sg c = ⟨(t.cps.toList ++ [c]).toArray⟩ := by
      rw [str_list]
      show (t.cps ++ #[c]).toList = _
      simp
    have l1 : (t ++ sg c).length = t.length + 1 := by
      show (t.cps ++ #[c]).size = t.cps.size + 1
      simp
    have st : takeF ⟨B :: r, t, some ("text" : Str)⟩ c = some ⟨B :: r, t ++ sg c, some ("text" : Str)⟩ := by
      unfold takeF inTextF
      rw [if_pos rfl, if_neg nq, if_pos h1]
    have hq : some ("text" : Str) = some ("number" : Str) → t = "-" ∨ ∃ i, intText? t = some i := fun e => absurd (Option.some.inj e) (by decide +kernel)
    refine .cons (g.ok (by omega) (by omega) hq) (g.okc hn (by omega) hq (fun b u e hb => by cases e; exact absurd hb hB) (fun e => absurd (Option.some.inj e) (by decide +kernel))) st ?_
    have := run_text g hn hB cs (t ++ sg c) (by omega) (fun x hx => hc x (List.mem_cons_of_mem _ hx))
    have e2 : (t ++ sg c).cps.toList ++ cs = t.cps.toList ++ c :: cs := by
      rw [e1, List.toList_toArray, List.append_assoc]
      rfl
    rw [e2] at this
    exact this
theorem tk_run {p : Str} {bs bs' : List Br} (h : Tk p bs bs') {n m : Nat} (g : Gs n bs) (hn : n ≤ 700) (g' : Gs m bs') (hm : m ≤ 700) {st : Rd} (pd : Pd st bs) (hs : isTok p = true → st = ⟨bs, "", none⟩) :
    ∃ st', Runs st p.cps.toList st' ∧ Pd st' bs' ∧ (isTok p = false → st' = ⟨bs', "", none⟩) := by
  have isN : ∀ {z : Str}, isName z = true → isTok z = true := fun {z} hz => by
    have nl := (isName_str.mp hz).1
    match hc : z.cps.toList, nl with
    | c :: cs, _ =>
      obtain ⟨_, _, h1, h2, h3⟩ := name_hd hz c (by rw [hc]; rfl)
      unfold isTok
      rw [hc]
      rw [Bool.and_eq_true, Bool.and_eq_true, Bool.not_eq_true', Bool.not_eq_true', Bool.not_eq_true']
      refine ⟨⟨decide_eq_false fun e => ?_, decide_eq_false fun e => ?_⟩, decide_eq_false h3⟩
      · rw [e] at hc
        have : ("(" : Str).cps.toList = [40] := by decide +kernel
        rw [this] at hc
        cases hc
        exact h2 rfl
      · rw [e] at hc
        have : (")" : Str).cps.toList = [41] := by decide +kernel
        rw [this] at hc
        cases hc
        exact h1 rfl
  have kw : ∀ k : Str, k ∈ (["binder", "tag", "atom"] : List Str) → k ≠ "number" ∧ k ≠ "word" ∧ k ≠ "text" := by decide +kernel
  have l40 : ("(" : Str).cps.toList = [40] := by decide +kernel
  have l41 : (")" : Str).cps.toList = [41] := by decide +kernel
  cases h with
  | openP he =>
    refine ⟨_, ?_, Pd.here g' hm, fun _ => rfl⟩
    rw [l40]
    refine pd.one (by decide +kernel) (by decide) ?_
    rw [btw_open, he]
    unfold unlockF
    rw [if_pos rfl]
  | openN he =>
    refine ⟨_, ?_, Pd.here g' hm, fun _ => rfl⟩
    rw [l40]
    refine pd.one (by decide +kernel) (by decide) ?_
    rw [btw_open, he]
    unfold unlockF
    rw [if_neg (by decide +kernel), if_pos rfl]
  | @shut b o r hl =>
    refine ⟨_, ?_, Pd.here g' hm, fun _ => rfl⟩
    rw [l41]
    refine pd.one (by decide +kernel) (by decide) ?_
    rw [btw_shut]
    show (if b.things.length < b.least then none else some (addF ⟨o :: r, "", none⟩ (madeF b))) = _
    rw [if_neg (by omega)]
    rfl
  | @word w B r hw hB =>
    have wn := words_pre _ (word_mem hw) hw
    have wk : ∀ w ∈ formWords ++ opWords, isWordB w = true → isName w = true := by decide +kernel
    have wN := wk _ (word_mem hw) hw
    have e := hs (isN wN)
    subst e
    have cp : completeF ⟨newBr :: B :: r, p, some ("word" : Str)⟩ = some ⟨wordBr p :: B :: r, "", none⟩ := by
      unfold completeF
      dsimp only
      rw [if_neg (by decide +kernel), if_pos rfl, if_pos hw]
      rfl
    obtain ⟨r1, p1⟩ := pd_tok g hn (fun e => absurd e (by decide +kernel)) (fun _ => ⟨by simp, fun o t e => by cases e; exact hB⟩) (tok_word hw) (fun c hc => by
      obtain ⟨_, c1, c2, c3, _⟩ := name_hd wN c hc
      exact btw_begin rfl (by decide +kernel) c1 c2 c3) (fun e => absurd e (by decide +kernel)) cp
    exact ⟨_, r1, p1, fun e => by rw [isN wN] at e; cases e⟩
  | tag he hB hz =>
    have e := hs (isN hz)
    subst e
    obtain ⟨k1, k2, k3⟩ := kw "tag" (by decide +kernel)
    obtain ⟨r1, p1⟩ := pd_tok g hn (k := "tag") (z := p) (fun e => absurd e hB) (fun e => absurd e k2) (tok_name hz k1 k2 k3 (fun e => absurd e (by decide +kernel))) (fun c hc => by
      obtain ⟨_, c1, c2, c3, _⟩ := name_hd hz c hc
      exact btw_begin he (by decide +kernel) c1 c2 c3) (fun e => absurd e k1) (by
        unfold completeF
        dsimp only
        rw [if_neg k1, if_neg k2, if_neg (fun e => absurd e.1 (by decide +kernel)), if_neg (by decide +kernel)]
        rfl)
    exact ⟨_, r1, p1, fun e => by rw [isN hz] at e; cases e⟩
  | binder he hz hno hnm =>
    have e := hs (isN hz)
    subst e
    obtain ⟨k1, k2, k3⟩ := kw "binder" (by decide +kernel)
    obtain ⟨r1, p1⟩ := pd_tok g hn (k := "binder") (z := p) (fun _ => rfl) (fun e => absurd e k2) (tok_name hz k1 k2 k3 (fun _ => hnm)) (fun c hc => by
      obtain ⟨_, c1, c2, c3, _⟩ := name_hd hz c hc
      exact btw_begin he (by decide +kernel) c1 c2 c3) (fun e => absurd e k1) (by
        unfold completeF
        dsimp only
        rw [if_neg k1, if_neg k2, if_neg, if_neg (by decide +kernel)]
        · rfl
        · rintro ⟨_, h | h⟩
          · exact hno h
          · have : (namesF ⟨_ :: _, "", none⟩).any (isIn p) = true := h
            rw [hnm] at this
            cases this)
    exact ⟨_, r1, p1, fun e => by rw [isN hz] at e; cases e⟩
  | name he hB hz hno =>
    have e := hs (isN hz)
    subst e
    obtain ⟨k1, k2, k3⟩ := kw "atom" (by decide +kernel)
    obtain ⟨r1, p1⟩ := pd_tok g hn (k := "atom") (z := p) (fun e => absurd e hB) (fun e => absurd e k2) (tok_name hz k1 k2 k3 (fun e => absurd e (by decide +kernel))) (fun c hc => by
      obtain ⟨c0, c1, c2, c3, c4⟩ := name_hd hz c hc
      rw [btw_part he c1 c2 c3]
      unfold partF
      rw [if_neg c4, if_pos c0]) (fun e => absurd e k1) (by
        unfold completeF
        dsimp only
        rw [if_neg k1, if_neg k2, if_neg (fun e => absurd e.1 (by decide +kernel)), if_pos rfl, if_neg hno]
        rfl)
    exact ⟨_, r1, p1, fun e => by rw [isN hz] at e; cases e⟩
  | yes he hB hyes =>
    have yk : ∀ z ∈ noNames, isName z = true := by decide +kernel
    have hz := yk _ hyes
    have e := hs (isN hz)
    subst e
    obtain ⟨k1, k2, k3⟩ := kw "atom" (by decide +kernel)
    obtain ⟨r1, p1⟩ := pd_tok g hn (k := "atom") (z := p) (fun e => absurd e hB) (fun e => absurd e k2) (tok_name hz k1 k2 k3 (fun e => absurd e (by decide +kernel))) (fun c hc => by
      obtain ⟨c0, c1, c2, c3, c4⟩ := name_hd hz c hc
      rw [btw_part he c1 c2 c3]
      unfold partF
      rw [if_neg c4, if_pos c0]) (fun e => absurd e k1) (by
        unfold completeF
        dsimp only
        rw [if_neg k1, if_neg k2, if_neg (fun e => absurd e.1 (by decide +kernel)), if_pos rfl, if_pos hyes]
        rfl)
    exact ⟨_, r1, p1, fun e => by rw [isN hz] at e; cases e⟩
  | @num i B r he hB hl =>
    obtain ⟨T, iv, nm, c, cs, ec, hc⟩ := tok_num (bs := B :: r) hl
    have it : isTok ((toString i : String) : Str) = true := by
      unfold isTok
      rw [ec, Bool.and_eq_true, Bool.and_eq_true, Bool.not_eq_true', Bool.not_eq_true', Bool.not_eq_true']
      refine ⟨⟨decide_eq_false fun e => ?_, decide_eq_false fun e => ?_⟩, decide_eq_false ?_⟩
      · rw [e, l40] at ec
        cases ec
        omega
      · rw [e, l41] at ec
        cases ec
        omega
      · show ¬ c = 34
        omega
    have e := hs it
    subst e
    have cl : ¬ c ∈ letters.cps.toList ∧ ¬ c ∈ blanks.cps.toList := by
      rcases hc with hc | hc
      · rw [hc]
        decide +kernel
      · exact (dig_sg c (by omega) hc.1).2.2
    obtain ⟨r1, p1⟩ := pd_tok g hn (k := "number") (fun e => absurd e hB) (fun e => absurd e (by decide +kernel)) T (fun x hx => by
      rw [ec] at hx
      cases hx
      rw [btw_part he cl.2 (by omega) (by omega)]
      unfold partF
      rw [if_neg (by omega), if_neg cl.1]) (fun _ => ⟨i, iv⟩) (by
        unfold completeF
        dsimp only
        rw [if_pos rfl, if_neg nm, iv]
        rfl)
    exact ⟨_, r1, p1, fun e => by rw [it] at e; cases e⟩
  | @text z B r he hB hz hl =>
    have ecs : (("\"" : Str) ++ z ++ "\"").cps.toList = [34] ++ (z.cps.toList ++ [34]) := by
      have q : ("\"" : Str).cps.toList = [34] := by decide +kernel
      rw [Str.cps_append, Str.cps_append, Array.toList_append, Array.toList_append, q, List.append_assoc]
    have r1 : Runs st [34] ⟨B :: r, "", some ("text" : Str)⟩ := by
      refine pd.one (by decide +kernel) (by decide) ?_
      rw [btw_part he (by decide +kernel) (by decide) (by decide)]
      unfold partF
      rw [if_pos rfl]
    have r2 := run_text g hn hB z.cps.toList "" (by show 0 + _ ≤ 600; omega) hz
    have ez : (⟨((("" : Str).cps.toList) ++ z.cps.toList).toArray⟩ : Str) = z := by
      rw [str_list, List.toList_toArray]
      rfl
    rw [ez] at r2
    have zl : z.length ≤ 600 := by
      rw [Array.length_toList] at hl
      exact Nat.le_trans hl (by decide)
    have hq : some ("text" : Str) = some ("number" : Str) → z = "-" ∨ ∃ i, intText? z = some i := fun e => absurd (Option.some.inj e) (by decide +kernel)
    have r3 : Runs ⟨B :: r, z, some ("text" : Str)⟩ [34] ⟨addB B (.tuple [.str "text", .str z]) :: r, "", none⟩ := by
      refine .cons (g.ok (by omega) zl hq) (g.okc hn zl hq (fun b u e hb => by cases e; exact absurd hb hB) (fun e => absurd (Option.some.inj e) (by decide +kernel))) ?_ .nil
      unfold takeF inTextF
      rw [if_pos rfl, if_pos rfl]
      rfl
    refine ⟨_, ?_, Pd.here g' hm, fun _ => rfl⟩
    rw [ecs]
    exact r1.app (r2.app r3)
end Wp
set_option Elab.async false
set_option linter.all false
set_option maxRecDepth 100000
namespace Wp
open PySem PySem.Spec PyProof.Rows L2
/-! ### pieces with blanks between them -/
inductive Lo : Str → List Str → List Nat → Prop
  | nil {p : Str} {s : List Nat} : (∀ c ∈ s, c ∈ blanks.cps.toList) → Lo p [] s
  | cons {p q : Str} {ps : List Str} {s cs : List Nat} : (∀ c ∈ s, c ∈ blanks.cps.toList) → (isTok p = true → isTok q = true → s ≠ []) → Lo q ps cs → Lo p (q :: ps) (s ++ (q.cps.toList ++ cs))
inductive Steps (n : Nat) : List Br → List Str → List Br → Prop
  | nil {bs : List Br} : Gs n bs → Steps n bs [] bs
  | cons {bs b1 b2 : List Br} {p : Str} {ps : List Str} : Gs n bs → Tk p bs b1 → Steps n b1 ps b2 → Steps n bs (p :: ps) b2
theorem Steps.gs {n : Nat} {bs b2 : List Br} {ps : List Str} (h : Steps n bs ps b2) : Gs n bs := by
  cases h with
  | nil g => exact g
  | cons g _ _ => exact g
theorem Steps.ge {n : Nat} {bs b2 : List Br} {ps : List Str} (h : Steps n bs ps b2) : Gs n b2 := by
  induction h with
  | nil g => exact g
  | cons _ _ _ ih => exact ih
theorem Steps.app {n : Nat} {b1 b2 b3 : List Br} {ps qs : List Str} (h : Steps n b1 ps b2) (h2 : Steps n b2 qs b3) : Steps n b1 (ps ++ qs) b3 := by
  induction h with
  | nil _ => exact h2
  | cons g t _ ih => exact .cons g t (ih h2)
theorem lo_run {n : Nat} (hn : n ≤ 700) {p : Str} {ps : List Str} {cs : List Nat} (h : Lo p ps cs) : ∀ {bs b2 : List Br} {st : Rd}, Steps n bs ps b2 → Pd st bs → (isTok p = false → st = ⟨bs, "", none⟩) → ∃ st', Runs st cs st' ∧ Pd st' b2 := by
  induction h with
  | nil hb =>
    intro bs b2 st s pd _
    cases s with
    | nil g =>
      obtain ⟨st', r, p', _⟩ := Pd.gap g hn pd hb
      exact ⟨st', r, p'⟩
  | @cons p q ps s cs hb hne _ ih =>
    intro bs b2 st sp pd hs
    cases sp with
    | cons g tk rest =>
      obtain ⟨st1, r1, p1, e1, e2⟩ := Pd.gap g hn pd hb
      have set1 : isTok q = true → st1 = ⟨bs, "", none⟩ := fun hq => by
        by_cases hs0 : s = []
        · have hp : isTok p = false := by
            cases hp : isTok p with
            | false => rfl
            | true => exact absurd hs0 (hne hp hq)
          rcases e1 with e | e
          · rw [e, hs hp]
          · exact e
        · exact e2 hs0
      obtain ⟨st2, r2, p2, e3⟩ := tk_run tk g hn rest.gs hn p1 set1
      obtain ⟨st3, r3, p3⟩ := ih rest p2 e3
      exact ⟨st3, r1.app (r2.app r3), p3⟩
theorem root_gs : Gs 1 [rootBr] := ⟨by simp, by decide, fun b hb => by
  rw [List.mem_singleton.mp hb]
  exact ⟨by decide, by decide +kernel, by decide⟩, fun b hb h => by
  rw [List.mem_singleton.mp hb] at h
  exact absurd h (by decide +kernel), fun b r e h => by
  cases e
  exact absurd h (by decide +kernel), fun d hd => by cases hd⟩
theorem lo_reads {n : Nat} (hn : n ≤ 700) {ps : List Str} {z : Str} {d : PyData} (h : Lo "(" ps z.cps.toList) (s : Steps n [rootBr] ps [addB rootBr d]) : ReadsTo z d := by
  obtain ⟨st, r, p⟩ := lo_run hn h s (Pd.here root_gs (by decide)) (fun _ => rfl)
  refine ⟨st, r, p.ok, p.okc, ?_⟩
  unfold wholeF
  rw [if_neg p.nt, p.cp]
  rfl
/-! ### one blank where one is wanted -/
def gl (p q : Str) : List Nat := if p = "(" ∨ q = ")" then [] else [32]
def tx : Str → List Str → List Nat
  | _, [] => []
  | p, q :: ps => gl p q ++ (q.cps.toList ++ tx q ps)
def textC : List Str → List Nat
  | [] => []
  | p :: ps => p.cps.toList ++ tx p ps
def lastP (p : Str) : List Str → Str
  | [] => p
  | q :: ps => lastP q ps
theorem tx_app : ∀ (p : Str) (xs ys : List Str), tx p (xs ++ ys) = tx p xs ++ tx (lastP p xs) ys
  | _, [], _ => rfl
  | p, x :: xs, ys => by
    show gl p x ++ (x.cps.toList ++ tx x (xs ++ ys)) = (gl p x ++ (x.cps.toList ++ tx x xs)) ++ tx (lastP x xs) ys
    rw [tx_app x xs ys, List.append_assoc, List.append_assoc]
theorem last_app : ∀ (p : Str) (xs ys : List Str), lastP p (xs ++ ys) = lastP (lastP p xs) ys
  | _, [], _ => rfl
  | _, x :: xs, ys => last_app x xs ys
theorem tx_lo : ∀ (p : Str) (ps : List Str), Lo p ps (tx p ps)
  | _, [] => .nil fun c hc => by cases hc
  | p, q :: ps => by
    refine .cons (s := gl p q) (fun c hc => ?_) (fun h1 h2 => ?_) (tx_lo q ps)
    · unfold gl at hc
      split at hc
      · cases hc
      · rw [List.mem_singleton.mp hc]
        decide +kernel
    · unfold gl
      rw [if_neg]
      · simp
      · rintro (e | e)
        · rw [e] at h1
          exact absurd h1 (by decide +kernel)
        · rw [e] at h2
          exact absurd h2 (by decide +kernel)
theorem textC_lo {ps : List Str} (h : ps ≠ []) : Lo "(" ps (textC ps) := by
  match ps, h with
  | p :: ps, _ => exact .cons (s := []) (fun c hc => by cases hc) (fun h1 _ => absurd h1 (by decide +kernel)) (tx_lo p ps)
/-- a row of pieces that stands by itself -/
structure Sol (t : List Str) : Prop where
  ne : t ≠ []
  hd : ∀ q r, t = q :: r → ¬ q = ")"
  lt : ∀ p, ¬ lastP p t = "("
theorem Sol.tx {t : List Str} (h : Sol t) {p : Str} (hp : ¬ p = "(") : tx p t = [32] ++ textC t := by
  match t, h with
  | [], h => exact absurd rfl h.ne
  | q :: r, h =>
    show gl p q ++ (q.cps.toList ++ Wp.tx q r) = _
    have e : gl p q = [32] := by
      unfold gl
      rw [if_neg]
      rintro (e | e)
      · exact hp e
      · exact h.hd q r rfl e
    rw [e]
    rfl
theorem sol_one {z : Str} (h1 : ¬ z = "(") (h2 : ¬ z = ")") : Sol [z] := ⟨by simp, fun q r e => by cases e; exact h2, fun _ => h1⟩
theorem lastP_snoc : ∀ (p : Str) (xs : List Str) (y : Str), lastP p (xs ++ [y]) = y
  | _, [], _ => rfl
  | _, x :: xs, y => lastP_snoc x xs y
abbrev shutP : Str := ")"
theorem sol_br {xs : List Str} : Sol ("(" :: (xs ++ [shutP])) := ⟨by simp, fun q r e => by
  cases e
  decide +kernel, fun p => by
  show ¬ lastP "(" (xs ++ [shutP]) = "("
  rw [lastP_snoc]
  decide +kernel⟩
theorem textC_br (xs : List Str) : textC ("(" :: (xs ++ [shutP])) = [40] ++ (textC xs ++ [41]) := by
  have l40 : ("(" : Str).cps.toList = [40] := by decide +kernel
  have l41 : (")" : Str).cps.toList = [41] := by decide +kernel
  show ("(" : Str).cps.toList ++ tx "(" (xs ++ [shutP]) = _
  rw [l40, tx_app]
  match xs with
  | [] =>
    show [40] ++ ([] ++ (gl "(" ")" ++ ((")" : Str).cps.toList ++ []))) = _
    rw [l41]
    rfl
  | x :: xs =>
    show [40] ++ ((gl "(" x ++ (x.cps.toList ++ tx x xs)) ++ (gl (lastP x xs) ")" ++ ((")" : Str).cps.toList ++ []))) = _
    have e1 : gl "(" x = [] := if_pos (.inl rfl)
    have e2 : gl (lastP x xs) ")" = [] := if_pos (.inr rfl)
    rw [e1, e2, l41]
    rfl
end Wp
set_option Elab.async false
set_option linter.all false
set_option maxRecDepth 100000
namespace Wp
open PySem PySem.Spec PyProof.Rows L2
/-! ### the terms that are drawn, with their pieces -/
def fixW : List Str := ["fun", "rec", "let", "if", "cell", "get", "set", "say", "fault", "guard", "wind", "catch", "go", "mark", "take", "use"]
def nm12 : List Str := ["a", "x1", "say", "fun", "plus", "yesx", "non", "input", "z9", "abcdefghijkl", "n0", "if"]
theorem nm12_ok : ∀ z ∈ nm12, isName z = true ∧ ¬ z ∈ noNames := by decide +kernel
def firstS : List PyData → Option Str
  | .str z :: _ => some z
  | _ => none
def forb (w : Str) (its : List PyData) : Option Str := if w = "rec" then firstS its else none
abbrev brk (w : Str) (ps : List Str) : List Str := "(" :: ((w :: ps) ++ [shutP])
mutual
inductive Cz : Nat → PyData → List Str → Prop
  | num {n : Nat} {i : Int} : i.natAbs < 2 ^ 106 → (((toString i : String) : Str)).cps.toList.length ≤ 33 → Cz n (.tuple [.str "num", .int i]) [((toString i : String) : Str)]
  | text {n : Nat} {z : Str} : (∀ c ∈ z.cps.toList, textSign c = true) → z.cps.toList.length ≤ 100 → Cz n (.tuple [.str "text", .str z]) [("\"" ++ z ++ "\"" : Str)]
  | yes {n : Nat} {z : Str} : z ∈ noNames → Cz n (.tuple [.str z]) [z]
  | name {n : Nat} {z : Str} : isName z = true → ¬ z ∈ noNames → Cz n (.tuple [.str "name", .str z]) [z]
  | fix {n : Nat} {w : Str} {its : List PyData} {iss : List (List Str)} : w ∈ fixW → Fc n (forb w its) (formOf w) its iss → Cz (n + 1) (.tuple (.str w :: its)) (brk w iss.flatten)
  | call {n : Nat} {f : PyData} {fp : List Str} {ds : List PyData} {pss : List (List Str)} : Cz n f fp → Al n ds pss → ds.length ≤ 6 → Cz (n + 1) (.tuple [.str "call", f, .tuple ds]) (brk "call" (fp ++ pss.flatten))
  | do_ {n : Nat} {ds : List PyData} {pss : List (List Str)} : Al n ds pss → 1 ≤ ds.length → ds.length ≤ 12 → Cz (n + 1) (.tuple [.str "do", .tuple ds]) (brk "do" pss.flatten)
  | op {n : Nat} {z : Str} {ds : List PyData} {pss : List (List Str)} : (z, ds.length) ∈ ops → Al n ds pss → Cz (n + 1) (.tuple [.str "op", .str z, .tuple ds]) (brk z pss.flatten)
inductive Fc : Nat → Option Str → List Str → List PyData → List (List Str) → Prop
  | nil {n : Nat} {fb : Option Str} : Fc n fb [] [] []
  | binder {n : Nat} {fb : Option Str} {z : Str} {ks : List Str} {xs : List PyData} {iss : List (List Str)} : isName z = true → ¬ z ∈ noNames → Fc n fb ks xs iss → Fc n fb ("binder" :: ks) (.str z :: xs) ([z] :: iss)
  | tag {n : Nat} {fb : Option Str} {z : Str} {ks : List Str} {xs : List PyData} {iss : List (List Str)} : isName z = true → Fc n fb ks xs iss → Fc n fb ("tag" :: ks) (.str z :: xs) ([z] :: iss)
  | binders {n : Nat} {fb : Option Str} {zs : List Str} {ks : List Str} {xs : List PyData} {iss : List (List Str)} : zs.length ≤ 6 → zs.Nodup → (∀ z ∈ zs, z ∈ nm12) → (∀ f, fb = some f → ¬ f ∈ zs) → Fc n fb ks xs iss → Fc n fb ("binders" :: ks) (.tuple (zs.map .str) :: xs) (("(" :: (zs ++ [shutP])) :: iss)
  | part {n : Nat} {fb : Option Str} {d : PyData} {ps : List Str} {ks : List Str} {xs : List PyData} {iss : List (List Str)} : Cz n d ps → Fc n fb ks xs iss → Fc n fb ("part" :: ks) (d :: xs) (ps :: iss)
inductive Al : Nat → List PyData → List (List Str) → Prop
  | nil {n : Nat} : Al n [] []
  | cons {n : Nat} {d : PyData} {ps : List Str} {ds : List PyData} {pss : List (List Str)} : Cz n d ps → Al n ds pss → Al n (d :: ds) (ps :: pss)
end
theorem Fc.len {n : Nat} : ∀ {fb : Option Str} {ks : List Str} {xs : List PyData} {iss : List (List Str)}, Fc n fb ks xs iss → ks.length = xs.length
  | _, _, _, _, .nil => rfl
  | _, _, _, _, .binder _ _ t => by rw [List.length_cons, List.length_cons, t.len]
  | _, _, _, _, .tag _ t => by rw [List.length_cons, List.length_cons, t.len]
  | _, _, _, _, .binders _ _ _ _ t => by rw [List.length_cons, List.length_cons, t.len]
  | _, _, _, _, .part _ t => by rw [List.length_cons, List.length_cons, t.len]
/-! ### how they are read -/
def wth (W : Br) (ts : List PyData) : Br := { W with things := ts }
theorem exp_wth {W : Br} {ts us : List PyData} (h : ts.length = us.length) : expectF (wth W ts) = expectF (wth W us) := by
  unfold expectF wth
  dsimp only
  rw [h]
theorem Gs.add2 {n : Nat} {b : Br} {r : List Br} (h : Gs n (b :: r)) (hl : b.things.length < n) {d : PyData} (hd : b.word = "names" → ∃ z, d = .str z) : Gs n (addB b d :: r) := by
  have g := h.add hd
  refine ⟨g.ne, g.len, fun x hx => ?_, g.cal, g.two, g.nam⟩
  rcases List.mem_cons.mp hx with e | e
  · have := (g.few x hx).2
    rw [e] at this ⊢
    refine ⟨?_, this⟩
    show (b.things ++ [d]).length ≤ n
    rw [List.length_append]
    exact hl
  · exact h.few x (List.mem_cons_of_mem _ e)
theorem push_new {n : Nat} {r : List Br} (h : Gs n r) (hl : r.length ≤ 299) : Gs n (newBr :: r) := h.push hl ⟨rfl, by decide +kernel, by decide⟩ (fun e => absurd e (by decide +kernel)) (fun e => absurd e (by decide +kernel))
theorem push_word {n : Nat} {r : List Br} {w : Str} (hw : isWordB w = true) (h : Gs n r) (hl : r.length ≤ 299) : Gs n (wordBr w :: r) := by
  obtain ⟨w1, w2, w3⟩ := wordF w hw
  exact h.push hl w1 w2 (fun e => absurd e w3)
/-- the names of a row, one by one -/
theorem names_steps {W : Br} {r : List Br} (hf : W.word = "rec" → ∀ d ∈ W.things.take 1, ∃ f, d = .str f) : ∀ (zs pre : List Str), (pre ++ zs).length ≤ 6 → (pre ++ zs).Nodup → (∀ z ∈ zs, isName z = true ∧ ¬ z ∈ noNames) → (W.word = "rec" → ∀ f, .str f ∈ W.things.take 1 → ¬ f ∈ zs) → Gs 30 (wth namesBr (pre.map .str) :: W :: r) →
    Steps 30 (wth namesBr (pre.map .str) :: W :: r) zs (wth namesBr ((pre ++ zs).map .str) :: W :: r)
  | [], pre, _, _, _, _, g => by
    rw [List.append_nil]
    exact .nil g
  | z :: zs, pre, hl, hn, hz, hr, g => by
    rw [List.length_append, List.length_cons] at hl
    have pl : (pre.map PyData.str).length = pre.length := List.length_map _
    have ez : expectF (wth namesBr (pre.map .str)) = some ("binder" : Str) := by
      unfold expectF wth namesBr
      dsimp only
      rw [pl, if_neg (by omega)]
      have : min pre.length (([("binder" : Str)] : List Str).length - 1) = 0 := by
        show min pre.length 0 = 0
        omega
      rw [this]
      rfl
    have nn : (namesF ⟨wth namesBr (pre.map .str) :: W :: r, "", none⟩).any (isIn z) = false := by
      have e : namesF ⟨wth namesBr (pre.map .str) :: W :: r, "", none⟩ = pre.map .str ++ (if W.word = "rec" then W.things.take 1 else []) := rfl
      rw [e, List.any_append, Bool.or_eq_false_iff]
      refine ⟨?_, ?_⟩
      · rw [List.any_eq_false]
        intro d hd
        obtain ⟨y, hy, rfl⟩ := List.mem_map.mp hd
        show ¬ (decide (y = z) = true)
        rw [decide_eq_true_eq]
        intro e
        rw [List.nodup_append] at hn
        exact hn.2.2 y hy z List.mem_cons_self e
      · split
        · rename_i hw
          rw [List.any_eq_false]
          intro d hd
          obtain ⟨f, rfl⟩ := hf hw d hd
          show ¬ (decide (f = z) = true)
          rw [decide_eq_true_eq]
          intro e
          exact hr hw f hd (by rw [e]; exact List.mem_cons_self)
        · rfl
    obtain ⟨z1, z2⟩ := hz z List.mem_cons_self
    have g2 := g.add2 (d := .str z) (by rw [show (wth namesBr (pre.map PyData.str)).things = pre.map .str from rfl, pl]; omega) (fun _ => ⟨z, rfl⟩)
    have e2 : addB (wth namesBr (pre.map .str)) (.str z) = wth namesBr ((pre ++ [z]).map .str) := by
      rw [List.map_append]
      rfl
    rw [e2] at g2
    refine .cons g (.binder ez z1 z2 nn) ?_
    rw [e2]
    have := names_steps hf zs (pre ++ [z]) (by rw [List.append_assoc, List.length_append]; simp; omega) (by rw [List.append_assoc]; exact hn) (fun y hy => hz y (List.mem_cons_of_mem _ hy)) (fun hw f hm hc => hr hw f hm (List.mem_cons_of_mem _ hc)) g2
    rw [List.append_assoc] at this
    exact this
theorem fix_facts : ∀ w ∈ fixW, isWordB w = true ∧ (wordBr w).word = w ∧ ¬ w = "names" ∧ ¬ w ∈ opWords ∧ ¬ w = "call" ∧ ¬ w = "do" ∧ (wordBr w).least = (formOf w).length ∧ (wordBr w).things = [] ∧ (wordBr w).kinds = formOf w ∧ (wordBr w).most = (formOf w).length ∧ (formOf w).length ≤ 3 ∧ 1 ≤ (formOf w).length := by decide +kernel
theorem fix_exp {w : Str} (hw : w ∈ fixW) {ts : List PyData} {k : Str} (h : (formOf w)[ts.length]? = some k) : expectF (wth (wordBr w) ts) = some k := by
  obtain ⟨_, _, _, _, _, _, _, _, e1, e2, _, _⟩ := fix_facts w hw
  have li := (List.getElem?_eq_some_iff.mp h).1
  unfold expectF wth
  dsimp only
  rw [e1, e2, if_neg (by omega), Nat.min_eq_left (by omega)]
  exact h
theorem many_exp : ∀ w : Str, (w ∈ opWords → (wordBr w).kinds = (["part"] : List Str) ∧ (wordBr w).most = opK w) := by
  intro w h
  unfold wordBr
  rw [if_pos h]
  exact ⟨rfl, rfl⟩
mutual
theorem cz_steps : ∀ {n : Nat} {d : PyData} {ps : List Str}, Cz n d ps → ∀ {B : Br} {r : List Br}, expectF B = some ("part" : Str) → ¬ B.word = "names" → B.things.length ≤ 20 → Gs 30 (B :: r) → r.length + 3 * n + 10 ≤ 290 → Steps 30 (B :: r) ps (addB B d :: r)
  | _, _, _, .num _ h2, B, r, he, hB, hl, g, hr => .cons g (.num he hB (by omega)) (.nil (g.add2 (by omega) fun e => absurd e hB))
  | _, _, _, .text h1 h2, B, r, he, hB, hl, g, hr => .cons g (.text he hB h1 (by omega)) (.nil (g.add2 (by omega) fun e => absurd e hB))
  | _, _, _, .yes h1, B, r, he, hB, hl, g, hr => .cons g (.yes he hB h1) (.nil (g.add2 (by omega) fun e => absurd e hB))
  | _, _, _, .name h1 h2, B, r, he, hB, hl, g, hr => .cons g (.name he hB h1 h2) (.nil (g.add2 (by omega) fun e => absurd e hB))
  | _, _, _, .fix (n := n) (w := w) (its := its) (iss := iss) hw fc, B, r, he, hB, hl, g, hr => by
    obtain ⟨f1, f2, f3, f4, f5, f6, f7, f8, f9, f10, f11, f12⟩ := fix_facts w hw
    have gr : (B :: r).length ≤ 299 := by rw [List.length_cons]; omega
    have g1 := push_new g gr
    have g2 := push_word f1 g gr
    have e0 : wordBr w = wth (wordBr w) [] := by
      conv => lhs; rw [show wordBr w = wth (wordBr w) (wordBr w).things from rfl, f8]
    refine .cons g (.openP he) (.cons g1 (.word f1 hB) ?_)
    rw [e0] at g2 ⊢
    have s := fc_steps fc (W := wordBr w) (pre := []) (r := B :: r) (fun i k hk ts ht => fix_exp hw (by rw [ht, List.length_nil, Nat.zero_add]; exact hk)) (by rw [f2]; exact f3) (by show 0 + (formOf w).length ≤ 20; omega) g2 (by rw [List.length_cons]; omega) (fun h d hd => by
      rw [f2] at h
      rw [List.nil_append] at hd
      match its, hd, fc with
      | x :: xs, hd, fc =>
        have : d = x := by simpa using hd
        subst this
        have fr : formOf "rec" = (["binder", "binders", "part"] : List Str) := by decide +kernel
        rw [h, fr] at fc
        cases fc with
        | @binder _ _ z _ _ _ _ _ _ =>
          refine ⟨z, rfl, ?_⟩
          rw [h]
          rfl)
    rw [List.nil_append] at s
    refine s.app (.cons s.ge (.shut (by show (wordBr w).least ≤ its.length; rw [f7, fc.len]; exact Nat.le_refl _)) ?_)
    have em : madeF (wth (wordBr w) its) = .tuple (.str w :: its) := by
      unfold madeF wth
      dsimp only
      rw [f2, if_neg f3, if_neg f4, if_neg f5, if_neg f6]
    rw [em]
    exact .nil (g.add2 (by omega) fun e => absurd e hB)
  | _, _, _, .call (n := n) (f := f) (fp := fp) (ds := ds) (pss := pss) hf ha hd, B, r, he, hB, hl, g, hr => by
    have gr : (B :: r).length ≤ 299 := by rw [List.length_cons]; omega
    have f1 : isWordB "call" = true := by decide +kernel
    have g1 := push_new g gr
    have g2 := push_word f1 g gr
    have e0 : wordBr "call" = wth (wordBr "call") [] := rfl
    have ex : ∀ ts : List PyData, ts.length ≤ 6 → expectF (wth (wordBr "call") ts) = some ("part" : Str) := fun ts ht => by
      have k : wordBr "call" = ⟨"call", ["part", "part"], 1, 7, []⟩ := by rfl
      rw [k]
      unfold expectF wth
      dsimp only
      rw [if_neg (by omega)]
      have : min ts.length 1 = 0 ∨ min ts.length 1 = 1 := by omega
      show (["part", "part"] : List Str)[min ts.length 1]? = _
      rcases this with e | e <;> rw [e] <;> rfl
    have nw : ¬ (wordBr "call").word = "names" := by decide +kernel
    refine .cons g (.openP he) (.cons g1 (.word f1 hB) ?_)
    rw [e0] at g2 ⊢
    have s1 := cz_steps hf (B := wth (wordBr "call") []) (r := B :: r) (ex [] (by decide)) nw (by decide) g2 (by rw [List.length_cons]; omega)
    have s2 := al_steps ha (W := wordBr "call") (pre := [f]) (r := B :: r) (fun j hj ts ht => ex ts (by rw [ht]; show 1 + j ≤ 6; omega)) nw (by show 1 + _ ≤ 20; omega) s1.ge (by rw [List.length_cons]; omega)
    show Steps 30 _ ((fp ++ pss.flatten) ++ [shutP]) _
    rw [List.append_assoc]
    refine s1.app (s2.app (.cons s2.ge (.shut (by show 1 ≤ (f :: ds).length; simp)) ?_))
    have em : madeF (wth (wordBr "call") ([f] ++ ds)) = .tuple [.str "call", f, .tuple ds] := by rfl
    rw [em]
    exact .nil (g.add2 (by omega) fun e => absurd e hB)
  | _, _, _, .do_ (n := n) (ds := ds) (pss := pss) ha h1 h2, B, r, he, hB, hl, g, hr => by
    have gr : (B :: r).length ≤ 299 := by rw [List.length_cons]; omega
    have f1 : isWordB "do" = true := by decide +kernel
    have g1 := push_new g gr
    have g2 := push_word f1 g gr
    have e0 : wordBr "do" = wth (wordBr "do") [] := rfl
    have ex : ∀ ts : List PyData, ts.length ≤ 11 → expectF (wth (wordBr "do") ts) = some ("part" : Str) := fun ts ht => by
      have k : wordBr "do" = ⟨"do", ["part"], 1, 12, []⟩ := by rfl
      rw [k]
      unfold expectF wth
      dsimp only
      rw [if_neg (by omega)]
      show (["part"] : List Str)[min ts.length 0]? = _
      rw [Nat.min_zero]
      rfl
    have nw : ¬ (wordBr "do").word = "names" := by decide +kernel
    refine .cons g (.openP he) (.cons g1 (.word f1 hB) ?_)
    rw [e0] at g2 ⊢
    have s2 := al_steps ha (W := wordBr "do") (pre := []) (r := B :: r) (fun j hj ts ht => ex ts (by rw [ht]; show 0 + j ≤ 11; omega)) nw (by show 0 + _ ≤ 20; omega) g2 (by rw [List.length_cons]; omega)
    rw [List.nil_append] at s2
    refine s2.app (.cons s2.ge (.shut (by show 1 ≤ ds.length; exact h1)) ?_)
    have em : madeF (wth (wordBr "do") ds) = .tuple [.str "do", .tuple ds] := by rfl
    rw [em]
    exact .nil (g.add2 (by omega) fun e => absurd e hB)
  | _, _, _, .op (n := n) (z := z) (ds := ds) (pss := pss) ho ha, B, r, he, hB, hl, g, hr => by
    have gr : (B :: r).length ≤ 299 := by rw [List.length_cons]; omega
    have kk : ∀ p ∈ ops, isWordB p.1 = true ∧ p.1 ∈ opWords ∧ opK p.1 = p.2 ∧ ¬ p.1 = "names" ∧ p.2 ≤ 2 := by decide +kernel
    obtain ⟨f1, f2, f3, f4, f5⟩ := kk _ ho
    dsimp only at f1 f2 f3 f4 f5
    have k : wordBr z = ⟨z, ["part"], opK z, opK z, []⟩ := by
      unfold wordBr
      rw [if_pos f2]
    have g1 := push_new g gr
    have g2 := push_word f1 g gr
    have e0 : wordBr z = wth (wordBr z) [] := by rw [k]; rfl
    have ex : ∀ ts : List PyData, ts.length < ds.length → expectF (wth (wordBr z) ts) = some ("part" : Str) := fun ts ht => by
      rw [k]
      unfold expectF wth
      dsimp only
      rw [f3, if_neg (by omega)]
      show (["part"] : List Str)[min ts.length 0]? = _
      rw [Nat.min_zero]
      rfl
    have nw : ¬ (wordBr z).word = "names" := by rw [k]; exact f4
    refine .cons g (.openP he) (.cons g1 (.word f1 hB) ?_)
    rw [e0] at g2 ⊢
    have s2 := al_steps ha (W := wordBr z) (pre := []) (r := B :: r) (fun j hj ts ht => ex ts (by rw [ht]; show 0 + j < _; omega)) nw (by show 0 + _ ≤ 20; omega) g2 (by rw [List.length_cons]; omega)
    rw [List.nil_append] at s2
    refine s2.app (.cons s2.ge (.shut (by show (wordBr z).least ≤ ds.length; rw [k]; show opK z ≤ _; rw [f3]; exact Nat.le_refl _)) ?_)
    have em : madeF (wth (wordBr z) ds) = .tuple [.str "op", .str z, .tuple ds] := by
      rw [k]
      unfold madeF wth
      dsimp only
      rw [if_neg f4, if_pos f2]
    rw [em]
    exact .nil (g.add2 (by omega) fun e => absurd e hB)
theorem fc_steps : ∀ {n : Nat} {fb : Option Str} {ks : List Str} {xs : List PyData} {iss : List (List Str)}, Fc n fb ks xs iss → ∀ {W : Br} {pre : List PyData} {r : List Br}, (∀ i k, ks[i]? = some k → ∀ ts : List PyData, ts.length = pre.length + i → expectF (wth W ts) = some k) → ¬ W.word = "names" → pre.length + ks.length ≤ 20 → Gs 30 (wth W pre :: r) → r.length + 3 * n + 10 ≤ 290 → (W.word = "rec" → ∀ d ∈ (pre ++ xs).take 1, ∃ f, d = .str f ∧ fb = some f) → Steps 30 (wth W pre :: r) iss.flatten (wth W (pre ++ xs) :: r)
  | _, _, _, _, _, .nil, W, pre, r, hE, hW, hl, g, hr, hf => by
    rw [List.append_nil]
    exact .nil g
  | _, _, _, _, _, .binder (z := z) (xs := xs) h1 h2 t, W, pre, r, hE, hW, hl, g, hr, hf => by
    rw [List.length_cons] at hl
    have g2 : Gs 30 (wth W (pre ++ [.str z]) :: r) := g.add2 (d := .str z) (by show pre.length < 30; omega) (fun e => absurd e hW)
    have s := fc_steps t (W := W) (pre := pre ++ [.str z]) (r := r) (fun i k hk ts ht => hE (i + 1) k (by simpa using hk) ts (by rw [ht, List.length_append]; show pre.length + 1 + i = _; omega)) hW (by rw [List.length_append]; show pre.length + 1 + _ ≤ 20; omega) g2 hr (by rw [List.append_assoc]; exact hf)
    rw [List.append_assoc] at s
    refine .cons g (.binder (hE 0 _ rfl pre (by omega)) h1 h2 ?_) s
    have : namesF ⟨wth W pre :: r, "", none⟩ = [] := by
      unfold namesF
      match r with
      | [] => rfl
      | o :: r =>
        show (if W.word = "names" then _ else _) = _
        rw [if_neg hW]
    rw [this]
    rfl
  | _, _, _, _, _, .tag (z := z) (xs := xs) h1 t, W, pre, r, hE, hW, hl, g, hr, hf => by
    rw [List.length_cons] at hl
    have g2 : Gs 30 (wth W (pre ++ [.str z]) :: r) := g.add2 (d := .str z) (by show pre.length < 30; omega) (fun e => absurd e hW)
    have s := fc_steps t (W := W) (pre := pre ++ [.str z]) (r := r) (fun i k hk ts ht => hE (i + 1) k (by simpa using hk) ts (by rw [ht, List.length_append]; show pre.length + 1 + i = _; omega)) hW (by rw [List.length_append]; show pre.length + 1 + _ ≤ 20; omega) g2 hr (by rw [List.append_assoc]; exact hf)
    rw [List.append_assoc] at s
    exact .cons g (.tag (hE 0 _ rfl pre (by omega)) hW h1) s
  | _, _, _, _, _, .binders (fb := fb) (zs := zs) (xs := xs) h1 h2 h3 h4 t, W, pre, r, hE, hW, hl, g, hr, hf => by
    rw [List.length_cons] at hl
    have hrec : W.word = "rec" → ∀ d ∈ (wth W pre).things.take 1, ∃ f, d = .str f ∧ fb = some f := fun hw d hd => by
      refine hf hw d ?_
      have hd : d ∈ pre.take 1 := hd
      match pre, hd with
      | p :: ps, hd => exact hd
    have gn : Gs 30 (wth namesBr ([].map .str) :: wth W pre :: r) := g.push (b := namesBr) (by rw [List.length_cons]; omega) ⟨rfl, by decide +kernel, by decide⟩ (fun e => absurd e (by decide +kernel)) (fun _ o u e hw d hd => by
      cases e
      obtain ⟨f, e1, _⟩ := hrec hw d hd
      exact ⟨f, e1⟩)
    have s1 := names_steps (W := wth W pre) (r := r) (fun hw d hd => by
      obtain ⟨f, e1, _⟩ := hrec hw d hd
      exact ⟨f, e1⟩) zs [] h1 h2 (fun z hz => nm12_ok z (h3 z hz)) (fun hw f hm => by
      obtain ⟨f', e1, e2⟩ := hrec hw _ hm
      cases e1
      exact h4 f e2) gn
    rw [List.nil_append] at s1
    have g2 : Gs 30 (wth W (pre ++ [.tuple (zs.map .str)]) :: r) := g.add2 (d := .tuple (zs.map .str)) (by show pre.length < 30; omega) (fun e => absurd e hW)
    have s := fc_steps t (W := W) (pre := pre ++ [.tuple (zs.map .str)]) (r := r) (fun i k hk ts ht => hE (i + 1) k (by simpa using hk) ts (by rw [ht, List.length_append]; show pre.length + 1 + i = _; omega)) hW (by rw [List.length_append]; show pre.length + 1 + _ ≤ 20; omega) g2 hr (by rw [List.append_assoc]; exact hf)
    rw [List.append_assoc] at s
    show Steps 30 (wth W pre :: r) ("(" :: ((zs ++ [shutP]) ++ _)) _
    rw [List.append_assoc]
    refine .cons g (.openN (hE 0 _ rfl pre (by omega))) (s1.app ?_)
    exact .cons s1.ge (.shut (Nat.zero_le _)) s
  | _, _, _, _, _, .part (d := d) (xs := xs) hd t, W, pre, r, hE, hW, hl, g, hr, hf => by
    rw [List.length_cons] at hl
    have s1 := cz_steps hd (B := wth W pre) (r := r) (hE 0 _ rfl pre (by omega)) hW (by show pre.length ≤ 20; omega) g (by omega)
    have g2 : Gs 30 (wth W (pre ++ [d]) :: r) := g.add2 (d := d) (by show pre.length < 30; omega) (fun e => absurd e hW)
    have s := fc_steps t (W := W) (pre := pre ++ [d]) (r := r) (fun i k hk ts ht => hE (i + 1) k (by simpa using hk) ts (by rw [ht, List.length_append]; show pre.length + 1 + i = _; omega)) hW (by rw [List.length_append]; show pre.length + 1 + _ ≤ 20; omega) g2 hr (by rw [List.append_assoc]; exact hf)
    rw [List.append_assoc] at s
    exact s1.app s
theorem al_steps : ∀ {n : Nat} {ds : List PyData} {pss : List (List Str)}, Al n ds pss → ∀ {W : Br} {pre : List PyData} {r : List Br}, (∀ j, j < ds.length → ∀ ts : List PyData, ts.length = pre.length + j → expectF (wth W ts) = some ("part" : Str)) → ¬ W.word = "names" → pre.length + ds.length ≤ 20 → Gs 30 (wth W pre :: r) → r.length + 3 * n + 10 ≤ 290 → Steps 30 (wth W pre :: r) pss.flatten (wth W (pre ++ ds) :: r)
  | _, _, _, .nil, W, pre, r, hE, hW, hl, g, hr => by
    rw [List.append_nil]
    exact .nil g
  | _, _, _, .cons (d := d) (ds := ds) hd t, W, pre, r, hE, hW, hl, g, hr => by
    rw [List.length_cons] at hl
    have s1 := cz_steps hd (B := wth W pre) (r := r) (hE 0 (by simp) pre (by omega)) hW (by show pre.length ≤ 20; omega) g (by omega)
    have g2 : Gs 30 (wth W (pre ++ [d]) :: r) := g.add2 (d := d) (by show pre.length < 30; omega) (fun e => absurd e hW)
    have s := al_steps t (W := W) (pre := pre ++ [d]) (r := r) (fun j hj ts ht => hE (j + 1) (by rw [List.length_cons]; omega) ts (by rw [ht, List.length_append]; show pre.length + 1 + j = _; omega)) hW (by rw [List.length_append]; show pre.length + 1 + _ ≤ 20; omega) g2 hr
    rw [List.append_assoc] at s
    exact s1.app s
end
end Wp
set_option Elab.async false
set_option linter.all false
set_option maxRecDepth 100000
namespace Wp
open PySem PySem.Spec PyProof.Rows L2
/-! ### what is written -/
def codes (ts : List Str) : List Nat := ts.flatMap (·.cps.toList)
theorem codes_nil : codes [] = [] := rfl
theorem codes_cons (t : Str) (ts : List Str) : codes (t :: ts) = t.cps.toList ++ codes ts := rfl
theorem codes_app (a b : List Str) : codes (a ++ b) = codes a ++ codes b := List.flatMap_append
def Sh (d : PyData) (ts : List Str) : Prop := ∃ k, k ≤ wtD d ∧ ∀ n ws told, goS (n + k) ((true, d) :: ws) told = goS n ws (told ++ ts)
def ShL (ps : List Pc) (ts : List Str) : Prop := ∃ k, k ≤ wtS ps ∧ ∀ n ws told, goS (n + k) (ps ++ ws) told = goS n ws (told ++ ts)
theorem shl_nil : ShL [] [] := ⟨0, Nat.le_refl _, fun n ws told => by rw [List.append_nil]; rfl⟩
theorem shl_str {z : Str} {ps : List Pc} {ts : List Str} (h : ShL ps ts) : ShL ((false, .str z) :: ps) ([z] ++ ts) := by
  obtain ⟨k, l, e⟩ := h
  refine ⟨k + 1, ?_, fun n ws told => ?_⟩
  · show k + 1 ≤ 1 + wtS ps
    omega
  · show goS (n + k + 1) ((false, .str z) :: (ps ++ ws)) told = _
    rw [goS, e, List.append_assoc]
theorem shl_tm {d : PyData} {t1 ts : List Str} {ps : List Pc} (h : Sh d t1) (h2 : ShL ps ts) : ShL ((true, d) :: ps) (t1 ++ ts) := by
  obtain ⟨k, l, e⟩ := h
  obtain ⟨k2, l2, e2⟩ := h2
  refine ⟨k2 + k, ?_, fun n ws told => ?_⟩
  · show k2 + k ≤ wtD d + wtS ps
    omega
  · show goS (n + (k2 + k)) ((true, d) :: (ps ++ ws)) told = _
    rw [← Nat.add_assoc, e, e2, List.append_assoc]
theorem shl_app {ps qs : List Pc} {ts us : List Str} (h : ShL ps ts) (h2 : ShL qs us) : ShL (ps ++ qs) (ts ++ us) := by
  obtain ⟨k, l, e⟩ := h
  obtain ⟨k2, l2, e2⟩ := h2
  refine ⟨k2 + k, by rw [wtS_app]; omega, fun n ws told => ?_⟩
  rw [← Nat.add_assoc, List.append_assoc, e, e2, List.append_assoc]
theorem sh_node {w : Str} {its : List PyData} {ts : List Str} (nd : Node w its) (uz : unclearZ w its = false) (az : atomZ w its = none) (h : ShL (pushZ w its) ts) : Sh (.tuple (.str w :: its)) (headZ w its :: ts) := by
  obtain ⟨k, l, e⟩ := h
  have := wt_push nd
  refine ⟨k + 1, by omega, fun n ws told => ?_⟩
  show goS (n + k + 1) ((true, .tuple (.str w :: its)) :: ws) told = _
  rw [goS, uz, az]
  show goS (n + k) (pushZ w its ++ ws) (told ++ [headZ w its]) = _
  rw [e, List.append_assoc]
  rfl
theorem sh_atom {w : Str} {its : List PyData} {z : Str} (uz : unclearZ w its = false) (az : atomZ w its = some z) : Sh (.tuple (.str w :: its)) [z] := by
  refine ⟨1, by have := wtD_two (.tuple (.str w :: its)); omega, fun n ws told => ?_⟩
  rw [goS, uz, az]
  rfl
/-! ### leaves -/
def okS (z : Str) : Prop := (∀ c ∈ z.cps.toList, c < 1000) ∧ z.cps.toList.length ≤ 100
theorem okS_name {z : Str} (h : isName z = true) : okS z := by
  obtain ⟨_, h2, _, h4⟩ := isName_str.mp h
  have k : ∀ c ∈ nameSigns.cps.toList, c < 1000 := by decide +kernel
  exact ⟨fun c hc => k c (h4 c hc), by omega⟩
theorem okS_text {z : Str} (h : ∀ c ∈ z.cps.toList, textSign c = true) (hl : z.cps.toList.length ≤ 100) : okS z := by
  refine ⟨fun c hc => ?_, hl⟩
  have := h c hc
  unfold textSign at this
  rw [Bool.and_eq_true, Bool.and_eq_true, decide_eq_true_eq, decide_eq_true_eq] at this
  omega
theorem okS_word : ∀ w ∈ formWords ++ opWords, okS w := by
  have k : ∀ w ∈ formWords ++ opWords, (w.cps.toList.all fun c => decide (c < 1000)) = true ∧ w.cps.toList.length ≤ 100 := by decide +kernel
  intro w hw
  obtain ⟨h1, h2⟩ := k w hw
  exact ⟨fun c hc => of_decide_eq_true (List.all_eq_true.mp h1 c hc), h2⟩
theorem okS.len {z : Str} (h : okS z) : z.length ≤ 100 := by
  have := h.2
  rw [Array.length_toList] at this
  exact this
/-- what data must be that it can be compared and shown -/
structure Pr (n : Nat) (d : PyData) : Prop where
  lay : d.canLay0 = true
  sho : d.showable = true
  lea : d.leavesShort 35 = true
  wei : d.weight + 1 ≤ 36 * (wtD d + 1)
  dep : d.depth ≤ n
structure PrL (n : Nat) (ds : List PyData) : Prop where
  lay : PyData.canLayAll0 ds = true
  sho : PyData.showableAll ds = true
  lea : PyData.leavesShortAll 35 ds = true
  wei : PyData.weightAll ds ≤ 36 * wtL ds
  dep : PyData.depthAll ds ≤ n
theorem prl_nil {n : Nat} : PrL n [] := ⟨rfl, rfl, rfl, by simp [PyData.weightAll], Nat.zero_le _⟩
theorem prl_cons {n : Nat} {d : PyData} {ds : List PyData} (h : Pr n d) (t : PrL n ds) : PrL n (d :: ds) := by
  have e : 36 * wtL (d :: ds) = 36 * (wtD d + 1) + 36 * wtL ds := by
    show 36 * (wtD d + 1 + wtL ds) = _
    omega
  refine ⟨?_, ?_, ?_, ?_, ?_⟩
  · simp only [PyData.canLayAll0, h.lay, t.lay, Bool.and_self]
  · simp only [PyData.showableAll, h.sho, t.sho, Bool.and_self]
  · simp only [PyData.leavesShortAll, h.lea, t.lea, Bool.and_self]
  · rw [e]
    have := h.wei
    have := t.wei
    show d.weight + 1 + PyData.weightAll ds ≤ _
    omega
  · show max d.depth (PyData.depthAll ds) ≤ n
    exact Nat.max_le.mpr ⟨h.dep, t.dep⟩
theorem pr_tup {n : Nat} {ds : List PyData} (t : PrL n ds) : Pr (n + 1) (.tuple ds) := by
  refine ⟨?_, ?_, ?_, ?_, ?_⟩
  · simp only [PyData.canLay0, t.lay]
  · simp only [PyData.showable, t.sho]
  · simp only [PyData.leavesShort, t.lea]
  · have := t.wei
    show PyData.weightAll ds + 1 ≤ 36 * (2 + wtL ds + 1)
    omega
  · show PyData.depthAll ds + 1 ≤ n + 1
    have := t.dep
    omega
theorem Pr.up {n m : Nat} {d : PyData} (h : Pr n d) (l : n ≤ m) : Pr m d := ⟨h.lay, h.sho, h.lea, h.wei, Nat.le_trans h.dep l⟩
theorem pr_s {n : Nat} {z : Str} (h : okS z) : Pr n (.str z) := by
  refine ⟨?_, rfl, ?_, ?_, Nat.zero_le _⟩
  · show PyData.strOk z = true
    unfold PyData.strOk
    rw [Array.all_eq_true']
    intro c hc
    have := h.1 c (Array.mem_toList_iff.mpr hc)
    exact decide_eq_true (by omega)
  · show (z.cps.toList.all fun c => decide (c < 16 ^ 8)) = true
    rw [List.all_eq_true]
    intro c hc
    have := h.1 c hc
    exact decide_eq_true (by omega)
  · have := h.len
    show z.length + 1 ≤ 36 * (2 + 1)
    omega
theorem log2_lt {m k : Nat} (h : m < 2 ^ k) (hk : 1 ≤ k) : m.log2 < k := by
  by_cases h0 : m = 0
  · rw [h0]
    exact hk
  · exact (Nat.log2_lt h0).mpr h
theorem pr_i {n : Nat} {i : Int} (h : i.natAbs < 2 ^ 106) (hl : (((toString i : String) : Str)).cps.toList.length ≤ 33) : Pr n (.int i) := by
  have lg := log2_lt h (by decide)
  refine ⟨rfl, ?_, ?_, ?_, Nat.zero_le _⟩
  · show decide (i.natAbs.log2 < 1920) = true
    exact decide_eq_true (by omega)
  · show decide ((PyData.shown (.int i)).length ≤ 35) = true
    have e : PyData.shown (.int i) = ((toString i : String) : Str) := by simp [PyData.shown]
    rw [e]
    rw [Array.length_toList] at hl
    exact decide_eq_true (Nat.le_trans hl (by decide))
  · show (if i == 0 then 0 else i.natAbs.log2 + 1) + 1 ≤ 36 * (2 + 1)
    split <;> omega
theorem prl_strs {n : Nat} {zs : List Str} (h : ∀ z ∈ zs, okS z) : PrL n (zs.map .str) := by
  induction zs with
  | nil => exact prl_nil
  | cons z zs ih => exact prl_cons (pr_s (h z List.mem_cons_self)) (ih fun y hy => h y (List.mem_cons_of_mem _ hy))
end Wp
set_option Elab.async false
set_option linter.all false
set_option maxRecDepth 100000
namespace Wp
open PySem PySem.Spec PyProof.Rows L2
theorem fix_words : ∀ w ∈ fixW, w ∈ formWords ∧ w ∈ formWords ++ opWords ∧ ¬ w = "name" ∧ ¬ w = "num" ∧ ¬ w = "text" ∧ ¬ w ∈ noNames ∧ ¬ w = "op" ∧ ¬ w = "(" ∧ ¬ w = ")" := by decide +kernel
theorem name_par {z : Str} (h : isName z = true) : ¬ z = "(" ∧ ¬ z = ")" := by
  constructor <;> intro e <;> rw [e] at h <;> exact absurd h (by decide +kernel)
theorem okS_nm12 {z : Str} (h : z ∈ nm12) : okS z := okS_name (nm12_ok z h).1
/-! ### comparing and showing -/
mutual
theorem cz_pr : ∀ {n : Nat} {d : PyData} {ps : List Str}, Cz n d ps → Pr (2 * n + 1) d
  | _, _, _, .num h1 h2 => pr_tup (prl_cons (pr_s (okS_word _ (by decide +kernel))) (prl_cons (pr_i h1 h2) prl_nil))
  | _, _, _, .text h1 h2 => pr_tup (prl_cons (pr_s (okS_word _ (by decide +kernel))) (prl_cons (pr_s (okS_text h1 h2)) prl_nil))
  | _, _, _, .yes h => by
    have k : ∀ z ∈ noNames, z ∈ formWords ++ opWords := by decide +kernel
    exact pr_tup (prl_cons (pr_s (okS_word _ (k _ h))) prl_nil)
  | _, _, _, .name h _ => pr_tup (prl_cons (pr_s (okS_word _ (by decide +kernel))) (prl_cons (pr_s (okS_name h)) prl_nil))
  | _, _, _, .fix hw fc => pr_tup (prl_cons (pr_s (okS_word _ (fix_words _ hw).2.1)) (fc_pr fc))
  | _, _, _, .call hf ha _ => pr_tup (prl_cons (pr_s (okS_word _ (by decide +kernel))) (prl_cons ((cz_pr hf).up (by omega)) (prl_cons (pr_tup (al_pr ha)) prl_nil)))
  | _, _, _, .do_ ha _ _ => pr_tup (prl_cons (pr_s (okS_word _ (by decide +kernel))) (prl_cons (pr_tup (al_pr ha)) prl_nil))
  | _, _, _, .op ho ha => by
    have k : ∀ p ∈ ops, p.1 ∈ formWords ++ opWords := by decide +kernel
    exact pr_tup (prl_cons (pr_s (okS_word _ (by decide +kernel))) (prl_cons (pr_s (okS_word _ (k _ ho))) (prl_cons (pr_tup (al_pr ha)) prl_nil)))
theorem fc_pr : ∀ {n : Nat} {fb : Option Str} {ks : List Str} {xs : List PyData} {iss : List (List Str)}, Fc n fb ks xs iss → PrL (2 * n + 2) xs
  | _, _, _, _, _, .nil => prl_nil
  | _, _, _, _, _, .binder h _ t => prl_cons (pr_s (okS_name h)) (fc_pr t)
  | _, _, _, _, _, .tag h t => prl_cons (pr_s (okS_name h)) (fc_pr t)
  | _, _, _, _, _, .binders _ _ h _ t => prl_cons (pr_tup (n := _) (prl_strs fun z hz => okS_nm12 (h z hz))) (fc_pr t)
  | _, _, _, _, _, .part h t => prl_cons ((cz_pr h).up (by omega)) (fc_pr t)
theorem al_pr : ∀ {n : Nat} {ds : List PyData} {pss : List (List Str)}, Al n ds pss → PrL (2 * n + 1) ds
  | _, _, _, .nil => prl_nil
  | _, _, _, .cons h t => prl_cons (cz_pr h) (al_pr t)
end
/-! ### terms -/
theorem Al.len {n : Nat} : ∀ {ds : List PyData} {pss : List (List Str)}, Al n ds pss → ds.length = pss.length
  | _, _, .nil => rfl
  | _, _, .cons _ t => by rw [List.length_cons, List.length_cons, t.len]
theorem fc_fit : ∀ {n : Nat} {fb : Option Str} {ks : List Str} {xs : List PyData} {iss : List (List Str)}, Fc n fb ks xs iss → Fit ks xs
  | _, _, _, _, _, .nil => .nil
  | _, _, _, _, _, .binder h _ t => .cons (.bind (okS_name h).len) (fc_fit t)
  | _, _, _, _, _, .tag h t => .cons (.str (by decide +kernel) (okS_name h).len) (fc_fit t)
  | _, _, _, _, _, .binders h1 _ h _ t => .cons (.binds h1 fun z hz => (okS_nm12 (h z hz)).len) (fc_fit t)
  | _, _, _, _, _, .part _ t => .cons .part (fc_fit t)
theorem len_tl {z : Str} {k : Nat} (h : z.cps.toList.length ≤ k) : z.length ≤ k := by
  rw [Array.length_toList] at h
  exact h
theorem fo_op : formOf "op" = (["word", "op parts"] : List Str) := by decide +kernel
theorem fo_call : formOf "call" = (["part", "handed parts"] : List Str) := by decide +kernel
theorem fo_do : formOf "do" = (["row parts"] : List Str) := by decide +kernel
theorem cz_node {n : Nat} {d : PyData} {ps : List Str} (h : Cz n d ps) : ∃ w its, d = .tuple (.str w :: its) ∧ Node w its := by
  cases h with
  | num h1 h2 => exact ⟨_, _, rfl, by decide +kernel, .cons (.num (by have := log2_lt h1 (by decide); omega) (Nat.le_trans (len_tl h2) (by decide))) .nil⟩
  | text h1 h2 => exact ⟨_, _, rfl, by decide +kernel, .cons (.str (by decide +kernel) (len_tl h2)) .nil⟩
  | yes h =>
    have k : ∀ z ∈ noNames, z ∈ formWords ∧ formOf z = [] := by decide +kernel
    refine ⟨_, _, rfl, (k _ h).1, ?_⟩
    rw [(k _ h).2]
    exact .nil
  | name h _ => exact ⟨_, _, rfl, by decide +kernel, .cons (.str (by decide +kernel) (okS_name h).len) .nil⟩
  | fix hw fc => exact ⟨_, _, rfl, (fix_words _ hw).1, fc_fit fc⟩
  | call _ _ hl =>
    refine ⟨_, _, rfl, by decide +kernel, ?_⟩
    rw [fo_call]
    exact .cons .part (.cons (.parts (by decide +kernel) (by omega)) .nil)
  | do_ _ _ hl =>
    refine ⟨_, _, rfl, by decide +kernel, ?_⟩
    rw [fo_do]
    exact .cons (.parts (by decide +kernel) hl) .nil
  | op ho _ =>
    have k : ∀ p ∈ ops, p.1 ∈ formWords ++ opWords ∧ p.2 ≤ 2 := by decide +kernel
    refine ⟨_, _, rfl, by decide +kernel, ?_⟩
    rw [fo_op]
    exact .cons (.str (by decide +kernel) (okS_word _ (k _ ho).1).len) (.cons (.parts (by decide +kernel) (by have := (k _ ho).2; dsimp only at this; omega)) .nil)
theorem pc_none (w : Str) (hw : formOf w = (["number"] : List Str) ∨ formOf w = (["text"] : List Str) ∨ formOf w = (["name"] : List Str)) (x : PyData) (hx : itemsOf x = []) : zipF pc1 (formOf w) [x] = ([] : List Pc) := by
  rcases hw with e | e | e <;> rw [e] <;> show _ ++ [] = _ <;> rw [List.append_nil] <;> unfold pc1 <;> rw [if_neg (by decide +kernel), if_neg (by decide +kernel), if_neg (by decide +kernel), if_neg (by decide +kernel), hx] <;> rfl
mutual
theorem cz_tz : ∀ {n : Nat} {d : PyData} {ps : List Str}, Cz n d ps → Tz d
  | _, _, _, .num h1 h2 => by
    obtain ⟨w, its, e, nd⟩ := cz_node (n := 0) (.num h1 h2)
    cases e
    refine .mk nd fun d hd => ?_
    rw [pc_none "num" (.inl (by decide +kernel)) _ rfl] at hd
    cases hd
  | _, _, _, .text h1 h2 => by
    obtain ⟨w, its, e, nd⟩ := cz_node (n := 0) (.text h1 h2)
    cases e
    refine .mk nd fun d hd => ?_
    rw [pc_none "text" (.inr (.inl (by decide +kernel))) _ rfl] at hd
    cases hd
  | _, _, _, .yes h => by
    obtain ⟨w, its, e, nd⟩ := cz_node (n := 0) (.yes h)
    cases e
    refine .mk nd fun d hd => ?_
    have k : ∀ z ∈ noNames, formOf z = [] := by decide +kernel
    rw [k _ h] at hd
    cases hd
  | _, _, _, .name h1 h2 => by
    obtain ⟨w, its, e, nd⟩ := cz_node (n := 0) (.name h1 h2)
    cases e
    refine .mk nd fun d hd => ?_
    rw [pc_none "name" (.inr (.inr (by decide +kernel))) _ rfl] at hd
    cases hd
  | _, _, _, .fix hw fc => .mk ⟨(fix_words _ hw).1, fc_fit fc⟩ (fc_tz fc)
  | _, _, _, .call hf ha hl => by
    obtain ⟨w, its, e, nd⟩ := cz_node (.call hf ha hl)
    cases e
    refine .mk nd fun d hd => ?_
    rw [fo_call] at hd
    have hd : (true, d) ∈ pc1 "part" _ ++ (pc1 "handed parts" _ ++ []) := hd
    rw [List.append_nil] at hd
    rcases List.mem_append.mp hd with e | e
    · have e' : (true, d) ∈ ([(true, _)] : List Pc) := e
      have := List.mem_singleton.mp e'
      cases this
      exact cz_tz hf
    · obtain ⟨x, hx, ex⟩ := List.mem_map.mp (show (true, d) ∈ List.map (fun d => ((true, d) : Pc)) _ from e)
      cases ex
      exact al_tz ha d hx
  | _, _, _, .do_ ha h1 h2 => by
    obtain ⟨w, its, e, nd⟩ := cz_node (.do_ ha h1 h2)
    cases e
    refine .mk nd fun d hd => ?_
    rw [fo_do] at hd
    have hd : (true, d) ∈ pc1 "row parts" _ ++ [] := hd
    rw [List.append_nil] at hd
    obtain ⟨x, hx, ex⟩ := List.mem_map.mp (show (true, d) ∈ List.map (fun d => ((true, d) : Pc)) _ from hd)
    cases ex
    exact al_tz ha d hx
  | _, _, _, .op ho ha => by
    obtain ⟨w, its, e, nd⟩ := cz_node (.op ho ha)
    cases e
    refine .mk nd fun d hd => ?_
    rw [fo_op] at hd
    have hd : (true, d) ∈ pc1 "word" _ ++ (pc1 "op parts" _ ++ []) := hd
    rw [List.append_nil] at hd
    rcases List.mem_append.mp hd with e | e
    · cases (show (true, d) ∈ ([] : List Pc) from e)
    · obtain ⟨x, hx, ex⟩ := List.mem_map.mp (show (true, d) ∈ List.map (fun d => ((true, d) : Pc)) _ from e)
      cases ex
      exact al_tz ha d hx
theorem fc_tz : ∀ {n : Nat} {fb : Option Str} {ks : List Str} {xs : List PyData} {iss : List (List Str)}, Fc n fb ks xs iss → ∀ d, (true, d) ∈ zipF pc1 ks xs → Tz d
  | _, _, _, _, _, .nil, d, hd => by cases hd
  | _, _, _, _, _, .binder _ _ t, d, hd => by
    rw [zipF] at hd
    rcases List.mem_append.mp hd with e | e
    · have := List.mem_singleton.mp (show (true, d) ∈ ([(false, _)] : List Pc) from e)
      cases this
    · exact fc_tz t d e
  | _, _, _, _, _, .tag _ t, d, hd => by
    rw [zipF] at hd
    rcases List.mem_append.mp hd with e | e
    · have := List.mem_singleton.mp (show (true, d) ∈ ([(false, _)] : List Pc) from e)
      cases this
    · exact fc_tz t d e
  | _, _, _, _, _, .binders _ _ _ _ t, d, hd => by
    rw [zipF] at hd
    rcases List.mem_append.mp hd with e | e
    · have := List.mem_singleton.mp (show (true, d) ∈ ([(false, _)] : List Pc) from e)
      cases this
    · exact fc_tz t d e
  | _, _, _, _, _, .part h t, d, hd => by
    rw [zipF] at hd
    rcases List.mem_append.mp hd with e | e
    · have := List.mem_singleton.mp (show (true, d) ∈ ([(true, _)] : List Pc) from e)
      cases this
      exact cz_tz h
    · exact fc_tz t d e
theorem al_tz : ∀ {n : Nat} {ds : List PyData} {pss : List (List Str)}, Al n ds pss → ∀ d ∈ ds, Tz d
  | _, _, _, .nil, d, hd => by cases hd
  | _, _, _, .cons h t, d, hd => by
    rcases List.mem_cons.mp hd with e | e
    · rw [e]
      exact cz_tz h
    · exact al_tz t d e
end
end Wp
set_option Elab.async false
set_option linter.all false
set_option maxRecDepth 100000
namespace Wp
open PySem PySem.Spec PyProof.Rows L2
theorem brk_sol {w : Str} {ps : List Str} : Sol (brk w ps) := sol_br
theorem num_par (i : Int) (h : (((toString i : String) : Str)).cps.toList.length ≤ 600) : ¬ ((toString i : String) : Str) = "(" ∧ ¬ ((toString i : String) : Str) = ")" := by
  obtain ⟨_, _, _, c, r, e, hc⟩ := tok_num (bs := []) h
  constructor <;> intro z <;> rw [z] at e
  · have : ("(" : Str).cps.toList = [40] := by decide +kernel
    rw [this] at e
    cases e
    omega
  · have : (")" : Str).cps.toList = [41] := by decide +kernel
    rw [this] at e
    cases e
    omega
theorem text_par (z : Str) : ¬ ("\"" ++ z ++ "\"" : Str) = "(" ∧ ¬ ("\"" ++ z ++ "\"" : Str) = ")" := by
  have q : ("\"" : Str).cps.toList = [34] := by decide +kernel
  have e : (("\"" : Str) ++ z ++ "\"").cps.toList = 34 :: (z.cps.toList ++ [34]) := by
    rw [Str.cps_append, Str.cps_append, Array.toList_append, Array.toList_append, q, List.append_assoc]
    rfl
  constructor <;> intro h <;> rw [h] at e
  · have : ("(" : Str).cps.toList = [40] := by decide +kernel
    rw [this] at e
    cases e
  · have : (")" : Str).cps.toList = [41] := by decide +kernel
    rw [this] at e
    cases e
theorem cz_sol {n : Nat} {d : PyData} {ps : List Str} (h : Cz n d ps) : Sol ps := by
  cases h with
  | num _ h2 => exact sol_one (num_par _ (by omega)).1 (num_par _ (by omega)).2
  | text _ _ => exact sol_one (text_par _).1 (text_par _).2
  | yes h =>
    have k : ∀ z ∈ noNames, ¬ z = "(" ∧ ¬ z = ")" := by decide +kernel
    exact sol_one (k _ h).1 (k _ h).2
  | name h _ => exact sol_one (name_par h).1 (name_par h).2
  | fix _ _ => exact brk_sol
  | call _ _ _ => exact brk_sol
  | do_ _ _ _ => exact brk_sol
  | op _ _ => exact brk_sol
/-- pieces one behind the other -/
def Pt (ts ps : List Str) : Prop := ∀ p : Str, ¬ p = "(" → tx p ps = codes ts ∧ ¬ lastP p ps = "("
theorem pt_nil : Pt [] [] := fun p hp => ⟨rfl, hp⟩
theorem pt_cons {t1 ts ps qs : List Str} (s : Sol ps) (e : codes t1 = textC ps) (h : Pt ts qs) : Pt (([" "] : List Str) ++ (t1 ++ ts)) (ps ++ qs) := by
  intro p hp
  obtain ⟨h1, h2⟩ := h (lastP p ps) (s.lt p)
  refine ⟨?_, by rw [last_app]; exact h2⟩
  have b : codes ([" "] : List Str) = [32] := by decide +kernel
  rw [tx_app, s.tx hp, h1, codes_app, codes_app, e, b, List.append_assoc]
theorem join_tx : ∀ (zs : List Str), (∀ z ∈ zs, ¬ z = "(" ∧ ¬ z = ")") → (Str.join " " zs).cps.toList = textC zs
  | [], _ => rfl
  | [z], _ => by
    show z.cps.toList = z.cps.toList ++ []
    rw [List.append_nil]
  | z :: y :: r, h => by
    have k := join_tx (y :: r) fun x hx => h x (List.mem_cons_of_mem _ hx)
    show ((z ++ " ") ++ Str.join " " (y :: r)).cps.toList = z.cps.toList ++ (gl z y ++ (y.cps.toList ++ tx y r))
    have e : gl z y = [32] := by
      unfold gl
      rw [if_neg]
      rintro (e | e)
      · exact (h z List.mem_cons_self).1 e
      · exact (h y (List.mem_cons_of_mem _ List.mem_cons_self)).2 e
    have b : (" " : Str).cps.toList = [32] := by decide +kernel
    rw [Str.cps_append, Str.cps_append, Array.toList_append, Array.toList_append, k, e, b, List.append_assoc]
    rfl
theorem names_tx {zs : List Str} (h : ∀ z ∈ zs, z ∈ nm12) : codes [namesTx (.tuple (zs.map .str))] = textC ("(" :: (zs ++ [shutP])) := by
  rw [textC_br]
  have l40 : ("(" : Str).cps.toList = [40] := by decide +kernel
  have l41 : (")" : Str).cps.toList = [41] := by decide +kernel
  have k : ∀ z ∈ nm12, ¬ z = "(" ∧ ¬ z = ")" := by decide +kernel
  have e : (Txt.join " " zs).cps.toList = textC zs := by
    show (Builtin.Str.glued " " zs).cps.toList = _
    rw [StrLaws.glued_eq_join]
    exact join_tx zs fun z hz => k z (h z hz)
  show (namesTx (.tuple (zs.map .str))).cps.toList ++ [] = _
  unfold namesTx
  rw [show itemsOf (.tuple (zs.map PyData.str)) = zs.map PyData.str from rfl, flat_strOf, Str.cps_append, Str.cps_append, Array.toList_append, Array.toList_append, l40, l41, e, List.append_nil, List.append_assoc]
theorem fc_clear : ∀ {n : Nat} {fb : Option Str} {ks : List Str} {xs : List PyData} {iss : List (List Str)}, Fc n fb ks xs iss → ∀ z ∈ zipF bind1 ks xs, ¬ z ∈ noNames
  | _, _, _, _, _, .nil, z, hz => by cases hz
  | _, _, _, _, _, .binder _ h t, z, hz => by
    rw [zipF] at hz
    rcases List.mem_append.mp hz with e | e
    · rw [List.mem_singleton.mp (show z ∈ [_] from e)]
      exact h
    · exact fc_clear t z e
  | _, _, _, _, _, .tag _ t, z, hz => by
    rw [zipF] at hz
    rcases List.mem_append.mp hz with e | e
    · have : ∀ x, bind1 "tag" x = [] := fun x => by
        unfold bind1
        rw [if_neg (by decide +kernel), if_neg (by decide +kernel)]
      rw [this] at e
      cases e
    · exact fc_clear t z e
  | _, _, _, _, _, .binders (zs := zs) _ _ h _ t, z, hz => by
    rw [zipF] at hz
    rcases List.mem_append.mp hz with e | e
    · have e1 : ¬ ("binders" : Str) = "binder" := by decide +kernel
      unfold bind1 at e
      rw [if_neg e1, if_pos rfl, show itemsOf (.tuple (zs.map PyData.str)) = zs.map PyData.str from rfl, flat_strOf] at e
      exact (nm12_ok z (h z e)).2
    · exact fc_clear t z e
  | _, _, _, _, _, .part _ t, z, hz => by
    rw [zipF] at hz
    rcases List.mem_append.mp hz with e | e
    · have : ∀ x, bind1 "part" x = [] := fun x => by
        unfold bind1
        rw [if_neg (by decide +kernel), if_neg (by decide +kernel)]
      rw [this] at e
      cases e
    · exact fc_clear t z e
theorem uncl_no {w : Str} {its : List PyData} (h : ∀ z ∈ namesZ w its, ¬ z ∈ noNames) : unclearZ w its = false := by
  unfold unclearZ
  rw [List.any_eq_false]
  intro z hz
  rw [decide_eq_true_eq]
  exact h z hz
theorem atom_no {w : Str} {its : List PyData} (h1 : ¬ w = "num") (h2 : ¬ w = "text") (h3 : ¬ w = "name") (h4 : ¬ w ∈ noNames) : atomZ w its = none := by
  unfold atomZ
  rw [if_neg h1, if_neg h2, if_neg h3, if_neg h4]
/-- a node is written -/
theorem node_sh {w : Str} {its : List PyData} {ts qs : List Str} {hw : Str} (nd : Node w its) (uz : unclearZ w its = false) (az : atomZ w its = none) (eh : hwZ w its = hw) (nh : ¬ hw = "(") (nh2 : ¬ hw = ")") (h : ShL (sepZ (zipF pc1 (formOf w) its)) ts) (p : Pt ts qs) : ∃ us, Sh (.tuple (.str w :: its)) us ∧ codes us = textC (brk hw qs) := by
  have l40 : ("(" : Str).cps.toList = [40] := by decide +kernel
  have l41 : codes ([shutP] : List Str) = [41] := by decide +kernel
  refine ⟨_, sh_node nd uz az (shl_app h (shl_str shl_nil)), ?_⟩
  rw [codes_cons, codes_app, textC_br]
  obtain ⟨h1, h2⟩ := p hw nh
  have e1 : textC (hw :: qs) = hw.cps.toList ++ codes ts := by
    show hw.cps.toList ++ tx hw qs = _
    rw [h1]
  rw [e1]
  have e2 : (headZ w its).cps.toList = [40] ++ hw.cps.toList := by
    unfold headZ
    rw [eh, Str.cps_append, Array.toList_append, l40]
  have e3 : codes (([")"] : List Str) ++ []) = [41] := by decide +kernel
  rw [e2, e3, List.append_assoc, List.append_assoc]
mutual
theorem cz_sh : ∀ {n : Nat} {d : PyData} {ps : List Str}, Cz n d ps → ∃ ts, Sh d ts ∧ codes ts = textC ps
  | _, _, _, .num h1 h2 => ⟨_, sh_atom (uncl_no fun z hz => by cases hz) rfl, by show _ ++ [] = _ ++ []; rfl⟩
  | _, _, _, .text h1 h2 => ⟨_, sh_atom (uncl_no fun z hz => by cases hz) rfl, by show _ ++ [] = _ ++ []; rfl⟩
  | _, _, _, .yes (z := z) h => by
    have k : ∀ z ∈ noNames, ¬ z = "num" ∧ ¬ z = "text" ∧ ¬ z = "name" ∧ formOf z = [] := by decide +kernel
    obtain ⟨k1, k2, k3, k4⟩ := k _ h
    refine ⟨[z], sh_atom (uncl_no fun y hy => ?_) ?_, rfl⟩
    · unfold namesZ at hy
      rw [if_neg k3, k4] at hy
      cases hy
    · unfold atomZ
      rw [if_neg k1, if_neg k2, if_neg k3, if_pos h]
  | _, _, _, .name (z := z) h1 h2 => by
    refine ⟨[z], sh_atom (uncl_no fun y hy => ?_) rfl, rfl⟩
    have hy : y ∈ [z] := hy
    rw [List.mem_singleton.mp hy]
    exact h2
  | _, _, _, .fix (w := w) (its := its) hw fc => by
    obtain ⟨w1, w2, w3, w4, w5, w6, w7, w8, w9⟩ := fix_words _ hw
    obtain ⟨ts, h1, h2⟩ := fc_sh fc
    refine node_sh ⟨w1, fc_fit fc⟩ (uncl_no fun z hz => ?_) (atom_no w4 w5 w3 w6) (by unfold hwZ; rw [if_neg w7]) w8 w9 h1 h2
    unfold namesZ at hz
    rw [if_neg w3] at hz
    exact fc_clear fc z hz
  | _, _, _, .call (f := f) (ds := ds) hf ha hl => by
    obtain ⟨w, its, e, nd⟩ := cz_node (.call hf ha hl)
    cases e
    obtain ⟨t1, a1, a2⟩ := cz_sh hf
    obtain ⟨ts, h1, h2⟩ := al_sh ha
    have ez : sepZ (zipF pc1 (formOf "call") [f, .tuple ds]) = [(false, .str " "), (true, f)] ++ sepZ (ds.map fun d => ((true, d) : Pc)) := by
      rw [fo_call]
      show sepZ (pc1 "part" f ++ (pc1 "handed parts" (.tuple ds) ++ [])) = _
      rw [List.append_nil]
      rfl
    refine node_sh nd (uncl_no fun z hz => ?_) (atom_no (by decide +kernel) (by decide +kernel) (by decide +kernel) (by decide +kernel)) rfl (by decide +kernel) (by decide +kernel) (ts := ([" "] : List Str) ++ (t1 ++ ts)) ?_ (pt_cons (cz_sol hf) a2 h2)
    · unfold namesZ at hz
      rw [if_neg (by decide +kernel), fo_call] at hz
      cases hz
    · rw [ez]
      exact shl_str (shl_tm a1 h1)
  | _, _, _, .do_ (ds := ds) ha l1 l2 => by
    obtain ⟨w, its, e, nd⟩ := cz_node (.do_ ha l1 l2)
    cases e
    obtain ⟨ts, h1, h2⟩ := al_sh ha
    have ez : sepZ (zipF pc1 (formOf "do") [.tuple ds]) = sepZ (ds.map fun d => ((true, d) : Pc)) := by
      rw [fo_do]
      show sepZ (pc1 "row parts" (.tuple ds) ++ []) = _
      rw [List.append_nil]
      rfl
    refine node_sh nd (uncl_no fun z hz => ?_) (atom_no (by decide +kernel) (by decide +kernel) (by decide +kernel) (by decide +kernel)) rfl (by decide +kernel) (by decide +kernel) ?_ h2
    · unfold namesZ at hz
      rw [if_neg (by decide +kernel), fo_do] at hz
      cases hz
    · rw [ez]
      exact h1
  | _, _, _, .op (z := z) (ds := ds) ho ha => by
    obtain ⟨w, its, e, nd⟩ := cz_node (.op ho ha)
    cases e
    obtain ⟨ts, h1, h2⟩ := al_sh ha
    have k : ∀ p ∈ ops, ¬ p.1 = "(" ∧ ¬ p.1 = ")" := by decide +kernel
    have ez : sepZ (zipF pc1 (formOf "op") [.str z, .tuple ds]) = sepZ (ds.map fun d => ((true, d) : Pc)) := by
      rw [fo_op]
      show sepZ (pc1 "word" (.str z) ++ (pc1 "op parts" (.tuple ds) ++ [])) = _
      rw [List.append_nil]
      rfl
    refine node_sh nd (uncl_no fun y hz => ?_) (atom_no (by decide +kernel) (by decide +kernel) (by decide +kernel) (by decide +kernel)) rfl (k _ ho).1 (k _ ho).2 ?_ h2
    · unfold namesZ at hz
      rw [if_neg (by decide +kernel), fo_op] at hz
      cases hz
    · rw [ez]
      exact h1
theorem fc_sh : ∀ {n : Nat} {fb : Option Str} {ks : List Str} {xs : List PyData} {iss : List (List Str)}, Fc n fb ks xs iss → ∃ ts, ShL (sepZ (zipF pc1 ks xs)) ts ∧ Pt ts iss.flatten
  | _, _, _, _, _, .nil => ⟨[], shl_nil, pt_nil⟩
  | _, _, _, _, _, .binder (z := z) h _ t => by
    obtain ⟨ts, h1, h2⟩ := fc_sh t
    refine ⟨_, ?_, pt_cons (t1 := [z]) (sol_one (name_par h).1 (name_par h).2) rfl h2⟩
    rw [zipF, sep_app]
    exact shl_str (shl_str h1)
  | _, _, _, _, _, .tag (z := z) h t => by
    obtain ⟨ts, h1, h2⟩ := fc_sh t
    refine ⟨_, ?_, pt_cons (t1 := [z]) (sol_one (name_par h).1 (name_par h).2) rfl h2⟩
    rw [zipF, sep_app]
    exact shl_str (shl_str h1)
  | _, _, _, _, _, .binders (zs := zs) _ _ h _ t => by
    obtain ⟨ts, h1, h2⟩ := fc_sh t
    refine ⟨_, ?_, pt_cons (t1 := [namesTx (.tuple (zs.map .str))]) sol_br (names_tx h) h2⟩
    rw [zipF, sep_app]
    exact shl_str (shl_str h1)
  | _, _, _, _, _, .part h t => by
    obtain ⟨t1, a1, a2⟩ := cz_sh h
    obtain ⟨ts, h1, h2⟩ := fc_sh t
    refine ⟨_, ?_, pt_cons (cz_sol h) a2 h2⟩
    rw [zipF, sep_app]
    exact shl_str (shl_tm a1 h1)
theorem al_sh : ∀ {n : Nat} {ds : List PyData} {pss : List (List Str)}, Al n ds pss → ∃ ts, ShL (sepZ (ds.map fun d => ((true, d) : Pc))) ts ∧ Pt ts pss.flatten
  | _, _, _, .nil => ⟨[], shl_nil, pt_nil⟩
  | _, _, _, .cons h t => by
    obtain ⟨t1, a1, a2⟩ := cz_sh h
    obtain ⟨ts, h1, h2⟩ := al_sh t
    exact ⟨_, shl_str (shl_tm a1 h1), pt_cons (cz_sol h) a2 h2⟩
end
end Wp
set_option Elab.async false
set_option linter.all false
set_option maxRecDepth 100000
namespace Wp
open PySem PySem.Spec PyProof.Rows L2
/-! ### how great a term is -/
def isStrD : PyData → Bool
  | .str _ => true
  | _ => false
def hd1 : List PyData → Nat
  | x :: _ => if isStrD x then 1 else 0
  | [] => 0
mutual
def cntZ : PyData → Nat
  | .tuple ds => hd1 ds + cntZL ds
  | .none => 0
  | .bool _ => 0
  | .int _ => 0
  | .str _ => 0
  | .list _ => 0
  | .dict _ => 0
def cntZL : List PyData → Nat
  | [] => 0
  | d :: ds => cntZ d + cntZL ds
end
theorem wt_strs (zs : List Str) : wtL (zs.map .str) = 3 * zs.length := by
  induction zs with
  | nil => rfl
  | cons z zs ih =>
    show 2 + 1 + wtL (zs.map .str) = _
    rw [ih, List.length_cons]
    omega
theorem cz_head {n : Nat} {d : PyData} {ps : List Str} (h : Cz n d ps) : ∃ w its, d = .tuple (.str w :: its) := by
  obtain ⟨w, its, e, _⟩ := cz_node h
  exact ⟨w, its, e⟩
theorem al_hd {n : Nat} {ds : List PyData} {pss : List (List Str)} (h : Al n ds pss) : hd1 ds = 0 := by
  cases h with
  | nil => rfl
  | cons h _ =>
    obtain ⟨w, its, e⟩ := cz_head h
    rw [e]
    rfl
mutual
theorem cz_wt : ∀ {n : Nat} {d : PyData} {ps : List Str}, Cz n d ps → wtD d + 1 ≤ 30 * cntZ d
  | _, _, _, .num _ _ => by show 9 ≤ 30; decide
  | _, _, _, .text _ _ => by show 9 ≤ 30; decide
  | _, _, _, .yes _ => by show 6 ≤ 30; decide
  | _, _, _, .name _ _ => by show 9 ≤ 30; decide
  | _, _, _, .fix (its := its) hw fc => by
    have h1 := fc_wt fc
    have h2 := (fix_facts _ hw).2.2.2.2.2.2.2.2.2.2.1
    rw [fc.len] at h2
    show 2 + (2 + 1 + wtL its) + 1 ≤ 30 * (1 + (0 + cntZL its))
    omega
  | _, _, _, .call (f := f) (ds := ds) hf ha _ => by
    have h1 := cz_wt hf
    have h2 := al_wt ha
    have h3 := al_hd ha
    show 2 + (2 + 1 + (wtD f + 1 + ((2 + wtL ds) + 1 + 0))) + 1 ≤ 30 * (1 + (0 + (cntZ f + ((hd1 ds + cntZL ds) + 0))))
    omega
  | _, _, _, .do_ (ds := ds) ha _ _ => by
    have h2 := al_wt ha
    have h3 := al_hd ha
    show 2 + (2 + 1 + ((2 + wtL ds) + 1 + 0)) + 1 ≤ 30 * (1 + (0 + ((hd1 ds + cntZL ds) + 0)))
    omega
  | _, _, _, .op (ds := ds) _ ha => by
    have h2 := al_wt ha
    have h3 := al_hd ha
    show 2 + (2 + 1 + (2 + 1 + ((2 + wtL ds) + 1 + 0))) + 1 ≤ 30 * (1 + (0 + (0 + ((hd1 ds + cntZL ds) + 0))))
    omega
theorem fc_wt : ∀ {n : Nat} {fb : Option Str} {ks : List Str} {xs : List PyData} {iss : List (List Str)}, Fc n fb ks xs iss → wtL xs ≤ 30 * cntZL xs + 3 * xs.length
  | _, _, _, _, _, .nil => Nat.le_refl _
  | _, _, _, _, _, .binder (xs := xs) _ _ t => by
    have := fc_wt t
    show 2 + 1 + wtL xs ≤ 30 * (0 + cntZL xs) + 3 * (xs.length + 1)
    omega
  | _, _, _, _, _, .tag (xs := xs) _ t => by
    have := fc_wt t
    show 2 + 1 + wtL xs ≤ 30 * (0 + cntZL xs) + 3 * (xs.length + 1)
    omega
  | _, _, _, _, _, .binders (zs := zs) (xs := xs) hl _ _ _ t => by
    have := fc_wt t
    have e := wt_strs zs
    show 2 + wtL (zs.map .str) + 1 + wtL xs ≤ 30 * ((hd1 (zs.map .str) + cntZL (zs.map .str)) + cntZL xs) + 3 * (xs.length + 1)
    rw [e]
    cases zs with
    | nil =>
      show 2 + 3 * 0 + 1 + wtL xs ≤ 30 * ((0 + 0) + cntZL xs) + 3 * (xs.length + 1)
      omega
    | cons z zs =>
      have h1 : hd1 ((z :: zs).map PyData.str) = 1 := rfl
      rw [h1]
      omega
  | _, _, _, _, _, .part (d := d) (xs := xs) h t => by
    have h1 := cz_wt h
    have := fc_wt t
    show wtD d + 1 + wtL xs ≤ 30 * (cntZ d + cntZL xs) + 3 * (xs.length + 1)
    omega
theorem al_wt : ∀ {n : Nat} {ds : List PyData} {pss : List (List Str)}, Al n ds pss → wtL ds ≤ 30 * cntZL ds
  | _, _, _, .nil => Nat.le_refl _
  | _, _, _, .cons (d := d) (ds := ds) h t => by
    have h1 := cz_wt h
    have := al_wt t
    show wtD d + 1 + wtL ds ≤ 30 * (cntZ d + cntZL ds)
    omega
end
/-! ### what comes of it -/
theorem join_codes0 : ∀ ts : List Str, (Str.join "" ts).cps.toList = codes ts
  | [] => rfl
  | [x] => by
    show x.cps.toList = x.cps.toList ++ []
    rw [List.append_nil]
  | x :: y :: r => by
    have k := join_codes0 (y :: r)
    show ((x ++ "") ++ Str.join "" (y :: r)).cps.toList = x.cps.toList ++ codes (y :: r)
    rw [← k, Str.cps_append, Str.cps_append, Array.toList_append, Array.toList_append]
    have e : ("" : Str).cps.toList = [] := by decide +kernel
    rw [e, List.append_nil]
theorem join_codes (ts : List Str) : (Txt.join "" ts).cps.toList = codes ts := by
  show (Builtin.Str.glued "" ts).cps.toList = codes ts
  rw [StrLaws.glued_eq_join]
  exact join_codes0 ts
theorem cz_shown {n : Nat} {d : PyData} {ps : List Str} (h : Cz n d ps) : ∃ told, goS (wtD d) [(true, d)] [] = some told ∧ (Txt.join "" told).cps.toList = textC ps := by
  obtain ⟨ts, ⟨k, l, e⟩, c⟩ := cz_sh h
  refine ⟨ts, ?_, by rw [join_codes, c]⟩
  have := e (wtD d - k) [] []
  rw [Nat.sub_add_cancel l, List.nil_append] at this
  rw [this]
  cases wtD d - k <;> rfl
theorem cz_reads {n : Nat} {d : PyData} {ps : List Str} (h : Cz n d ps) (hn : n ≤ 20) {z : Str} (l : Lo "(" ps z.cps.toList) : ReadsTo z d :=
  lo_reads (n := 30) (by decide) l (cz_steps h (B := rootBr) (r := []) rfl (by decide +kernel) (Nat.zero_le _) (root_gs.mono (by decide)) (by simp only [List.length_nil]; omega))
theorem cz_shape {n : Nat} {d : PyData} {ps : List Str} (h : Cz n d ps) (hn : n ≤ 20) : SeqAt.shaped d = true := by
  have p := cz_pr h
  unfold SeqAt.shaped
  rw [Bool.and_eq_true]
  exact ⟨p.lay, decide_eq_true (by have := p.dep; omega)⟩
theorem cz_short {n : Nat} {d : PyData} {ps : List Str} (h : Cz n d ps) (hc : cntZ d ≤ 400) : wtD d ≤ 13000 ∧ d.shown.length ≤ sizeLine := by
  have h1 := cz_wt h
  have p := cz_pr h
  have h2 := PyData.shown_le 35 (by decide) d p.lea
  have h3 := p.wei
  refine ⟨by omega, Nat.le_trans h2 ?_⟩
  rw [sizeLine_eq]
  omega
/-! ### draws -/
-- _law_next: slots _law_dr 0, _law_turn 1, _law_number 2
abbrev s_law_next : Stmt := top 39
theorem sc_law_next : FnScope ["_law_dr", "_law_turn", "_law_number"] ["_law_dr"] (defScope s_law_next) := ⟨rfl, rfl, rfl, by decide +kernel, rfl, by decide +kernel, by decide +kernel⟩
abbrev sl_law_next : List Str := ["_law_dr", "_law_turn", "_law_number"]
-- _law_draws: slots _law_cell 0, _law_cut 1, _law_turn 2
abbrev s_law_draws : Stmt := top 38
theorem sc_law_draws : FnScope ["_law_cell", "_law_cut", "_law_turn"] ["_law_cell"] (defScope s_law_draws) := ⟨rfl, rfl, rfl, by decide +kernel, rfl, by decide +kernel, by decide +kernel⟩
abbrev sl_law_draws : List Str := ["_law_cell", "_law_cut", "_law_turn"]
-- _law_name: slots _law_dr 0, _law_some 1
abbrev s_law_name : Stmt := top 40
theorem sc_law_name : FnScope ["_law_dr", "_law_some"] ["_law_dr"] (defScope s_law_name) := ⟨rfl, rfl, rfl, by decide +kernel, rfl, by decide +kernel, by decide +kernel⟩
abbrev sl_law_name : List Str := ["_law_dr", "_law_some"]
-- _law_names: slots _law_dr 0, _law_most 1, _law_told 2, _law_turn 3, _law_name_here 4
abbrev s_law_names : Stmt := top 41
theorem sc_law_names : FnScope ["_law_dr", "_law_most", "_law_told", "_law_turn", "_law_name_here"] ["_law_dr", "_law_most"] (defScope s_law_names) := ⟨rfl, rfl, rfl, by decide +kernel, rfl, by decide +kernel, by decide +kernel⟩
abbrev sl_law_names : List Str := ["_law_dr", "_law_most", "_law_told", "_law_turn", "_law_name_here"]
-- _law_atom: slots _law_dr 0, _law_pick 1, _law_number 2, _law_signs 3, _law_a_text 4, _law_k 5
abbrev s_law_atom : Stmt := top 42
theorem sc_law_atom : FnScope ["_law_dr", "_law_pick", "_law_number", "_law_signs", "_law_a_text", "_law_k"] ["_law_dr"] (defScope s_law_atom) := ⟨rfl, rfl, rfl, by decide +kernel, rfl, by decide +kernel, by decide +kernel⟩
abbrev sl_law_atom : List Str := ["_law_dr", "_law_pick", "_law_number", "_law_signs", "_law_a_text", "_law_k"]
theorem pickN {α : Type} {xs : List α} {j : Int} {n : Nat} (h : 0 ≤ j) (hn : xs.length = n) (n0 : 0 < n) : ∃ (k : Nat) (v : α), k < n ∧ j % (n : Int) = (k : Int) ∧ xs[k]? = some v ∧ atI xs (j % (n : Int)) = some v := by
  have h1 : 0 ≤ j % (n : Int) := Int.emod_nonneg _ (by omega)
  have h2 : j % (n : Int) < n := Int.emod_lt_of_pos _ (by omega)
  obtain ⟨k, ek⟩ : ∃ k : Nat, j % (n : Int) = (k : Int) := ⟨(j % (n : Int)).toNat, by omega⟩
  have lk : k < xs.length := by omega
  refine ⟨k, xs[k], by omega, ek, List.getElem?_eq_getElem lk, ?_⟩
  rw [ek]
  exact atI_nat (List.getElem?_eq_getElem lk)
theorem same_dr {a : Addr} {H H' : Hp} {n : Nat} (s : Same H H') (d : Dr H a n) : Dr H' a n := by
  obtain ⟨x, c, b, e, q⟩ := d
  exact ⟨x, c, b, s _ _ e, q⟩
abbrev spNext : Sp := spG 1 (fun a => [tyIs a (.ref a)]) (fun a => tyI a fun i => 0 ≤ i ∧ i < 2147483648)
def spDraws : Sp := fun vs H Q _ => ∃ c : Int, vs = [.int c] ∧ ∀ p H', Same H H' → H p = none → Dr H' p 0 → Q (.ref p) H'
/-- a draw: the list of draws alone is changed -/
def spName1 : Sp := fun vs H Q _ => ∃ (a : Addr) (n : Nat), vs = [.ref a] ∧ n + 1 ≤ big ∧ Dr H a n ∧ ∀ z H', Gx a H H' → Dr H' a (n + 1) → z ∈ nm12 → Q (.str z) H'
def spNames : Sp := fun vs H Q _ => ∃ (a : Addr) (n : Nat), vs = [.ref a, .int 6] ∧ n + 10 ≤ big ∧ Dr H a n ∧ ∀ (p : Addr) (zs : List Str) (H' : Hp), Gx a H H' → Dr H' a (n + 10) → H' p = some (.tup (zs.map V.str)) → zs.length ≤ 6 → zs.Nodup → (∀ z ∈ zs, z ∈ nm12) → Q (.ref p) H'
def spAtom1 : Sp := fun vs H Q _ => ∃ (a : Addr) (n : Nat), vs = [.ref a] ∧ n + 2 ≤ big ∧ Dr H a n ∧ ∀ v d ps H', Gx a H H' → Dr H' a (n + 2) → Dz H' v d → (∀ j, Cz j d ps) → Q v H'
section
variable {P : Program} {w : World} {K : PySem.W.Frag} {mg : Str → Option Value} {base : Heap} {f : Addr} {fd : FuncData}
theorem ok_next (F : Fun K "_law_next" "_law_next" s_law_next f fd) : FnOk P w K mg base CX0 1 f fd ["_law_dr"] spNext := by
  refine F.ok sc_law_next (fun vs H Q E h => ?_) (fun cdv A outer s H vs Q E hr h => ?_)
  · obtain ⟨a, n, _, _, ps, _⟩ := h
    exact ps.len
  obtain ⟨a, n, hn, ⟨x, c, b, e, h0, h1, h2⟩, ps, q⟩ := h
  obtain ⟨_, rfl, rfl⟩ := all1 ps
  have hb : n + 1 ≤ 1000000000000 := hn
  refine ⟨_, (pss_cons (ps_asg (pe_op op_add (pe_ix ix_list (pv 0) pe_int (fun _ _ => rfl)) pe_int) (pg_sub (pv 0) pe_int set_list))
  (pss_cons (ps_set (i := 1) sc_law_next.nd rfl (.inl rfl) (pe_ix ix_list (pv 0) pe_int (fun _ _ => rfl)))
  (pss_cons (ps_if (pt_val (pe_ix ix_list (pv 0) pe_int (fun _ _ => rfl))) (pss_cons (ps_set (i := 2) sc_law_next.nd rfl (.inl rfl) (pe_op op_mod (pe_ix ix_list (pv 0) pe_int (fun _ _ => rfl)) (pe_op op_pow pe_int pe_int)))
  (pss_cons (ps_asg (pe_op op_fdiv (pe_ix ix_list (pv 0) pe_int (fun _ _ => rfl)) (pe_op op_pow pe_int pe_int)) (pg_sub (pv 0) pe_int set_list))
  (pss_one (ps_ret (pv 2))))) pss_nil)
  (pss_cons (ps_set (i := 2) sc_law_next.nd rfl (.inl rfl) (pe_op op_mod (pe_op op_mul (pe_op op_add (pe_op op_add (pe_op op_mod (pe_ix ix_list (pv 0) pe_int (fun _ _ => rfl)) pe_int) (pe_op op_mul (pe_op op_mul (pv 1) (pv 1)) pe_int)) (pv 1)) pe_int) pe_int))
  (pss_cons (ps_set (i := 2) sc_law_next.nd rfl (.inl rfl) (pe_op op_mod (pe_op op_mul (pv 2) (pv 2)) pe_int))
  (pss_one (ps_ret (pe_op op_fdiv (pe_op op_mod (pe_op op_mul (pv 2) (pe_op op_add (pv 2) pe_int)) pe_int) pe_int)))))))), ?_⟩
  refine ⟨_, rfl, a, _, _, _, rfl, rfl, SqL.of e, rfl, _, _, rfl, rfl, _, rfl, a, _, _, 1, rfl, rfl, e, rfl, ?_⟩
  have e1 : upd H a (.lst [.int x, .int (c + 1), .bl b]) a = some (.lst [.int x, .int (c + 1), .bl b]) := upd_same
  refine ⟨_, rfl, a, _, _, _, rfl, rfl, SqL.of e1, rfl, ?_⟩
  refine ⟨_, rfl, a, _, _, _, rfl, rfl, SqL.of e1, rfl, _, rfl, ?_⟩
  refine ite2 (fun hc => ?_) (fun hc => ?_)
  · refine ⟨_, rfl, a, _, _, _, rfl, rfl, SqL.of e1, rfl, 10, 6, rfl, rfl, ⟨by decide, by decide, by decide⟩, _, _, rfl, rfl, (by show (0 : Int) < 10 ^ 6; decide), ?_⟩
    refine ⟨_, rfl, a, _, _, _, rfl, rfl, SqL.of e1, rfl, 10, 6, rfl, rfl, ⟨by decide, by decide, by decide⟩, _, _, rfl, rfl, ⟨by show (0 : Int) < 10 ^ 6; decide, by show (10 : Int) ^ 6 < 1073741824; decide⟩, _, rfl, a, _, _, 0, rfl, rfl, e1, rfl, ?_⟩
    refine ⟨_, rfl, ?_⟩
    refine q _ _ (fun b' o nb hb' => ?_) ⟨x / 10 ^ 6, c + 1, b, upd_same, Int.ediv_nonneg h0 (by decide), by omega, by omega⟩ ⟨x % 10 ^ 6, rfl, Int.emod_nonneg _ (by decide), ?_⟩
    · rw [upd_ne nb, upd_ne nb]; exact hb'
    · have z : x % 10 ^ 6 < 10 ^ 6 := Int.emod_lt_of_pos _ (by decide)
      have z2 : (10 : Int) ^ 6 = 1000000 := by decide
      omega
  · have m1 : ∀ i : Int, 0 ≤ i % 2147483629 ∧ i % 2147483629 < 2147483629 := fun i => ⟨Int.emod_nonneg _ (by decide), Int.emod_lt_of_pos _ (by decide)⟩
    have m2 : ∀ i : Int, 0 ≤ i % 2147483587 ∧ i % 2147483587 < 2147483587 := fun i => ⟨Int.emod_nonneg _ (by decide), Int.emod_lt_of_pos _ (by decide)⟩
    have m3 : ∀ i : Int, 0 ≤ i % 2147483579 ∧ i % 2147483579 < 2147483579 := fun i => ⟨Int.emod_nonneg _ (by decide), Int.emod_lt_of_pos _ (by decide)⟩
    have lc : -(2 ^ 64) < c + 1 ∧ c + 1 < 2 ^ 64 := by omega
    refine ⟨_, rfl, a, _, _, _, rfl, rfl, SqL.of e1, rfl, _, _, rfl, rfl, (by show (0 : Int) < 1000003; decide), _, rfl, _, rfl, _, _, rfl, rfl, .inl lc, _, _, rfl, rfl, .inr ⟨by decide, by decide⟩, _, _, rfl, rfl, _, rfl, _, _, rfl, rfl, _, _, rfl, rfl, .inr ⟨by decide, by decide⟩, _, _, rfl, rfl, (by show (0 : Int) < 2147483629; decide), ?_⟩
    refine ⟨_, rfl, _, rfl, _, _, rfl, rfl, .inl ⟨?_, ?_⟩, _, _, rfl, rfl, (by show (0 : Int) < 2147483587; decide), ?_⟩
    · exact Int.lt_of_lt_of_le (by decide) (m1 _).1
    · exact Int.lt_trans (m1 _).2 (by decide)
    refine ⟨_, rfl, _, rfl, _, _, rfl, rfl, _, _, rfl, rfl, .inl ⟨?_, ?_⟩, _, _, rfl, rfl, (by show (0 : Int) < 2147483579; decide), _, _, rfl, rfl, ⟨by show (0 : Int) < 7; decide, by show (7 : Int) < 1073741824; decide⟩, ?_⟩
    · exact Int.lt_of_lt_of_le (by decide) (m2 _).1
    · exact Int.lt_trans (m2 _).2 (by decide)
    refine q _ _ (fun b' o nb hb' => ?_) ⟨x, c + 1, b, upd_same, h0, by omega, by omega⟩ ⟨_, rfl, Int.ediv_nonneg (m3 _).1 (by decide), ?_⟩
    · rw [upd_ne nb]; exact hb'
    · have z := m3 ((((((x % 1000003 + (c + 1) * (c + 1) * 7919 + (c + 1)) * 48271 % 2147483629) * ((x % 1000003 + (c + 1) * (c + 1) * 7919 + (c + 1)) * 48271 % 2147483629)) % 2147483587) * ((((x % 1000003 + (c + 1) * (c + 1) * 7919 + (c + 1)) * 48271 % 2147483629) * ((x % 1000003 + (c + 1) * (c + 1) * 7919 + (c + 1)) * 48271 % 2147483629)) % 2147483587 + 2)))
      generalize hy : (((((x % 1000003 + (c + 1) * (c + 1) * 7919 + (c + 1)) * 48271 % 2147483629) * ((x % 1000003 + (c + 1) * (c + 1) * 7919 + (c + 1)) * 48271 % 2147483629)) % 2147483587) * ((((x % 1000003 + (c + 1) * (c + 1) * 7919 + (c + 1)) * 48271 % 2147483629) * ((x % 1000003 + (c + 1) * (c + 1) * 7919 + (c + 1)) * 48271 % 2147483629)) % 2147483587 + 2)) % 2147483579 = y at z ⊢
      omega
theorem ok_draws (F : Fun K "_law_draws" "_law_draws" s_law_draws f fd) (m_range : mg "range" = none) : FnOk P w K mg base CX0 1 f fd ["_law_cell"] spDraws := by
  refine F.ok sc_law_draws (fun vs H Q E h => ?_) (fun cdv A outer s H vs Q E hr h => ?_)
  · obtain ⟨c, rfl, _⟩ := h
    rfl
  obtain ⟨c, rfl, q⟩ := h
  refine ⟨_, (pss_cons (ps_set (i := 1) sc_law_draws.nd rfl (.inl rfl) (pe_op op_pow pe_int pe_int))
  (pss_cons (ps_for PassesOwn.never rfl (pi_range1 rfl m_range (pa_cons pe_int pa_nil)) (pg_name (i := 2) sc_law_draws.nd rfl (.inl rfl)) (pss_one (ps_set (i := 1) sc_law_draws.nd rfl (.inl rfl) (pe_op op_mulW (pv 1) (pv 1)))))
  (pss_one (ps_ret (pe_lst (pa_cons (pe_op op_mod (pv 0) (pv 1)) (pa_cons pe_int (pa_cons (pe_cmpR op_ge (pv 0) (pe_op op_pow pe_int pe_int) (nomark _)) pa_nil)))))))), ?_⟩
  refine ⟨10, 60, rfl, rfl, ⟨by decide, by decide, by decide⟩, ?_⟩
  refine ⟨7, rfl, by decide, by decide, for_range (n := 7) (fun i σ H' => H' = H ∧ ∃ (k : Int) (t : Option V), σ = [some (.int c), some (.int k), t] ∧ 0 < k ∧ k.natAbs < 2 ^ (200 * 2 ^ i)) ?_ ?_ ?_⟩
  · exact ⟨rfl, 10 ^ 60, none, rfl, by decide +kernel, by decide +kernel⟩
  · rintro i σ H' hi ⟨rfl, k, t, rfl, h0, hk⟩
    have hp : 200 * 2 ^ i ≤ 200 * 2 ^ 6 := Nat.mul_le_mul_left _ (Nat.pow_le_pow_right (by decide) (by omega))
    have hp0 : 0 < 200 * 2 ^ i := Nat.mul_pos (by decide) (Nat.pow_pos (by decide))
    refine ⟨_, rfl, _, rfl, _, _, rfl, rfl, wide_mul hk hk hp0 hp0 (by omega), ?_⟩
    refine ⟨rfl, k * k, _, rfl, Int.mul_pos h0 h0, ?_⟩
    have e : 200 * 2 ^ (i + 1) = 200 * 2 ^ i + 200 * 2 ^ i := by rw [Nat.pow_succ]; omega
    rw [e]
    exact wide_lt hk hk
  · rintro σ H' ⟨rfl, k, t, rfl, h0, hk⟩
    refine ⟨_, rfl, _, rfl, _, _, rfl, rfl, h0, _, rfl, 10, 18, rfl, rfl, ⟨by decide, by decide, by decide⟩, _, _, rfl, rfl, (by show 3 ≤ sizeLine; decide), fun p hp => q p _ (same_new hp) hp ⟨_, _, _, upd_same, Int.emod_nonneg _ (by omega), by decide, by decide⟩⟩
theorem ok_name1 (F : Fun K "_law_name" "_law_name" s_law_name f fd) (G_law_next : Has P w K mg base "_law_next" ["_law_dr"] 1 spNext) : FnOk P w K mg base CX0 2 f fd ["_law_dr"] spName1 := by
  refine F.ok sc_law_name (fun vs H Q E h => ?_) (fun cdv A outer s H vs Q E hr h => ?_)
  · obtain ⟨a, n, rfl, _⟩ := h
    rfl
  obtain ⟨a, n, rfl, hn, d, q⟩ := h
  refine ⟨_, (pss_cons (ps_set (i := 1) sc_law_name.nd rfl (.inl rfl) (pe_lst (pa_cons pe_str (pa_cons pe_str (pa_cons pe_str (pa_cons pe_str (pa_cons pe_str (pa_cons pe_str (pa_cons pe_str (pa_cons pe_str (pa_cons pe_str (pa_cons pe_str (pa_cons pe_str (pa_cons pe_str pa_nil))))))))))))))
  (pss_one (ps_ret (pe_ix ix_list (pv 1) (pe_op op_mod (pe_has G_law_next (hr.mono (by omega)) (pa_cons (pv 0) pa_nil)) pe_int) (fun _ _ => rfl))))), ?_⟩
  refine ⟨(by show 12 ≤ sizeLine; decide), fun p hp => ?_⟩
  have np : p ≠ a := d.ne hp
  have d1 := same_dr (same_new (o := .lst (nm12.map V.str)) hp) d
  refine ⟨_, rfl, _, rfl, a, n, by omega, d1, .cons rfl .nil, fun v H2 g2 d2 hv => ?_⟩
  obtain ⟨j, rfl, hj, _⟩ := hv
  obtain ⟨k, v, hk, ek, ev, ea⟩ := pickN (xs := nm12.map V.str) (n := 12) hj rfl (by decide)
  have e2 : H2 p = some (.lst (nm12.map V.str)) := g2 _ _ np upd_same
  refine ⟨_, _, rfl, rfl, (by show (0 : Int) < 12; decide), p, _, _, _, rfl, rfl, SqL.of e2, ea, ?_⟩
  rw [List.getElem?_map] at ev
  obtain ⟨z, ez, rfl⟩ := Option.map_eq_some_iff.mp ev
  exact q z H2 ((same_gx (same_new hp)).trans g2) d2 (List.mem_of_getElem? ez)
theorem ok_lnames (F : Fun K "_law_names" "_law_names" s_law_names f fd) (G_law_next : Has P w K mg base "_law_next" ["_law_dr"] 1 spNext) (G_law_name : Has P w K mg base "_law_name" ["_law_dr"] 2 spName1) (m_range : mg "range" = none) (m_tuple : mg "tuple" = none) : FnOk P w K mg base CX0 3 f fd ["_law_dr", "_law_most"] spNames := by
  refine F.ok sc_law_names (fun vs H Q E h => ?_) (fun cdv A outer s H vs Q E hr h => ?_)
  · obtain ⟨a, n, rfl, _⟩ := h
    rfl
  obtain ⟨a, n, rfl, hn, d, q⟩ := h
  refine ⟨_, (pss_cons (ps_set (i := 2) sc_law_names.nd rfl (.inl rfl) (pe_lst pa_nil))
  (pss_cons (ps_for PassesOwn.never rfl (pi_range1 rfl m_range (pa_cons (pe_op op_mod (pe_has G_law_next (hr.mono (by omega)) (pa_cons (pv 0) pa_nil)) (pe_op op_add (pv 1) pe_int)) pa_nil)) (pg_name (i := 3) sc_law_names.nd rfl (.inl rfl)) (pss_cons (ps_set (i := 4) sc_law_names.nd rfl (.inl rfl) (pe_has G_law_name (hr.mono (by omega)) (pa_cons (pv 0) pa_nil)))
  (pss_one (ps_if (pt_cmpR op_notIn_seq (pv 4) (pv 2) rfl) (pss_one (ps_expr (pe_bm PySem.F.plainAttrs_list PySem.F.slot_list_append PySem.F.type_list_append mt_append (pv 2) (pa_cons (pv 4) pa_nil)))) pss_nil))))
  (pss_one (ps_ret (pe_callTy call_tuple_of rfl m_tuple PyProof.Rows.Boot.«tuple» (pa_cons (pv 2) pa_nil)))))), ?_⟩
  refine ⟨(by show 0 ≤ sizeLine; decide), fun L hL => ?_⟩
  have nL : L ≠ a := d.ne hL
  have sL : Same H (upd H L (.lst [])) := same_new hL
  have eL : upd H L (.lst []) L = some (.lst []) := upd_same
  generalize upd H L (.lst []) = H1 at *
  refine ⟨_, rfl, a, n, by omega, same_dr sL d, .cons rfl .nil, fun v H2 g2 d2 hv => ?_⟩
  obtain ⟨j, rfl, hj, _⟩ := hv
  have hm0 : 0 ≤ j % 7 := Int.emod_nonneg _ (by decide)
  have hm7 : j % 7 < 7 := Int.emod_lt_of_pos _ (by decide)
  obtain ⟨m, em⟩ : ∃ m : Nat, j % 7 = (m : Int) := ⟨(j % 7).toNat, by omega⟩
  have hm : m < 7 := by omega
  refine ⟨_, rfl, _, _, rfl, rfl, _, _, rfl, rfl, (by show (0 : Int) < 6 + 1; decide), ?_⟩
  have e7 : j % ((6 : Int) + 1) = (m : Int) := em
  refine ⟨j % ((6 : Int) + 1), rfl, by rw [e7]; omega, by rw [e7]; omega, ?_⟩
  rw [e7]
  refine for_range (n := m) (fun i σ H' => ∃ (zs : List Str) (t3 t4 : Option V), σ = [some (.ref a), some (.int 6), some (.ref L), t3, t4] ∧ Gx a H H' ∧ Dr H' a (n + 1 + i) ∧ H' L = some (.lst (zs.map V.str)) ∧ zs.length ≤ i ∧ zs.Nodup ∧ ∀ z ∈ zs, z ∈ nm12) ?_ ?_ ?_
  · exact ⟨[], none, none, rfl, (same_gx sL).trans g2, d2, g2 _ _ nL eL, Nat.le_refl _, List.nodup_nil, fun z hz => by cases hz⟩
  · rintro i σ H3 hi ⟨zs, t3, t4, rfl, g3, d3, e3, l3, nd3, m3⟩
    refine ⟨_, rfl, a, n + 1 + i, rfl, by omega, d3, fun z H4 g4 d4 hz => ?_⟩
    have e4 := g4 _ _ nL e3
    refine ⟨_, rfl, _, rfl, L, _, rfl, .inl (SqL.of e4), rfl, by simp [List.all_map, flatV], _, rfl, ?_⟩
    have ei : inV (V.str z) (zs.map V.str) = decide (z ∈ zs) := inV_strs
    rw [ei]
    by_cases hm2 : z ∈ zs
    · rw [decide_eq_true hm2]
      refine iteF ?_
      exact ⟨zs, _, _, rfl, g3.trans g4, d4.mono (by omega), e4, by omega, nd3, m3⟩
    · rw [decide_eq_false hm2]
      refine iteT ?_
      refine ⟨_, rfl, .inl ⟨rfl, _, SqL.of e4⟩, _, rfl, L, _, _, rfl, rfl, e4, small1000 (by rw [List.length_map]; omega), ?_⟩
      refine ⟨zs ++ [z], _, _, rfl, fun b o nb hb => ?_, (d4.upd nL).mono (by omega), ?_, by rw [List.length_append]; show zs.length + 1 ≤ _; omega, ?_, ?_⟩
      · by_cases hbL : b = L
        · rw [hbL] at hb
          rw [hL] at hb
          cases hb
        · rw [upd_ne hbL]
          exact g4 _ _ nb (g3 _ _ nb hb)
      · rw [upd_same, List.map_append]
        rfl
      · rw [List.nodup_append]
        refine ⟨nd3, by simp, fun x hx y hy e => ?_⟩
        rw [List.mem_singleton.mp hy] at e
        rw [e] at hx
        exact hm2 hx
      · intro y hy
        rcases List.mem_append.mp hy with e | e
        · exact m3 y e
        · rw [List.mem_singleton.mp e]
          exact hz
  · rintro σ H3 ⟨zs, t3, t4, rfl, g3, d3, e3, l3, nd3, m3⟩
    refine ⟨_, rfl, L, _, rfl, .inl ⟨SqL.of e3, fun p hp => ?_⟩⟩
    exact q p zs _ (g3.trans (same_gx (same_new hp))) ((same_dr (same_new hp) d3).mono (by omega)) upd_same (by omega) nd3 m3
end
end Wp
set_option Elab.async false
set_option linter.all false
set_option maxRecDepth 100000
namespace Wp
open PySem PySem.Spec PyProof.Rows L2
def rLenT : List V → Hp → VK → Prop := fun xs H Q => ∃ z, xs = [.str z] ∧ z.length ≤ sizeLine ∧ Q (.int z.length) H
def signs35 : Str := " !#$&'()*+,-./09:;<=>?@AZ[]^_az{|}~"
theorem signs_ok : signs35.length = 35 ∧ ∀ c ∈ signs35.cps.toList, textSign c = true := by decide +kernel
theorem int_short {i : Int} (h : i.natAbs < 10 ^ 31) : i.natAbs < 2 ^ 106 ∧ (((toString i : String) : Str)).cps.toList.length ≤ 33 := by
  refine ⟨Nat.lt_of_lt_of_le h (by decide +kernel), ?_⟩
  cases i with
  | ofNat n =>
    have e : (((toString (Int.ofNat n) : String) : Str)).cps.toList = TL.numL n := num_pos
    rw [e]
    exact Nat.le_trans (TL.numL_len (k := 31) (by decide) h) (by decide)
  | negSucc n =>
    rw [num_neg, List.length_cons]
    have := TL.numL_len (n := n + 1) (k := 31) (by decide) h
    omega
theorem num_cases {x : Int} (h0 : 0 ≤ x) (h1 : x < 2147483648) : ∀ v ∈ [V.int (x / 8 % 10), .int (0 - x / 8 % 100), .int (x * 10 ^ 21 + 7), .int (0 - 10 ^ 30 + 1)], ∃ i : Int, v = .int i ∧ i.natAbs < 10 ^ 31 := by
  intro v hv
  have a1 : 0 ≤ x / 8 % 10 := Int.emod_nonneg _ (by decide)
  have a2 : x / 8 % 10 < 10 := Int.emod_lt_of_pos _ (by decide)
  have b1 : 0 ≤ x / 8 % 100 := Int.emod_nonneg _ (by decide)
  have b2 : x / 8 % 100 < 100 := Int.emod_lt_of_pos _ (by decide)
  simp only [List.mem_cons, List.not_mem_nil, or_false] at hv
  rcases hv with e | e | e | e
  · exact ⟨_, e, by omega⟩
  · exact ⟨_, e, by omega⟩
  · refine ⟨_, e, ?_⟩
    have p : (10 : Int) ^ 21 = 1000000000000000000000 := by decide
    rw [p]
    omega
  · exact ⟨_, e, by decide⟩
section
variable {P : Program} {w : World} {K : PySem.W.Frag} {mg : Str → Option Value} {base : Heap} {f : Addr} {fd : FuncData}
theorem ok_atom1 (F : Fun K "_law_atom" "_law_atom" s_law_atom f fd) (G_law_next : Has P w K mg base "_law_next" ["_law_dr"] 1 spNext) (G_law_name : Has P w K mg base "_law_name" ["_law_dr"] 2 spName1) (m_range : mg "range" = none) (m_len : mg "len" = none) : FnOk P w K mg base CX0 3 f fd ["_law_dr"] spAtom1 := by
  refine F.ok sc_law_atom (fun vs H Q E h => ?_) (fun cdv A outer s H vs Q E hr h => ?_)
  · obtain ⟨a, n, rfl, _⟩ := h
    rfl
  obtain ⟨a, n, rfl, hn, d, q⟩ := h
  refine ⟨_, (pss_cons (ps_set (i := 1) sc_law_atom.nd rfl (.inr rfl) (pe_has G_law_next (hr.mono (by omega)) (pa_cons (pv 0) pa_nil)))
  (pss_cons (ps_set (i := 2) sc_law_atom.nd rfl (.inl rfl) (pe_ix ix_list (pe_lst (pa_cons (pe_op op_mod (pe_op op_fdiv (pv 1) pe_int) pe_int) (pa_cons (pe_op op_sub pe_int (pe_op op_mod (pe_op op_fdiv (pv 1) pe_int) pe_int)) (pa_cons (pe_op op_add (pe_op op_mul (pv 1) (pe_op op_pow pe_int pe_int)) pe_int) (pa_cons (pe_op op_add (pe_op op_sub pe_int (pe_op op_pow pe_int pe_int)) pe_int) pa_nil))))) (pe_op op_mod (pe_op op_fdiv (pv 1) pe_int) pe_int) (fun _ _ => rfl)))
  (pss_cons (ps_set (i := 3) sc_law_atom.nd rfl (.inr rfl) pe_str)
  (pss_cons (ps_set (i := 4) sc_law_atom.nd rfl (.inl rfl) (pe_join pe_str (pe_lc (own := [("_law_k", 5)]) (g := gName 5) (tt := tYes) (te := (tOp rIxS (tVar 3) (tOp (rI (fun _ j => 0 < j) fun i j => .int (i % j)) (tOp (rI0 fun i j => .int (i + j)) (tOp (rI CDiv fun i j => .int (i / j)) (tVar 1) (tC (.int 64))) (tOp (rI CMul fun i j => .int (i * j)) (tC (.int 5)) (tVar 5))) (tCB rLenT (tCons (tVar 3) tNil))))) rfl sc_law_atom.nd (pi_range1 rfl m_range (pa_cons (pe_op op_mod (pe_op op_fdiv (pv 1) pe_int) pe_int) pa_nil)) (blkOk_by (N := sl_law_atom) (sc := defScope s_law_atom) (by decide +kernel)) (fun _ _ _ _ _ => (pg_name (i := 5) sc_law_atom.nd rfl (.inl rfl))) (fun _ _ _ _ _ => pts_nil) (fun _ _ _ _ _ => (pe_ix ix_str (pv 3) (pe_op op_mod (pe_op op_add (pe_op op_fdiv (pv 1) pe_int) (pe_op op_mul pe_int (pv 5))) (pe_callB call_len_str rfl m_len PySem.boot_len (pa_cons (pv 3) pa_nil))) (fun _ _ => rfl))))))
  (pss_one (ps_ret (pe_ix ix_list (pe_lst (pa_cons (pe_tup (pa_cons pe_str (pa_cons (pv 2) pa_nil))) (pa_cons (pe_tup (pa_cons pe_str (pa_cons (pv 4) pa_nil))) (pa_cons (pe_tup (pa_cons pe_str pa_nil)) (pa_cons (pe_tup (pa_cons pe_str pa_nil)) (pa_cons (pe_tup (pa_cons pe_str pa_nil)) (pa_cons (pe_tup (pa_cons pe_str (pa_cons (pe_has G_law_name (hr.mono (by omega)) (pa_cons (pv 0) pa_nil)) pa_nil))) pa_nil))))))) (pe_op op_mod (pv 1) pe_int) (fun _ _ => rfl)))))))), ?_⟩
  refine ⟨_, rfl, a, n, by omega, d, .cons rfl .nil, fun v H1 g1 d1 hv => ?_⟩
  obtain ⟨x, rfl, hx0, hx1⟩ := hv
  have c8 : (0 : Int) < 8 ∧ (8 : Int) < 1073741824 := ⟨by decide, by decide⟩
  refine ⟨_, rfl, _, _, rfl, rfl, c8, _, _, rfl, rfl, (by show (0 : Int) < 10; decide), ?_⟩
  refine ⟨_, rfl, _, _, rfl, rfl, c8, _, _, rfl, rfl, (by show (0 : Int) < 100; decide), _, _, rfl, rfl, ?_⟩
  refine ⟨_, rfl, 10, 21, rfl, rfl, ⟨by decide, by decide, by decide⟩, _, _, rfl, rfl, .inl ⟨by omega, by omega⟩, _, _, rfl, rfl, ?_⟩
  refine ⟨10, 30, rfl, rfl, ⟨by decide, by decide, by decide⟩, _, _, rfl, rfl, _, _, rfl, rfl, (by show 4 ≤ sizeLine; decide), fun p hp => ?_⟩
  have xs4 := num_cases hx0 hx1
  have lx0 : (0 : Int) ≤ x / 8 := Int.ediv_nonneg hx0 (by decide)
  obtain ⟨k, v, hk, ek, ev, ea⟩ := pickN (xs := [V.int (x / 8 % 10), .int (0 - x / 8 % 100), .int (x * 10 ^ 21 + 7), .int (0 - 10 ^ 30 + 1)]) (n := 4) lx0 rfl (by decide)
  obtain ⟨i, rfl, hi⟩ := xs4 v (List.mem_of_getElem? ev)
  obtain ⟨hi1, hi2⟩ := int_short hi
  have s2 : Same H1 (upd H1 p (.lst [(fun i j : Int => V.int (i % j)) (x / 8) 10, (fun i j : Int => V.int (i - j)) 0 (x / 8 % 100), (fun i j : Int => V.int (i + j)) (x * 10 ^ Int.toNat 21) 7, (fun i j : Int => V.int (i + j)) (0 - 10 ^ Int.toNat 30) 1])) := same_new hp
  have e2 : upd H1 p (.lst [(fun i j : Int => V.int (i % j)) (x / 8) 10, (fun i j : Int => V.int (i - j)) 0 (x / 8 % 100), (fun i j : Int => V.int (i + j)) (x * 10 ^ Int.toNat 21) 7, (fun i j : Int => V.int (i + j)) (0 - 10 ^ Int.toNat 30) 1]) p = some (.lst [(fun i j : Int => V.int (i % j)) (x / 8) 10, (fun i j : Int => V.int (i - j)) 0 (x / 8 % 100), (fun i j : Int => V.int (i + j)) (x * 10 ^ Int.toNat 21) 7, (fun i j : Int => V.int (i + j)) (0 - 10 ^ Int.toNat 30) 1]) := upd_same
  refine ⟨_, rfl, _, _, rfl, rfl, c8, _, _, rfl, rfl, (by show (0 : Int) < 4; decide), p, _, _, _, rfl, rfl, SqL.of e2, ea, ?_⟩
  clear e2
  have g2 := g1.trans (same_gx (a := a) s2)
  have d2 := same_dr s2 d1
  generalize upd H1 p (.lst [(fun i j : Int => V.int (i % j)) (x / 8) 10, (fun i j : Int => V.int (i - j)) 0 (x / 8 % 100), (fun i j : Int => V.int (i + j)) (x * 10 ^ Int.toNat 21) 7, (fun i j : Int => V.int (i + j)) (0 - 10 ^ Int.toNat 30) 1]) = H2 at *
  have hm0 : 0 ≤ x / 512 % 21 := Int.emod_nonneg _ (by decide)
  have hm1 : x / 512 % 21 < 21 := Int.emod_lt_of_pos _ (by decide)
  obtain ⟨m, em⟩ : ∃ m : Nat, x / 512 % 21 = (m : Int) := ⟨(x / 512 % 21).toNat, by omega⟩
  have hm : m ≤ 20 := by omega
  have c64 : (0 : Int) < 64 ∧ (64 : Int) < 1073741824 := ⟨by decide, by decide⟩
  have c512 : (0 : Int) < 512 ∧ (512 : Int) < 1073741824 := ⟨by decide, by decide⟩
  refine ⟨⟨_, rfl⟩, ?_⟩
  refine ⟨_, rfl, _, _, rfl, rfl, c512, _, _, rfl, rfl, (by show (0 : Int) < 21; decide), ?_⟩
  refine ⟨_, rfl, by show -(2 ^ 62 : Int) ≤ x / 512 % 21; omega, by show x / 512 % 21 < 2 ^ 62; omega, fun D hD => ?_⟩
  have nD : D ≠ a := d2.ne hD
  have em2 : (x / 512 % 21).toNat = m := by omega
  refine lc_range (n := (x / 512 % 21).toNat) (fun t H' => Same H2 H' ∧ ∃ cs : List Nat, H' D = some (.lst ((cs.map sg).map V.str)) ∧ cs.length = t ∧ ∀ c ∈ cs, c ∈ signs35.cps.toList) ?_ ?_ ?_
  · exact ⟨same_new hD, [], upd_same, rfl, fun c hc => by cases hc⟩
  · rintro t H3 ht ⟨s3, cs, e3, l3, m3⟩
    rw [em2] at ht
    have hx64 : (0 : Int) ≤ x / 64 := Int.ediv_nonneg hx0 (by decide)
    have l35 : (signs35.length : Int) = 35 := by rw [signs_ok.1]; rfl
    have hy : (0 : Int) ≤ x / 64 + 5 * (0 + (t : Int)) := by omega
    obtain ⟨kk, c, hkk, ekk, ec, eac⟩ := pickN (xs := signs35.cps.toList) (n := 35) hy (by rw [Array.length_toList]; exact signs_ok.1) (by decide)
    have eac2 : atI signs35.cps.toList ((x / 64 + 5 * (0 + (t : Int))) % (signs35.length : Int)) = some c := by
      rw [l35]
      exact eac
    refine ⟨wipe_one _ 5 _, _, rfl, _, rfl, _, _, rfl, rfl, c64, _, rfl, _, _, rfl, rfl, .inl ⟨by decide, by decide⟩, _, _, rfl, rfl, _, rfl, signs35, rfl, (by rw [signs_ok.1]; decide), _, _, rfl, rfl, (show (0 : Int) < (signs35.length : Int) by rw [l35]; decide), signs35, _, c, rfl, rfl, (by rw [signs_ok.1]; decide), eac2, ?_⟩
    refine ⟨_, e3, small1000 (by rw [List.length_map, List.length_map]; omega), same_grow s3 hD, cs ++ [c], ?_, ?_, ?_⟩
    · rw [upd_same, List.map_append, List.map_append]
      rfl
    · rw [List.length_append, l3]
      rfl
    · intro y hy
      rcases List.mem_append.mp hy with e | e
      · exact m3 y e
      · rw [List.mem_singleton.mp e]
        exact List.mem_of_getElem? ec
  rintro H3 ⟨s3, cs, e3, l3, m3⟩
  rw [em2] at l3
  have jl : (Txt.join "" (cs.map sg)).cps.toList = cs := by
    rw [join_codes]
    have k : ∀ l : List Nat, codes (l.map sg) = l := fun l => by
      induction l with
      | nil => rfl
      | cons c l ih =>
        rw [List.map_cons, codes_cons, ih]
        rfl
    exact k cs
  have zt : ∀ c ∈ (Txt.join "" (cs.map sg)).cps.toList, textSign c = true := by
    rw [jl]
    exact fun c hc => signs_ok.2 c (m3 c hc)
  have zl : (Txt.join "" (cs.map sg)).cps.toList.length ≤ 100 := by
    rw [jl]
    omega
  have sl : ((cs.map sg).map (·.length)).sum ≤ cs.length := by
    clear e3 l3 m3 jl zt zl
    induction cs with
    | nil => exact Nat.le_refl _
    | cons c l ih =>
      rw [List.map_cons, List.map_cons, List.sum_cons, List.length_cons]
      show 1 + _ ≤ _
      omega
  have e0 : ("" : Str).length = 0 := by decide +kernel
  refine ⟨_, D, cs.map sg, rfl, rfl, .inl (SqL.of e3), by rw [e0]; omega, ?_⟩
  generalize Txt.join "" (cs.map sg) = z at *
  have d3 := same_dr s3 d2
  have g3 := g2.trans (same_gx (a := a) s3)
  refine ⟨_, rfl, (by show 2 ≤ sizeLine; decide), fun t4 h4 => ?_⟩
  have n4 : t4 ≠ a := d3.ne h4
  have s4 : Same H3 (upd H3 t4 (.tup [.str "num", .int i])) := same_new h4
  have e4 : upd H3 t4 (.tup [.str "num", .int i]) t4 = some (.tup [.str "num", .int i]) := upd_same
  generalize upd H3 t4 (.tup [.str "num", .int i]) = H4 at *
  have d4 := same_dr s4 d3
  refine ⟨_, rfl, (by show 2 ≤ sizeLine; decide), fun t5 h5 => ?_⟩
  have n5 : t5 ≠ a := d4.ne h5
  have s5 : Same H4 (upd H4 t5 (.tup [.str "text", .str z])) := same_new h5
  have e5 : upd H4 t5 (.tup [.str "text", .str z]) t5 = some (.tup [.str "text", .str z]) := upd_same
  generalize upd H4 t5 (.tup [.str "text", .str z]) = H5 at *
  have d5 := same_dr s5 d4
  refine ⟨(by show 1 ≤ sizeLine; decide), fun t6 h6 => ?_⟩
  have n6 : t6 ≠ a := d5.ne h6
  have s6 : Same H5 (upd H5 t6 (.tup [.str "yes"])) := same_new h6
  have e6 : upd H5 t6 (.tup [.str "yes"]) t6 = some (.tup [.str "yes"]) := upd_same
  generalize upd H5 t6 (.tup [.str "yes"]) = H6 at *
  have d6 := same_dr s6 d5
  refine ⟨(by show 1 ≤ sizeLine; decide), fun t7 h7 => ?_⟩
  have n7 : t7 ≠ a := d6.ne h7
  have s7 : Same H6 (upd H6 t7 (.tup [.str "no"])) := same_new h7
  have e7 : upd H6 t7 (.tup [.str "no"]) t7 = some (.tup [.str "no"]) := upd_same
  generalize upd H6 t7 (.tup [.str "no"]) = H7 at *
  have d7 := same_dr s7 d6
  refine ⟨(by show 1 ≤ sizeLine; decide), fun t8 h8 => ?_⟩
  have n8 : t8 ≠ a := d7.ne h8
  have s8 : Same H7 (upd H7 t8 (.tup [.str "none"])) := same_new h8
  have e8 : upd H7 t8 (.tup [.str "none"]) t8 = some (.tup [.str "none"]) := upd_same
  generalize upd H7 t8 (.tup [.str "none"]) = H8 at *
  have d8 := same_dr s8 d7
  refine ⟨_, rfl, a, n + 1, rfl, by omega, d8, fun nm H9 g9 d9 hnm => ?_⟩
  refine ⟨(by show 2 ≤ sizeLine; decide), fun t10 h10 => ?_⟩
  have n10 : t10 ≠ a := d9.ne h10
  have s10 : Same H9 (upd H9 t10 (.tup [.str "name", .str nm])) := same_new h10
  have e10 : upd H9 t10 (.tup [.str "name", .str nm]) t10 = some (.tup [.str "name", .str nm]) := upd_same
  generalize upd H9 t10 (.tup [.str "name", .str nm]) = H10 at *
  have d10 := same_dr s10 d9
  refine ⟨(by show 6 ≤ sizeLine; decide), fun t11 h11 => ?_⟩
  have n11 : t11 ≠ a := d10.ne h11
  have s11 : Same H10 (upd H10 t11 (.lst [.ref t4, .ref t5, .ref t6, .ref t7, .ref t8, .ref t10])) := same_new h11
  have e11 : upd H10 t11 (.lst [.ref t4, .ref t5, .ref t6, .ref t7, .ref t8, .ref t10]) t11 = some (.lst [.ref t4, .ref t5, .ref t6, .ref t7, .ref t8, .ref t10]) := upd_same
  generalize upd H10 t11 (.lst [.ref t4, .ref t5, .ref t6, .ref t7, .ref t8, .ref t10]) = H11 at *
  have d11 := same_dr s11 d10
  obtain ⟨k2, v, hk2, ek2, ev2, ea2⟩ := pickN (xs := [V.ref t4, .ref t5, .ref t6, .ref t7, .ref t8, .ref t10]) (n := 6) hx0 rfl (by decide)
  refine ⟨_, rfl, _, _, rfl, rfl, (by show (0 : Int) < 6; decide), t11, _, _, _, rfl, rfl, SqL.of e11, ea2, ?_⟩
  have up8 : ∀ b o, b ≠ a → H8 b = some o → H11 b = some o := fun b o nb e => s11 _ _ (s10 _ _ (g9 _ _ nb e))
  have gA : Gx a H H11 := g3.trans ((same_gx s4).trans ((same_gx s5).trans ((same_gx s6).trans ((same_gx s7).trans ((same_gx s8).trans (g9.trans ((same_gx s10).trans (same_gx s11))))))))
  have q' : ∀ d ps, Dz H11 v d → (∀ j, Cz j d ps) → Q v H11 := fun d ps hz hc => q v d ps H11 gA (d11.mono (by omega)) hz hc
  match k2, hk2, ev2 with
  | 0, _, ev => cases ev; exact q' _ _ (.tup (up8 _ _ n4 (s8 _ _ (s7 _ _ (s6 _ _ (s5 _ _ e4))))) (.cons (.str _) (.cons (.int _) .nil))) (fun _ => .num hi1 hi2)
  | 1, _, ev => cases ev; exact q' _ _ (.tup (up8 _ _ n5 (s8 _ _ (s7 _ _ (s6 _ _ e5)))) (.cons (.str _) (.cons (.str _) .nil))) (fun _ => .text zt zl)
  | 2, _, ev => cases ev; exact q' _ _ (.tup (up8 _ _ n6 (s8 _ _ (s7 _ _ e6))) (.cons (.str _) .nil)) (fun _ => .yes (by decide +kernel))
  | 3, _, ev => cases ev; exact q' _ _ (.tup (up8 _ _ n7 (s8 _ _ e7)) (.cons (.str _) .nil)) (fun _ => .yes (by decide +kernel))
  | 4, _, ev => cases ev; exact q' _ _ (.tup (up8 _ _ n8 e8) (.cons (.str _) .nil)) (fun _ => .yes (by decide +kernel))
  | 5, _, ev => cases ev; exact q' _ _ (.tup (s11 _ _ e10) (.cons (.str _) (.cons (.str _) .nil))) (fun _ => .name (nm12_ok nm hnm).1 (nm12_ok nm hnm).2)
end
end Wp
set_option Elab.async false
set_option linter.all false
set_option maxRecDepth 100000
set_option maxHeartbeats 1000000
namespace Wp
open PySem PySem.Spec PyProof.Rows L2
-- _law_any: slots _law_dr 0, _law_deep 1, _law_words 2, _law_word 3, _law_names_here 4, _law_many 5, _law_ops 6, _law_at 7, _law_forms 8, _law_told 9, _law_form 10, _law_k 11
abbrev s_law_any : Stmt := top 43
theorem sc_law_any : FnScope ["_law_dr", "_law_deep", "_law_words", "_law_word", "_law_names_here", "_law_many", "_law_ops", "_law_at", "_law_forms", "_law_told", "_law_form", "_law_k"] ["_law_dr", "_law_deep"] (defScope s_law_any) := ⟨rfl, rfl, rfl, by decide +kernel, rfl, by decide +kernel, by decide +kernel⟩
abbrev sl_law_any : List Str := ["_law_dr", "_law_deep", "_law_words", "_law_word", "_law_names_here", "_law_many", "_law_ops", "_law_at", "_law_forms", "_law_told", "_law_form", "_law_k"]
section
variable {X : Cx}
theorem op_mulS : OpR X (binaryOp .Mult) (fun x y H Q => ∃ (z : Str) (n : Int), x = .str z ∧ y = .int n ∧ MulOk z n ∧ Q (.str (Txt.mul z n)) H) := by
  intro pins s σ H x y v u Q I rx ry h
  obtain ⟨z, n, rfl, rfl, ok, q⟩ := h
  obtain ⟨t, rfl⟩ := rx
  obtain ⟨t', rfl⟩ := ry
  exact SB.mul ok fun t2 k => ⟨.str (Txt.mul z n), H, I.tok _, ⟨_, rfl⟩, q⟩
end
abbrev nmsP (zs : List Str) : List Str := "(" :: (zs ++ [shutP])
def drB : Nat → Nat
  | 0 => 10
  | n + 1 => 60 + 15 * drB n
theorem drB_pos (n : Nat) : 10 ≤ drB n := by
  cases n with
  | zero => exact Nat.le_refl _
  | succ n =>
    show 10 ≤ 60 + 15 * drB n
    omega
theorem Al.snoc {n : Nat} {d : PyData} {ps : List Str} : ∀ {ds : List PyData} {pss : List (List Str)}, Al n ds pss → Cz n d ps → Al n (ds ++ [d]) (pss ++ [ps])
  | _, _, .nil, h => .cons h .nil
  | _, _, .cons a t, h => .cons a (t.snoc h)
def words20 : List Str := ["fun", "rec", "call", "let", "if", "do", "op", "cell", "get", "set", "say", "fault", "guard", "wind", "catch", "go", "mark", "take", "use", "atom"]
def rest14 : List Str := ["let", "if", "cell", "get", "set", "say", "fault", "guard", "wind", "catch", "go", "mark", "take", "use"]
theorem words_rest : ∀ w ∈ words20, ¬ w = "atom" → ¬ w = "fun" → ¬ w = "rec" → ¬ w = "call" → ¬ w = "do" → ¬ w = "op" → w ∈ rest14 := by decide +kernel
def formsL : List (Key × V) := [(.inr "let", .str "nee"), (.inr "if", .str "eee"), (.inr "guard", .str "ene"), (.inr "wind", .str "eee"), (.inr "catch", .str "ne"), (.inr "mark", .str "te"), (.inr "take", .str "tne")]
def formT (w : Str) : Str := if w = "let" then "nee" else if w = "if" then "eee" else if w = "guard" then "ene" else if w = "wind" then "eee" else if w = "catch" then "ne" else if w = "mark" then "te" else if w = "take" then "tne" else if w ∈ (["set", "go", "use"] : List Str) then "ee" else "e"
theorem formT_ok : ∀ w ∈ rest14, w ∈ fixW ∧ ¬ w = "rec" ∧ (formT w).cps.toList.length = (formOf w).length ∧ (formOf w).length ≤ 3 ∧ ∀ i, i < (formT w).cps.toList.length → (((formT w).cps.toList[i]? = some 101 ∧ (formOf w)[i]? = some ("part" : Str)) ∨ ((formT w).cps.toList[i]? = some 110 ∧ (formOf w)[i]? = some ("binder" : Str)) ∨ ((formT w).cps.toList[i]? = some 116 ∧ (formOf w)[i]? = some ("tag" : Str))) := by decide +kernel
theorem forms_get : ∀ w ∈ rest14, (valV (mergeK [] formsL) (Sum.inr w : Key)).getD (.str (("e" : Str) ++ Txt.mul "e" (if decide (w ∈ (["set", "go", "use"] : List Str)) = true then 1 else 0))) = .str (formT w) := by
  intro w hw
  unfold rest14 at hw
  simp only [List.mem_cons, List.not_mem_nil, or_false] at hw
  rcases hw with rfl | rfl | rfl | rfl | rfl | rfl | rfl | rfl | rfl | rfl | rfl | rfl | rfl | rfl <;> rfl
theorem mul_e : ∀ b : Bool, MulOk ("e" : Str) (if b = true then 1 else 0) := by
  intro b
  cases b
  · refine ⟨by decide, fun h => absurd (by decide) h, fun h => absurd (by decide) h⟩
  · refine ⟨by decide, fun _ h => absurd h (by decide), fun _ h => absurd h (by decide)⟩
theorem rec_names : ∀ k, k < 7 → isName ("f" ++ ((toString ((k : Nat) : Int) : String) : Str) : Str) = true ∧ ¬ ("f" ++ ((toString ((k : Nat) : Int) : String) : Str) : Str) ∈ noNames ∧ ¬ ("f" ++ ((toString ((k : Nat) : Int) : String) : Str) : Str) ∈ nm12 := by decide +kernel
theorem tags_ok : ∀ z ∈ (["m", "yes", "none1", "no"] : List Str), isName z = true := by decide +kernel
def spAny (n : Nat) : Sp := fun vs H Q _ => ∃ (a : Addr) (m : Nat) (kk : Int), vs = [.ref a, .int kk] ∧ kk ≤ (n : Int) ∧ m + drB n ≤ big ∧ Dr H a m ∧ ∀ v d ps H', Gx a H H' → Dr H' a (m + drB n) → Dz H' v d → Cz n d ps → Q v H'
section
variable {P : Program} {w : World} {K : PySem.W.Frag} {mg : Str → Option Value} {base : Heap} {f : Addr} {fd : FuncData}
theorem any_zero (F : Fun K "_law_any" "_law_any" s_law_any f fd) (G_law_atom : Has P w K mg base "_law_atom" ["_law_dr"] 3 spAtom1) : FnOk P w K mg base CX0 4 f fd ["_law_dr", "_law_deep"] (spAny 0) := by
  refine F.ok sc_law_any (fun vs H Q E h => ?_) (fun cdv A outer s H vs Q E hr h => ?_)
  · obtain ⟨a, m, kk, rfl, _⟩ := h
    rfl
  obtain ⟨a, m, kk, rfl, hk, hm, d, q⟩ := h
  have e0 : drB 0 = 10 := rfl
  refine ⟨_, pss_cons (ps_if (pt_cmpR op_lt (pv 1) pe_int (nomark _)) (pss_one (ps_ret (pe_has G_law_atom (hr.mono (by omega)) (pa_cons (pv 0) pa_nil)))) pss_nil) pss_never, ?_⟩
  refine ⟨_, rfl, _, _, rfl, rfl, _, rfl, ite_t (decide_eq_true (by show kk < 1; omega)) ?_⟩
  exact ⟨_, rfl, a, m, rfl, by omega, d, fun v dd ps H' g d' dz cz => q v dd ps H' g (d'.mono (by omega)) dz (cz 0)⟩
theorem any_step {n : Nat} (hn : n ≤ 6) (F : Fun K "_law_any" "_law_any" s_law_any f fd) (G_law_atom : Has P w K mg base "_law_atom" ["_law_dr"] 3 spAtom1) (G_law_next : Has P w K mg base "_law_next" ["_law_dr"] 1 spNext) (G_law_name : Has P w K mg base "_law_name" ["_law_dr"] 2 spName1) (G_law_names : Has P w K mg base "_law_names" ["_law_dr", "_law_most"] 3 spNames) (G_law_any : Has P w K mg base "_law_any" ["_law_dr", "_law_deep"] (4 + n) (spAny n))
    (m_range : mg "range" = none) (m_tuple : mg "tuple" = none) (m_len : mg "len" = none) (m_str : mg "str" = none) (m_int : mg "int" = none) : FnOk P w K mg base CX0 (4 + n + 1) f fd ["_law_dr", "_law_deep"] (spAny (n + 1)) := by
  refine F.ok sc_law_any (fun vs H Q E h => ?_) (fun cdv A outer s H vs Q E hr h => ?_)
  · obtain ⟨a, m, kk, rfl, _⟩ := h
    rfl
  obtain ⟨a, m, kk, rfl, hk, hm, d, q⟩ := h
  have hB := drB_pos n
  have eB : drB (n + 1) = 60 + 15 * drB n := rfl
  rw [eB] at hm q
  refine ⟨_, (pss_cons (ps_if (pt_cmpR op_lt (pv 1) pe_int (nomark _)) (pss_one (ps_ret (pe_has G_law_atom (hr.mono (by omega)) (pa_cons (pv 0) pa_nil)))) pss_nil)
  (pss_cons (ps_set (i := 2) sc_law_any.nd rfl (.inl rfl) (pe_lst (pa_cons pe_str (pa_cons pe_str (pa_cons pe_str (pa_cons pe_str (pa_cons pe_str (pa_cons pe_str (pa_cons pe_str (pa_cons pe_str (pa_cons pe_str (pa_cons pe_str (pa_cons pe_str (pa_cons pe_str (pa_cons pe_str (pa_cons pe_str pa_nil))))))))))))))))
  (pss_cons (ps_set (i := 2) sc_law_any.nd rfl (.inl rfl) (pe_op op_cat (pv 2) (pe_lst (pa_cons pe_str (pa_cons pe_str (pa_cons pe_str (pa_cons pe_str (pa_cons pe_str (pa_cons pe_str pa_nil)))))))))
  (pss_cons (ps_set (i := 3) sc_law_any.nd rfl (.inl rfl) (pe_ix ix_list (pv 2) (pe_op op_mod (pe_has G_law_next (hr.mono (by omega)) (pa_cons (pv 0) pa_nil)) pe_int) (fun _ _ => rfl)))
  (pss_cons (ps_if (pt_cmpR op_eq (pv 3) pe_str (nomark _)) (pss_one (ps_ret (pe_has G_law_atom (hr.mono (by omega)) (pa_cons (pv 0) pa_nil)))) pss_nil)
  (pss_cons (ps_if (pt_cmpR op_eq (pv 3) pe_str (nomark _)) (pss_one (ps_ret (pe_tup (pa_cons (pv 3) (pa_cons (pe_has G_law_names (hr.mono (by omega)) (pa_cons (pv 0) (pa_cons pe_int pa_nil))) (pa_cons (pe_has G_law_any (hr.mono (by omega)) (pa_cons (pv 0) (pa_cons (pe_op op_sub (pv 1) pe_int) pa_nil))) pa_nil)))))) pss_nil)
  (pss_cons (ps_if (pt_cmpR op_eq (pv 3) pe_str (nomark _)) (pss_cons (ps_set (i := 4) sc_law_any.nd rfl (.inl rfl) (pe_has G_law_names (hr.mono (by omega)) (pa_cons (pv 0) (pa_cons pe_int pa_nil))))
  (pss_one (ps_ret (pe_tup (pa_cons (pv 3) (pa_cons (pe_op op_add_str pe_str (pe_callTy call_str_int rfl m_str PyProof.Rows.Boot.«str» (pa_cons (pe_callB call_len_seq rfl m_len PySem.boot_len (pa_cons (pv 4) pa_nil)) pa_nil))) (pa_cons (pv 4) (pa_cons (pe_has G_law_any (hr.mono (by omega)) (pa_cons (pv 0) (pa_cons (pe_op op_sub (pv 1) pe_int) pa_nil))) pa_nil)))))))) pss_nil)
  (pss_cons (ps_if (pt_cmpR op_eq (pv 3) pe_str (nomark _)) (pss_one (ps_ret (pe_tup (pa_cons (pv 3) (pa_cons (pe_has G_law_any (hr.mono (by omega)) (pa_cons (pv 0) (pa_cons (pe_op op_sub (pv 1) pe_int) pa_nil))) (pa_cons (pe_callTy call_tuple_of rfl m_tuple PyProof.Rows.Boot.«tuple» (pa_cons (pe_lc (own := [("_law_k", 11)]) (g := gName 11) (tt := tYes) (te := (tCall (spAny n) [] E0 (tCons (tVar 0) (tCons (tOp (rI0 fun i j => .int (i - j)) (tVar 1) (tC (.int 2))) tNil)))) rfl sc_law_any.nd (pi_range1 rfl m_range (pa_cons (pe_op op_mod (pe_has G_law_next (hr.mono (by omega)) (pa_cons (pv 0) pa_nil)) pe_int) pa_nil)) (blkOk_by (N := sl_law_any) (sc := defScope s_law_any) (by decide +kernel)) (fun _ _ _ _ _ => (pg_name (i := 11) sc_law_any.nd rfl (.inl rfl))) (fun _ _ _ _ _ => pts_nil) (fun _ _ _ _ _ => (pe_has G_law_any (hr.mono (by omega)) (pa_cons (pv 0) (pa_cons (pe_op op_sub (pv 1) pe_int) pa_nil))))) pa_nil)) pa_nil)))))) pss_nil)
  (pss_cons (ps_if (pt_cmpR op_eq (pv 3) pe_str (nomark _)) (pss_cons (ps_set (i := 5) sc_law_any.nd rfl (.inl rfl) (pe_ix ix_list (pe_lst (pa_cons pe_int (pa_cons pe_int (pa_cons pe_int pa_nil)))) (pe_op op_mod (pe_has G_law_next (hr.mono (by omega)) (pa_cons (pv 0) pa_nil)) pe_int) (fun _ _ => rfl)))
  (pss_one (ps_ret (pe_tup (pa_cons (pv 3) (pa_cons (pe_callTy call_tuple_of rfl m_tuple PyProof.Rows.Boot.«tuple» (pa_cons (pe_lc (own := [("_law_k", 11)]) (g := gName 11) (tt := tYes) (te := (tCall (spAny n) [] E0 (tCons (tVar 0) (tCons (tOp (rI0 fun i j => .int (i - j)) (tVar 1) (tC (.int 2))) tNil)))) rfl sc_law_any.nd (pi_range1 rfl m_range (pa_cons (pv 5) pa_nil)) (blkOk_by (N := sl_law_any) (sc := defScope s_law_any) (by decide +kernel)) (fun _ _ _ _ _ => (pg_name (i := 11) sc_law_any.nd rfl (.inl rfl))) (fun _ _ _ _ _ => pts_nil) (fun _ _ _ _ _ => (pe_has G_law_any (hr.mono (by omega)) (pa_cons (pv 0) (pa_cons (pe_op op_sub (pv 1) pe_int) pa_nil))))) pa_nil)) pa_nil)))))) pss_nil)
  (pss_cons (ps_if (pt_cmpR op_eq (pv 3) pe_str (nomark _)) (pss_cons (ps_set (i := 6) sc_law_any.nd rfl (.inl rfl) (pe_lst (pa_cons pe_str (pa_cons pe_str (pa_cons pe_str (pa_cons pe_str (pa_cons pe_str (pa_cons pe_str (pa_cons pe_str (pa_cons pe_str (pa_cons pe_str (pa_cons pe_str (pa_cons pe_str pa_nil)))))))))))))
  (pss_cons (ps_set (i := 7) sc_law_any.nd rfl (.inl rfl) (pe_op op_mod (pe_has G_law_next (hr.mono (by omega)) (pa_cons (pv 0) pa_nil)) pe_int))
  (pss_one (ps_ret (pe_tup (pa_cons (pv 3) (pa_cons (pe_ix ix_list (pv 6) (pv 7) (fun _ _ => rfl)) (pa_cons (pe_callTy call_tuple_of rfl m_tuple PyProof.Rows.Boot.«tuple» (pa_cons (pe_lc (own := [("_law_k", 11)]) (g := gName 11) (tt := tYes) (te := (tCall (spAny n) [] E0 (tCons (tVar 0) (tCons (tOp (rI0 fun i j => .int (i - j)) (tVar 1) (tC (.int 1))) tNil)))) rfl sc_law_any.nd (pi_range1 rfl m_range (pa_cons (pe_ix ix_list (pe_lst (pa_cons pe_int (pa_cons pe_int pa_nil))) (pe_callTy call_int1 rfl m_int PyProof.Rows.Boot.«int» (pa_cons (pe_cmpR op_gt (pv 7) pe_int (nomark _)) pa_nil)) (fun _ _ => rfl)) pa_nil)) (blkOk_by (N := sl_law_any) (sc := defScope s_law_any) (by decide +kernel)) (fun _ _ _ _ _ => (pg_name (i := 11) sc_law_any.nd rfl (.inl rfl))) (fun _ _ _ _ _ => pts_nil) (fun _ _ _ _ _ => (pe_has G_law_any (hr.mono (by omega)) (pa_cons (pv 0) (pa_cons (pe_op op_sub (pv 1) pe_int) pa_nil))))) pa_nil)) pa_nil)))))))) pss_nil)
  (pss_cons (ps_set (i := 8) sc_law_any.nd rfl (.inl rfl) (pe_disp (pps_cons pe_str pe_str (pps_cons pe_str pe_str (pps_cons pe_str pe_str (pps_cons pe_str pe_str (pps_cons pe_str pe_str (pps_cons pe_str pe_str (pps_cons pe_str pe_str pps_nil))))))) rfl rfl (List.cons_ne_nil _ _) (by decide)))
  (pss_cons (ps_set (i := 9) sc_law_any.nd rfl (.inl rfl) (pe_lst (pa_cons (pv 3) pa_nil)))
  (pss_cons (ps_for PassesOwn.never rfl (pi_str (pe_dget2 (hu_of hr) (pv 8) (pv 3) (pe_op op_add_str pe_str (pe_op op_mulS pe_str (pe_callTy call_int1 rfl m_int PyProof.Rows.Boot.«int» (pa_cons (pe_cmpR op_in_seq (pv 3) (pe_lst (pa_cons pe_str (pa_cons pe_str (pa_cons pe_str pa_nil)))) rfl) pa_nil)))) ⟨rfl, rfl, rfl, rfl⟩)) (pg_name (i := 10) sc_law_any.nd rfl (.inl rfl)) (pss_one (ps_if (pt_cmpR op_eq (pv 10) pe_str (nomark _)) (pss_one (ps_expr (pe_bm PySem.F.plainAttrs_list PySem.F.slot_list_append PySem.F.type_list_append mt_append (pv 9) (pa_cons (pe_has G_law_any (hr.mono (by omega)) (pa_cons (pv 0) (pa_cons (pe_op op_sub (pv 1) pe_int) pa_nil))) pa_nil)))) (pss_one (ps_expr (pe_bm PySem.F.plainAttrs_list PySem.F.slot_list_append PySem.F.type_list_append mt_append (pv 9) (pa_cons (pe_ix ix_list (pe_lst (pa_cons (pe_has G_law_name (hr.mono (by omega)) (pa_cons (pv 0) pa_nil)) (pa_cons (pe_ix ix_list (pe_lst (pa_cons pe_str (pa_cons pe_str (pa_cons pe_str (pa_cons pe_str pa_nil))))) (pe_op op_mod (pe_has G_law_next (hr.mono (by omega)) (pa_cons (pv 0) pa_nil)) pe_int) (fun _ _ => rfl)) pa_nil))) (pe_callTy call_int1 rfl m_int PyProof.Rows.Boot.«int» (pa_cons (pe_cmpR op_eq (pv 10) pe_str (nomark _)) pa_nil)) (fun _ _ => rfl)) pa_nil)))))))
  (pss_one (ps_ret (pe_callTy call_tuple_of rfl m_tuple PyProof.Rows.Boot.«tuple» (pa_cons (pv 9) pa_nil))))))))))))))))), ?_⟩
  refine ⟨_, rfl, _, _, rfl, rfl, _, rfl, ite2 (fun _ => ?_) (fun _ => ?_)⟩
  · exact ⟨_, rfl, a, m, rfl, by omega, d, fun v dd ps H' g d' dz cz => q v dd ps H' g (d'.mono (by omega)) dz (cz _)⟩
  refine ⟨(by show 14 ≤ sizeLine; decide), fun p1 h1 => ?_⟩
  have n1 : p1 ≠ a := d.ne h1
  have s1 := same_new (o := .lst ((words20.take 14).map V.str)) h1
  refine ⟨_, rfl, (by show 6 ≤ sizeLine; decide), fun p2 h2 => ?_⟩
  have s2 := same_new (o := .lst ((words20.drop 14).map V.str)) h2
  refine ⟨p1, p2, _, _, rfl, rfl, s2 _ _ upd_same, upd_same, (by show 14 + 6 ≤ sizeLine; decide), fun pw hpw => ?_⟩
  have sw := same_new (o := .lst (words20.map V.str)) hpw
  have dw := same_dr sw (same_dr s2 (same_dr s1 d))
  have nw : pw ≠ a := (same_dr s2 (same_dr s1 d)).ne hpw
  have gw := (same_gx (a := a) s1).trans ((same_gx s2).trans (same_gx sw))
  refine ⟨_, rfl, _, rfl, a, m, by omega, dw, .cons rfl .nil, fun v H4 g4 d4 hv => ?_⟩
  have e4 : H4 pw = some (.lst (words20.map V.str)) := g4 _ _ nw upd_same
  replace g4 := gw.trans g4
  obtain ⟨j, rfl, hj, _⟩ := hv
  obtain ⟨k, v, hk20, ek, ev, ea⟩ := pickN (xs := words20.map V.str) (n := 20) hj rfl (by decide)
  rw [List.getElem?_map] at ev
  obtain ⟨z, ez, rfl⟩ := Option.map_eq_some_iff.mp ev
  have hz : z ∈ words20 := List.mem_of_getElem? ez
  refine ⟨_, _, rfl, rfl, (by show (0 : Int) < 20; decide), _, _, _, _, rfl, rfl, SqL.of e4, ea, ?_⟩
  have no : ∀ {y : Str}, ¬ z = y → decide (V.str z = V.str y) = false := fun hn => decide_eq_false fun e => hn (V.str.inj e)
  have ys : ∀ {y : Str}, z = y → decide (V.str z = V.str y) = true := fun hn => decide_eq_true (by rw [hn])
  -- atom
  refine ⟨_, rfl, rfl, _, rfl, ?_⟩
  by_cases c1 : z = "atom"
  · refine ite_t (ys c1) ?_
    exact ⟨_, rfl, a, m + 1, rfl, by omega, d4, fun v dd ps H' g d' dz cz => q v dd ps H' (g4.trans g) (d'.mono (by omega)) dz (cz _)⟩
  refine ite_f (no c1) ?_
  -- fun
  refine ⟨_, rfl, rfl, _, rfl, ?_⟩
  by_cases c2 : z = "fun"
  · refine ite_t (ys c2) ?_
    refine ⟨_, rfl, _, rfl, a, m + 1, rfl, by omega, d4, fun nt zs H5 g5 d5 e5 lz ndz mz => ?_⟩
    refine ⟨_, rfl, _, rfl, _, _, rfl, rfl, a, m + 1 + 10, kk - 1, rfl, by omega, by omega, d5, fun v dd ps H6 g6 d6 dz cz => ⟨(by show 3 ≤ sizeLine; decide), fun t ht => ?_⟩⟩
    have st := same_new (o := .tup [.str z, .ref nt, v]) ht
    refine q _ (.tuple [.str z, .tuple (zs.map .str), dd]) (brk z ([nmsP zs, ps] : List (List Str)).flatten) _ (g4.trans (g5.trans (g6.trans (same_gx st)))) ((same_dr st d6).mono (by omega)) (.tup upd_same (.cons (.str _) (.cons (.tup (same_tp st _ _ (g6.tp d5 _ _ e5)) (DzL.strs zs)) (.cons (dz.tp (same_tp st)) .nil)))) ?_
    have hf : z ∈ fixW := by rw [c2]; decide +kernel
    refine .fix hf ?_
    have ef : forb z [.tuple (zs.map .str), dd] = none := by
      unfold forb
      rw [c2, if_neg (by decide +kernel)]
    have eo : formOf z = (["binders", "part"] : List Str) := by rw [c2]; decide +kernel
    rw [ef, eo]
    exact .binders lz ndz mz (fun f e => by cases e) (.part cz .nil)
  refine ite_f (no c2) ?_
  -- rec
  refine ⟨_, rfl, rfl, _, rfl, ?_⟩
  by_cases c3 : z = "rec"
  · refine ite_t (ys c3) ?_
    refine ⟨_, rfl, a, m + 1, rfl, by omega, d4, fun nt zs H5 g5 d5 e5 lz ndz mz => ?_⟩
    have lm : (zs.map V.str).length = zs.length := List.length_map _
    obtain ⟨r1, r2, r3⟩ := rec_names zs.length (by omega)
    have lg : (((zs.map V.str).length : Nat) : Int).natAbs.log2 < 1920 := by
      rw [lm]
      have : ((zs.length : Nat) : Int).natAbs < 2 ^ 10 := by omega
      exact Nat.lt_of_lt_of_le (log2_lt this (by decide)) (by decide)
    have fl : (("f" : Str) ++ ((toString ((zs.length : Nat) : Int) : String) : Str)).length ≤ 12 := len_tl (isName_str.mp r1).2.1
    refine ⟨_, rfl, _, rfl, nt, _, rfl, .inr (SqT.of e5), _, rfl, lg, _, _, rfl, rfl, ?_, ?_⟩
    · rw [lm]
      rw [app_len] at fl
      have big : (1000 : Nat) ≤ sizeLine := by decide
      omega
    rw [lm]
    refine ⟨_, rfl, _, rfl, _, rfl, _, _, rfl, rfl, a, m + 1 + 10, kk - 1, rfl, by omega, by omega, d5, fun v dd ps H6 g6 d6 dz cz => ⟨(by show 4 ≤ sizeLine; decide), fun t ht => ?_⟩⟩
    generalize ("f" ++ ((toString ((zs.length : Nat) : Int) : String) : Str) : Str) = fz at *
    have st := same_new (o := .tup [.str z, .str fz, .ref nt, v]) ht
    refine q _ (.tuple [.str z, .str fz, .tuple (zs.map .str), dd]) (brk z ([[fz], nmsP zs, ps] : List (List Str)).flatten) _ (g4.trans (g5.trans (g6.trans (same_gx st)))) ((same_dr st d6).mono (by omega)) (.tup upd_same (.cons (.str _) (.cons (.str _) (.cons (.tup (same_tp st _ _ (g6.tp d5 _ _ e5)) (DzL.strs zs)) (.cons (dz.tp (same_tp st)) .nil))))) ?_
    have hf : z ∈ fixW := by rw [c3]; decide +kernel
    refine .fix hf ?_
    have ef : forb z [.str fz, .tuple (zs.map .str), dd] = some fz := by
      unfold forb
      rw [c3, if_pos rfl]
      rfl
    have eo : formOf z = (["binder", "binders", "part"] : List Str) := by rw [c3]; decide +kernel
    rw [ef, eo]
    exact .binder r1 r2 (.binders lz ndz mz (fun f e hf => by cases e; exact r3 (mz _ hf)) (.part cz .nil))
  refine ite_f (no c3) ?_
  -- call
  refine ⟨_, rfl, rfl, _, rfl, ?_⟩
  by_cases c4 : z = "call"
  · refine ite_t (ys c4) ?_
    refine ⟨_, rfl, _, rfl, _, rfl, _, _, rfl, rfl, a, m + 1, kk - 1, rfl, by omega, by omega, d4, fun fv fdd fps H5 g5 d5 fdz fcz => ?_⟩
    refine ⟨_, rfl, a, m + 1 + drB n, by omega, d5, .cons rfl .nil, fun v H6 g6 d6 hv => ?_⟩
    obtain ⟨i, rfl, hi, _⟩ := hv
    have hc0 : 0 ≤ i % 7 := Int.emod_nonneg _ (by decide)
    have hc1 : i % 7 < 7 := Int.emod_lt_of_pos _ (by decide)
    refine ⟨_, _, rfl, rfl, (by show (0 : Int) < 7; decide), ?_⟩
    refine ⟨_, rfl, by show -(2 ^ 62 : Int) ≤ i % 7; omega, by show i % 7 < 2 ^ 62; omega, fun D hD => ?_⟩
    have nD : D ≠ a := d6.ne hD
    refine lc_range (n := (i % 7).toNat) (fun t H' => Gx a H6 H' ∧ Dr H' a (m + 1 + drB n + 1 + t * drB n) ∧ ∃ (vs : List V) (ds : List PyData) (pss : List (List Str)), H' D = some (.lst vs) ∧ DzL H' vs ds ∧ Al n ds pss ∧ ds.length = t) ?_ ?_ ?_
    · exact ⟨same_gx (same_new hD), (same_dr (same_new hD) d6).mono (by omega), [], [], [], upd_same, .nil, .nil, rfl⟩
    · rintro t Ht ht ⟨gt, dt, vs, ds, pss, et, dzt, alt, lt⟩
      have hb : (m + 1 + drB n + 1 + t * drB n) + drB n ≤ big := by
        have : t * drB n ≤ 12 * drB n := Nat.mul_le_mul_right _ (by omega)
        omega
      refine ⟨wipe_one _ 11 _, _, rfl, _, rfl, _, _, rfl, rfl, a, m + 1 + drB n + 1 + t * drB n, kk - 2, rfl, by omega, hb, dt, fun v d ps Hu gu du dzu czu => ?_⟩
      have eu := gu _ _ nD et
      refine ⟨_, eu, small1000 (by rw [dzt.len]; omega), ?_⟩
      have su : Tp Hu (upd Hu D (.lst (vs ++ [v]))) := upd_tp eu
      refine ⟨fun b o nb e => ?_, (du.upd nD).mono (by rw [Nat.succ_mul]; omega), vs ++ [v], ds ++ [d], pss ++ [ps], upd_same, ((dzt.tp (gu.tp dt)).app (.cons dzu .nil)).tp su, alt.snoc czu, by rw [List.length_append, lt]; rfl⟩
      by_cases hbD : b = D
      · rw [hbD, hD] at e
        cases e
      · rw [upd_ne hbD]
        exact gu _ _ nb (gt _ _ nb e)
    rintro HT ⟨gT, dT, vs, ds, pss, eT, dzT, alT, lT⟩
    refine ⟨D, vs, rfl, .inl ⟨SqL.of eT, fun tp htp => ?_⟩⟩
    have sT : Same HT (upd HT tp (.tup vs)) := same_new htp
    have eTp : upd HT tp (.tup vs) tp = some (.tup vs) := upd_same
    have dT2 := same_dr sT dT
    have dzT2 := dzT.tp (same_tp sT)
    generalize upd HT tp (.tup vs) = HU at *
    refine ⟨(by show 3 ≤ sizeLine; decide), fun t ht => ?_⟩
    have st := same_new (o := .tup [.str z, fv, .ref tp]) ht
    have hcount : ds.length ≤ 6 := by rw [lT]; omega
    have fd2 : Dz HU fv fdd := (((fdz.tp (g6.tp d5)).tp (gT.tp d6))).tp (same_tp sT)
    have bound : (i % 7).toNat * drB n ≤ 6 * drB n := Nat.mul_le_mul_right _ (by omega)
    refine q _ (.tuple [.str "call", fdd, .tuple ds]) _ _ (g4.trans (g5.trans (g6.trans (gT.trans ((same_gx sT).trans (same_gx st)))))) ((same_dr st dT2).mono (by omega)) ?_ (.call fcz alT hcount)
    rw [c4]
    rw [c4] at st
    exact .tup upd_same (.cons (.str _) (.cons (fd2.tp (same_tp st)) (.cons (.tup (st _ _ eTp) (dzT2.tp (same_tp st))) .nil)))
  refine ite_f (no c4) ?_
  -- do
  refine ⟨_, rfl, rfl, _, rfl, ?_⟩
  by_cases c5 : z = "do"
  · refine ite_t (ys c5) ?_
    refine ⟨(by show 3 ≤ sizeLine; decide), fun p3 h3 => ?_⟩
    have n3 : p3 ≠ a := d4.ne h3
    have s3 := same_new (o := .lst [.int 1, .int 2, .int 12]) h3
    refine ⟨_, rfl, a, m + 1, by omega, same_dr s3 d4, .cons rfl .nil, fun v H6 g6 d6 hv => ?_⟩
    obtain ⟨i, rfl, hi, _⟩ := hv
    obtain ⟨k2, v, hk2, ek2, ev2, ea2⟩ := pickN (xs := [V.int 1, .int 2, .int 12]) (n := 3) hi rfl (by decide)
    obtain ⟨cnt, rfl, hc1, hc2⟩ : ∃ c : Int, v = .int c ∧ 1 ≤ c ∧ c ≤ 12 := by
      match k2, hk2, ev2 with
      | 0, _, ev => cases ev; exact ⟨1, rfl, by decide, by decide⟩
      | 1, _, ev => cases ev; exact ⟨2, rfl, by decide, by decide⟩
      | 2, _, ev => cases ev; exact ⟨12, rfl, by decide, by decide⟩
    refine ⟨_, _, rfl, rfl, (by show (0 : Int) < 3; decide), p3, _, _, _, rfl, rfl, SqL.of (g6 _ _ n3 upd_same), ea2, ?_⟩
    replace g6 := (same_gx s3).trans g6
    refine ⟨_, rfl, _, rfl, ?_⟩
    refine ⟨_, rfl, by show -(2 ^ 62 : Int) ≤ cnt; omega, by show cnt < 2 ^ 62; omega, fun D hD => ?_⟩
    have nD : D ≠ a := d6.ne hD
    refine lc_range (n := (cnt).toNat) (fun t H' => Gx a H6 H' ∧ Dr H' a (m + 1 + 1 + t * drB n) ∧ ∃ (vs : List V) (ds : List PyData) (pss : List (List Str)), H' D = some (.lst vs) ∧ DzL H' vs ds ∧ Al n ds pss ∧ ds.length = t) ?_ ?_ ?_
    · exact ⟨same_gx (same_new hD), (same_dr (same_new hD) d6).mono (by omega), [], [], [], upd_same, .nil, .nil, rfl⟩
    · rintro t Ht ht ⟨gt, dt, vs, ds, pss, et, dzt, alt, lt⟩
      have hb : (m + 1 + 1 + t * drB n) + drB n ≤ big := by
        have : t * drB n ≤ 12 * drB n := Nat.mul_le_mul_right _ (by omega)
        omega
      refine ⟨wipe_one _ 11 _, _, rfl, _, rfl, _, _, rfl, rfl, a, m + 1 + 1 + t * drB n, kk - 2, rfl, by omega, hb, dt, fun v d ps Hu gu du dzu czu => ?_⟩
      have eu := gu _ _ nD et
      refine ⟨_, eu, small1000 (by rw [dzt.len]; omega), ?_⟩
      have su : Tp Hu (upd Hu D (.lst (vs ++ [v]))) := upd_tp eu
      refine ⟨fun b o nb e => ?_, (du.upd nD).mono (by rw [Nat.succ_mul]; omega), vs ++ [v], ds ++ [d], pss ++ [ps], upd_same, ((dzt.tp (gu.tp dt)).app (.cons dzu .nil)).tp su, alt.snoc czu, by rw [List.length_append, lt]; rfl⟩
      by_cases hbD : b = D
      · rw [hbD, hD] at e
        cases e
      · rw [upd_ne hbD]
        exact gu _ _ nb (gt _ _ nb e)
    rintro HT ⟨gT, dT, vs, ds, pss, eT, dzT, alT, lT⟩
    refine ⟨D, vs, rfl, .inl ⟨SqL.of eT, fun tp htp => ?_⟩⟩
    have sT : Same HT (upd HT tp (.tup vs)) := same_new htp
    have eTp : upd HT tp (.tup vs) tp = some (.tup vs) := upd_same
    have dT2 := same_dr sT dT
    have dzT2 := dzT.tp (same_tp sT)
    generalize upd HT tp (.tup vs) = HU at *
    refine ⟨(by show 2 ≤ sizeLine; decide), fun t ht => ?_⟩
    have st := same_new (o := .tup [.str z, .ref tp]) ht
    have bound : (cnt).toNat * drB n ≤ 12 * drB n := Nat.mul_le_mul_right _ (by omega)
    refine q _ (.tuple [.str "do", .tuple ds]) _ _ (g4.trans (g6.trans (gT.trans ((same_gx sT).trans (same_gx st))))) ((same_dr st dT2).mono (by omega)) ?_ (.do_ alT (by rw [lT]; omega) (by rw [lT]; omega))
    rw [c5]
    rw [c5] at st
    exact .tup upd_same (.cons (.str _) (.cons (.tup (st _ _ eTp) (dzT2.tp (same_tp st))) .nil))
  refine ite_f (no c5) ?_
  -- op
  refine ⟨_, rfl, rfl, _, rfl, ?_⟩
  by_cases c6 : z = "op"
  · refine ite_t (ys c6) ?_
    refine ⟨(by show 11 ≤ sizeLine; decide), fun p3 h3 => ?_⟩
    have n3 : p3 ≠ a := d4.ne h3
    have s3 := same_new (o := .lst (opWords.map V.str)) h3
    refine ⟨_, rfl, a, m + 1, by omega, same_dr s3 d4, .cons rfl .nil, fun v H6 g6 d6 hv => ?_⟩
    obtain ⟨i, rfl, hi, _⟩ := hv
    obtain ⟨k2, v, hk2, ek2, ev2, ea2⟩ := pickN (xs := opWords.map V.str) (n := 11) hi rfl (by decide)
    rw [List.getElem?_map] at ev2
    obtain ⟨y, ey, rfl⟩ := Option.map_eq_some_iff.mp ev2
    have e6 : H6 p3 = some (.lst (opWords.map V.str)) := g6 _ _ n3 upd_same
    have opn : ∀ k : Nat, k < 11 → ∀ y, opWords[k]? = some y → (y, if decide ((6 : Int) < (k : Int)) = true then 1 else 2) ∈ ops := by decide +kernel
    have hop := opn k2 hk2 y ey
    have ek3 : i % 11 = (k2 : Int) := ek2
    refine ⟨_, _, rfl, rfl, (by show (0 : Int) < 11; decide), ?_⟩
    refine ⟨_, rfl, _, rfl, _, rfl, p3, _, _, _, rfl, rfl, SqL.of e6, ea2, ?_⟩
    refine ⟨(by show 2 ≤ sizeLine; decide), fun p5 h5 => ?_⟩
    have s5 : Same H6 (upd H6 p5 (.lst [.int 2, .int 1])) := same_new h5
    have e5 : upd H6 p5 (.lst [.int 2, .int 1]) p5 = some (.lst [.int 2, .int 1]) := upd_same
    generalize upd H6 p5 (.lst [.int 2, .int 1]) = H7 at *
    have d7 := same_dr s5 d6
    refine ⟨_, rfl, _, _, rfl, rfl, .inr ⟨_, rfl, ?_⟩⟩
    obtain ⟨cnt, ecnt, eat⟩ : ∃ cnt : Nat, (cnt = if decide ((6 : Int) < (k2 : Int)) = true then 1 else 2) ∧ atI [V.int 2, .int 1] (if decide ((6 : Int) < i % 11) = true then 1 else 0) = some (.int (cnt : Int)) := by
      rw [ek3]
      by_cases h6 : (6 : Int) < (k2 : Int)
      · refine ⟨1, ?_, ?_⟩ <;> rw [decide_eq_true h6] <;> rfl
      · refine ⟨2, ?_, ?_⟩ <;> rw [decide_eq_false h6] <;> rfl
    have hc1 : 1 ≤ cnt ∧ cnt ≤ 2 := by rw [ecnt]; split <;> omega
    refine ⟨p5, _, _, _, rfl, rfl, SqL.of e5, eat, ?_⟩
    replace g6 := (same_gx s3).trans (g6.trans (same_gx s5))
    have tn : ((cnt : Nat) : Int).toNat = cnt := Int.toNat_natCast cnt
    refine ⟨_, rfl, by show -(2 ^ 62 : Int) ≤ ((cnt : Nat) : Int); omega, by show ((cnt : Nat) : Int) < 2 ^ 62; omega, fun D hD => ?_⟩
    have nD : D ≠ a := d7.ne hD
    refine lc_range (n := (((cnt : Nat) : Int)).toNat) (fun t H' => Gx a H7 H' ∧ Dr H' a (m + 1 + 1 + t * drB n) ∧ ∃ (vs : List V) (ds : List PyData) (pss : List (List Str)), H' D = some (.lst vs) ∧ DzL H' vs ds ∧ Al n ds pss ∧ ds.length = t) ?_ ?_ ?_
    · exact ⟨same_gx (same_new hD), (same_dr (same_new hD) d7).mono (by omega), [], [], [], upd_same, .nil, .nil, rfl⟩
    · rintro t Ht ht ⟨gt, dt, vs, ds, pss, et, dzt, alt, lt⟩
      have hb : (m + 1 + 1 + t * drB n) + drB n ≤ big := by
        have : t * drB n ≤ 12 * drB n := Nat.mul_le_mul_right _ (by omega)
        omega
      refine ⟨wipe_one _ 11 _, _, rfl, _, rfl, _, _, rfl, rfl, a, m + 1 + 1 + t * drB n, kk - 1, rfl, by omega, hb, dt, fun v d ps Hu gu du dzu czu => ?_⟩
      have eu := gu _ _ nD et
      refine ⟨_, eu, small1000 (by rw [dzt.len]; omega), ?_⟩
      have su : Tp Hu (upd Hu D (.lst (vs ++ [v]))) := upd_tp eu
      refine ⟨fun b o nb e => ?_, (du.upd nD).mono (by rw [Nat.succ_mul]; omega), vs ++ [v], ds ++ [d], pss ++ [ps], upd_same, ((dzt.tp (gu.tp dt)).app (.cons dzu .nil)).tp su, alt.snoc czu, by rw [List.length_append, lt]; rfl⟩
      by_cases hbD : b = D
      · rw [hbD, hD] at e
        cases e
      · rw [upd_ne hbD]
        exact gu _ _ nb (gt _ _ nb e)
    rintro HT ⟨gT, dT, vs, ds, pss, eT, dzT, alT, lT⟩
    refine ⟨D, vs, rfl, .inl ⟨SqL.of eT, fun tp htp => ?_⟩⟩
    have sT : Same HT (upd HT tp (.tup vs)) := same_new htp
    have eTp : upd HT tp (.tup vs) tp = some (.tup vs) := upd_same
    have dT2 := same_dr sT dT
    have dzT2 := dzT.tp (same_tp sT)
    generalize upd HT tp (.tup vs) = HU at *
    refine ⟨(by show 3 ≤ sizeLine; decide), fun t ht => ?_⟩
    have st := same_new (o := .tup [.str z, .str y, .ref tp]) ht
    have bound : ((cnt : Nat) : Int).toNat * drB n ≤ 12 * drB n := Nat.mul_le_mul_right _ (by omega)
    rw [← ecnt] at hop
    refine q _ (.tuple [.str "op", .str y, .tuple ds]) _ _ (g4.trans (g6.trans (gT.trans ((same_gx sT).trans (same_gx st))))) ((same_dr st dT2).mono (by omega)) ?_ (.op (by rw [lT, tn]; exact hop) alT)
    rw [c6]
    rw [c6] at st
    exact .tup upd_same (.cons (.str _) (.cons (.str _) (.cons (.tup (st _ _ eTp) (dzT2.tp (same_tp st))) .nil)))
  refine ite_f (no c6) ?_
  -- the others
  have hr14 := words_rest z hz c1 c2 c3 c4 c5 c6
  obtain ⟨w1, w2, w3, w4, w5⟩ := formT_ok z hr14
  refine fun fdp hfd => ⟨upd_same, formsL, rfl, by decide, ?_⟩
  have nf : fdp ≠ a := d4.ne hfd
  have sf : Same H4 (upd (upd H4 fdp (.dK [])) fdp (.dK (mergeK [] formsL))) := fun b o e => by
    have nb := ne_of_none e hfd
    rw [upd_ne nb, upd_ne nb]
    exact e
  have ef : upd (upd H4 fdp (.dK [])) fdp (.dK (mergeK [] formsL)) fdp = some (.dK (mergeK [] formsL)) := upd_same
  generalize upd (upd H4 fdp (.dK [])) fdp (.dK (mergeK [] formsL)) = H5 at *
  have d5 := same_dr sf d4
  refine ⟨_, rfl, (by show 1 ≤ sizeLine; decide), fun L hL => ?_⟩
  have nL : L ≠ a := d5.ne hL
  have hL4 : H4 L = none := same_none sf hL
  have sL : Same H5 (upd H5 L (.lst [.str z])) := same_new hL
  have eL : upd H5 L (.lst [.str z]) L = some (.lst [.str z]) := upd_same
  generalize upd H5 L (.lst [.str z]) = H6 at *
  have d6 := same_dr sL d5
  refine ⟨_, rfl, fdp, rfl, .inl ⟨_, .inl (sL _ _ ef)⟩, _, rfl, _, rfl, (by show 3 ≤ sizeLine; decide), fun p5 h5 => ?_⟩
  have s5 : Same H6 (upd H6 p5 (.lst [.str "set", .str "go", .str "use"])) := same_new h5
  have e5 : upd H6 p5 (.lst [.str "set", .str "go", .str "use"]) p5 = some (.lst [.str "set", .str "go", .str "use"]) := upd_same
  generalize upd H6 p5 (.lst [.str "set", .str "go", .str "use"]) = H7 at *
  have d7 := same_dr s5 d6
  have ein : inV (V.str z) [.str "set", .str "go", .str "use"] = decide (z ∈ (["set", "go", "use"] : List Str)) := inV_strs (ks := ["set", "go", "use"])
  refine ⟨p5, _, rfl, .inl (SqL.of e5), rfl, rfl, .inr ⟨_, rfl, "e", _, rfl, rfl, mul_e _, _, _, rfl, rfl, ?_, ?_⟩⟩
  · show ("e" : Str).length + (Txt.mul "e" (if (inV (V.str z) [.str "set", .str "go", .str "use"]) = true then 1 else 0)).length ≤ sizeLine
    cases inV (V.str z) [.str "set", .str "go", .str "use"] <;> decide +kernel
  refine ⟨_, DGet.k (k := Sum.inr z) (s5 _ _ (sL _ _ ef)), formT z, ?_, ?_⟩
  · show (valV (mergeK [] formsL) (Sum.inr z : Key)).getD (.str (("e" : Str) ++ Txt.mul "e" (if (inV (V.str z) [.str "set", .str "go", .str "use"]) = true then 1 else 0))) = _
    rw [ein]
    exact forms_get z hr14
  have g7 : Gx a H H7 := g4.trans ((same_gx sf).trans ((same_gx sL).trans (same_gx s5)))
  refine for_it walk_text (fun i σ H' => ∃ (vs : List V) (xs : List PyData) (iss : List (List Str)) (t10 : Option V), σ = [some (.ref a), some (.int kk), some (.ref pw), some (.str z), none, none, none, none, some (.ref fdp), some (.ref L), t10, none] ∧ Gx a H H' ∧ Dr H' a (m + 1 + i * (drB n + 3)) ∧ H' L = some (.lst (.str z :: vs)) ∧ DzL H' vs xs ∧ xs.length = i ∧ ∀ xs2 iss2, Fc n none ((formOf z).drop i) xs2 iss2 → Fc n none (formOf z) (xs ++ xs2) (iss ++ iss2)) ?_ ?_ ?_ ?_
  · exact ⟨[], [], [], none, rfl, g7, d7.mono (by omega), s5 _ _ eL, .nil, rfl, fun xs2 iss2 h => h⟩
  · intro _ _ _ _ _
    trivial
  · rintro i x σ H8 H9 hi ⟨vs, xs, iss, t10, rfl, g8, d8, e8, dz8, l8, fc8⟩ ⟨rfl, c, ec, rfl⟩
    have hi3 : i < 3 := by omega
    have hbi : m + 1 + i * (drB n + 3) + (drB n + 3) ≤ big := by
      have : i * (drB n + 3) ≤ 3 * (drB n + 3) := Nat.mul_le_mul_right _ (by omega)
      omega
    have hL0 : H L = none := by
      cases hh : H L with
      | none => rfl
      | some o => rw [g4 _ _ nL hh] at hL4; cases hL4
    have li : i < (formOf z).length := by rw [← w3]; exact hi
    have dr : ∀ k, (formOf z)[i]? = some k → (formOf z).drop i = k :: (formOf z).drop (i + 1) := fun k hk => by
      rw [List.drop_eq_getElem_cons li]
      rw [List.getElem?_eq_getElem li] at hk
      rw [Option.some.inj hk]
    -- what is put behind
    have done : ∀ (v : V) (dd : PyData) (ps : List Str) (HA : Hp), Gx a H9 HA → Dr HA a (m + 1 + i * (drB n + 3) + (drB n + 3)) → Dz HA v dd → (∀ xs2 iss2, Fc n none ((formOf z).drop (i + 1)) xs2 iss2 → Fc n none ((formOf z).drop i) (dd :: xs2) (ps :: iss2)) →
        Gx a H (upd HA L (.lst ((.str z :: vs) ++ [v]))) ∧ Dr (upd HA L (.lst ((.str z :: vs) ++ [v]))) a (m + 1 + (i + 1) * (drB n + 3)) ∧ upd HA L (.lst ((.str z :: vs) ++ [v])) L = some (.lst (.str z :: (vs ++ [v]))) ∧ DzL (upd HA L (.lst ((.str z :: vs) ++ [v]))) (vs ++ [v]) (xs ++ [dd]) ∧ (xs ++ [dd]).length = i + 1 ∧ ∀ xs2 iss2, Fc n none ((formOf z).drop (i + 1)) xs2 iss2 → Fc n none (formOf z) ((xs ++ [dd]) ++ xs2) ((iss ++ [ps]) ++ iss2) := by
      intro v dd ps HA gA dA dzA fcA
      have eA := gA _ _ nL e8
      have tpA : Tp HA (upd HA L (.lst ((.str z :: vs) ++ [v]))) := upd_tp eA
      refine ⟨fun b o nb e => ?_, (dA.upd nL).mono (by rw [Nat.succ_mul]; omega), upd_same, ((dz8.tp (gA.tp d8)).app (.cons dzA .nil)).tp tpA, by rw [List.length_append, l8]; rfl, fun xs2 iss2 h => ?_⟩
      · have nbL : b ≠ L := ne_of_none e hL0
        rw [upd_ne nbL]
        exact gA _ _ nb (g8 _ _ nb e)
      · rw [List.append_assoc, List.append_assoc]
        exact fc8 _ _ (fcA _ _ h)
    have lv : (V.str z :: vs).length < sizeLine := small1000 (by rw [List.length_cons, dz8.len, l8]; omega)
    refine ⟨_, rfl, rfl, _, rfl, ?_⟩
    have sgne : ∀ {y : Nat}, decide (V.str ⟨#[c]⟩ = V.str ⟨#[y]⟩) = decide (c = y) := fun {y} => decide_eq_decide.mpr one_eq
    have e101 : ("e" : Str) = ⟨#[101]⟩ := by decide +kernel
    have e116 : ("t" : Str) = ⟨#[116]⟩ := by decide +kernel
    rcases w5 i hi with ⟨k1, k2⟩ | ⟨k1, k2⟩ | ⟨k1, k2⟩
    · have hc : c = 101 := by rw [ec] at k1; exact Option.some.inj k1
      refine ite_t (by rw [e101]; exact sgne.trans (decide_eq_true hc)) ?_
      refine ⟨_, rfl, .inl ⟨rfl, _, SqL.of e8⟩, _, rfl, _, rfl, _, _, rfl, rfl, a, m + 1 + i * (drB n + 3), kk - 1, rfl, by omega, by omega, d8, fun v dd ps HA gA dA dzA czA => ?_⟩
      refine ⟨L, _, _, rfl, rfl, gA _ _ nL e8, lv, ?_⟩
      obtain ⟨r1, r2, r3, r4, r5, r6⟩ := done v dd ps HA gA (dA.mono (by omega)) dzA (fun xs2 iss2 h => by rw [dr _ k2]; exact .part czA h)
      exact ⟨vs ++ [v], xs ++ [dd], iss ++ [ps], _, rfl, r1, r2, r3, r4, r5, r6⟩
    · have hc : c = 110 := by rw [ec] at k1; exact Option.some.inj k1
      refine ite_f (by rw [e101]; exact sgne.trans (decide_eq_false (by omega))) ?_
      refine ⟨_, rfl, .inl ⟨rfl, _, SqL.of e8⟩, _, rfl, a, m + 1 + i * (drB n + 3), rfl, by omega, d8, fun y HA gA dA hy => ?_⟩
      refine ⟨(by show 4 ≤ sizeLine; decide), fun p6 h6 => ?_⟩
      have s6 := same_new (o := .lst [.str "m", .str "yes", .str "none1", .str "no"]) h6
      have n6 : p6 ≠ a := dA.ne h6
      refine ⟨_, rfl, a, m + 1 + i * (drB n + 3) + 1, by omega, same_dr s6 dA, .cons rfl .nil, fun v HB gB dB hv => ?_⟩
      obtain ⟨ii, rfl, hii, _⟩ := hv
      obtain ⟨k6, v6, hk6, ek6, ev6, ea6⟩ := pickN (xs := [V.str "m", .str "yes", .str "none1", .str "no"]) (n := 4) hii rfl (by decide)
      refine ⟨_, _, rfl, rfl, (by show (0 : Int) < 4; decide), p6, _, _, _, rfl, rfl, SqL.of (gB _ _ n6 upd_same), ea6, ?_⟩
      refine ⟨(by show 2 ≤ sizeLine; decide), fun p7 h7 => ?_⟩
      have s7 := same_new (o := .lst [.str y, v6]) h7
      have eat : atI [V.str y, v6] (if (decide (V.str ⟨#[c]⟩ = V.str "t")) = true then 1 else 0) = some (.str y) := by
        rw [e116, sgne, decide_eq_false (by omega)]
        rfl
      refine ⟨_, rfl, rfl, .inr ⟨_, rfl, p7, _, _, .str y, rfl, rfl, SqL.of upd_same, eat, ?_⟩⟩
      have gAll := gA.trans ((same_gx s6).trans (gB.trans (same_gx s7)))
      refine ⟨L, _, _, rfl, rfl, gAll _ _ nL e8, lv, ?_⟩
      obtain ⟨r1, r2, r3, r4, r5, r6⟩ := done (.str y) (.str y) [y] _ gAll ((same_dr s7 dB).mono (by omega)) (.str y) (fun xs2 iss2 h => by rw [dr _ k2]; exact .binder (nm12_ok y hy).1 (nm12_ok y hy).2 h)
      exact ⟨vs ++ [.str y], xs ++ [.str y], iss ++ [[y]], _, rfl, r1, r2, r3, r4, r5, r6⟩
    · have hc : c = 116 := by rw [ec] at k1; exact Option.some.inj k1
      refine ite_f (by rw [e101]; exact sgne.trans (decide_eq_false (by omega))) ?_
      refine ⟨_, rfl, .inl ⟨rfl, _, SqL.of e8⟩, _, rfl, a, m + 1 + i * (drB n + 3), rfl, by omega, d8, fun y HA gA dA hy => ?_⟩
      refine ⟨(by show 4 ≤ sizeLine; decide), fun p6 h6 => ?_⟩
      have s6 := same_new (o := .lst [.str "m", .str "yes", .str "none1", .str "no"]) h6
      have n6 : p6 ≠ a := dA.ne h6
      refine ⟨_, rfl, a, m + 1 + i * (drB n + 3) + 1, by omega, same_dr s6 dA, .cons rfl .nil, fun v HB gB dB hv => ?_⟩
      obtain ⟨ii, rfl, hii, _⟩ := hv
      obtain ⟨k6, v6, hk6, ek6, ev6, ea6⟩ := pickN (xs := ([("m" : Str), "yes", "none1", "no"] : List Str).map V.str) (n := 4) hii rfl (by decide)
      rw [List.getElem?_map] at ev6
      obtain ⟨x6, ex6, rfl⟩ := Option.map_eq_some_iff.mp ev6
      have tg := tags_ok x6 (List.mem_of_getElem? ex6)
      refine ⟨_, _, rfl, rfl, (by show (0 : Int) < 4; decide), p6, _, _, _, rfl, rfl, SqL.of (gB _ _ n6 upd_same), ea6, ?_⟩
      refine ⟨(by show 2 ≤ sizeLine; decide), fun p7 h7 => ?_⟩
      have s7 := same_new (o := .lst [.str y, .str x6]) h7
      have eat : atI [V.str y, .str x6] (if (decide (V.str ⟨#[c]⟩ = V.str "t")) = true then 1 else 0) = some (.str x6) := by
        rw [e116, sgne, decide_eq_true hc]
        rfl
      refine ⟨_, rfl, rfl, .inr ⟨_, rfl, p7, _, _, .str x6, rfl, rfl, SqL.of upd_same, eat, ?_⟩⟩
      have gAll := gA.trans ((same_gx s6).trans (gB.trans (same_gx s7)))
      refine ⟨L, _, _, rfl, rfl, gAll _ _ nL e8, lv, ?_⟩
      obtain ⟨r1, r2, r3, r4, r5, r6⟩ := done (.str x6) (.str x6) [x6] _ gAll ((same_dr s7 dB).mono (by omega)) (.str x6) (fun xs2 iss2 h => by rw [dr _ k2]; exact .tag tg h)
      exact ⟨vs ++ [.str x6], xs ++ [.str x6], iss ++ [[x6]], _, rfl, r1, r2, r3, r4, r5, r6⟩
  · rintro σ H8 ⟨vs, xs, iss, t10, rfl, g8, d8, e8, dz8, l8, fc8⟩
    have hlen : (formT z).cps.toList.length ≤ 3 := by omega
    have hb3 : (formT z).cps.toList.length * (drB n + 3) ≤ 3 * (drB n + 3) := Nat.mul_le_mul_right _ hlen
    refine ⟨_, rfl, L, _, rfl, .inl ⟨SqL.of e8, fun t ht => ?_⟩⟩
    have st := same_new (o := .tup (.str z :: vs)) ht
    have fc := fc8 [] [] (by rw [w3, List.drop_length]; exact .nil)
    rw [List.append_nil, List.append_nil] at fc
    refine q _ (.tuple (.str z :: xs)) _ _ (g8.trans (same_gx st)) ((same_dr st d8).mono (by omega)) (.tup upd_same (.cons (.str _) (dz8.tp (same_tp st)))) (.fix (iss := iss) w1 ?_)
    have ef : forb z xs = none := by
      unfold forb
      rw [if_neg w2]
    rw [ef]
    exact fc
end
end Wp
set_option Elab.async false
set_option linter.all false
set_option maxRecDepth 100000
set_option maxHeartbeats 1000000
namespace Wp
open PySem PySem.Spec PyProof.Rows L2
-- _law_pieces: slots _law_a_term 0, _law_word 1, _law_told 2, _law_thing 3
abbrev s_law_pieces : Stmt := top 44
theorem sc_law_pieces : FnScope ["_law_a_term", "_law_word", "_law_told", "_law_thing"] ["_law_a_term"] (defScope s_law_pieces) := ⟨rfl, rfl, rfl, by decide +kernel, rfl, by decide +kernel, by decide +kernel⟩
abbrev sl_law_pieces : List Str := ["_law_a_term", "_law_word", "_law_told", "_law_thing"]
-- _law_row: slots _law_word 0, _law_things 1, _law_told 2, _law_thing 3
abbrev s_law_row : Stmt := top 45
theorem sc_law_row : FnScope ["_law_word", "_law_things", "_law_told", "_law_thing"] ["_law_word", "_law_things"] (defScope s_law_row) := ⟨rfl, rfl, rfl, by decide +kernel, rfl, by decide +kernel, by decide +kernel⟩
abbrev sl_law_row : List Str := ["_law_word", "_law_things", "_law_told", "_law_thing"]
/-! ### how many pieces -/
theorem br_len (w : Str) (ps : List Str) : (brk w ps).length = 3 + ps.length := by
  rw [List.length_cons, List.length_append, List.length_cons]
  show ps.length + 1 + 1 + 1 = _
  omega
mutual
theorem cz_len : ∀ {n : Nat} {d : PyData} {ps : List Str}, Cz n d ps → ps.length ≤ wtD d
  | _, _, _, .num _ _ => by show 1 ≤ 8; decide
  | _, _, _, .text _ _ => by show 1 ≤ 8; decide
  | _, _, _, .yes _ => by show 1 ≤ 5; decide
  | _, _, _, .name _ _ => by show 1 ≤ 8; decide
  | _, _, _, .fix (its := its) (iss := iss) _ fc => by
    have := fc_len fc
    rw [br_len]
    show _ ≤ 2 + (2 + 1 + wtL its)
    omega
  | _, _, _, .call (f := f) (fp := fp) (ds := ds) (pss := pss) hf ha _ => by
    have h1 := cz_len hf
    have h2 := al_len ha
    rw [br_len, List.length_append]
    show _ ≤ 2 + (2 + 1 + (wtD f + 1 + ((2 + wtL ds) + 1 + 0)))
    omega
  | _, _, _, .do_ (ds := ds) ha _ _ => by
    have h2 := al_len ha
    rw [br_len]
    show _ ≤ 2 + (2 + 1 + ((2 + wtL ds) + 1 + 0))
    omega
  | _, _, _, .op (ds := ds) _ ha => by
    have h2 := al_len ha
    rw [br_len]
    show _ ≤ 2 + (2 + 1 + (2 + 1 + ((2 + wtL ds) + 1 + 0)))
    omega
theorem fc_len : ∀ {n : Nat} {fb : Option Str} {ks : List Str} {xs : List PyData} {iss : List (List Str)}, Fc n fb ks xs iss → iss.flatten.length ≤ wtL xs
  | _, _, _, _, _, .nil => Nat.le_refl _
  | _, _, _, _, _, .binder (xs := xs) (iss := iss) _ _ t => by
    have := fc_len t
    rw [List.flatten_cons, List.length_append]
    show 1 + _ ≤ 2 + 1 + wtL xs
    omega
  | _, _, _, _, _, .tag (xs := xs) (iss := iss) _ t => by
    have := fc_len t
    rw [List.flatten_cons, List.length_append]
    show 1 + _ ≤ 2 + 1 + wtL xs
    omega
  | _, _, _, _, _, .binders (zs := zs) (xs := xs) (iss := iss) _ _ _ _ t => by
    have := fc_len t
    have e := wt_strs zs
    rw [List.flatten_cons, List.length_append, List.length_cons, List.length_append]
    show zs.length + 1 + 1 + _ ≤ (2 + wtL (zs.map .str)) + 1 + wtL xs
    omega
  | _, _, _, _, _, .part (d := d) (xs := xs) (iss := iss) h t => by
    have h1 := cz_len h
    have := fc_len t
    rw [List.flatten_cons, List.length_append]
    show _ ≤ wtD d + 1 + wtL xs
    omega
theorem al_len : ∀ {n : Nat} {ds : List PyData} {pss : List (List Str)}, Al n ds pss → pss.flatten.length ≤ wtL ds
  | _, _, _, .nil => Nat.le_refl _
  | _, _, _, .cons (d := d) (ds := ds) h t => by
    have h1 := cz_len h
    have := al_len t
    rw [List.flatten_cons, List.length_append]
    show _ ≤ wtD d + 1 + wtL ds
    omega
end
/-! ### the names of a row are no term -/
theorem eqv_str {z : Str} : ∀ {x : PyData}, PyData.eqv (.str z) x = true → ∃ y, x = .str y
  | .str y, _ => ⟨y, rfl⟩
  | .none, h => by simp [PyData.eqv] at h
  | .bool _, h => by simp [PyData.eqv] at h
  | .int _, h => by simp [PyData.eqv] at h
  | .list _, h => by simp [PyData.eqv] at h
  | .tuple _, h => by simp [PyData.eqv] at h
  | .dict _, h => by simp [PyData.eqv] at h
theorem eqv_strs : ∀ {zs : List Str} {xs : List PyData}, PyData.eqvAll (zs.map .str) xs = true → ∀ x ∈ xs, ∃ y, x = .str y
  | [], [], _, x, hx => by cases hx
  | [], _ :: _, h, _, _ => by simp [PyData.eqvAll] at h
  | _ :: _, [], h, _, hx => by cases hx
  | z :: zs, y :: ys, h, x, hx => by
    simp only [List.map_cons, PyData.eqvAll, Bool.and_eq_true] at h
    rcases List.mem_cons.mp hx with e | e
    · rw [e]
      exact eqv_str h.1
    · exact eqv_strs h.2 x e
theorem fc_tuple : ∀ {n : Nat} {fb : Option Str} {ks : List Str} {xs : List PyData} {iss : List (List Str)}, Fc n fb ks xs iss → ("part" : Str) ∈ ks → ∃ ds, .tuple ds ∈ xs
  | _, _, _, _, _, .nil, h => by cases h
  | _, _, _, _, _, .binder _ _ t, h => by
    rcases List.mem_cons.mp h with e | e
    · exact absurd e (by decide +kernel)
    · obtain ⟨ds, hd⟩ := fc_tuple t e
      exact ⟨ds, List.mem_cons_of_mem _ hd⟩
  | _, _, _, _, _, .tag _ t, h => by
    rcases List.mem_cons.mp h with e | e
    · exact absurd e (by decide +kernel)
    · obtain ⟨ds, hd⟩ := fc_tuple t e
      exact ⟨ds, List.mem_cons_of_mem _ hd⟩
  | _, _, _, _, _, .binders _ _ _ _ t, _ => ⟨_, List.mem_cons_self⟩
  | _, _, _, _, _, .part c t, _ => by
    obtain ⟨w, its, e⟩ := cz_head c
    rw [e]
    exact ⟨_, List.mem_cons_self⟩
theorem names_ne {n : Nat} {d : PyData} {ps : List Str} (h : Cz n d ps) {zs : List Str} (hz : ∀ z ∈ zs, z ∈ nm12) : PyData.eqv (.tuple (zs.map .str)) d = false := by
  have key : ∀ (w : Str) (its : List PyData), (¬ w ∈ nm12 ∨ ∃ ds, PyData.tuple ds ∈ its) → PyData.eqv (.tuple (zs.map .str)) (.tuple (.str w :: its)) = false := by
    intro w its hh
    cases e : PyData.eqv (.tuple (zs.map .str)) (.tuple (.str w :: its)) with
    | false => rfl
    | true =>
      exfalso
      simp only [PyData.eqv] at e
      rcases hh with hw | ⟨ds, hd⟩
      · match zs, e, hz with
        | [], e, _ => simp [PyData.eqvAll] at e
        | z :: zs, e, hz =>
          simp only [List.map_cons, PyData.eqvAll, Bool.and_eq_true, PyData.eqv] at e
          have e1 : z = w := by simpa using e.1
          rw [← e1] at hw
          exact hw (hz z List.mem_cons_self)
      · obtain ⟨y, ey⟩ := eqv_strs e _ (List.mem_cons_of_mem _ hd)
        cases ey
  cases h with
  | num _ _ => exact key _ _ (.inl (by decide +kernel))
  | text _ _ => exact key _ _ (.inl (by decide +kernel))
  | yes h =>
    have k : ∀ z ∈ noNames, ¬ z ∈ nm12 := by decide +kernel
    exact key _ _ (.inl (k _ h))
  | name _ _ => exact key _ _ (.inl (by decide +kernel))
  | fix hw fc =>
    have k : ∀ w ∈ fixW, ("part" : Str) ∈ formOf w := by decide +kernel
    exact key _ _ (.inr (fc_tuple fc (k _ hw)))
  | call _ _ _ => exact key _ _ (.inr ⟨_, List.mem_cons_of_mem _ List.mem_cons_self⟩)
  | do_ _ _ _ => exact key _ _ (.inr ⟨_, List.mem_cons_self⟩)
  | op _ _ => exact key _ _ (.inr ⟨_, List.mem_cons_of_mem _ List.mem_cons_self⟩)
end Wp
set_option Elab.async false
set_option linter.all false
set_option maxRecDepth 100000
set_option maxHeartbeats 1000000
namespace Wp
open PySem PySem.Spec PyProof.Rows L2
/-! ### the things of a term, as the law goes along them -/
def funRec : List Str := ["fun", "rec"]
inductive It (n : Nat) (w : Str) (dl : PyData) : PyData → List Str → Prop
  | str {z : Str} : It n w dl (.str z) [z]
  | row {ds : List PyData} {pss : List (List Str)} : ¬ w ∈ funRec → Al n ds pss → wtL ds ≤ 12998 → It n w dl (.tuple ds) pss.flatten
  | nms {zs : List Str} : w ∈ funRec → (∀ z ∈ zs, z ∈ nm12) → zs.length ≤ 6 → PyData.eqv (.tuple (zs.map .str)) dl = false → It n w dl (.tuple (zs.map .str)) (nmsP zs)
  | term {d : PyData} {ps : List Str} : Cz n d ps → wtD d ≤ 13000 → (w ∈ funRec → d = dl) → It n w dl d ps
inductive ItL (n : Nat) (w : Str) (dl : PyData) : List PyData → List (List Str) → Prop
  | nil : ItL n w dl [] []
  | cons {d : PyData} {ps : List Str} {ds : List PyData} {pss : List (List Str)} : It n w dl d ps → ItL n w dl ds pss → ItL n w dl (d :: ds) (ps :: pss)
theorem ItL.get {n : Nat} {w : Str} {dl : PyData} : ∀ {ds : List PyData} {pss : List (List Str)}, ItL n w dl ds pss → ∀ {i : Nat} {d : PyData}, ds[i]? = some d → ∃ ps, pss[i]? = some ps ∧ It n w dl d ps
  | _, _, .nil, _, _, e => by cases e
  | _, _, .cons h _, 0, _, e => by cases e; exact ⟨_, rfl, h⟩
  | _, _, .cons _ t, i + 1, _, e => t.get (i := i) e
theorem ItL.len {n : Nat} {w : Str} {dl : PyData} : ∀ {ds : List PyData} {pss : List (List Str)}, ItL n w dl ds pss → ds.length = pss.length
  | _, _, .nil => rfl
  | _, _, .cons _ t => by rw [List.length_cons, List.length_cons, t.len]
theorem fc_items {n : Nat} {w : Str} {dl : PyData} (hw : ¬ w ∈ funRec) : ∀ {fb : Option Str} {ks : List Str} {xs : List PyData} {iss : List (List Str)}, Fc n fb ks xs iss → wtL xs ≤ 13000 → ¬ ("binders" : Str) ∈ ks → ItL n w dl xs iss
  | _, _, _, _, .nil, _, _ => .nil
  | _, _, _, _, .binder (xs := xs) _ _ t, h, hk => .cons .str (fc_items hw t (by have h : 2 + 1 + wtL xs ≤ 13000 := h; omega) fun e => hk (List.mem_cons_of_mem _ e))
  | _, _, _, _, .tag (xs := xs) _ t, h, hk => .cons .str (fc_items hw t (by have h : 2 + 1 + wtL xs ≤ 13000 := h; omega) fun e => hk (List.mem_cons_of_mem _ e))
  | _, _, _, _, .binders _ _ _ _ t, h, hk => absurd List.mem_cons_self hk
  | _, _, _, _, .part (d := d) (xs := xs) c t, h, hk => .cons (.term c (by have h : wtD d + 1 + wtL xs ≤ 13000 := h; omega) fun e => absurd e hw) (fc_items hw t (by have h : wtD d + 1 + wtL xs ≤ 13000 := h; omega) fun e => hk (List.mem_cons_of_mem _ e))
/-- the items of a node -/
structure Nod (n : Nat) (d : PyData) (ps : List Str) (w : Str) (its : List PyData) (dl : PyData) (iss : List (List Str)) : Prop where
  eq : d = .tuple (.str w :: its)
  no : ¬ w ∈ (["num", "name"] : List Str) ∧ ¬ w = "text"
  few : 1 ≤ its.length ∧ its.length ≤ 3
  last : ∃ init, its = init ++ [dl]
  shp : SeqAt.shaped dl = true
  itl : (w = "op" ∧ ItL n w dl its iss) ∨ (¬ w = "op" ∧ ItL n w dl (.str w :: its) iss)
  pcs : ps = ("(" : Str) :: (iss.flatten ++ [shutP])
theorem fix_nod {n : Nat} (hn : n ≤ 20) {w : Str} {its : List PyData} {iss : List (List Str)} (hw : w ∈ fixW) (fc : Fc n (forb w its) (formOf w) its iss) (hd : wtD (.tuple (.str w :: its)) ≤ 13000) : ∃ dl iss2, Nod n (.tuple (.str w :: its)) (brk w iss.flatten) w its dl iss2 := by
  have hd : 2 + (2 + 1 + wtL its) ≤ 13000 := hd
  have f11 := (fix_facts w hw).2.2.2.2.2.2.2.2.2.2
  rw [fc.len] at f11
  have k1 : ∀ w ∈ fixW, ¬ w ∈ (["num", "name"] : List Str) ∧ ¬ w = "text" ∧ ¬ w = "op" := by decide +kernel
  obtain ⟨k2, k3, k4⟩ := k1 w hw
  have shp : ∀ {d : PyData} {ps : List Str}, Cz n d ps → SeqAt.shaped d = true := fun c => cz_shape c hn
  by_cases hfr : w ∈ funRec
  · have hcase : w = "fun" ∨ w = "rec" := by
      unfold funRec at hfr
      simpa using hfr
    rcases hcase with e | e
    · have eo : formOf w = (["binders", "part"] : List Str) := by rw [e]; decide +kernel
      rw [eo] at fc
      cases fc with
      | @binders _ _ zs _ _ iss1 h1 h2 h3 h4 t =>
        cases t with
        | @part _ _ d ps _ _ iss3 c t2 =>
          cases t2
          have hd2 : wtD d + 1 ≤ 13000 := by
            have : 2 + (2 + 1 + ((2 + wtL (zs.map .str)) + 1 + (wtD d + 1 + 0))) ≤ 13000 := hd
            omega
          exact ⟨d, [[w], nmsP zs, ps], rfl, ⟨k2, k3⟩, f11.symm, ⟨[.tuple (zs.map .str)], rfl⟩, shp c, .inr ⟨k4, .cons .str (.cons (.nms hfr h3 h1 (names_ne c h3)) (.cons (.term c (by omega) fun _ => rfl) .nil))⟩, rfl⟩
    · have eo : formOf w = (["binder", "binders", "part"] : List Str) := by rw [e]; decide +kernel
      rw [eo] at fc
      cases fc with
      | @binder _ _ z _ _ iss0 b1 b2 t0 =>
        cases t0 with
        | @binders _ _ zs _ _ iss1 h1 h2 h3 h4 t =>
          cases t with
          | @part _ _ d ps _ _ iss3 c t2 =>
            cases t2
            have hd2 : wtD d + 1 ≤ 13000 := by
              have : 2 + (2 + 1 + (2 + 1 + ((2 + wtL (zs.map .str)) + 1 + (wtD d + 1 + 0)))) ≤ 13000 := hd
              omega
            exact ⟨d, [[w], [z], nmsP zs, ps], rfl, ⟨k2, k3⟩, f11.symm, ⟨[.str z, .tuple (zs.map .str)], rfl⟩, shp c, .inr ⟨k4, .cons .str (.cons .str (.cons (.nms hfr h3 h1 (names_ne c h3)) (.cons (.term c (by omega) fun _ => rfl) .nil)))⟩, rfl⟩
  · have k5 : ∀ w ∈ fixW, ¬ w ∈ funRec → ¬ ("binders" : Str) ∈ formOf w := by decide +kernel
    have hne : its ≠ [] := fun e => by rw [e] at f11; exact absurd f11.2 (by decide)
    have pl : PrL (2 * n + 2) its := fc_pr fc
    refine ⟨its.getLast hne, [w] :: iss, rfl, ⟨k2, k3⟩, f11.symm, ⟨its.dropLast, (List.dropLast_concat_getLast hne).symm⟩, ?_, .inr ⟨k4, .cons .str (fc_items hfr fc (by omega) (k5 w hw hfr))⟩, rfl⟩
    have mem := List.getLast_mem hne
    have key : ∀ (l : List PyData), PyData.canLayAll0 l = true → PyData.depthAll l ≤ 60 → ∀ x ∈ l, SeqAt.shaped x = true := by
      intro l
      induction l with
      | nil => intro _ _ x hx; cases hx
      | cons y l ih =>
        intro h1 h2 x hx
        simp only [PyData.canLayAll0, Bool.and_eq_true] at h1
        have h3 : max y.depth (PyData.depthAll l) ≤ 60 := h2
        rcases List.mem_cons.mp hx with e | e
        · rw [e]
          unfold SeqAt.shaped
          rw [Bool.and_eq_true]
          exact ⟨h1.1, decide_eq_true (by omega)⟩
        · exact ih h1.2 (by omega) x e
    exact key its pl.lay (Nat.le_trans pl.dep (by omega)) _ mem
theorem tup_shaped {n : Nat} (hn : n ≤ 20) {ds : List PyData} (h : PrL (2 * n + 1) ds) : SeqAt.shaped (.tuple ds) = true := by
  have p := pr_tup h
  unfold SeqAt.shaped
  rw [Bool.and_eq_true]
  exact ⟨p.lay, decide_eq_true (by have := p.dep; omega)⟩
/-- what a term looks like to the law -/
theorem cz_view {n : Nat} (hn : n ≤ 20) {d : PyData} {ps : List Str} (h : Cz n d ps) (hd : wtD d ≤ 13000) : (∃ i : Int, d = .tuple [.str "num", .int i] ∧ ps = [((toString i : String) : Str)] ∧ i.natAbs.log2 < 1920) ∨ (∃ z : Str, d = .tuple [.str "text", .str z] ∧ ps = [("\"" ++ z ++ "\"" : Str)] ∧ z.length ≤ 100) ∨ (∃ z : Str, d = .tuple [.str z] ∧ ps = [z]) ∨ (∃ z : Str, d = .tuple [.str "name", .str z] ∧ ps = [z]) ∨ ∃ m w its dl iss, n = m + 1 ∧ Nod m d ps w its dl iss := by
  cases h with
  | num h1 h2 => exact .inl ⟨_, rfl, rfl, by have := log2_lt h1 (by decide); omega⟩
  | text h1 h2 => exact .inr (.inl ⟨_, rfl, rfl, len_tl h2⟩)
  | yes h => exact .inr (.inr (.inl ⟨_, rfl, rfl⟩))
  | name h1 h2 => exact .inr (.inr (.inr (.inl ⟨_, rfl, rfl⟩)))
  | @fix m w its iss hw fc =>
    obtain ⟨dl, iss2, nd⟩ := fix_nod (by omega) hw fc hd
    exact .inr (.inr (.inr (.inr ⟨m, w, its, dl, iss2, rfl, nd⟩)))
  | @call m f fp ds pss hf ha hl =>
    have hd : 2 + (2 + 1 + (wtD f + 1 + ((2 + wtL ds) + 1 + 0))) ≤ 13000 := hd
    have nf : ¬ ("call" : Str) ∈ funRec := by decide +kernel
    refine .inr (.inr (.inr (.inr ⟨m, "call", [f, .tuple ds], .tuple ds, [["call"], fp, pss.flatten], rfl, rfl, by decide +kernel, ⟨(by show 1 ≤ 2; decide), (by show 2 ≤ 3; decide)⟩, ⟨[f], rfl⟩, tup_shaped (by omega) (al_pr ha), .inr ⟨by decide +kernel, .cons .str (.cons (.term hf (by omega) fun e => absurd e nf) (.cons (.row nf ha (by omega)) .nil))⟩, ?_⟩)))
    show brk "call" (fp ++ pss.flatten) = ("(" : Str) :: ((("call" : Str) :: (fp ++ (pss.flatten ++ []))) ++ [shutP])
    rw [List.append_nil]
  | @do_ m ds pss ha h1 h2 =>
    have hd : 2 + (2 + 1 + ((2 + wtL ds) + 1 + 0)) ≤ 13000 := hd
    have nf : ¬ ("do" : Str) ∈ funRec := by decide +kernel
    refine .inr (.inr (.inr (.inr ⟨m, "do", [.tuple ds], .tuple ds, [["do"], pss.flatten], rfl, rfl, by decide +kernel, ⟨(by show 1 ≤ 1; decide), (by show 1 ≤ 3; decide)⟩, ⟨[], rfl⟩, tup_shaped (by omega) (al_pr ha), .inr ⟨by decide +kernel, .cons .str (.cons (.row nf ha (by omega)) .nil)⟩, ?_⟩)))
    show brk "do" pss.flatten = ("(" : Str) :: ((("do" : Str) :: (pss.flatten ++ [])) ++ [shutP])
    rw [List.append_nil]
  | @op m z ds pss ho ha =>
    have hd : 2 + (2 + 1 + (2 + 1 + ((2 + wtL ds) + 1 + 0))) ≤ 13000 := hd
    have nf : ¬ ("op" : Str) ∈ funRec := by decide +kernel
    refine .inr (.inr (.inr (.inr ⟨m, "op", [.str z, .tuple ds], .tuple ds, [[z], pss.flatten], rfl, rfl, by decide +kernel, ⟨(by show 1 ≤ 2; decide), (by show 2 ≤ 3; decide)⟩, ⟨[.str z], rfl⟩, tup_shaped (by omega) (al_pr ha), .inl ⟨rfl, .cons .str (.cons (.row nf ha (by omega)) .nil)⟩, ?_⟩)))
    show brk z pss.flatten = ("(" : Str) :: ((z :: (pss.flatten ++ [])) ++ [shutP])
    rw [List.append_nil]
end Wp
set_option Elab.async false
set_option linter.all false
set_option maxRecDepth 100000
set_option maxHeartbeats 2000000
namespace Wp
open PySem PySem.Spec PyProof.Rows L2
def RowOk (n : Nat) (w : Str) (x : PyData) (ps : List Str) : Prop := (w ∈ funRec ∧ ∃ zs : List Str, x = .tuple (zs.map .str) ∧ ps = nmsP zs ∧ zs.length ≤ 6) ∨ (¬ w ∈ funRec ∧ ∃ ds pss, x = .tuple ds ∧ Al n ds pss ∧ ps = pss.flatten)
def spPieces (n : Nat) : Sp := fun vs H Q _ => ∃ (v : V) (d : PyData) (ps : List Str), vs = [v] ∧ Dz H v d ∧ Cz n d ps ∧ wtD d ≤ 13000 ∧ n ≤ 20 ∧ ∀ (p : Addr) (H' : Hp), Same H H' → H' p = some (.lst (ps.map V.str)) → Q (.ref p) H'
def spRow (n : Nat) : Sp := fun vs H Q _ => ∃ (w : Str) (v : V) (x : PyData) (ps : List Str), vs = [.str w, v] ∧ Dz H v x ∧ RowOk n w x ps ∧ wtD x ≤ 13000 ∧ n ≤ 20 ∧ ∀ (p : Addr) (H' : Hp), Same H H' → H' p = some (.lst (ps.map V.str)) → Q (.ref p) H'
section
variable {X : Cx}
/-- str of a number or of a text -/
theorem call_strB : CallR X (.type "str") (fun xs H Q => (∃ i : Int, xs = [.int i] ∧ i.natAbs.log2 < 1920 ∧ Q (.str (toString i)) H) ∨ ∃ z : Str, xs = [.str z] ∧ Q (.str z) H) := by
  intro pins s σ H xs us Q I r h
  rcases h with h | h
  · exact call_str_int pins s σ H xs us Q I r h
  · exact SkE.call_str_str pins s σ H xs us Q I r h
end
section
variable {P : Program} {w : World} {K : PySem.W.Frag} {mg : Str → Option Value} {base : Heap} {f : Addr} {fd : FuncData}
theorem al_get {n : Nat} : ∀ {ds : List PyData} {pss : List (List Str)}, Al n ds pss → ∀ {i : Nat} {d : PyData}, ds[i]? = some d → ∃ ps, pss[i]? = some ps ∧ Cz n d ps ∧ wtD d ≤ wtL ds
  | _, _, .nil, _, _, e => by cases e
  | _, _, .cons (d := d0) (ds := ds) h t, 0, _, e => by
    cases e
    refine ⟨_, rfl, h, ?_⟩
    show _ ≤ wtD d0 + 1 + wtL ds
    omega
  | _, _, .cons (d := d0) (ds := ds) h t, i + 1, _, e => by
    obtain ⟨ps, h1, h2, h3⟩ := al_get t (i := i) e
    refine ⟨ps, h1, h2, ?_⟩
    show _ ≤ wtD d0 + 1 + wtL ds
    omega
theorem dzl_last {H : Hp} : ∀ {ds : List PyData} {xs : List V} {d : PyData}, DzL H xs (ds ++ [d]) → ∃ xi xl, xs = xi ++ [xl] ∧ Dz H xl d
  | [], _, _, .cons h t => by
    cases t
    exact ⟨[], _, rfl, h⟩
  | _ :: ds, _, _, .cons h t => by
    obtain ⟨xi, xl, e, hd⟩ := dzl_last t
    exact ⟨_ :: xi, xl, by rw [e]; rfl, hd⟩
/-- a thing that is a tuple -/
theorem It.view {n : Nat} {w : Str} {dl : PyData} {ds : List PyData} {ps : List Str} (h : It n w dl (.tuple ds) ps) : (¬ w ∈ funRec ∧ ∃ pss, Al n ds pss ∧ wtL ds ≤ 12998 ∧ ps = pss.flatten) ∨ (w ∈ funRec ∧ ∃ zs : List Str, ds = zs.map .str ∧ (∀ z ∈ zs, z ∈ nm12) ∧ zs.length ≤ 6 ∧ PyData.eqv (.tuple ds) dl = false ∧ ps = nmsP zs) ∨ (Cz n (.tuple ds) ps ∧ wtD (.tuple ds) ≤ 13000 ∧ (w ∈ funRec → PyData.tuple ds = dl)) := by
  generalize he : PyData.tuple ds = e at h
  cases h with
  | str => cases he
  | row h1 h2 h3 =>
    cases he
    exact .inl ⟨h1, _, h2, h3, rfl⟩
  | nms h1 h2 h3 h4 =>
    have e2 := PyData.tuple.inj he
    subst e2
    exact .inr (.inl ⟨h1, _, rfl, h2, h3, h4, rfl⟩)
  | term h1 h2 h3 =>
    subst he
    exact .inr (.inr ⟨h1, h2, h3⟩)
theorem ok_row {m : Nat} (F : Fun K "_law_row" "_law_row" s_law_row f fd) (G_law_pieces : Has P w K mg base "_law_pieces" ["_law_a_term"] (2 * m + 1) (spPieces m)) (m_list : mg "list" = none) : FnOk P w K mg base CX0 (2 * m + 2) f fd ["_law_word", "_law_things"] (spRow m) := by
  refine F.ok sc_law_row (fun vs H Q E h => ?_) (fun cdv A outer s H vs Q E hr h => ?_)
  · obtain ⟨z, v, x, ps, rfl, _⟩ := h
    rfl
  obtain ⟨z, v, x, ps, rfl, dz, rk, hw, hm20, q⟩ := h
  refine ⟨_, (pss_cons (ps_if (pt_cmpR op_in_seq (pv 0) (pe_lst (pa_cons pe_str (pa_cons pe_str pa_nil))) rfl) (pss_one (ps_ret (pe_op op_cat (pe_op op_cat (pe_lst (pa_cons pe_str pa_nil)) (pe_callTy call_list_of rfl m_list PyProof.Rows.Boot.«list» (pa_cons (pv 1) pa_nil))) (pe_lst (pa_cons pe_str pa_nil))))) pss_nil)
  (pss_cons (ps_set (i := 2) sc_law_row.nd rfl (.inl rfl) (pe_lst pa_nil))
  (pss_cons (ps_for PassesOwn.never rfl (pi_tup (pv 1)) (pg_name (i := 3) sc_law_row.nd rfl (.inl rfl)) (pss_one (ps_set (i := 2) sc_law_row.nd rfl (.inl rfl) (pe_op op_cat (pv 2) (pe_has G_law_pieces (hr.mono (by omega)) (pa_cons (pv 3) pa_nil))))))
  (pss_one (ps_ret (pv 2)))))), ?_⟩
  refine ⟨_, rfl, (by show 2 ≤ sizeLine; decide), fun p1 h1 => ?_⟩
  have s1 : Same H (upd H p1 (.lst (funRec.map V.str))) := same_new h1
  have e1 : upd H p1 (.lst (funRec.map V.str)) p1 = some (.lst (funRec.map V.str)) := upd_same
  refine ⟨p1, funRec.map V.str, rfl, .inl (SqL.of e1), rfl, rfl, _, rfl, ?_⟩
  have ein : inV (V.str z) (funRec.map V.str) = decide (z ∈ funRec) := inV_strs
  have dz1 := dz.tp (same_tp s1)
  rcases rk with ⟨hf, zs, rfl, rfl, hl⟩ | ⟨hf, ds, pss, rfl, ha, rfl⟩
  · refine ite_t (ein.trans (decide_eq_true hf)) ?_
    cases dz1 with
    | @tup p xs _ hp hx =>
      have ex : xs = zs.map V.str := by
        clear hl hw ein hf dz q hp
        induction zs generalizing xs with
        | nil => cases hx; rfl
        | cons a b ih =>
          cases hx with
          | cons h t =>
            cases h
            rw [ih t]
            rfl
      subst ex
      refine ⟨(by show 1 ≤ sizeLine; decide), fun p2 h2 => ?_⟩
      have s2 := same_new (o := .lst [.str "("]) h2
      refine ⟨_, rfl, p, _, rfl, .inr (SqT.of (s2 _ _ hp)), fun p3 h3 => ?_⟩
      have s3 := same_new (o := .lst (zs.map V.str)) h3
      have lz : (zs.map V.str).length ≤ 6 := by rw [List.length_map]; exact hl
      have big : (1000 : Nat) ≤ sizeLine := by decide
      refine ⟨p2, p3, _, _, rfl, rfl, s3 _ _ upd_same, upd_same, (by show 1 + _ ≤ sizeLine; omega), fun p4 h4 => ?_⟩
      have s4 := same_new (o := .lst ([.str "("] ++ zs.map V.str)) h4
      refine ⟨(by show 1 ≤ sizeLine; decide), fun p5 h5 => ?_⟩
      have s5 := same_new (o := .lst [.str ")"]) h5
      refine ⟨p4, p5, _, _, rfl, rfl, s5 _ _ upd_same, upd_same, (by show _ + 1 ≤ sizeLine; rw [List.length_append]; show 1 + _ + 1 ≤ _; omega), fun p6 h6 => ?_⟩
      refine q p6 _ (s1.trans (s2.trans (s3.trans (s4.trans (s5.trans (same_new h6)))))) ?_
      rw [upd_same, List.map_cons, List.map_append]
      rfl
  · refine ite_f (ein.trans (decide_eq_false hf)) ?_
    refine ⟨(by show 0 ≤ sizeLine; decide), fun L hL => ?_⟩
    have sL := same_new (o := .lst []) hL
    have hL0 : H L = none := same_none s1 hL
    cases dz with
    | @tup p xs _ hp hx =>
      have hw : 2 + wtL ds ≤ 13000 := hw
      have al := al_len ha
      refine ⟨_, rfl, p, rfl, ⟨_, SqT.of ((s1.trans sL) _ _ hp)⟩, for_tup (xs := xs) (fun i σ H' => ∃ (Lx : Addr) (t3 : Option V), σ = [some (.str z), some (.ref p), some (.ref Lx), t3] ∧ Same H H' ∧ H' Lx = some (.lst ((pss.take i).flatten.map V.str))) ?_ ?_ ?_ ?_⟩
      · exact ⟨L, none, rfl, s1.trans sL, upd_same⟩
      · rintro i σ H' hi ⟨Lx, t3, rfl, s', _⟩
        exact SqT.of (s' _ _ hp)
      · rintro i y σ H' hy ⟨Lx, t3, rfl, s', e'⟩
        obtain ⟨d, hd, dzd⟩ := hx.get hy
        obtain ⟨ps, hps, cz, hwt⟩ := al_get ha hd
        refine ⟨_, rfl, _, rfl, y, d, ps, rfl, dzd.tp (same_tp s'), cz, by omega, hm20, fun q2 HC sC eq2 => ?_⟩
        have li : i < pss.length := (List.getElem?_eq_some_iff.mp hps).1
        have tk : (pss.take (i + 1)).flatten = (pss.take i).flatten ++ ps := by
          rw [List.take_add_one, hps, List.flatten_append]
          simp
        have ll : (pss.take i).flatten.length + ps.length ≤ pss.flatten.length := by
          have : pss.flatten = (pss.take i).flatten ++ (pss.drop i).flatten := by rw [← List.flatten_append, List.take_append_drop]
          rw [this, List.length_append]
          have h2 : pss.drop i = ps :: pss.drop (i + 1) := by
            rw [List.drop_eq_getElem_cons li]
            rw [List.getElem?_eq_getElem li] at hps
            rw [Option.some.inj hps]
          rw [h2, List.flatten_cons, List.length_append]
          omega
        have big : (13010 : Nat) ≤ sizeLine := by decide
        refine ⟨Lx, q2, _, _, rfl, rfl, sC _ _ e', eq2, ?_, fun Ly hLy => ?_⟩
        · rw [List.length_map, List.length_map]
          omega
        · refine ⟨Ly, _, rfl, (s'.trans sC).trans (same_new hLy), ?_⟩
          rw [upd_same, tk, ← List.map_append]
      · rintro σ H' ⟨Lx, t3, rfl, s', e'⟩
        rw [hx.len, ha.len, List.take_length] at e'
        exact ⟨_, rfl, q Lx H' s' e'⟩
theorem pieces_ok {n : Nat} (F : Fun K "_law_pieces" "_law_pieces" s_law_pieces f fd) (G : ∀ m, n = m + 1 → Has P w K mg base "_law_pieces" ["_law_a_term"] (2 * m + 1) (spPieces m) ∧ Has P w K mg base "_law_row" ["_law_word", "_law_things"] (2 * m + 2) (spRow m)) (m_len : mg "len" = none) (m_str : mg "str" = none) (m_int : mg "int" = none) (m_isinstance : mg "isinstance" = none) : FnOk P w K mg base CX0 (2 * n + 1) f fd ["_law_a_term"] (spPieces n) := by
  refine F.ok sc_law_pieces (fun vs H Q E h => ?_) (fun cdv A outer s H vs Q E hr h => ?_)
  · obtain ⟨v, d, ps, rfl, _⟩ := h
    rfl
  obtain ⟨v, d, ps, rfl, dz, cz, hwt, hn20, q⟩ := h
  have pl := cz_len cz
  rcases cz_view hn20 cz hwt with ⟨i, rfl, rfl, hi⟩ | ⟨z, rfl, rfl, hz⟩ | ⟨z, rfl, rfl⟩ | ⟨z, rfl, rfl⟩ | ⟨m, z, its, dl, iss, rfl, nd⟩
  · cases dz with
    | @tup p xs _ hp hxs =>
      cases hxs with
      | @cons x0 xr _ _ h0 hxr =>
        cases h0
        cases hxr with
        | cons h1 t1 =>
          cases h1
          cases t1
          refine ⟨_, pss_cons (ps_set (i := 1) sc_law_pieces.nd rfl (.inl rfl) (pe_ix ix_tup (pv 0) pe_int (fun _ _ => rfl)))
  (pss_cons (ps_if (pt_cmpR op_eq (pe_callB call_len_seq rfl m_len PySem.boot_len (pa_cons (pv 0) pa_nil)) pe_int (nomark _)) (pss_one (ps_ret (pe_lst (pa_cons (pv 1) pa_nil)))) pss_nil)
  (pss_cons (ps_if (pt_cmpR op_in_seq (pv 1) (pe_lst (pa_cons pe_str (pa_cons pe_str pa_nil))) rfl) (pss_one (ps_ret (pe_lst (pa_cons (pe_callTy call_strB rfl m_str PyProof.Rows.Boot.«str» (pa_cons (pe_ix ix_tup (pv 0) pe_int (fun _ _ => rfl)) pa_nil)) pa_nil)))) pss_nil)
  (pss_cons (ps_if (pt_cmpR op_eq (pv 1) pe_str (nomark _)) (pss_one (ps_ret (pe_lst (pa_cons (pe_op op_add_str (pe_op op_add_str pe_str (pe_ix ix_tup (pv 0) pe_int (fun _ _ => rfl))) pe_str) pa_nil)))) pss_nil) pss_never))), ?_⟩
          refine ⟨_, rfl, p, _, _, _, rfl, rfl, SqT.of hp, atI_nat (j := 0) rfl, ?_⟩
          refine ⟨_, rfl, p, _, rfl, .inr (SqT.of hp), rfl, _, rfl, ite_f (by show decide (V.int 2 = V.int 1) = false; decide) ?_⟩
          refine ⟨_, rfl, (by show 2 ≤ sizeLine; decide), fun p1 h1 => ?_⟩
          have s1 := same_new (o := .lst [.str "num", .str "name"]) h1
          refine ⟨p1, _, rfl, .inl (SqL.of upd_same), rfl, rfl, _, rfl, ite_t (by decide +kernel) ?_⟩
          refine ⟨_, rfl, p, _, _, _, rfl, rfl, SqT.of (s1 _ _ hp), atI_nat (j := 1) rfl, .inl ⟨i, rfl, hi, (by show 1 ≤ sizeLine; decide), fun p2 h2 => ?_⟩⟩
          exact q p2 _ (s1.trans (same_new h2)) upd_same
  · cases dz with
    | @tup p xs _ hp hxs =>
      cases hxs with
      | @cons x0 xr _ _ h0 hxr =>
        cases h0
        cases hxr with
        | cons h1 t1 =>
          cases h1
          cases t1
          refine ⟨_, pss_cons (ps_set (i := 1) sc_law_pieces.nd rfl (.inl rfl) (pe_ix ix_tup (pv 0) pe_int (fun _ _ => rfl)))
  (pss_cons (ps_if (pt_cmpR op_eq (pe_callB call_len_seq rfl m_len PySem.boot_len (pa_cons (pv 0) pa_nil)) pe_int (nomark _)) (pss_one (ps_ret (pe_lst (pa_cons (pv 1) pa_nil)))) pss_nil)
  (pss_cons (ps_if (pt_cmpR op_in_seq (pv 1) (pe_lst (pa_cons pe_str (pa_cons pe_str pa_nil))) rfl) (pss_one (ps_ret (pe_lst (pa_cons (pe_callTy call_strB rfl m_str PyProof.Rows.Boot.«str» (pa_cons (pe_ix ix_tup (pv 0) pe_int (fun _ _ => rfl)) pa_nil)) pa_nil)))) pss_nil)
  (pss_cons (ps_if (pt_cmpR op_eq (pv 1) pe_str (nomark _)) (pss_one (ps_ret (pe_lst (pa_cons (pe_op op_add_str (pe_op op_add_str pe_str (pe_ix ix_tup (pv 0) pe_int (fun _ _ => rfl))) pe_str) pa_nil)))) pss_nil) pss_never))), ?_⟩
          refine ⟨_, rfl, p, _, _, _, rfl, rfl, SqT.of hp, atI_nat (j := 0) rfl, ?_⟩
          refine ⟨_, rfl, p, _, rfl, .inr (SqT.of hp), rfl, _, rfl, ite_f (by show decide (V.int 2 = V.int 1) = false; decide) ?_⟩
          refine ⟨_, rfl, (by show 2 ≤ sizeLine; decide), fun p1 h1 => ?_⟩
          have s1 := same_new (o := .lst [.str "num", .str "name"]) h1
          refine ⟨p1, _, rfl, .inl (SqL.of upd_same), rfl, rfl, _, rfl, ite_f (by decide +kernel) ?_⟩
          have l1 : ("\"" : Str).length = 1 := by decide +kernel
          have big : (1000 : Nat) ≤ sizeLine := by decide
          refine ⟨_, rfl, rfl, _, rfl, ite_t (by decide +kernel) ?_⟩
          refine ⟨_, rfl, p, _, _, _, rfl, rfl, SqT.of (s1 _ _ hp), atI_nat (j := 1) rfl, _, _, rfl, rfl, by omega, _, _, rfl, rfl, by rw [app_len]; omega, (by show 1 ≤ sizeLine; decide), fun p2 h2 => ?_⟩
          exact q p2 _ (s1.trans (same_new h2)) upd_same
  · cases dz with
    | @tup p xs _ hp hxs =>
      cases hxs with
      | @cons x0 xr _ _ h0 hxr =>
        cases h0
        cases hxr
        refine ⟨_, pss_cons (ps_set (i := 1) sc_law_pieces.nd rfl (.inl rfl) (pe_ix ix_tup (pv 0) pe_int (fun _ _ => rfl)))
  (pss_cons (ps_if (pt_cmpR op_eq (pe_callB call_len_seq rfl m_len PySem.boot_len (pa_cons (pv 0) pa_nil)) pe_int (nomark _)) (pss_one (ps_ret (pe_lst (pa_cons (pv 1) pa_nil)))) pss_nil)
  (pss_cons (ps_if (pt_cmpR op_in_seq (pv 1) (pe_lst (pa_cons pe_str (pa_cons pe_str pa_nil))) rfl) (pss_one (ps_ret (pe_lst (pa_cons (pe_callTy call_strB rfl m_str PyProof.Rows.Boot.«str» (pa_cons (pe_ix ix_tup (pv 0) pe_int (fun _ _ => rfl)) pa_nil)) pa_nil)))) pss_nil)
  (pss_cons (ps_if (pt_cmpR op_eq (pv 1) pe_str (nomark _)) (pss_one (ps_ret (pe_lst (pa_cons (pe_op op_add_str (pe_op op_add_str pe_str (pe_ix ix_tup (pv 0) pe_int (fun _ _ => rfl))) pe_str) pa_nil)))) pss_nil) pss_never))), ?_⟩
        refine ⟨_, rfl, p, _, _, _, rfl, rfl, SqT.of hp, atI_nat (j := 0) rfl, ?_⟩
        refine ⟨_, rfl, p, _, rfl, .inr (SqT.of hp), rfl, _, rfl, ite_t (by show decide (V.int 1 = V.int 1) = true; decide) ?_⟩
        refine ⟨_, rfl, (by show 1 ≤ sizeLine; decide), fun p2 h2 => ?_⟩
        exact q p2 _ (same_new h2) upd_same
  · cases dz with
    | @tup p xs _ hp hxs =>
      cases hxs with
      | @cons x0 xr _ _ h0 hxr =>
        cases h0
        cases hxr with
        | cons h1 t1 =>
          cases h1
          cases t1
          refine ⟨_, pss_cons (ps_set (i := 1) sc_law_pieces.nd rfl (.inl rfl) (pe_ix ix_tup (pv 0) pe_int (fun _ _ => rfl)))
  (pss_cons (ps_if (pt_cmpR op_eq (pe_callB call_len_seq rfl m_len PySem.boot_len (pa_cons (pv 0) pa_nil)) pe_int (nomark _)) (pss_one (ps_ret (pe_lst (pa_cons (pv 1) pa_nil)))) pss_nil)
  (pss_cons (ps_if (pt_cmpR op_in_seq (pv 1) (pe_lst (pa_cons pe_str (pa_cons pe_str pa_nil))) rfl) (pss_one (ps_ret (pe_lst (pa_cons (pe_callTy call_strB rfl m_str PyProof.Rows.Boot.«str» (pa_cons (pe_ix ix_tup (pv 0) pe_int (fun _ _ => rfl)) pa_nil)) pa_nil)))) pss_nil)
  (pss_cons (ps_if (pt_cmpR op_eq (pv 1) pe_str (nomark _)) (pss_one (ps_ret (pe_lst (pa_cons (pe_op op_add_str (pe_op op_add_str pe_str (pe_ix ix_tup (pv 0) pe_int (fun _ _ => rfl))) pe_str) pa_nil)))) pss_nil) pss_never))), ?_⟩
          refine ⟨_, rfl, p, _, _, _, rfl, rfl, SqT.of hp, atI_nat (j := 0) rfl, ?_⟩
          refine ⟨_, rfl, p, _, rfl, .inr (SqT.of hp), rfl, _, rfl, ite_f (by show decide (V.int 2 = V.int 1) = false; decide) ?_⟩
          refine ⟨_, rfl, (by show 2 ≤ sizeLine; decide), fun p1 h1 => ?_⟩
          have s1 := same_new (o := .lst [.str "num", .str "name"]) h1
          refine ⟨p1, _, rfl, .inl (SqL.of upd_same), rfl, rfl, _, rfl, ite_t (by decide +kernel) ?_⟩
          refine ⟨_, rfl, p, _, _, _, rfl, rfl, SqT.of (s1 _ _ hp), atI_nat (j := 1) rfl, .inr ⟨z, rfl, (by show 1 ≤ sizeLine; decide), fun p2 h2 => ?_⟩⟩
          exact q p2 _ (s1.trans (same_new h2)) upd_same
  -- a node
  obtain ⟨G_law_pieces, G_law_row⟩ := G m rfl
  have deq := nd.eq
  subst deq
  cases dz with
  | @tup p xs _ hp hxs =>
    cases hxs with
    | @cons x0 xr _ _ h0 hxr =>
      cases h0
      obtain ⟨init, einit⟩ := nd.last
      have lxr := hxr.len
      obtain ⟨f1, f2⟩ := nd.few
      obtain ⟨vl, hlast, dzl⟩ : ∃ vl, atI (V.str z :: xr) (-1) = some vl ∧ Dz H vl dl := by
        rw [einit] at hxr
        obtain ⟨xi, xl, rfl, dzl⟩ := dzl_last hxr
        exact ⟨xl, atI_last (V.str z :: xi) xl, dzl⟩
      have lps : iss.flatten.length + 2 ≤ 13005 := by
        have e1 := nd.pcs
        rw [e1, List.length_cons, List.length_append] at pl
        have : ([shutP] : List Str).length = 1 := rfl
        omega
      refine ⟨_, (pss_cons (ps_set (i := 1) sc_law_pieces.nd rfl (.inl rfl) (pe_ix ix_tup (pv 0) pe_int (fun _ _ => rfl)))
  (pss_cons (ps_if (pt_cmpR op_eq (pe_callB call_len_seq rfl m_len PySem.boot_len (pa_cons (pv 0) pa_nil)) pe_int (nomark _)) (pss_one (ps_ret (pe_lst (pa_cons (pv 1) pa_nil)))) pss_nil)
  (pss_cons (ps_if (pt_cmpR op_in_seq (pv 1) (pe_lst (pa_cons pe_str (pa_cons pe_str pa_nil))) rfl) (pss_one (ps_ret (pe_lst (pa_cons (pe_callTy call_strB rfl m_str PyProof.Rows.Boot.«str» (pa_cons (pe_ix ix_tup (pv 0) pe_int (fun _ _ => rfl)) pa_nil)) pa_nil)))) pss_nil)
  (pss_cons (ps_if (pt_cmpR op_eq (pv 1) pe_str (nomark _)) (pss_one (ps_ret (pe_lst (pa_cons (pe_op op_add_str (pe_op op_add_str pe_str (pe_ix ix_tup (pv 0) pe_int (fun _ _ => rfl))) pe_str) pa_nil)))) pss_nil)
  (pss_cons (ps_set (i := 2) sc_law_pieces.nd rfl (.inl rfl) (pe_lst (pa_cons pe_str pa_nil)))
  (pss_cons (ps_for PassesOwn.never rfl (pi_tup (pe_slice sl_tupA (pv 0) (po_some (pe_callTy call_int1 rfl m_int PyProof.Rows.Boot.«int» (pa_cons (pe_cmpR op_eq (pv 1) pe_str (nomark _)) pa_nil))) po_none)) (pg_name (i := 3) sc_law_pieces.nd rfl (.inl rfl)) (pss_one (ps_if (pt_val (pe_callB call_isi rfl m_isinstance PyProof.Rows.Boot.isinstance (pa_cons (pv 3) (pa_cons (pe_bltn (v := .ty "str") rfl m_str PyProof.Rows.Boot.«str» rfl) pa_nil)))) (pss_one (ps_expr (pe_bm PySem.F.plainAttrs_list PySem.F.slot_list_append PySem.F.type_list_append mt_append (pv 2) (pa_cons (pv 3) pa_nil)))) (pss_one (ps_if (PW.pt (pw_or (pt_cmpR (op_eqD hr.units) (pv 3) (pe_tup pa_nil) (nomark _)) (pw_or (pt_not (pt_val (pe_callB call_isi rfl m_isinstance PyProof.Rows.Boot.isinstance (pa_cons (pe_ix ix_tup (pv 3) pe_int (fun _ _ => rfl)) (pa_cons (pe_bltn (v := .ty "str") rfl m_str PyProof.Rows.Boot.«str» rfl) pa_nil))))) (pw_or1 (PW.pt (pw_and (pt_cmpR op_in_seq (pv 1) (pe_lst (pa_cons pe_str (pa_cons pe_str pa_nil))) rfl) (pw_and1 (pt_cmpR (op_neD hr.units) (pv 3) (pe_ix ix_tup (pv 0) (pe_un un_neg pe_int) (fun _ _ => rfl)) (nomark _))))))))) (pss_one (ps_set (i := 2) sc_law_pieces.nd rfl (.inl rfl) (pe_op op_cat (pv 2) (pe_has G_law_row (hr.mono (by omega)) (pa_cons (pv 1) (pa_cons (pv 3) pa_nil)))))) (pss_one (ps_set (i := 2) sc_law_pieces.nd rfl (.inl rfl) (pe_op op_cat (pv 2) (pe_has G_law_pieces (hr.mono (by omega)) (pa_cons (pv 3) pa_nil))))))))))
  (pss_one (ps_ret (pe_op op_cat (pv 2) (pe_lst (pa_cons pe_str pa_nil))))))))))), ?_⟩
      have hsq : ∀ {H' : Hp}, Same H H' → SqT K H' p (V.str z :: xr) := fun s' => SqT.of (s' _ _ hp)
      refine ⟨_, rfl, p, _, _, _, rfl, rfl, SqT.of hp, atI_nat (j := 0) rfl, ?_⟩
      refine ⟨_, rfl, p, _, rfl, .inr (SqT.of hp), rfl, _, rfl, ite_f (decide_eq_false fun e => ?_) ?_⟩
      · have e : ((xr.length + 1 : Nat) : Int) = 1 := V.int.inj e
        omega
      refine ⟨_, rfl, (by show 2 ≤ sizeLine; decide), fun p1 h1 => ?_⟩
      have s1 : Same H (upd H p1 (.lst ((["num", "name"] : List Str).map V.str))) := same_new h1
      have e1 : upd H p1 (.lst ((["num", "name"] : List Str).map V.str)) p1 = some (.lst ((["num", "name"] : List Str).map V.str)) := upd_same
      have ein1 : inV (V.str z) ((["num", "name"] : List Str).map V.str) = decide (z ∈ (["num", "name"] : List Str)) := inV_strs
      refine ⟨p1, (["num", "name"] : List Str).map V.str, rfl, .inl (SqL.of e1), rfl, rfl, _, rfl, ite_f (ein1.trans (decide_eq_false nd.no.1)) ?_⟩
      refine ⟨_, rfl, rfl, _, rfl, ite_f (decide_eq_false fun e => nd.no.2 (V.str.inj e)) ?_⟩
      refine ⟨(by show 1 ≤ sizeLine; decide), fun L hL => ?_⟩
      have sL : Same H (upd (upd H p1 (.lst ((["num", "name"] : List Str).map V.str))) L (.lst [.str "("])) := s1.trans (same_new hL)
      have eL0 : upd (upd H p1 (.lst ((["num", "name"] : List Str).map V.str))) L (.lst [.str "("]) L = some (.lst [.str "("]) := upd_same
      have hL0 : H L = none := same_none s1 hL
      refine ⟨_, rfl, _, rfl, rfl, .inr ⟨_, rfl, ?_⟩⟩
      rcases nd.itl with ⟨eop, itl⟩ | ⟨eop, itl⟩
      · have edec : decide (V.str z = V.str "op") = true := decide_eq_true (by rw [eop])
        rw [edec]
        refine ⟨_, rfl, p, _, rfl, hsq sL, fun c => absurd c not_whole, fun _ ta hta => ?_⟩
        rw [show (if true = true then (1 : Int) else 0) = 1 from rfl, cut1]
        have sT := same_new (o := .tup xr) hta
        refine ⟨ta, rfl, ⟨_, SqT.of upd_same⟩, ?_⟩
        refine for_tup (xs := xr) (fun i σ H' => ∃ (Lx : Addr) (t3 : Option V), σ = [some (.ref p), some (.str z), some (.ref Lx), t3] ∧ Same H H' ∧ H' ta = some (.tup xr) ∧ H Lx = none ∧ H' Lx = some (.lst ((("(" : Str) :: (iss.take i).flatten).map V.str))) ?_ ?_ ?_ ?_
        · exact ⟨L, none, rfl, sL.trans sT, upd_same, hL0, sT _ _ eL0⟩
        · rintro i σ H' hi ⟨Lx, t3, rfl, s', e', _, _⟩
          exact SqT.of e'
        · rintro i x σ HA hx ⟨Lx, t3, rfl, sA, eA, nLx, eL⟩
          obtain ⟨e, he, dze⟩ := hxr.get hx
          obtain ⟨qs, hqs, hit⟩ := itl.get he
          have dzA : Dz HA x e := dze.tp (same_tp sA)
          have li : i < iss.length := (List.getElem?_eq_some_iff.mp hqs).1
          have tk : (iss.take (i + 1)).flatten = (iss.take i).flatten ++ qs := by
            rw [List.take_add_one, hqs, List.flatten_append]
            simp
          have ll : ((("(" : Str) :: (iss.take (i + 1)).flatten)).length ≤ 13010 := by
            rw [List.length_cons, tk, List.length_append]
            have h1 : (iss.take i).flatten.length + qs.length ≤ iss.flatten.length := by
              have : iss.flatten = (iss.take i).flatten ++ (iss.drop i).flatten := by rw [← List.flatten_append, List.take_append_drop]
              rw [this, List.length_append]
              have h2 : iss.drop i = qs :: iss.drop (i + 1) := by
                rw [List.drop_eq_getElem_cons li]
                rw [List.getElem?_eq_getElem li] at hqs
                rw [Option.some.inj hqs]
              rw [h2, List.flatten_cons, List.length_append]
              omega
            omega
          have lbig : (13010 : Nat) < sizeLine := by decide
          -- a list at its end
          have fin : ∀ (Ly : Addr) (HB : Hp), Same H HB → HB ta = some (.tup xr) → H Ly = none → HB Ly = some (.lst ((("(" : Str) :: (iss.take i).flatten).map V.str ++ qs.map V.str)) → ∃ (Lx : Addr) (t3 : Option V), ([some (.ref p), some (.str z), some (.ref Ly), some x] : L2.St) = [some (.ref p), some (.str z), some (.ref Lx), t3] ∧ Same H HB ∧ HB ta = some (.tup xr) ∧ H Lx = none ∧ HB Lx = some (.lst ((("(" : Str) :: (iss.take (i + 1)).flatten).map V.str)) := by
            intro Ly HB h1 h2 h3 h4
            refine ⟨Ly, _, rfl, h1, h2, h3, ?_⟩
            rw [h4, tk, ← List.map_append]
            rfl
          -- what a cat does
          have cat : ∀ (q2 : Addr) (HB : Hp), Same HA HB → HB q2 = some (.lst (qs.map V.str)) → ∀ (Q2 : VK), (∀ Ly HC, Same H HC → HC ta = some (.tup xr) → H Ly = none → HC Ly = some (.lst ((("(" : Str) :: (iss.take i).flatten).map V.str ++ qs.map V.str)) → Q2 (.ref Ly) HC) → rCat (.ref Lx) (.ref q2) HB Q2 := by
            intro q2 HB sB eq2 Q2 k
            refine ⟨Lx, q2, _, _, rfl, rfl, sB _ _ eL, eq2, ?_, fun Ly hLy => ?_⟩
            · rw [← List.length_append, ← List.map_append, List.length_map]
              rw [tk] at ll
              exact Nat.le_of_lt (Nat.lt_of_le_of_lt ll lbig)
            · exact k Ly _ ((sA.trans sB).trans (same_new hLy)) (same_new hLy _ _ (sB _ _ eA)) (same_none (sA.trans sB) hLy) upd_same
          by_cases hstr : ∃ y, x = .str y
          · obtain ⟨y, rfl⟩ := hstr
            cases dzA
            have eq1 : qs = [y] := by
              cases hit with
              | str => rfl
              | term c _ _ =>
                obtain ⟨_, _, ec⟩ := cz_head c
                cases ec
            refine ⟨_, rfl, _, _, _, _, _, rfl, .ty "str", .base (.str y), kit_ty (r := true) (by decide +kernel), _, rfl, iteT ?_⟩
            refine ⟨_, rfl, .inl ⟨rfl, _, SqL.of eL⟩, _, rfl, Lx, _, _, rfl, rfl, eL, ?_, ?_⟩
            · rw [List.length_map]
              rw [tk, eq1] at ll
              simp only [List.length_cons, List.length_append] at ll ⊢
              have : (([y] : List Str)).length = 1 := rfl
              exact Nat.lt_of_le_of_lt (by simp at ll ⊢; omega) lbig
            · refine fin Lx _ (fun b o eb => ?_) ?_ nLx ?_
              · rw [upd_ne (ne_of_none eb nLx)]
                exact sA _ _ eb
              · exact upd_tp eL _ _ eA
              · rw [upd_same, eq1]
                rfl
          -- a tuple
          obtain ⟨q0, ws, ds, rfl, hq0, hws, rfl⟩ : ∃ (q0 : Addr) (ws : List V) (ds : List PyData), x = .ref q0 ∧ HA q0 = some (.tup ws) ∧ DzL HA ws ds ∧ e = .tuple ds := by
            have tt : ∃ ds, e = .tuple ds := by
              cases hit with
              | @str y =>
                cases dzA
                exact absurd ⟨y, rfl⟩ hstr
              | row _ _ _ => exact ⟨_, rfl⟩
              | nms _ _ _ _ => exact ⟨_, rfl⟩
              | term c _ _ =>
                obtain ⟨_, _, ec⟩ := cz_head c
                exact ⟨_, ec⟩
            obtain ⟨ds, rfl⟩ := tt
            cases dzA with
            | @tup q0 ws _ h1 h2 => exact ⟨q0, ws, ds, rfl, h1, h2, rfl⟩
          have she : SeqAt.shaped (.tuple ds) = true := by
            rcases hit.view with ⟨_, pss, ha, _, _⟩ | ⟨_, zs, e9, h3, _, _, _⟩ | ⟨c, _, _⟩
            · exact tup_shaped (by omega) (al_pr ha)
            · rw [e9]
              exact tup_shaped (n := m) (by omega) (prl_strs fun y hy => okS_nm12 (h3 y hy))
            · exact cz_shape c (by omega)
          refine ⟨_, rfl, _, _, _, _, _, rfl, .ty "str", .base (.tup hq0), kit_ty (r := false) (by decide +kernel), _, rfl, iteF ?_⟩
          refine ⟨_, rfl, (by show 0 ≤ sizeLine; decide), fun e0 he0 => ?_⟩
          have s0 : Same HA (upd HA e0 (.tup [])) := same_new he0
          have ee0 : upd HA e0 (.tup []) e0 = some (.tup []) := upd_same
          generalize upd HA e0 (.tup []) = HB at *
          have sB := sA.trans s0
          have dze2 : Dz HB (.ref q0) (.tuple ds) := .tup (s0 _ _ hq0) (hws.tp (same_tp s0))
          have she0 : SeqAt.shaped (.tuple []) = true := by decide +kernel
          refine ⟨_, _, dze2.dp, .tup (SqT.of ee0) .nil, she, she0, _, rfl, ?_⟩
          by_cases hnil : ds = []
          · subst hnil
            refine ite_t (by decide +kernel) ?_
            have rk : RowOk m z (.tuple []) qs := by
              rcases hit.view with ⟨h1, pss, h2, _, e9⟩ | ⟨h1, zs, e9, h3, h4, _, e8⟩ | ⟨c, _, _⟩
              · exact .inr ⟨h1, _, _, rfl, h2, e9⟩
              · exact .inl ⟨h1, zs, by rw [← e9], e8, h4⟩
              · obtain ⟨_, _, ec⟩ := cz_head c
                cases ec
            refine ⟨_, rfl, _, rfl, _, rfl, z, .ref q0, .tuple [], qs, rfl, dze2, rk, (by show 2 ≤ 13000; decide), by omega, fun q2 HC sC eq2 => ?_⟩
            exact cat q2 HC (s0.trans sC) eq2 _ fun Ly HD h1 h2 h3 h4 => fin Ly HD h1 h2 h3 h4
          have e3 : PyData.eqv (.tuple ds) (.tuple []) = false := by
            cases ds with
            | nil => exact absurd rfl hnil
            | cons a b => simp [PyData.eqv, PyData.eqvAll]
          refine ite_f e3 ?_
          obtain ⟨w0, wr, d0, dr, rfl, rfl, hw0⟩ : ∃ w0 wr d0 dr, ws = w0 :: wr ∧ ds = d0 :: dr ∧ Dz HA w0 d0 := by
            cases hws with
            | nil => exact absurd rfl hnil
            | cons h t => exact ⟨_, _, _, _, rfl, rfl, h⟩
          have hw0B : Dz HB w0 d0 := hw0.tp (same_tp s0)
          refine ⟨_, rfl, q0, _, _, _, rfl, rfl, SqT.of (s0 _ _ hq0), atI_nat (j := 0) rfl, ?_⟩
          by_cases hs0 : ∃ y, d0 = .str y
          · obtain ⟨y, rfl⟩ := hs0
            cases hw0B
            refine ⟨_, _, _, _, _, rfl, .ty "str", .base (.str y), kit_ty (r := true) (by decide +kernel), _, rfl, iteF ?_⟩
            refine ⟨_, rfl, (by show 2 ≤ sizeLine; decide), fun p7 h7 => ?_⟩
            have s7 : Same HB (upd HB p7 (.lst (funRec.map V.str))) := same_new h7
            have e7 : upd HB p7 (.lst (funRec.map V.str)) p7 = some (.lst (funRec.map V.str)) := upd_same
            refine ⟨p7, funRec.map V.str, rfl, .inl (SqL.of e7), rfl, rfl, _, rfl, ?_⟩
            have ein : inV (V.str z) (funRec.map V.str) = decide (z ∈ funRec) := inV_strs
            have s07 := s0.trans s7
            have dze7 := dze2.tp (same_tp s7)
            by_cases hfr : z ∈ funRec
            · refine ite_t (ein.trans (decide_eq_true hfr)) ?_
              have dlB := dzl.tp (same_tp (sB.trans s7))
              refine ⟨_, rfl, _, rfl, 1, rfl, p, _, _, _, rfl, rfl, SqT.of ((sB.trans s7) _ _ hp), hlast, ?_⟩
              refine ⟨_, _, dze7.dp, dlB.dp, she, nd.shp, _, rfl, ?_⟩
              rcases hit.view with ⟨h1, _⟩ | ⟨h1, zs, e9, h3, h4, h5, e8⟩ | ⟨c, hc, hdl⟩
              · exact absurd hfr h1
              · refine ite_t (by rw [h5]; rfl) ?_
                refine ⟨_, rfl, _, rfl, _, rfl, z, .ref q0, _, qs, rfl, dze7, .inl ⟨hfr, zs, by rw [e9], e8, h4⟩, ?_, by omega, fun q2 HC sC eq2 => ?_⟩
                · rw [e9]
                  show 2 + wtL (zs.map .str) ≤ 13000
                  rw [wt_strs]
                  omega
                · exact cat q2 HC (s07.trans sC) eq2 _ fun Ly HD h1 h2 h3 h4 => fin Ly HD h1 h2 h3 h4
              · have ed := hdl hfr
                refine ite_f (by rw [← ed, SeqAt.eqv_refl _ (SeqAt.canLay_of_shaped she)]; rfl) ?_
                refine ⟨_, rfl, _, rfl, .ref q0, _, _, rfl, dze7, c, hc, by omega, fun q2 HC sC eq2 => ?_⟩
                exact cat q2 HC (s07.trans sC) eq2 _ fun Ly HD h1 h2 h3 h4 => fin Ly HD h1 h2 h3 h4
            · refine ite_f (ein.trans (decide_eq_false hfr)) ?_
              rcases hit.view with ⟨h1, pss, ha, _, _⟩ | ⟨h1, _⟩ | ⟨c, hc, _⟩
              · have := al_hd ha
                cases this
              · exact absurd h1 hfr
              · refine ⟨_, rfl, _, rfl, .ref q0, _, _, rfl, dze7, c, hc, by omega, fun q2 HC sC eq2 => ?_⟩
                exact cat q2 HC (s07.trans sC) eq2 _ fun Ly HD h1 h2 h3 h4 => fin Ly HD h1 h2 h3 h4
          · obtain ⟨q1, wt, dt, rfl, hq1, rfl⟩ : ∃ q1 wt dt, w0 = .ref q1 ∧ HB q1 = some (.tup wt) ∧ d0 = .tuple dt := by
              have tt : ∃ dt, d0 = .tuple dt := by
                rcases hit.view with ⟨h1, pss, ha, _, _⟩ | ⟨h1, zs, e9, _⟩ | ⟨c, hc, _⟩
                · cases ha with
                  | cons c _ =>
                    obtain ⟨_, _, ec⟩ := cz_head c
                    exact ⟨_, ec⟩
                · cases zs with
                  | nil => cases e9
                  | cons a b =>
                    cases e9
                    exact absurd ⟨a, rfl⟩ hs0
                · obtain ⟨w9, _, ec⟩ := cz_head c
                  cases ec
                  exact absurd ⟨w9, rfl⟩ hs0
              obtain ⟨dt, rfl⟩ := tt
              cases hw0B with
              | @tup q1 wt _ h1 _ => exact ⟨q1, wt, dt, rfl, h1, rfl⟩
            refine ⟨_, _, _, _, _, rfl, .ty "str", .base (.tup hq1), kit_ty (r := false) (by decide +kernel), _, rfl, iteT ?_⟩
            rcases hit.view with ⟨h1, pss, ha, hwl, e9⟩ | ⟨h1, zs, e9, _⟩ | ⟨c, hc, _⟩
            · refine ⟨_, rfl, _, rfl, _, rfl, z, .ref q0, _, qs, rfl, dze2, .inr ⟨h1, _, _, rfl, ha, e9⟩, ?_, by omega, fun q2 HC sC eq2 => ?_⟩
              · show 2 + wtL (.tuple dt :: dr) ≤ 13000
                omega
              · exact cat q2 HC (s0.trans sC) eq2 _ fun Ly HD h1 h2 h3 h4 => fin Ly HD h1 h2 h3 h4
            · cases zs with
              | nil => cases e9
              | cons a b => cases e9
            · obtain ⟨w9, _, ec⟩ := cz_head c
              cases ec
        · rintro σ HA ⟨Lx, t3, rfl, sA, eA, nLx, eL⟩
          rw [hxr.len, itl.len, List.take_length] at eL
          refine ⟨_, rfl, (by show 1 ≤ sizeLine; decide), fun p8 h8 => ?_⟩
          have s8 := same_new (o := .lst [.str ")"]) h8
          refine ⟨Lx, p8, _, _, rfl, rfl, s8 _ _ eL, upd_same, ?_, fun Ly hLy => ?_⟩
          · rw [List.length_map, List.length_cons]
            exact Nat.le_of_lt (Nat.lt_of_le_of_lt (show iss.flatten.length + 1 + 1 ≤ 13010 by omega) (by decide))
          · refine q Ly _ (sA.trans (s8.trans (same_new hLy))) ?_
            rw [upd_same, nd.pcs, List.map_cons, List.map_cons, List.map_append]
            rfl
      · have edec : decide (V.str z = V.str "op") = false := decide_eq_false fun e => eop (V.str.inj e)
        rw [edec]
        refine ⟨_, rfl, p, _, rfl, hsq sL, fun _ => ?_, fun c => absurd ⟨?_, ?_⟩ c⟩
        · refine ⟨p, rfl, ⟨_, hsq sL⟩, ?_⟩
          refine for_tup (xs := (V.str z :: xr)) (fun i σ H' => ∃ (Lx : Addr) (t3 : Option V), σ = [some (.ref p), some (.str z), some (.ref Lx), t3] ∧ Same H H' ∧ H' p = some (.tup (V.str z :: xr)) ∧ H Lx = none ∧ H' Lx = some (.lst ((("(" : Str) :: (iss.take i).flatten).map V.str))) ?_ ?_ ?_ ?_
          · exact ⟨L, none, rfl, sL, sL _ _ hp, hL0, eL0⟩
          · rintro i σ H' hi ⟨Lx, t3, rfl, s', e', _, _⟩
            exact SqT.of e'
          · rintro i x σ HA hx ⟨Lx, t3, rfl, sA, eA, nLx, eL⟩
            obtain ⟨e, he, dze⟩ := (DzL.cons (.str z) hxr).get hx
            obtain ⟨qs, hqs, hit⟩ := itl.get he
            have dzA : Dz HA x e := dze.tp (same_tp sA)
            have li : i < iss.length := (List.getElem?_eq_some_iff.mp hqs).1
            have tk : (iss.take (i + 1)).flatten = (iss.take i).flatten ++ qs := by
              rw [List.take_add_one, hqs, List.flatten_append]
              simp
            have ll : ((("(" : Str) :: (iss.take (i + 1)).flatten)).length ≤ 13010 := by
              rw [List.length_cons, tk, List.length_append]
              have h1 : (iss.take i).flatten.length + qs.length ≤ iss.flatten.length := by
                have : iss.flatten = (iss.take i).flatten ++ (iss.drop i).flatten := by rw [← List.flatten_append, List.take_append_drop]
                rw [this, List.length_append]
                have h2 : iss.drop i = qs :: iss.drop (i + 1) := by
                  rw [List.drop_eq_getElem_cons li]
                  rw [List.getElem?_eq_getElem li] at hqs
                  rw [Option.some.inj hqs]
                rw [h2, List.flatten_cons, List.length_append]
                omega
              omega
            have lbig : (13010 : Nat) < sizeLine := by decide
            -- a list at its end
            have fin : ∀ (Ly : Addr) (HB : Hp), Same H HB → HB p = some (.tup (V.str z :: xr)) → H Ly = none → HB Ly = some (.lst ((("(" : Str) :: (iss.take i).flatten).map V.str ++ qs.map V.str)) → ∃ (Lx : Addr) (t3 : Option V), ([some (.ref p), some (.str z), some (.ref Ly), some x] : L2.St) = [some (.ref p), some (.str z), some (.ref Lx), t3] ∧ Same H HB ∧ HB p = some (.tup (V.str z :: xr)) ∧ H Lx = none ∧ HB Lx = some (.lst ((("(" : Str) :: (iss.take (i + 1)).flatten).map V.str)) := by
              intro Ly HB h1 h2 h3 h4
              refine ⟨Ly, _, rfl, h1, h2, h3, ?_⟩
              rw [h4, tk, ← List.map_append]
              rfl
            -- what a cat does
            have cat : ∀ (q2 : Addr) (HB : Hp), Same HA HB → HB q2 = some (.lst (qs.map V.str)) → ∀ (Q2 : VK), (∀ Ly HC, Same H HC → HC p = some (.tup (V.str z :: xr)) → H Ly = none → HC Ly = some (.lst ((("(" : Str) :: (iss.take i).flatten).map V.str ++ qs.map V.str)) → Q2 (.ref Ly) HC) → rCat (.ref Lx) (.ref q2) HB Q2 := by
              intro q2 HB sB eq2 Q2 k
              refine ⟨Lx, q2, _, _, rfl, rfl, sB _ _ eL, eq2, ?_, fun Ly hLy => ?_⟩
              · rw [← List.length_append, ← List.map_append, List.length_map]
                rw [tk] at ll
                exact Nat.le_of_lt (Nat.lt_of_le_of_lt ll lbig)
              · exact k Ly _ ((sA.trans sB).trans (same_new hLy)) (same_new hLy _ _ (sB _ _ eA)) (same_none (sA.trans sB) hLy) upd_same
            by_cases hstr : ∃ y, x = .str y
            · obtain ⟨y, rfl⟩ := hstr
              cases dzA
              have eq1 : qs = [y] := by
                cases hit with
                | str => rfl
                | term c _ _ =>
                  obtain ⟨_, _, ec⟩ := cz_head c
                  cases ec
              refine ⟨_, rfl, _, _, _, _, _, rfl, .ty "str", .base (.str y), kit_ty (r := true) (by decide +kernel), _, rfl, iteT ?_⟩
              refine ⟨_, rfl, .inl ⟨rfl, _, SqL.of eL⟩, _, rfl, Lx, _, _, rfl, rfl, eL, ?_, ?_⟩
              · rw [List.length_map]
                rw [tk, eq1] at ll
                simp only [List.length_cons, List.length_append] at ll ⊢
                have : (([y] : List Str)).length = 1 := rfl
                exact Nat.lt_of_le_of_lt (by simp at ll ⊢; omega) lbig
              · refine fin Lx _ (fun b o eb => ?_) ?_ nLx ?_
                · rw [upd_ne (ne_of_none eb nLx)]
                  exact sA _ _ eb
                · exact upd_tp eL _ _ eA
                · rw [upd_same, eq1]
                  rfl
            -- a tuple
            obtain ⟨q0, ws, ds, rfl, hq0, hws, rfl⟩ : ∃ (q0 : Addr) (ws : List V) (ds : List PyData), x = .ref q0 ∧ HA q0 = some (.tup ws) ∧ DzL HA ws ds ∧ e = .tuple ds := by
              have tt : ∃ ds, e = .tuple ds := by
                cases hit with
                | @str y =>
                  cases dzA
                  exact absurd ⟨y, rfl⟩ hstr
                | row _ _ _ => exact ⟨_, rfl⟩
                | nms _ _ _ _ => exact ⟨_, rfl⟩
                | term c _ _ =>
                  obtain ⟨_, _, ec⟩ := cz_head c
                  exact ⟨_, ec⟩
              obtain ⟨ds, rfl⟩ := tt
              cases dzA with
              | @tup q0 ws _ h1 h2 => exact ⟨q0, ws, ds, rfl, h1, h2, rfl⟩
            have she : SeqAt.shaped (.tuple ds) = true := by
              rcases hit.view with ⟨_, pss, ha, _, _⟩ | ⟨_, zs, e9, h3, _, _, _⟩ | ⟨c, _, _⟩
              · exact tup_shaped (by omega) (al_pr ha)
              · rw [e9]
                exact tup_shaped (n := m) (by omega) (prl_strs fun y hy => okS_nm12 (h3 y hy))
              · exact cz_shape c (by omega)
            refine ⟨_, rfl, _, _, _, _, _, rfl, .ty "str", .base (.tup hq0), kit_ty (r := false) (by decide +kernel), _, rfl, iteF ?_⟩
            refine ⟨_, rfl, (by show 0 ≤ sizeLine; decide), fun e0 he0 => ?_⟩
            have s0 : Same HA (upd HA e0 (.tup [])) := same_new he0
            have ee0 : upd HA e0 (.tup []) e0 = some (.tup []) := upd_same
            generalize upd HA e0 (.tup []) = HB at *
            have sB := sA.trans s0
            have dze2 : Dz HB (.ref q0) (.tuple ds) := .tup (s0 _ _ hq0) (hws.tp (same_tp s0))
            have she0 : SeqAt.shaped (.tuple []) = true := by decide +kernel
            refine ⟨_, _, dze2.dp, .tup (SqT.of ee0) .nil, she, she0, _, rfl, ?_⟩
            by_cases hnil : ds = []
            · subst hnil
              refine ite_t (by decide +kernel) ?_
              have rk : RowOk m z (.tuple []) qs := by
                rcases hit.view with ⟨h1, pss, h2, _, e9⟩ | ⟨h1, zs, e9, h3, h4, _, e8⟩ | ⟨c, _, _⟩
                · exact .inr ⟨h1, _, _, rfl, h2, e9⟩
                · exact .inl ⟨h1, zs, by rw [← e9], e8, h4⟩
                · obtain ⟨_, _, ec⟩ := cz_head c
                  cases ec
              refine ⟨_, rfl, _, rfl, _, rfl, z, .ref q0, .tuple [], qs, rfl, dze2, rk, (by show 2 ≤ 13000; decide), by omega, fun q2 HC sC eq2 => ?_⟩
              exact cat q2 HC (s0.trans sC) eq2 _ fun Ly HD h1 h2 h3 h4 => fin Ly HD h1 h2 h3 h4
            have e3 : PyData.eqv (.tuple ds) (.tuple []) = false := by
              cases ds with
              | nil => exact absurd rfl hnil
              | cons a b => simp [PyData.eqv, PyData.eqvAll]
            refine ite_f e3 ?_
            obtain ⟨w0, wr, d0, dr, rfl, rfl, hw0⟩ : ∃ w0 wr d0 dr, ws = w0 :: wr ∧ ds = d0 :: dr ∧ Dz HA w0 d0 := by
              cases hws with
              | nil => exact absurd rfl hnil
              | cons h t => exact ⟨_, _, _, _, rfl, rfl, h⟩
            have hw0B : Dz HB w0 d0 := hw0.tp (same_tp s0)
            refine ⟨_, rfl, q0, _, _, _, rfl, rfl, SqT.of (s0 _ _ hq0), atI_nat (j := 0) rfl, ?_⟩
            by_cases hs0 : ∃ y, d0 = .str y
            · obtain ⟨y, rfl⟩ := hs0
              cases hw0B
              refine ⟨_, _, _, _, _, rfl, .ty "str", .base (.str y), kit_ty (r := true) (by decide +kernel), _, rfl, iteF ?_⟩
              refine ⟨_, rfl, (by show 2 ≤ sizeLine; decide), fun p7 h7 => ?_⟩
              have s7 : Same HB (upd HB p7 (.lst (funRec.map V.str))) := same_new h7
              have e7 : upd HB p7 (.lst (funRec.map V.str)) p7 = some (.lst (funRec.map V.str)) := upd_same
              refine ⟨p7, funRec.map V.str, rfl, .inl (SqL.of e7), rfl, rfl, _, rfl, ?_⟩
              have ein : inV (V.str z) (funRec.map V.str) = decide (z ∈ funRec) := inV_strs
              have s07 := s0.trans s7
              have dze7 := dze2.tp (same_tp s7)
              by_cases hfr : z ∈ funRec
              · refine ite_t (ein.trans (decide_eq_true hfr)) ?_
                have dlB := dzl.tp (same_tp (sB.trans s7))
                refine ⟨_, rfl, _, rfl, 1, rfl, p, _, _, _, rfl, rfl, SqT.of ((sB.trans s7) _ _ hp), hlast, ?_⟩
                refine ⟨_, _, dze7.dp, dlB.dp, she, nd.shp, _, rfl, ?_⟩
                rcases hit.view with ⟨h1, _⟩ | ⟨h1, zs, e9, h3, h4, h5, e8⟩ | ⟨c, hc, hdl⟩
                · exact absurd hfr h1
                · refine ite_t (by rw [h5]; rfl) ?_
                  refine ⟨_, rfl, _, rfl, _, rfl, z, .ref q0, _, qs, rfl, dze7, .inl ⟨hfr, zs, by rw [e9], e8, h4⟩, ?_, by omega, fun q2 HC sC eq2 => ?_⟩
                  · rw [e9]
                    show 2 + wtL (zs.map .str) ≤ 13000
                    rw [wt_strs]
                    omega
                  · exact cat q2 HC (s07.trans sC) eq2 _ fun Ly HD h1 h2 h3 h4 => fin Ly HD h1 h2 h3 h4
                · have ed := hdl hfr
                  refine ite_f (by rw [← ed, SeqAt.eqv_refl _ (SeqAt.canLay_of_shaped she)]; rfl) ?_
                  refine ⟨_, rfl, _, rfl, .ref q0, _, _, rfl, dze7, c, hc, by omega, fun q2 HC sC eq2 => ?_⟩
                  exact cat q2 HC (s07.trans sC) eq2 _ fun Ly HD h1 h2 h3 h4 => fin Ly HD h1 h2 h3 h4
              · refine ite_f (ein.trans (decide_eq_false hfr)) ?_
                rcases hit.view with ⟨h1, pss, ha, _, _⟩ | ⟨h1, _⟩ | ⟨c, hc, _⟩
                · have := al_hd ha
                  cases this
                · exact absurd h1 hfr
                · refine ⟨_, rfl, _, rfl, .ref q0, _, _, rfl, dze7, c, hc, by omega, fun q2 HC sC eq2 => ?_⟩
                  exact cat q2 HC (s07.trans sC) eq2 _ fun Ly HD h1 h2 h3 h4 => fin Ly HD h1 h2 h3 h4
            · obtain ⟨q1, wt, dt, rfl, hq1, rfl⟩ : ∃ q1 wt dt, w0 = .ref q1 ∧ HB q1 = some (.tup wt) ∧ d0 = .tuple dt := by
                have tt : ∃ dt, d0 = .tuple dt := by
                  rcases hit.view with ⟨h1, pss, ha, _, _⟩ | ⟨h1, zs, e9, _⟩ | ⟨c, hc, _⟩
                  · cases ha with
                    | cons c _ =>
                      obtain ⟨_, _, ec⟩ := cz_head c
                      exact ⟨_, ec⟩
                  · cases zs with
                    | nil => cases e9
                    | cons a b =>
                      cases e9
                      exact absurd ⟨a, rfl⟩ hs0
                  · obtain ⟨w9, _, ec⟩ := cz_head c
                    cases ec
                    exact absurd ⟨w9, rfl⟩ hs0
                obtain ⟨dt, rfl⟩ := tt
                cases hw0B with
                | @tup q1 wt _ h1 _ => exact ⟨q1, wt, dt, rfl, h1, rfl⟩
              refine ⟨_, _, _, _, _, rfl, .ty "str", .base (.tup hq1), kit_ty (r := false) (by decide +kernel), _, rfl, iteT ?_⟩
              rcases hit.view with ⟨h1, pss, ha, hwl, e9⟩ | ⟨h1, zs, e9, _⟩ | ⟨c, hc, _⟩
              · refine ⟨_, rfl, _, rfl, _, rfl, z, .ref q0, _, qs, rfl, dze2, .inr ⟨h1, _, _, rfl, ha, e9⟩, ?_, by omega, fun q2 HC sC eq2 => ?_⟩
                · show 2 + wtL (.tuple dt :: dr) ≤ 13000
                  omega
                · exact cat q2 HC (s0.trans sC) eq2 _ fun Ly HD h1 h2 h3 h4 => fin Ly HD h1 h2 h3 h4
              · cases zs with
                | nil => cases e9
                | cons a b => cases e9
              · obtain ⟨w9, _, ec⟩ := cz_head c
                cases ec
          · rintro σ HA ⟨Lx, t3, rfl, sA, eA, nLx, eL⟩
            rw [(DzL.cons (.str z) hxr).len, itl.len, List.take_length] at eL
            refine ⟨_, rfl, (by show 1 ≤ sizeLine; decide), fun p8 h8 => ?_⟩
            have s8 := same_new (o := .lst [.str ")"]) h8
            refine ⟨Lx, p8, _, _, rfl, rfl, s8 _ _ eL, upd_same, ?_, fun Ly hLy => ?_⟩
            · rw [List.length_map, List.length_cons]
              exact Nat.le_of_lt (Nat.lt_of_le_of_lt (show iss.flatten.length + 1 + 1 ≤ 13010 by omega) (by decide))
            · refine q Ly _ (sA.trans (s8.trans (same_new hLy))) ?_
              rw [upd_same, nd.pcs, List.map_cons, List.map_cons, List.map_append]
              rfl
        · show HT.sIx _ 0 (some 0) = 0
          show min 0 _ = 0
          omega
        · exact HT.sIx_none _ _
end
end Wp
set_option Elab.async false
set_option linter.all false
set_option maxRecDepth 100000
set_option maxHeartbeats 1000000
namespace Wp
open PySem PySem.Spec PyProof.Rows L2
-- _law_apart: slots _law_one 0, _law_two 1
abbrev s_law_apart : Stmt := top 46
theorem sc_law_apart : FnScope ["_law_one", "_law_two"] ["_law_one", "_law_two"] (defScope s_law_apart) := ⟨rfl, rfl, rfl, by decide +kernel, rfl, by decide +kernel, by decide +kernel⟩
abbrev sl_law_apart : List Str := ["_law_one", "_law_two"]
-- _law_text: slots _law_pieces_here 0, _law_told 1, _law_one 2, _law_two 3
abbrev s_law_text : Stmt := top 47
theorem sc_law_text : FnScope ["_law_pieces_here", "_law_told", "_law_one", "_law_two"] ["_law_pieces_here"] (defScope s_law_text) := ⟨rfl, rfl, rfl, by decide +kernel, rfl, by decide +kernel, by decide +kernel⟩
abbrev sl_law_text : List Str := ["_law_pieces_here", "_law_told", "_law_one", "_law_two"]
-- _law_loose: slots _law_dr 0, _law_pieces_here 1, _law_spaces 2, _law_told 3, _law_one 4, _law_two 5, _law_ends 6
abbrev s_law_loose : Stmt := top 48
theorem sc_law_loose : FnScope ["_law_dr", "_law_pieces_here", "_law_spaces", "_law_told", "_law_one", "_law_two", "_law_ends"] ["_law_dr", "_law_pieces_here"] (defScope s_law_loose) := ⟨rfl, rfl, rfl, by decide +kernel, rfl, by decide +kernel, by decide +kernel⟩
abbrev sl_law_loose : List Str := ["_law_dr", "_law_pieces_here", "_law_spaces", "_law_told", "_law_one", "_law_two", "_law_ends"]
/-- zip(row, row[1:]): it ends with the lesser one -/
theorem for_zipS {K : PySem.W.Frag} {a b : Addr} {xs ys : List V} {g : TG} {tb : TS} {D : Ends} {σ : L2.St} {H : Hp} (hl : ys.length ≤ xs.length) (Pv : Nat → L2.St → Hp → Prop) (h0 : Pv 0 σ H) (hq : ∀ i σ H, Pv i σ H → SqL K H a xs ∧ SqL K H b ys)
    (hs : ∀ (i : Nat) (x y : V) (T : Addr) (σ : L2.St) (H : Hp), xs[i]? = some x → ys[i]? = some y → Pv i σ H → H T = none → g (.ref T) σ (upd H T (.tup [x, y])) fun σ2 H2 => tb { D with nx := Pv (i + 1), ct := Pv (i + 1), bk := D.nx } σ2 H2) (hd : ∀ σ H, Pv ys.length σ H → D.nx σ H) :
    ∃ W : Nat → Nat → L2.St → Hp → Prop, (∃ m, W 0 m σ H) ∧ ∀ i m σ H, W i m σ H → ((L2.Itz K a b).stop i H ∧ D.nx σ H) ∨ ((L2.Itz K a b).go i H ∧ ∃ N : L2.St → Hp → Prop, (∀ σ' H', N σ' H' → ∃ m', m' < m ∧ W (i + 1) m' σ' H') ∧ ∀ v H', (L2.Itz K a b).yld i H v H' → g v σ H' fun σ2 H2 => tb { D with nx := N, ct := N, bk := D.nx } σ2 H2) := by
  refine ⟨fun i m σ H => m = ys.length - i ∧ i ≤ ys.length ∧ Pv i σ H, ⟨ys.length, rfl, Nat.zero_le _, h0⟩, ?_⟩
  rintro i m σ H ⟨rfl, hi, pv⟩
  obtain ⟨qa, qb⟩ := hq i σ H pv
  rcases Nat.lt_or_ge i ys.length with lt | ge
  · have lt2 : i < xs.length := by omega
    refine .inr ⟨⟨xs, ys, _, _, qa, qb, List.getElem?_eq_getElem lt2, List.getElem?_eq_getElem lt⟩, Pv (i + 1), fun σ2 H2 p2 => ⟨ys.length - (i + 1), by omega, rfl, lt, p2⟩, fun v H2 yl => ?_⟩
    obtain ⟨T, u1, u2, rfl, hT, rfl, k1, k2⟩ := yl
    exact hs i u1 u2 T σ H (k1 xs qa) (k2 ys qb) pv hT
  · obtain rfl : i = ys.length := by omega
    exact .inl ⟨⟨xs, ys, qa, qb, .inr (Nat.le_refl _)⟩, hd σ H pv⟩
/-! ### the pieces are short -/
def Pb (ps : List Str) : Prop := ∀ p ∈ ps, 1 ≤ p.length ∧ p.length ≤ 110
theorem pb_app {xs ys : List Str} (h : Pb xs) (h2 : Pb ys) : Pb (xs ++ ys) := fun p hp => by
  rcases List.mem_append.mp hp with e | e
  · exact h p e
  · exact h2 p e
theorem pb_one {z : Str} (h : 1 ≤ z.length) (h2 : z.length ≤ 110) : Pb [z] := fun p hp => by
  rw [List.mem_singleton.mp hp]
  exact ⟨h, h2⟩
theorem pb_name {z : Str} (h : isName z = true) : 1 ≤ z.length ∧ z.length ≤ 110 := by
  obtain ⟨h1, h2, _⟩ := isName_str.mp h
  rw [Array.length_toList] at h1 h2
  exact ⟨h1, Nat.le_trans h2 (by decide)⟩
theorem pb_brk {w : Str} {ps : List Str} (hw : 1 ≤ w.length ∧ w.length ≤ 110) (h : Pb ps) : Pb (brk w ps) := by
  intro p hp
  rcases List.mem_cons.mp hp with e | e
  · rw [e]
    decide +kernel
  · rcases List.mem_append.mp e with e | e
    · rcases List.mem_cons.mp e with e | e
      · rw [e]
        exact hw
      · exact h p e
    · rw [List.mem_singleton.mp e]
      decide +kernel
theorem pb_fix : ∀ w ∈ fixW, 1 ≤ w.length ∧ w.length ≤ 110 := by decide +kernel
mutual
theorem cz_pb : ∀ {n : Nat} {d : PyData} {ps : List Str}, Cz n d ps → Pb ps
  | _, _, _, .num _ h2 => by
    obtain ⟨_, _, _, c, r, e, _⟩ := tok_num (bs := []) (Nat.le_trans h2 (by decide))
    refine pb_one ?_ (Nat.le_trans (len_tl h2) (by decide))
    show 1 ≤ Array.size _
    rw [← Array.length_toList, e]
    simp
  | _, _, _, .text (z := z) _ h2 => by
    have l1 : ("\"" : Str).length = 1 := by decide +kernel
    have := len_tl h2
    refine pb_one ?_ ?_ <;> rw [app_len, app_len, l1] <;> omega
  | _, _, _, .yes h => by
    have k : ∀ z ∈ noNames, 1 ≤ z.length ∧ z.length ≤ 110 := by decide +kernel
    exact pb_one (k _ h).1 (k _ h).2
  | _, _, _, .name h _ => pb_one (pb_name h).1 (pb_name h).2
  | _, _, _, .fix hw fc => pb_brk (pb_fix _ hw) (fc_pb fc)
  | _, _, _, .call hf ha _ => pb_brk (by decide +kernel) (pb_app (cz_pb hf) (al_pb ha))
  | _, _, _, .do_ ha _ _ => pb_brk (by decide +kernel) (al_pb ha)
  | _, _, _, .op ho ha => by
    have k : ∀ p ∈ ops, 1 ≤ p.1.length ∧ p.1.length ≤ 110 := by decide +kernel
    exact pb_brk (k _ ho) (al_pb ha)
theorem fc_pb : ∀ {n : Nat} {fb : Option Str} {ks : List Str} {xs : List PyData} {iss : List (List Str)}, Fc n fb ks xs iss → Pb iss.flatten
  | _, _, _, _, _, .nil => fun p hp => by cases hp
  | _, _, _, _, _, .binder h _ t => pb_app (pb_one (pb_name h).1 (pb_name h).2) (fc_pb t)
  | _, _, _, _, _, .tag h t => pb_app (pb_one (pb_name h).1 (pb_name h).2) (fc_pb t)
  | _, _, _, _, _, .binders _ _ h _ t => by
    refine pb_app (fun p hp => ?_) (fc_pb t)
    rcases List.mem_cons.mp hp with e | e
    · rw [e]
      decide +kernel
    · rcases List.mem_append.mp e with e | e
      · exact pb_name (nm12_ok p (h p e)).1
      · rw [List.mem_singleton.mp e]
        decide +kernel
  | _, _, _, _, _, .part h t => pb_app (cz_pb h) (fc_pb t)
theorem al_pb : ∀ {n : Nat} {ds : List PyData} {pss : List (List Str)}, Al n ds pss → Pb pss.flatten
  | _, _, _, .nil => fun p hp => by cases hp
  | _, _, _, .cons h t => pb_app (cz_pb h) (al_pb t)
end
theorem tx_len : ∀ (p : Str) (ps : List Str), Pb ps → (tx p ps).length ≤ 111 * ps.length
  | _, [], _ => Nat.zero_le _
  | p, q :: ps, h => by
    have k := tx_len q ps fun x hx => h x (List.mem_cons_of_mem _ hx)
    have hq := (h q List.mem_cons_self).2
    show (gl p q ++ (q.cps.toList ++ tx q ps)).length ≤ _
    have hl2 : q.cps.toList.length = q.cps.size := Array.length_toList
    rw [List.length_append, List.length_append]
    show _ ≤ 111 * (ps.length + 1)
    have g1 : (gl p q).length ≤ 1 := by
      unfold gl
      split <;> decide
    have hq' : q.cps.size ≤ 110 := hq
    omega
theorem last_take : ∀ (p : Str) (xs : List Str) (i : Nat) (l : Str), (p :: xs)[i]? = some l → lastP p (xs.take i) = l
  | p, _, 0, l, h => by
    cases h
    rfl
  | p, [], i + 1, l, h => by cases h
  | p, x :: xs, i + 1, l, h => last_take x xs i l h
theorem textC_step {p : Str} {xs : List Str} {i : Nat} {l y : Str} (h1 : (p :: xs)[i]? = some l) (h2 : xs[i]? = some y) : textC (p :: xs.take (i + 1)) = textC (p :: xs.take i) ++ (gl l y ++ y.cps.toList) := by
  show p.cps.toList ++ tx p (xs.take (i + 1)) = (p.cps.toList ++ tx p (xs.take i)) ++ _
  rw [List.take_add_one, h2, tx_app, last_take p xs i l h1, List.append_assoc]
  show _ ++ (_ ++ (gl l y ++ (y.cps.toList ++ []))) = _
  rw [List.append_nil]
theorem mul_b : ∀ b : Bool, MulOk (" " : Str) (if b = true then 1 else 0) := by
  intro b
  cases b
  · refine ⟨by decide, fun h => absurd (by decide) h, fun h => absurd (by decide) h⟩
  · refine ⟨by decide, fun _ h => absurd h (by decide), fun _ h => absurd h (by decide)⟩
def spApart : Sp := fun vs H Q _ => ∃ x y : Str, vs = [.str x, .str y] ∧ ∀ H', Same H H' → Q (.bl (decide (x = "(") || decide (y = ")"))) H'
def spText : Sp := fun vs H Q _ => ∃ (L : Addr) (p : Str) (xs : List Str), vs = [.ref L] ∧ H L = some (.lst ((p :: xs).map V.str)) ∧ Pb (p :: xs) ∧ xs.length ≤ 13010 ∧ ∀ (z : Str) (H' : Hp), Same H H' → z.cps.toList = textC (p :: xs) → Q (.str z) H'
def spLoose : Sp := fun vs H Q _ => ∃ (a : Addr) (n : Nat) (L : Addr) (p : Str) (xs : List Str), vs = [.ref a, .ref L] ∧ n + 13020 ≤ big ∧ Dr H a n ∧ H L = some (.lst ((p :: xs).map V.str)) ∧ Pb (p :: xs) ∧ xs.length ≤ 13010 ∧ ∀ (z : Str) (H' : Hp), Gx a H H' → Dr H' a (n + 13020) → Lo "(" (p :: xs) z.cps.toList → z.length ≤ 2000000 → Q (.str z) H'
def spaces : List Str := ["", "", " ", "\n", "  \n "]
theorem spaces_ok : ∀ s ∈ spaces, (∀ c ∈ s.cps.toList, c ∈ blanks.cps.toList) ∧ s.length ≤ 4 := by decide +kernel
section
variable {P : Program} {w : World} {K : PySem.W.Frag} {mg : Str → Option Value} {base : Heap} {f : Addr} {fd : FuncData}
theorem ok_apart (F : Fun K "_law_apart" "_law_apart" s_law_apart f fd) : FnOk P w K mg base CX0 1 f fd ["_law_one", "_law_two"] spApart := by
  refine F.ok sc_law_apart (fun vs H Q E h => ?_) (fun cdv A outer s H vs Q E hr h => ?_)
  · obtain ⟨x, y, rfl, _⟩ := h
    rfl
  obtain ⟨x, y, rfl, q⟩ := h
  refine ⟨_, (pss_one (ps_ret (pe_or (pe_cmpR op_in_seq (pv 0) (pe_lst (pa_cons pe_str pa_nil)) rfl) (pe_one (pe_cmpR op_eq (pv 1) pe_str (nomark _)))))), ?_⟩
  refine ⟨_, rfl, (by show 1 ≤ sizeLine; decide), fun p hp => ?_⟩
  have s1 := same_new (o := .lst [.str "("]) hp
  have ein : inV (V.str x) [.str "("] = decide (x ∈ (["("] : List Str)) := inV_strs (ks := ["("])
  have ein2 : decide (x ∈ (["("] : List Str)) = decide (x = "(") := decide_eq_decide.mpr (by simp)
  refine ⟨p, _, rfl, .inl (SqL.of upd_same), rfl, rfl, _, rfl, ?_⟩
  have q1 := q _ s1
  by_cases h : x = "("
  · refine ite_t (ein.trans (ein2.trans (decide_eq_true h))) ?_
    rw [decide_eq_true h, Bool.true_or] at q1
    exact q1
  · refine ite_f (ein.trans (ein2.trans (decide_eq_false h))) ?_
    rw [decide_eq_false h, Bool.false_or] at q1
    refine ⟨_, rfl, rfl, ?_⟩
    have e : decide (V.str y = V.str ")") = decide (y = ")") := decide_eq_decide.mpr ⟨fun e => V.str.inj e, fun e => by rw [e]⟩
    show Q (.bl (decide (V.str y = V.str ")"))) _
    rw [e]
    exact q1
theorem ok_text1 (F : Fun K "_law_text" "_law_text" s_law_text f fd) (G_law_apart : Has P w K mg base "_law_apart" ["_law_one", "_law_two"] 1 spApart) (m_zip : mg "zip" = none) (m_int : mg "int" = none) : FnOk P w K mg base CX0 2 f fd ["_law_pieces_here"] spText := by
  refine F.ok sc_law_text (fun vs H Q E h => ?_) (fun cdv A outer s H vs Q E hr h => ?_)
  · obtain ⟨L, p, xs, rfl, _⟩ := h
    rfl
  obtain ⟨L, p, xs, rfl, eL, pb, hl, q⟩ := h
  refine ⟨_, (pss_cons (ps_set (i := 1) sc_law_text.nd rfl (.inl rfl) (pe_ix ix_list (pv 0) pe_int (fun _ _ => rfl)))
  (pss_cons (ps_for PassesOwn.never rfl (RZ.pi_zipA rfl m_zip (pa_cons (pv 0) (pa_cons (pe_slice sl_list (pv 0) (po_some pe_int) po_none) pa_nil))) (pg_tup rfl (pgs_cons (pg_name (i := 2) sc_law_text.nd rfl (.inl rfl)) (pgs_cons (pg_name (i := 3) sc_law_text.nd rfl (.inl rfl)) pgs_nil))) (pss_one (ps_set (i := 1) sc_law_text.nd rfl (.inl rfl) (pe_op op_add_str (pe_op op_add_str (pv 1) (pe_op op_mulS pe_str (pe_callTy call_int1 rfl m_int PyProof.Rows.Boot.«int» (pa_cons (pe_not (pe_has G_law_apart (hr.mono (by omega)) (pa_cons (pv 2) (pa_cons (pv 3) pa_nil)))) pa_nil)))) (pv 3)))))
  (pss_one (ps_ret (pv 1))))), ?_⟩
  refine ⟨_, rfl, L, _, _, _, rfl, rfl, SqL.of eL, atI_nat (j := 0) rfl, ?_⟩
  refine ⟨_, rfl, _, rfl, 1, rfl, L, _, rfl, SqL.of eL, fun M hM => ?_⟩
  rw [List.map_cons, cut1]
  have sM : Same H (upd H M (.lst (xs.map V.str))) := same_new hM
  have eM : upd H M (.lst (xs.map V.str)) M = some (.lst (xs.map V.str)) := upd_same
  generalize upd H M (.lst (xs.map V.str)) = H1 at *
  have lbig : (13011 * 111 : Nat) ≤ sizeLine := by decide
  refine ⟨L, M, _, _, rfl, .inl ⟨SqL.of (sM _ _ eL), SqL.of eM, for_zipS (xs := (p :: xs).map V.str) (ys := xs.map V.str) (by simp) (fun i σ H' => ∃ (z : Str) (t2 t3 : Option V), σ = [some (.ref L), some (.str z), t2, t3] ∧ Same H1 H' ∧ z.cps.toList = textC (p :: xs.take i)) ?_ ?_ ?_ ?_⟩⟩
  · refine ⟨p, none, none, rfl, Same.refl _, ?_⟩
    show _ = p.cps.toList ++ []
    rw [List.append_nil]
  · rintro i σ H' ⟨z, t2, t3, rfl, s', _⟩
    exact ⟨SqL.of (s' _ _ (sM _ _ eL)), SqL.of (s' _ _ eM)⟩
  · rintro i x y T σ H' ex ey ⟨z, t2, t3, rfl, s', ez⟩ hT
    rw [List.getElem?_map] at ex ey
    obtain ⟨one, e1, rfl⟩ := Option.map_eq_some_iff.mp ex
    obtain ⟨two, e2, rfl⟩ := Option.map_eq_some_iff.mp ey
    have sT := same_new (o := .tup [.str one, .str two]) hT
    refine ⟨T, _, rfl, SqT.of upd_same, rfl, _, _, rfl, _, _, rfl, rfl, ?_⟩
    refine ⟨_, rfl, _, rfl, _, rfl, one, two, rfl, fun H2 s2 => ?_⟩
    have zl : z.length ≤ 111 * 13011 := by
      have h1 := tx_len p (xs.take i) fun x hx => pb x (List.mem_cons_of_mem _ (List.mem_of_mem_take hx))
      have h2 : (textC (p :: xs.take i)).length ≤ 110 + 111 * (xs.take i).length := by
        show (p.cps.toList ++ tx p (xs.take i)).length ≤ _
        rw [List.length_append, Array.length_toList]
        have := (pb p List.mem_cons_self).2
        have h3 : p.cps.size ≤ 110 := this
        omega
      rw [← ez, Array.length_toList] at h2
      have h4 : (xs.take i).length ≤ 13010 := by rw [List.length_take]; omega
      show z.cps.size ≤ _
      omega
    have tl := (pb two (List.mem_cons_of_mem _ (List.mem_of_getElem? e2))).2
    have lb2 : (3000000 : Nat) ≤ sizeLine := by decide
    generalize hb : (decide (one = "(") || decide (two = ")")) = b
    refine ⟨_, rfl, .inr ⟨_, rfl, " ", _, rfl, rfl, mul_b _, _, _, rfl, rfl, ?_, ?_⟩⟩
    · have : (Txt.mul " " (if (!b) = true then 1 else 0)).length ≤ 1 := by cases b <;> decide +kernel
      omega
    refine ⟨_, rfl, _, _, rfl, rfl, ?_, ?_⟩
    · rw [app_len]
      have : (Txt.mul " " (if (!b) = true then 1 else 0)).length ≤ 1 := by cases b <;> decide +kernel
      omega
    refine ⟨_, _, _, rfl, s'.trans (sT.trans s2), ?_⟩
    have em : (Txt.mul " " (if (!b) = true then 1 else 0)).cps.toList = gl one two := by
      cases b with
      | true =>
        rw [Bool.or_eq_true, decide_eq_true_eq, decide_eq_true_eq] at hb
        have e9 : gl one two = [] := if_pos hb
        rw [e9]
        decide +kernel
      | false =>
        have e9 : gl one two = [32] := if_neg fun h => by
          have : (decide (one = "(") || decide (two = ")")) = true := by
            rw [Bool.or_eq_true, decide_eq_true_eq, decide_eq_true_eq]
            exact h
          rw [this] at hb
          cases hb
        rw [e9]
        decide +kernel
    rw [Str.cps_append, Str.cps_append, Array.toList_append, Array.toList_append, em, ez, textC_step e1 e2, List.append_assoc]
  · rintro σ H' ⟨z, t2, t3, rfl, s', ez⟩
    rw [List.length_map, List.take_length] at ez
    exact ⟨_, rfl, q z H' (sM.trans s') ez⟩
theorem first_sign {p : Str} (h : 1 ≤ p.length) : ∃ c, atI p.cps.toList 0 = some c ∧ p.cps.toList.headD 0 = c := by
  match e : p.cps.toList with
  | [] =>
    have : p.cps.toList.length = p.length := Array.length_toList
    rw [e] at this
    rw [← this] at h
    cases h
  | c :: r => exact ⟨c, atI_nat (j := 0) rfl, rfl⟩
theorem ok_loose (F : Fun K "_law_loose" "_law_loose" s_law_loose f fd) (G_law_next : Has P w K mg base "_law_next" ["_law_dr"] 1 spNext) (m_zip : mg "zip" = none) (m_int : mg "int" = none) : FnOk P w K mg base CX0 2 f fd ["_law_dr", "_law_pieces_here"] spLoose := by
  refine F.ok sc_law_loose (fun vs H Q E h => ?_) (fun cdv A outer s H vs Q E hr h => ?_)
  · obtain ⟨a, n, L, p, xs, rfl, _⟩ := h
    rfl
  obtain ⟨a, n, L, p, xs, rfl, hn, d, eL, pb, hl, q⟩ := h
  have nLa : L ≠ a := fun e => by
    obtain ⟨x, c, b, e2, _⟩ := d
    rw [e, e2] at eL
    cases eL
  refine ⟨_, (pss_cons (ps_set (i := 2) sc_law_loose.nd rfl (.inl rfl) (pe_lst (pa_cons pe_str (pa_cons pe_str (pa_cons pe_str (pa_cons pe_str (pa_cons pe_str pa_nil)))))))
  (pss_cons (ps_set (i := 3) sc_law_loose.nd rfl (.inl rfl) (pe_op op_add_str (pe_ix ix_list (pv 2) (pe_op op_mod (pe_has G_law_next (hr.mono (by omega)) (pa_cons (pv 0) pa_nil)) pe_int) (fun _ _ => rfl)) (pe_ix ix_list (pv 1) pe_int (fun _ _ => rfl))))
  (pss_cons (ps_for PassesOwn.never rfl (RZ.pi_zipA rfl m_zip (pa_cons (pv 1) (pa_cons (pe_slice sl_list (pv 1) (po_some pe_int) po_none) pa_nil))) (pg_tup rfl (pgs_cons (pg_name (i := 4) sc_law_loose.nd rfl (.inl rfl)) (pgs_cons (pg_name (i := 5) sc_law_loose.nd rfl (.inl rfl)) pgs_nil))) (pss_cons (ps_set (i := 6) sc_law_loose.nd rfl (.inl rfl) (pe_or (pe_cmpR op_in_seq (pv 4) (pe_lst (pa_cons pe_str (pa_cons pe_str pa_nil))) rfl) (pe_or (pe_cmpR op_in_seq (pv 5) (pe_lst (pa_cons pe_str (pa_cons pe_str pa_nil))) rfl) (pe_or (pe_cmpR op_eq (pe_ix ix_str (pv 4) pe_int (fun _ _ => rfl)) pe_str (nomark _)) (pe_one (pe_cmpR op_eq (pe_ix ix_str (pv 5) pe_int (fun _ _ => rfl)) pe_str (nomark _)))))))
  (pss_one (ps_set (i := 3) sc_law_loose.nd rfl (.inl rfl) (pe_op op_add_str (pe_op op_add_str (pe_op op_add_str (pv 3) (pe_ix ix_list (pv 2) (pe_op op_mod (pe_has G_law_next (hr.mono (by omega)) (pa_cons (pv 0) pa_nil)) pe_int) (fun _ _ => rfl))) (pe_op op_mulS pe_str (pe_callTy call_int1 rfl m_int PyProof.Rows.Boot.«int» (pa_cons (pe_not (pv 6)) pa_nil)))) (pv 5))))))
  (pss_one (ps_ret (pe_op op_add_str (pv 3) (pe_ix ix_list (pv 2) (pe_op op_mod (pe_has G_law_next (hr.mono (by omega)) (pa_cons (pv 0) pa_nil)) pe_int) (fun _ _ => rfl)))))))), ?_⟩
  refine ⟨(by show 5 ≤ sizeLine; decide), fun S hS => ?_⟩
  have nSa : S ≠ a := d.ne hS
  have sS : Same H (upd H S (.lst (spaces.map V.str))) := same_new hS
  have eS : upd H S (.lst (spaces.map V.str)) S = some (.lst (spaces.map V.str)) := upd_same
  refine ⟨_, rfl, _, rfl, a, n, by omega, same_dr sS d, .cons rfl .nil, fun v H1 g1 d1 hv => ?_⟩
  obtain ⟨j, rfl, hj, _⟩ := hv
  obtain ⟨k, v6, hk, ek, ev6, ea6⟩ := pickN (xs := spaces.map V.str) (n := 5) hj rfl (by decide)
  rw [List.getElem?_map] at ev6
  obtain ⟨sp0, esp, rfl⟩ := Option.map_eq_some_iff.mp ev6
  obtain ⟨sb0, sl0⟩ := spaces_ok sp0 (List.mem_of_getElem? esp)
  have eS1 : H1 S = some (.lst (spaces.map V.str)) := g1 _ _ nSa eS
  have eL1 := g1 _ _ nLa (sS _ _ eL)
  have lbig : (3000000 : Nat) ≤ sizeLine := by decide
  have pl := (pb p List.mem_cons_self).2
  refine ⟨_, _, rfl, rfl, (by show (0 : Int) < 5; decide), S, _, _, _, rfl, rfl, SqL.of eS1, ea6, _, rfl, L, _, _, _, rfl, rfl, SqL.of eL1, atI_nat (j := 0) rfl, _, _, rfl, rfl, by omega, ?_⟩
  refine ⟨_, rfl, _, rfl, 1, rfl, L, _, rfl, SqL.of eL1, fun M hM => ?_⟩
  rw [List.map_cons, cut1]
  have nMa : M ≠ a := d1.ne hM
  have sM : Same H1 (upd H1 M (.lst (xs.map V.str))) := same_new hM
  have eM : upd H1 M (.lst (xs.map V.str)) M = some (.lst (xs.map V.str)) := upd_same
  generalize upd H1 M (.lst (xs.map V.str)) = H2 at *
  have d2 := same_dr sM d1
  have g2 : Gx a H H2 := (same_gx sS).trans (g1.trans (same_gx sM))
  refine ⟨L, M, _, _, rfl, .inl ⟨SqL.of (sM _ _ eL1), SqL.of eM, for_zipS (xs := (p :: xs).map V.str) (ys := xs.map V.str) (by simp) (fun i σ H' => ∃ (z : Str) (t4 t5 t6 : Option V), σ = [some (.ref a), some (.ref L), some (.ref S), some (.str z), t4, t5, t6] ∧ Gx a H H' ∧ Dr H' a (n + 1 + i) ∧ H' L = some (.lst ((p :: xs).map V.str)) ∧ H' M = some (.lst (xs.map V.str)) ∧ H' S = some (.lst (spaces.map V.str)) ∧ z.length ≤ 120 * (i + 1) ∧ ∀ cs, Lo (((p :: xs)[i]?).getD "") (xs.drop i) cs → Lo "(" (p :: xs) (z.cps.toList ++ cs)) ?_ ?_ ?_ ?_⟩⟩
  · refine ⟨_, none, none, none, rfl, g2, d2, sM _ _ eL1, eM, sM _ _ eS1, ?_, fun cs hcs => ?_⟩
    · rw [app_len]
      omega
    · rw [Str.cps_append, Array.toList_append, List.append_assoc]
      exact .cons sb0 (fun h _ => absurd h (by decide +kernel)) hcs
  · rintro i σ H' ⟨z, t4, t5, t6, rfl, _, _, h1, h2, _⟩
    exact ⟨SqL.of h1, SqL.of h2⟩
  · rintro i x y T σ H0 ex ey ⟨z, t4, t5, t6, rfl, gA0, dA0, eLA0, eMA0, eSA0, zl, hz⟩ hT
    rw [List.getElem?_map] at ex ey
    obtain ⟨one, e1, rfl⟩ := Option.map_eq_some_iff.mp ex
    obtain ⟨two, e2, rfl⟩ := Option.map_eq_some_iff.mp ey
    have sT := same_new (o := .tup [.str one, .str two]) hT
    have gA := gA0.trans (same_gx sT)
    have dA := same_dr sT dA0
    have eLA := sT _ _ eLA0
    have eMA := sT _ _ eMA0
    have eSA := sT _ _ eSA0
    have li : i < xs.length := (List.getElem?_eq_some_iff.mp e2).1
    have dr1 : xs.drop i = two :: xs.drop (i + 1) := by
      rw [List.drop_eq_getElem_cons li]
      rw [List.getElem?_eq_getElem li] at e2
      rw [Option.some.inj e2]
    have g1x : ((p :: xs)[i]?).getD "" = one := by rw [e1]; rfl
    have g2x : ((p :: xs)[i + 1]?).getD "" = two := by
      have : (p :: xs)[i + 1]? = xs[i]? := rfl
      rw [this, e2]
      rfl
    rw [g1x] at hz
    obtain ⟨o1, o2⟩ := pb one (List.mem_of_getElem? e1)
    obtain ⟨t1, t2⟩ := pb two (List.mem_cons_of_mem _ (List.mem_of_getElem? e2))
    obtain ⟨c1, a1, hd1⟩ := first_sign o1
    obtain ⟨c2, a2, hd2⟩ := first_sign t1
    have zb : z.length ≤ 1600000 := by omega
    refine ⟨T, _, rfl, SqT.of upd_same, rfl, _, _, rfl, _, _, rfl, rfl, ?_⟩
    have ql : ("\"" : Str) = ⟨#[34]⟩ := by decide +kernel
    have inP : ∀ y : Str, inV (V.str y) [.str "(", .str ")"] = decide (y ∈ (["(", ")"] : List Str)) := fun y => inV_strs (ks := ["(", ")"])
    refine ⟨_, rfl, (by show 2 ≤ sizeLine; decide), fun q1 k1 => ?_⟩
    have s1 := same_new (o := .lst [.str "(", .str ")"]) k1
    refine ⟨q1, _, rfl, .inl (SqL.of upd_same), rfl, rfl, _, rfl, ?_⟩
    rw [inP one]
    by_cases h1 : one ∈ (["(", ")"] : List Str)
    · rw [decide_eq_true h1]
      refine iteT ?_
      have ni : isTok one = true → False := fun h => by
        have k : ∀ y ∈ (["(", ")"] : List Str), isTok y = false := by decide +kernel
        rw [k one h1] at h
        cases h
      refine ⟨_, rfl, _, rfl, _, rfl, a, n + 1 + i, by omega, same_dr s1 dA, .cons rfl .nil, fun vv HC gC dC hvv => ?_⟩
      obtain ⟨jj, rfl, hjj, _⟩ := hvv
      obtain ⟨kk, v6, hkk, ekk, ev6, ea6⟩ := pickN (xs := spaces.map V.str) (n := 5) hjj rfl (by decide)
      rw [List.getElem?_map] at ev6
      obtain ⟨sp, esp, rfl⟩ := Option.map_eq_some_iff.mp ev6
      obtain ⟨sb, sl⟩ := spaces_ok sp (List.mem_of_getElem? esp)
      have nS : S ≠ a := nSa
      have eSC := gC _ _ nS (s1 _ _ eSA)
      refine ⟨_, _, rfl, rfl, (by show (0 : Int) < 5; decide), S, _, _, _, rfl, rfl, SqL.of eSC, ea6, _, _, rfl, rfl, by omega, ?_⟩
      refine ⟨_, rfl, _, rfl, .inr ⟨_, rfl, " ", _, rfl, rfl, mul_b false, _, _, rfl, rfl, ?_, ?_⟩⟩
      · rw [app_len]
        have : (Txt.mul " " (if (!true) = true then 1 else 0)).length ≤ 1 := by decide +kernel
        omega
      refine ⟨_, rfl, _, _, rfl, rfl, ?_, ?_⟩
      · rw [app_len, app_len]
        have : (Txt.mul " " (if (!true) = true then 1 else 0)).length ≤ 1 := by decide +kernel
        omega
      have eb : (Txt.mul " " (if (!true) = true then 1 else 0)).cps.toList = [] := by decide +kernel
      refine ⟨_, _, _, _, rfl, gA.trans ((same_gx s1).trans gC), dC.mono (by omega), gC _ _ nLa (s1 _ _ eLA), gC _ _ nMa (s1 _ _ eMA), gC _ _ nS (s1 _ _ eSA), ?_, fun cs hcs => ?_⟩
      · rw [app_len, app_len, app_len]
        have : (Txt.mul " " (if (!true) = true then 1 else 0)).length ≤ 1 := by decide +kernel
        omega
      · rw [g2x] at hcs
        have := hz (sp.cps.toList ++ [] ++ (two.cps.toList ++ cs)) (by rw [dr1]; exact .cons (fun c hc => by rcases List.mem_append.mp hc with e | e; exact sb c e; cases e) (fun h1 h2 => (ni h1).elim) hcs)
        rw [Str.cps_append, Str.cps_append, Str.cps_append, Array.toList_append, Array.toList_append, Array.toList_append, eb, List.append_assoc, List.append_assoc, List.append_assoc]
        rw [List.append_assoc] at this
        exact this
    rw [decide_eq_false h1]
    refine iteF ?_
    refine ⟨_, rfl, (by show 2 ≤ sizeLine; decide), fun q2 k2 => ?_⟩
    have s2 := same_new (o := .lst [.str "(", .str ")"]) k2
    refine ⟨q2, _, rfl, .inl (SqL.of upd_same), rfl, rfl, _, rfl, ?_⟩
    have s12 := s1.trans s2
    rw [inP two]
    by_cases h2 : two ∈ (["(", ")"] : List Str)
    · rw [decide_eq_true h2]
      refine iteT ?_
      have ni : isTok two = true → False := fun h => by
        have k : ∀ y ∈ (["(", ")"] : List Str), isTok y = false := by decide +kernel
        rw [k two h2] at h
        cases h
      refine ⟨_, rfl, _, rfl, _, rfl, a, n + 1 + i, by omega, same_dr s12 dA, .cons rfl .nil, fun vv HC gC dC hvv => ?_⟩
      obtain ⟨jj, rfl, hjj, _⟩ := hvv
      obtain ⟨kk, v6, hkk, ekk, ev6, ea6⟩ := pickN (xs := spaces.map V.str) (n := 5) hjj rfl (by decide)
      rw [List.getElem?_map] at ev6
      obtain ⟨sp, esp, rfl⟩ := Option.map_eq_some_iff.mp ev6
      obtain ⟨sb, sl⟩ := spaces_ok sp (List.mem_of_getElem? esp)
      have nS : S ≠ a := nSa
      have eSC := gC _ _ nS (s12 _ _ eSA)
      refine ⟨_, _, rfl, rfl, (by show (0 : Int) < 5; decide), S, _, _, _, rfl, rfl, SqL.of eSC, ea6, _, _, rfl, rfl, by omega, ?_⟩
      refine ⟨_, rfl, _, rfl, .inr ⟨_, rfl, " ", _, rfl, rfl, mul_b false, _, _, rfl, rfl, ?_, ?_⟩⟩
      · rw [app_len]
        have : (Txt.mul " " (if (!true) = true then 1 else 0)).length ≤ 1 := by decide +kernel
        omega
      refine ⟨_, rfl, _, _, rfl, rfl, ?_, ?_⟩
      · rw [app_len, app_len]
        have : (Txt.mul " " (if (!true) = true then 1 else 0)).length ≤ 1 := by decide +kernel
        omega
      have eb : (Txt.mul " " (if (!true) = true then 1 else 0)).cps.toList = [] := by decide +kernel
      refine ⟨_, _, _, _, rfl, gA.trans ((same_gx s12).trans gC), dC.mono (by omega), gC _ _ nLa (s12 _ _ eLA), gC _ _ nMa (s12 _ _ eMA), gC _ _ nS (s12 _ _ eSA), ?_, fun cs hcs => ?_⟩
      · rw [app_len, app_len, app_len]
        have : (Txt.mul " " (if (!true) = true then 1 else 0)).length ≤ 1 := by decide +kernel
        omega
      · rw [g2x] at hcs
        have := hz (sp.cps.toList ++ [] ++ (two.cps.toList ++ cs)) (by rw [dr1]; exact .cons (fun c hc => by rcases List.mem_append.mp hc with e | e; exact sb c e; cases e) (fun h1 h2 => (ni h2).elim) hcs)
        rw [Str.cps_append, Str.cps_append, Str.cps_append, Array.toList_append, Array.toList_append, Array.toList_append, eb, List.append_assoc, List.append_assoc, List.append_assoc]
        rw [List.append_assoc] at this
        exact this
    rw [decide_eq_false h2]
    refine iteF ?_
    have sd : ∀ c : Nat, decide (V.str ⟨#[c]⟩ = V.str "\"") = decide (c = 34) := fun c => by
      rw [ql]
      exact decide_eq_decide.mpr one_eq
    refine ⟨_, rfl, one, _, c1, rfl, rfl, by omega, a1, rfl, _, rfl, ?_⟩
    rw [sd c1]
    by_cases h3 : c1 = 34
    · rw [decide_eq_true h3]
      refine iteT ?_
      have ni : isTok one = true → False := fun h => by
        unfold isTok at h
        rw [hd1, decide_eq_true h3] at h
        simp at h
      refine ⟨_, rfl, _, rfl, _, rfl, a, n + 1 + i, by omega, same_dr s12 dA, .cons rfl .nil, fun vv HC gC dC hvv => ?_⟩
      obtain ⟨jj, rfl, hjj, _⟩ := hvv
      obtain ⟨kk, v6, hkk, ekk, ev6, ea6⟩ := pickN (xs := spaces.map V.str) (n := 5) hjj rfl (by decide)
      rw [List.getElem?_map] at ev6
      obtain ⟨sp, esp, rfl⟩ := Option.map_eq_some_iff.mp ev6
      obtain ⟨sb, sl⟩ := spaces_ok sp (List.mem_of_getElem? esp)
      have nS : S ≠ a := nSa
      have eSC := gC _ _ nS (s12 _ _ eSA)
      refine ⟨_, _, rfl, rfl, (by show (0 : Int) < 5; decide), S, _, _, _, rfl, rfl, SqL.of eSC, ea6, _, _, rfl, rfl, by omega, ?_⟩
      refine ⟨_, rfl, _, rfl, .inr ⟨_, rfl, " ", _, rfl, rfl, mul_b false, _, _, rfl, rfl, ?_, ?_⟩⟩
      · rw [app_len]
        have : (Txt.mul " " (if (!true) = true then 1 else 0)).length ≤ 1 := by decide +kernel
        omega
      refine ⟨_, rfl, _, _, rfl, rfl, ?_, ?_⟩
      · rw [app_len, app_len]
        have : (Txt.mul " " (if (!true) = true then 1 else 0)).length ≤ 1 := by decide +kernel
        omega
      have eb : (Txt.mul " " (if (!true) = true then 1 else 0)).cps.toList = [] := by decide +kernel
      refine ⟨_, _, _, _, rfl, gA.trans ((same_gx s12).trans gC), dC.mono (by omega), gC _ _ nLa (s12 _ _ eLA), gC _ _ nMa (s12 _ _ eMA), gC _ _ nS (s12 _ _ eSA), ?_, fun cs hcs => ?_⟩
      · rw [app_len, app_len, app_len]
        have : (Txt.mul " " (if (!true) = true then 1 else 0)).length ≤ 1 := by decide +kernel
        omega
      · rw [g2x] at hcs
        have := hz (sp.cps.toList ++ [] ++ (two.cps.toList ++ cs)) (by rw [dr1]; exact .cons (fun c hc => by rcases List.mem_append.mp hc with e | e; exact sb c e; cases e) (fun h1 h2 => (ni h1).elim) hcs)
        rw [Str.cps_append, Str.cps_append, Str.cps_append, Array.toList_append, Array.toList_append, Array.toList_append, eb, List.append_assoc, List.append_assoc, List.append_assoc]
        rw [List.append_assoc] at this
        exact this
    rw [decide_eq_false h3]
    refine iteF ?_
    refine ⟨_, rfl, two, _, c2, rfl, rfl, by omega, a2, rfl, ?_⟩
    rw [sd c2]
    by_cases h4 : c2 = 34
    · rw [decide_eq_true h4]
      have ni : isTok two = true → False := fun h => by
        unfold isTok at h
        rw [hd2, decide_eq_true h4] at h
        simp at h
      refine ⟨_, rfl, _, rfl, _, rfl, a, n + 1 + i, by omega, same_dr s12 dA, .cons rfl .nil, fun vv HC gC dC hvv => ?_⟩
      obtain ⟨jj, rfl, hjj, _⟩ := hvv
      obtain ⟨kk, v6, hkk, ekk, ev6, ea6⟩ := pickN (xs := spaces.map V.str) (n := 5) hjj rfl (by decide)
      rw [List.getElem?_map] at ev6
      obtain ⟨sp, esp, rfl⟩ := Option.map_eq_some_iff.mp ev6
      obtain ⟨sb, sl⟩ := spaces_ok sp (List.mem_of_getElem? esp)
      have nS : S ≠ a := nSa
      have eSC := gC _ _ nS (s12 _ _ eSA)
      refine ⟨_, _, rfl, rfl, (by show (0 : Int) < 5; decide), S, _, _, _, rfl, rfl, SqL.of eSC, ea6, _, _, rfl, rfl, by omega, ?_⟩
      refine ⟨_, rfl, _, rfl, .inr ⟨_, rfl, " ", _, rfl, rfl, mul_b false, _, _, rfl, rfl, ?_, ?_⟩⟩
      · rw [app_len]
        have : (Txt.mul " " (if (!true) = true then 1 else 0)).length ≤ 1 := by decide +kernel
        omega
      refine ⟨_, rfl, _, _, rfl, rfl, ?_, ?_⟩
      · rw [app_len, app_len]
        have : (Txt.mul " " (if (!true) = true then 1 else 0)).length ≤ 1 := by decide +kernel
        omega
      have eb : (Txt.mul " " (if (!true) = true then 1 else 0)).cps.toList = [] := by decide +kernel
      refine ⟨_, _, _, _, rfl, gA.trans ((same_gx s12).trans gC), dC.mono (by omega), gC _ _ nLa (s12 _ _ eLA), gC _ _ nMa (s12 _ _ eMA), gC _ _ nS (s12 _ _ eSA), ?_, fun cs hcs => ?_⟩
      · rw [app_len, app_len, app_len]
        have : (Txt.mul " " (if (!true) = true then 1 else 0)).length ≤ 1 := by decide +kernel
        omega
      · rw [g2x] at hcs
        have := hz (sp.cps.toList ++ [] ++ (two.cps.toList ++ cs)) (by rw [dr1]; exact .cons (fun c hc => by rcases List.mem_append.mp hc with e | e; exact sb c e; cases e) (fun h1 h2 => (ni h2).elim) hcs)
        rw [Str.cps_append, Str.cps_append, Str.cps_append, Array.toList_append, Array.toList_append, Array.toList_append, eb, List.append_assoc, List.append_assoc, List.append_assoc]
        rw [List.append_assoc] at this
        exact this
    · rw [decide_eq_false h4]
      refine ⟨_, rfl, _, rfl, _, rfl, a, n + 1 + i, by omega, same_dr s12 dA, .cons rfl .nil, fun vv HC gC dC hvv => ?_⟩
      obtain ⟨jj, rfl, hjj, _⟩ := hvv
      obtain ⟨kk, v6, hkk, ekk, ev6, ea6⟩ := pickN (xs := spaces.map V.str) (n := 5) hjj rfl (by decide)
      rw [List.getElem?_map] at ev6
      obtain ⟨sp, esp, rfl⟩ := Option.map_eq_some_iff.mp ev6
      obtain ⟨sb, sl⟩ := spaces_ok sp (List.mem_of_getElem? esp)
      have nS : S ≠ a := nSa
      have eSC := gC _ _ nS (s12 _ _ eSA)
      refine ⟨_, _, rfl, rfl, (by show (0 : Int) < 5; decide), S, _, _, _, rfl, rfl, SqL.of eSC, ea6, _, _, rfl, rfl, by omega, ?_⟩
      refine ⟨_, rfl, _, rfl, .inr ⟨_, rfl, " ", _, rfl, rfl, mul_b true, _, _, rfl, rfl, ?_, ?_⟩⟩
      · rw [app_len]
        have : (Txt.mul " " (if (!false) = true then 1 else 0)).length ≤ 1 := by decide +kernel
        omega
      refine ⟨_, rfl, _, _, rfl, rfl, ?_, ?_⟩
      · rw [app_len, app_len]
        have : (Txt.mul " " (if (!false) = true then 1 else 0)).length ≤ 1 := by decide +kernel
        omega
      have eb : (Txt.mul " " (if (!false) = true then 1 else 0)).cps.toList = [32] := by decide +kernel
      refine ⟨_, _, _, _, rfl, gA.trans ((same_gx s12).trans gC), dC.mono (by omega), gC _ _ nLa (s12 _ _ eLA), gC _ _ nMa (s12 _ _ eMA), gC _ _ nS (s12 _ _ eSA), ?_, fun cs hcs => ?_⟩
      · rw [app_len, app_len, app_len]
        have : (Txt.mul " " (if (!false) = true then 1 else 0)).length ≤ 1 := by decide +kernel
        omega
      · rw [g2x] at hcs
        have := hz (sp.cps.toList ++ [32] ++ (two.cps.toList ++ cs)) (by rw [dr1]; exact .cons (fun c hc => by rcases List.mem_append.mp hc with e | e; exact sb c e; rw [List.mem_singleton.mp e]; decide +kernel) (fun h1 h2 => by simp) hcs)
        rw [Str.cps_append, Str.cps_append, Str.cps_append, Array.toList_append, Array.toList_append, Array.toList_append, eb, List.append_assoc, List.append_assoc, List.append_assoc]
        rw [List.append_assoc] at this
        exact this
  · rintro σ H' ⟨z, t4, t5, t6, rfl, gE, dE, eLE, eME, eSE, zl, hz⟩
    rw [List.length_map] at dE zl hz
    refine ⟨_, rfl, _, rfl, _, rfl, a, n + 1 + xs.length, by omega, dE, .cons rfl .nil, fun vv HC gC dC hvv => ?_⟩
    obtain ⟨jj, rfl, hjj, _⟩ := hvv
    obtain ⟨kk, v7, hkk, ekk, ev7, ea7⟩ := pickN (xs := spaces.map V.str) (n := 5) hjj rfl (by decide)
    rw [List.getElem?_map] at ev7
    obtain ⟨sp, esp, rfl⟩ := Option.map_eq_some_iff.mp ev7
    obtain ⟨sb, sl⟩ := spaces_ok sp (List.mem_of_getElem? esp)
    refine ⟨_, _, rfl, rfl, (by show (0 : Int) < 5; decide), S, _, _, _, rfl, rfl, SqL.of (gC _ _ nSa eSE), ea7, _, _, rfl, rfl, by omega, ?_⟩
    refine q _ HC (gE.trans gC) (dC.mono (by omega)) ?_ ?_
    · rw [Str.cps_append, Array.toList_append]
      refine hz _ ?_
      rw [List.drop_length]
      exact .nil sb
    · rw [app_len]
      omega
end
end Wp
set_option Elab.async false
set_option linter.all false
set_option maxRecDepth 100000
set_option maxHeartbeats 1000000
namespace Wp
open PySem PySem.Spec PyProof.Rows L2
-- _law_size: slots _law_thing 0, _law_one 1, _law_sizes 2, _law_size_here 3
abbrev s_law_size : Stmt := top 49
theorem sc_law_size : FnScope ["_law_thing", "_law_one", "_law_sizes", "_law_size_here"] ["_law_thing"] (defScope s_law_size) := ⟨rfl, rfl, rfl, by decide +kernel, rfl, by decide +kernel, by decide +kernel⟩
abbrev sl_law_size : List Str := ["_law_thing", "_law_one", "_law_sizes", "_law_size_here"]
/-- data of tuples of at most twenty things, so deep -/
inductive Wd : Nat → PyData → Prop
  | int {n : Nat} (i : Int) : Wd n (.int i)
  | str {n : Nat} (z : Str) : Wd n (.str z)
  | tup {n : Nat} {ds : List PyData} : ds.length ≤ 20 → (∀ d ∈ ds, Wd n d) → SeqAt.shaped (.tuple ds) = true → Wd (n + 1) (.tuple ds)
theorem Wd.up {n : Nat} {d : PyData} (h : Wd n d) : Wd (n + 1) d := by
  induction h with
  | int i => exact .int i
  | str z => exact .str z
  | tup l _ s ih => exact .tup l ih s
theorem Wd.le {n m : Nat} {d : PyData} (h : Wd n d) (l : n ≤ m) : Wd m d := by
  induction l with
  | refl => exact h
  | step _ ih => exact ih.up
theorem wd_nil {n : Nat} : ∀ d ∈ ([] : List PyData), Wd n d := fun d h => by cases h
theorem wd_cons {n : Nat} {e : PyData} {ds : List PyData} (h : Wd n e) (t : ∀ d ∈ ds, Wd n d) : ∀ d ∈ e :: ds, Wd n d := fun d hd => by
  rcases List.mem_cons.mp hd with z | z
  · rw [z]; exact h
  · exact t d z
theorem wd_strs {n : Nat} (zs : List Str) : ∀ d ∈ zs.map PyData.str, Wd n d := fun d hd => by
  obtain ⟨x, _, rfl⟩ := List.mem_map.mp hd
  exact .str x
theorem Al.few {n : Nat} {ds : List PyData} {pss : List (List Str)} (_ : Al n ds pss) (h : ds.length ≤ 12) : ds.length ≤ 20 := by omega
mutual
theorem cz_wd : ∀ {n : Nat} {d : PyData} {ps : List Str}, Cz n d ps → n ≤ 20 → Wd (2 * n + 1) d
  | _, _, _, .num h1 h2, hn => .tup (by show 2 ≤ 20; decide) (wd_cons (.str _) (wd_cons (.int _) wd_nil)) (cz_shape (.num (n := 0) h1 h2) (by decide))
  | _, _, _, .text h1 h2, hn => .tup (by show 2 ≤ 20; decide) (wd_cons (.str _) (wd_cons (.str _) wd_nil)) (cz_shape (.text (n := 0) h1 h2) (by decide))
  | _, _, _, .yes h, hn => .tup (by show 1 ≤ 20; decide) (wd_cons (.str _) wd_nil) (cz_shape (.yes (n := 0) h) (by decide))
  | _, _, _, .name h1 h2, hn => .tup (by show 2 ≤ 20; decide) (wd_cons (.str _) (wd_cons (.str _) wd_nil)) (cz_shape (.name (n := 0) h1 h2) (by decide))
  | _, _, _, .fix (n := n) (its := its) hw fc, hn => by
    have f := (fix_facts _ hw).2.2.2.2.2.2.2.2.2.2.1
    rw [fc.len] at f
    exact .tup (by rw [List.length_cons]; omega) (wd_cons (.str _) (fc_wd fc (by omega))) (cz_shape (.fix hw fc) hn)
  | _, _, _, .call (n := n) hf ha hl, hn => .tup (by show 3 ≤ 20; decide) (wd_cons (.str _) (wd_cons ((cz_wd hf (by omega)).le (by omega)) (wd_cons (.tup (n := 2 * n + 1) (by omega) (al_wd ha (by omega)) (tup_shaped (by omega) (al_pr ha))) wd_nil))) (cz_shape (.call hf ha hl) hn)
  | _, _, _, .do_ (n := n) ha h1 h2, hn => .tup (by show 2 ≤ 20; decide) (wd_cons (.str _) (wd_cons (.tup (n := 2 * n + 1) (by omega) (al_wd ha (by omega)) (tup_shaped (by omega) (al_pr ha))) wd_nil)) (cz_shape (.do_ ha h1 h2) hn)
  | _, _, _, .op (n := n) ho ha, hn => by
    have k : ∀ p ∈ ops, p.2 ≤ 2 := by decide +kernel
    have l := k _ ho
    dsimp only at l
    exact .tup (by show 3 ≤ 20; decide) (wd_cons (.str _) (wd_cons (.str _) (wd_cons (.tup (n := 2 * n + 1) (by omega) (al_wd ha (by omega)) (tup_shaped (by omega) (al_pr ha))) wd_nil))) (cz_shape (.op ho ha) hn)
theorem fc_wd : ∀ {n : Nat} {fb : Option Str} {ks : List Str} {xs : List PyData} {iss : List (List Str)}, Fc n fb ks xs iss → n ≤ 20 → ∀ d ∈ xs, Wd (2 * n + 2) d
  | _, _, _, _, _, .nil, _ => wd_nil
  | _, _, _, _, _, .binder _ _ t, hn => wd_cons (.str _) (fc_wd t hn)
  | _, _, _, _, _, .tag _ t, hn => wd_cons (.str _) (fc_wd t hn)
  | _, _, _, _, _, .binders (n := n) (zs := zs) hl _ h _ t, hn => wd_cons (.tup (by rw [List.length_map]; omega) (wd_strs zs) (tup_shaped (n := n) hn (prl_strs fun z hz => okS_nm12 (h z hz)))) (fc_wd t hn)
  | _, _, _, _, _, .part h t, hn => wd_cons ((cz_wd h hn).le (by omega)) (fc_wd t hn)
theorem al_wd : ∀ {n : Nat} {ds : List PyData} {pss : List (List Str)}, Al n ds pss → n ≤ 20 → ∀ d ∈ ds, Wd (2 * n + 1) d
  | _, _, _, .nil, _ => wd_nil
  | _, _, _, .cons h t, hn => wd_cons (cz_wd h hn) (al_wd t hn)
end
def spSize (n : Nat) : Sp := fun vs H Q _ => ∃ (v : V) (d : PyData), vs = [v] ∧ Dz H v d ∧ Wd n d ∧ ∀ (p : Addr) (m : Int) (H' : Hp), Same H H' → H' p = some (.tup [.int (cntZ d : Nat), .int m]) → Q (.ref p) H'
section
variable {P : Program} {w : World} {K : PySem.W.Frag} {mg : Str → Option Value} {base : Heap} {f : Addr} {fd : FuncData}
theorem size_step {n : Nat} (F : Fun K "_law_size" "_law_size" s_law_size f fd) (G : ∀ m, n = m + 1 → Has P w K mg base "_law_size" ["_law_thing"] n (spSize m)) (m_isinstance : mg "isinstance" = none) (m_tuple : mg "tuple" = none) (m_str : mg "str" = none) (m_int : mg "int" = none) (m_sum : mg "sum" = none) (m_max : mg "max" = none) : FnOk P w K mg base CX0 (n + 1) f fd ["_law_thing"] (spSize n) := by
  refine F.ok sc_law_size (fun vs H Q E h => ?_) (fun cdv A outer s H vs Q E hr h => ?_)
  · obtain ⟨v, d, rfl, _⟩ := h
    rfl
  obtain ⟨v, d, rfl, dz, wd, q⟩ := h
  have plain : ∀ t : Value, TyX K H v t → PySem.W.kitOne K t (.type "tuple") = some false → cntZ d = 0 → ∃ t, PSs (cxOf CX0 P w K mg base sl_law_size "_law_size" (defScope s_law_size) f cdv A outer s H E).nox (defBody s_law_size) t ∧ t { nx := fun _ H' => Q .non H', rt := Q } (L2.start sl_law_size [v]) H := by
    intro t ht hk h0
    refine ⟨_, pss_cons (ps_if (PW.pt (pw_or (pt_not (pt_val (pe_callB call_isi rfl m_isinstance PyProof.Rows.Boot.isinstance (pa_cons (pv 0) (pa_cons (pe_bltn (v := .ty "tuple") rfl m_tuple PyProof.Rows.Boot.«tuple» rfl) pa_nil))))) (pw_or1 (pt_cmpR (op_eqD hr.units) (pv 0) (pe_tup pa_nil) (nomark _))))) (pss_one (ps_ret (pe_tup (pa_cons pe_int (pa_cons pe_int pa_nil))))) pss_nil) pss_never, ?_⟩
    refine ⟨_, rfl, _, _, _, _, _, rfl, .ty "tuple", ht, hk, _, rfl, iteT ?_⟩
    refine ⟨(by show 2 ≤ sizeLine; decide), fun p hp => q p 0 _ (same_new hp) ?_⟩
    rw [h0]
    exact upd_same
  cases wd with
  | int i =>
    cases dz
    exact plain _ (.base (.int i)) (kit_ty (by decide +kernel)) rfl
  | str z =>
    cases dz
    exact plain _ (.base (.str z)) (kit_ty (by decide +kernel)) rfl
  | @tup m ds hl hm hsh =>
    cases dz with
    | @tup p xs _ hp hx =>
      have G_law_size := G m rfl
      refine ⟨_, (pss_cons (ps_if (PW.pt (pw_or (pt_not (pt_val (pe_callB call_isi rfl m_isinstance PyProof.Rows.Boot.isinstance (pa_cons (pv 0) (pa_cons (pe_bltn (v := .ty "tuple") rfl m_tuple PyProof.Rows.Boot.«tuple» rfl) pa_nil))))) (pw_or1 (pt_cmpR (op_eqD hr.units) (pv 0) (pe_tup pa_nil) (nomark _))))) (pss_one (ps_ret (pe_tup (pa_cons pe_int (pa_cons pe_int pa_nil))))) pss_nil)
  (pss_cons (ps_setLc (i := 2) (own := [("_law_one", 1)]) (g := gName 1) (tt := tYes) (te := (tCall (spSize m) [] E0 (tCons (tVar 1) tNil))) rfl sc_law_size.nd rfl rfl (sw_true rfl rfl rfl (by decide +kernel)) (pi_tup (pv 0)) (blkOk_by (N := sl_law_size) (sc := defScope s_law_size) (by decide +kernel)) (fun _ _ _ _ _ => (pg_name (i := 1) sc_law_size.nd rfl (.inl rfl))) (fun _ _ _ _ _ => pts_nil) (fun _ _ _ _ _ => (pe_has G_law_size (hr.mono (by omega)) (pa_cons (pv 1) pa_nil))))
  (pss_cons (ps_set (i := 1) sc_law_size.nd rfl (.inl rfl) (pe_callTy call_int1 rfl m_int PyProof.Rows.Boot.«int» (pa_cons (pe_callB call_isi rfl m_isinstance PyProof.Rows.Boot.isinstance (pa_cons (pe_ix ix_tup (pv 0) pe_int (fun _ _ => rfl)) (pa_cons (pe_bltn (v := .ty "str") rfl m_str PyProof.Rows.Boot.«str» rfl) pa_nil))) pa_nil)))
  (pss_one (ps_ret (pe_tup (pa_cons (pe_op op_add (pv 1) (pe_callB (cr_sum rfl) rfl m_sum PyProof.Rows.Boot.sum (pa_cons (pe_lc (own := [("_law_size_here", 3)]) (g := gName 3) (tt := tYes) (te := (tOp (rIxT K) (tVar 3) (tC (.int 0)))) rfl sc_law_size.nd (pi_list (pv 2)) (blkOk_by (N := sl_law_size) (sc := defScope s_law_size) (by decide +kernel)) (fun _ _ _ _ _ => (pg_name (i := 3) sc_law_size.nd rfl (.inl rfl))) (fun _ _ _ _ _ => pts_nil) (fun _ _ _ _ _ => (pe_ix ix_tup (pv 3) pe_int (fun _ _ => rfl)))) pa_nil))) (pa_cons (pe_op op_add (pv 1) (pe_callB (cr_max rfl) rfl m_max PyProof.Rows.Boot.max (pa_cons (pe_lc (own := [("_law_size_here", 3)]) (g := gName 3) (tt := tYes) (te := (tOp (rIxT K) (tVar 3) (tC (.int 1)))) rfl sc_law_size.nd (pi_list (pv 2)) (blkOk_by (N := sl_law_size) (sc := defScope s_law_size) (by decide +kernel)) (fun _ _ _ _ _ => (pg_name (i := 3) sc_law_size.nd rfl (.inl rfl))) (fun _ _ _ _ _ => pts_nil) (fun _ _ _ _ _ => (pe_ix ix_tup (pv 3) pe_int (fun _ _ => rfl)))) pa_nil))) pa_nil)))))))), ?_⟩
      refine ⟨_, rfl, _, _, _, _, _, rfl, .ty "tuple", .base (.tup hp), kit_ty (r := true) (by decide +kernel), _, rfl, iteF ?_⟩
      refine ⟨_, rfl, (by show 0 ≤ sizeLine; decide), fun e0 he0 => ?_⟩
      have s0 : Same H (upd H e0 (.tup [])) := same_new he0
      have ee0 : upd H e0 (.tup []) e0 = some (.tup []) := upd_same
      generalize upd H e0 (.tup []) = H0 at *
      have dz0 : Dz H0 (.ref p) (.tuple ds) := .tup (s0 _ _ hp) (hx.tp (same_tp s0))
      refine ⟨_, _, dz0.dp, .tup (SqT.of ee0) .nil, hsh, by decide +kernel, _, rfl, ?_⟩
      have hp0 := s0 _ _ hp
      have hx0 := hx.tp (same_tp s0)
      by_cases hnil : ds = []
      · subst hnil
        refine ite_t (by decide +kernel) ?_
        exact ⟨(by show 2 ≤ sizeLine; decide), fun p1 hp1 => q p1 0 _ (s0.trans (same_new hp1)) upd_same⟩
      have e3 : PyData.eqv (.tuple ds) (.tuple []) = false := by
        cases ds with
        | nil => exact absurd rfl hnil
        | cons a b => simp [PyData.eqv, PyData.eqvAll]
      refine ite_f e3 ?_
      refine ⟨_, rfl, p, rfl, ⟨_, SqT.of hp0⟩, fun D hD => ?_⟩
      have lx : xs.length = ds.length := hx.len
      refine lc_tup (xs := xs) (fun i H' => Same H0 H' ∧ ∃ (ts : List V) (ms : List Int), H' D = some (.lst ts) ∧ ts.length = i ∧ ms.length = i ∧ ∀ j : Nat, j < i → ∃ (t : Addr) (dj : PyData) (mj : Int), ts[j]? = some (.ref t) ∧ ds[j]? = some dj ∧ ms[j]? = some mj ∧ H' t = some (.tup [.int (cntZ dj : Nat), .int mj])) ?_ ?_ ?_ ?_
      · exact ⟨same_new hD, [], [], upd_same, rfl, rfl, fun j hj => absurd hj (Nat.not_lt_zero j)⟩
      · rintro i H' hi ⟨g, _⟩
        exact SqT.of (g _ _ hp0)
      · rintro i x H' hx' ⟨g, ts, ms, eD, lt, lm, hj⟩
        obtain ⟨e, he, dze⟩ := hx0.get hx'
        have li : i < ds.length := (List.getElem?_eq_some_iff.mp he).1
        refine ⟨wipe_one _ 1 _, ?_⟩
        refine (⟨_, rfl, x, e, rfl, dze.tp (same_tp g), hm e (List.mem_of_getElem? he), fun t mj H2 g2 et => ?_⟩ : tCall (spSize m) [] E0 (tCons (tVar 1) tNil) ((wipe (L2.start sl_law_size [.ref p]) [1]).set 1 (some x)) H' _)
        have eD2 := g2 _ _ eD
        refine ⟨_, eD2, small1000 (by omega), same_grow (g.trans g2) hD, ts ++ [.ref t], ms ++ [mj], upd_same, by rw [List.length_append, lt]; rfl, by rw [List.length_append, lm]; rfl, fun j hjl => ?_⟩
        have tp2 : Tp H2 (upd H2 D (.lst (ts ++ [.ref t]))) := upd_tp eD2
        rcases Nat.lt_or_ge j i with h | h
        · obtain ⟨t0, dj, mj0, k1, k2, k3, k4⟩ := hj j h
          exact ⟨t0, dj, mj0, by rw [List.getElem?_append_left (by omega)]; exact k1, k2, by rw [List.getElem?_append_left (by omega)]; exact k3, tp2 _ _ (g2 _ _ k4)⟩
        · have ej : j = i := by omega
          subst ej
          refine ⟨t, e, mj, ?_, he, ?_, tp2 _ _ et⟩
          · rw [List.getElem?_append_right (by omega), lt, Nat.sub_self]
            rfl
          · rw [List.getElem?_append_right (by omega), lm, Nat.sub_self]
            rfl
      · rintro H1 ⟨g1, ts, ms, eD, lt, lm, hj⟩
        rw [lx] at lt lm hj
        obtain ⟨x0, xr, d0, dr, rfl, rfl, hx00⟩ : ∃ x0 xr d0 dr, xs = x0 :: xr ∧ ds = d0 :: dr ∧ Dz H0 x0 d0 := by
          cases hx0 with
          | nil => exact absurd rfl hnil
          | cons h t => exact ⟨_, _, _, _, rfl, rfl, h⟩
        have hp1 := g1 _ _ hp0
        have hx01 := hx00.tp (same_tp g1)
        have hb : ∃ tv : Value, TyX K H1 x0 tv ∧ PySem.W.kitOne K tv (.type "str") = some (isStrD d0) := by
          have wd0 := hm d0 List.mem_cons_self
          cases wd0 with
          | int i =>
            cases hx01
            exact ⟨_, .base (.int i), kit_ty (r := false) (by decide +kernel)⟩
          | str z =>
            cases hx01
            exact ⟨_, .base (.str z), kit_ty (r := true) (by decide +kernel)⟩
          | tup _ _ _ =>
            cases hx01 with
            | tup h9 _ => exact ⟨_, .base (.tup h9), kit_ty (r := false) (by decide +kernel)⟩
        obtain ⟨tv, ht, hk⟩ := hb
        refine ⟨_, rfl, p, _, _, _, rfl, rfl, SqT.of hp1, atI_nat (j := 0) rfl, _, _, _, _, _, rfl, .ty "str", ht, hk, .inr ⟨_, rfl, ?_⟩⟩
        -- the two sums
        refine ⟨_, rfl, _, rfl, D, rfl, ⟨_, SqL.of eD⟩, fun D2 hD2 => ?_⟩
        refine lc_list (xs := ts) (fun i H' => Same H1 H' ∧ H' D2 = some (.lst (((((d0 :: dr).take i).map fun d => (cntZ d : Int))).map V.int))) ?_ ?_ ?_ ?_
        · exact ⟨same_new hD2, upd_same⟩
        · rintro i H' hi ⟨g, _⟩
          exact SqL.of (g _ _ eD)
        · rintro i x H' hx' ⟨g, ha⟩
          have li : i < (d0 :: dr).length := by rw [← lt]; exact (List.getElem?_eq_some_iff.mp hx').1
          obtain ⟨t0, dj, mj, k1, k2, k3, k4⟩ := hj i li
          rw [hx'] at k1
          cases k1
          refine ⟨wipe_one _ 3 _, ?_⟩
          refine ⟨_, rfl, t0, _, _, _, rfl, rfl, SqT.of (g _ _ k4), atI_nat (j := 0) rfl, _, ha, small1000 (by rw [List.length_map, List.length_map, List.length_take]; omega), same_grow g hD2, ?_⟩
          rw [upd_same, List.take_add_one, k2, List.map_append, List.map_append]
          rfl
        · rintro H2 ⟨g2, e2⟩
          rw [lt, List.take_length] at e2
          refine ⟨D2, _, rfl, SqL.of e2, _, _, rfl, rfl, ?_⟩
          refine ⟨_, rfl, _, rfl, D, rfl, ⟨_, SqL.of (g2 _ _ eD)⟩, fun D3 hD3 => ?_⟩
          refine lc_list (xs := ts) (fun i H' => Same H2 H' ∧ H' D3 = some (.lst ((ms.take i).map V.int))) ?_ ?_ ?_ ?_
          · exact ⟨same_new hD3, upd_same⟩
          · rintro i H' hi ⟨g, _⟩
            exact SqL.of (g _ _ (g2 _ _ eD))
          · rintro i x H' hx' ⟨g, ha⟩
            have li : i < (d0 :: dr).length := by rw [← lt]; exact (List.getElem?_eq_some_iff.mp hx').1
            obtain ⟨t0, dj, mj, k1, k2, k3, k4⟩ := hj i li
            rw [hx'] at k1
            cases k1
            refine ⟨wipe_one _ 3 _, ?_⟩
            refine ⟨_, rfl, t0, _, _, _, rfl, rfl, SqT.of (g _ _ (g2 _ _ k4)), atI_nat (j := 1) rfl, _, ha, small1000 (by rw [List.length_map, List.length_take]; omega), same_grow g hD3, ?_⟩
            rw [upd_same, List.take_add_one, k3, List.map_append]
            rfl
          · rintro H3 ⟨g3, e3⟩
            rw [lt, ← lm, List.take_length] at e3
            refine ⟨D3, ms, rfl, SqL.of e3, ?_, fun mm _ _ => ?_⟩
            · rw [lm]
              simp
            refine ⟨_, _, rfl, rfl, (by show 2 ≤ sizeLine; decide), fun p9 hp9 => ?_⟩
            refine q p9 ((if isStrD d0 = true then 1 else 0) + mm) _ (s0.trans (g1.trans (g2.trans (g3.trans (same_new hp9))))) ?_
            rw [upd_same]
            have es : ∀ l : List PyData, ((l.map fun d => (cntZ d : Int))).sum = (cntZL l : Nat) := by
              intro l
              induction l with
              | nil => rfl
              | cons d l ih =>
                rw [List.map_cons, List.sum_cons, ih]
                show (cntZ d : Int) + (cntZL l : Nat) = ((cntZ d + cntZL l : Nat) : Int)
                omega
            have ec : ((if isStrD d0 = true then 1 else 0 : Int) + (((d0 :: dr).map fun d => (cntZ d : Int))).sum) = ((cntZ (.tuple (d0 :: dr)) : Nat) : Int) := by
              rw [es]
              show _ = (((if isStrD d0 then 1 else 0) + cntZL (d0 :: dr) : Nat) : Int)
              cases isStrD d0 <;> simp
            rw [← ec]
theorem size_ok (F : Fun K "_law_size" "_law_size" s_law_size f fd) (bF : Binds K fd ["_law_thing"] []) (mF : mg "_law_size" = some (.ref f)) (m_isinstance : mg "isinstance" = none) (m_tuple : mg "tuple" = none) (m_str : mg "str" = none) (m_int : mg "int" = none) (m_sum : mg "sum" = none) (m_max : mg "max" = none) : ∀ n : Nat, Has P w K mg base "_law_size" ["_law_thing"] (n + 1) (spSize n)
  | 0 => ⟨f, fd, size_step F (fun m h => by cases h) m_isinstance m_tuple m_str m_int m_sum m_max, mF, F.kp, bF⟩
  | n + 1 => ⟨f, fd, size_step F (fun m h => by cases h; exact size_ok F bF mF m_isinstance m_tuple m_str m_int m_sum m_max n) m_isinstance m_tuple m_str m_int m_sum m_max, mF, F.kp, bF⟩
end
end Wp
set_option Elab.async false
set_option linter.all false
set_option maxRecDepth 100000
set_option maxHeartbeats 1000000
namespace Wp
open PySem PySem.Spec PyProof.Rows L2
-- _law_right: slots _law_dr 0, _law_a_term 1, _law_pieces_here 2, _law_a_text 3, _law_kept 4, _law_one 5, _law_told 6
abbrev s_law_right : Stmt := top 50
theorem sc_law_right : FnScope ["_law_dr", "_law_a_term", "_law_pieces_here", "_law_a_text", "_law_kept", "_law_one", "_law_told"] ["_law_dr", "_law_a_term"] (defScope s_law_right) := ⟨rfl, rfl, rfl, by decide +kernel, rfl, by decide +kernel, by decide +kernel⟩
abbrev sl_law_right : List Str := ["_law_dr", "_law_a_term", "_law_pieces_here", "_law_a_text", "_law_kept", "_law_one", "_law_told"]
-- law: slots _law_script 0, _law_cell 1, _law_dr 2, _law_deep 3
abbrev slaw : Stmt := top 51
theorem sclaw : FnScope ["_law_script", "_law_cell", "_law_dr", "_law_deep"] ["_law_script"] (defScope slaw) := ⟨rfl, rfl, rfl, by decide +kernel, rfl, by decide +kernel, by decide +kernel⟩
abbrev sllaw : List Str := ["_law_script", "_law_cell", "_law_dr", "_law_deep"]
section
variable {X : Cx} {CX : CXT} {k : Nat} {f : Addr} {fd : FuncData} {ps ks : List Str} {sp : Sp} {x : Str} {p pos : Pos} {e : Expr} {es : List Expr} {kws : List Keyword} {t tk : TA} {g : List Value → List Value → List Value} {gV : List V → List V → List V}
/-- a call by names alone -/
def HasK (CX : CXT) (P : Program) (w : World) (K : PySem.W.Frag) (mg : Str → Option Value) (base : Heap) (x : Str) (ps : List Str) (k : Nat) (ks : List Str) (gV : List V → List V → List V) (sp : Sp) : Prop :=
  ∃ (f : Addr) (fd : FuncData) (g : List Value → List Value → List Value), FnOk P w K mg base CX k f fd ps sp ∧ mg x = some (.ref f) ∧ PySem.W.keepIn K (.ref f) = true ∧ KBn K fd ps 0 ks g gV
theorem pe_hasK (h : HasK CX X.prog X.w X.K X.mg X.base x ps k ks gV sp) (hr : Room k X.A) (hx : Passes CX X E0) (hkw : PK X kws tk) (hg : Gl X x := by rfl)
    (hall : (backToKw pos (keywordEach kws X.env)).all (·.1.isSome) = true := by rfl) (hks : (backToKw pos (keywordEach kws X.env)).filterMap (·.1) = ks := by rfl) (hdb : (x == ("__debug__" : Str)) = false := by decide)
    (hpl : ((backTo pos (starEach [] X.env)).any (·.1) || (backToKw pos (keywordEach kws X.env)).any (·.1.isNone)) = false := by rfl) :
    PE X (.Call (.Name x p) [] kws pos) (tCallN 0 ks.length sp gV E0 tNil tk) := by
  obtain ⟨f, fd, g, F, hm, hk, hb⟩ := h
  refine ⟨fun pins s σ H Q I h => ?_⟩
  refine wpAny_Call_Name_kw (ld_glob I hg hm ?_ hdb)
  refine PySem.W.callWith_KW0 (h₀ := X.base) I.ok.mod.kin hk hall (thn (hkw.run pos pins s σ H _ I h) fun ws s2 ⟨zs, H2, I2, rz, l1, l2, q2⟩ => ⟨I2.kIn, ?_⟩) hpl
  rw [hks]
  exact run_fnN (us := []) (vs := []) F hr hb hx I2 .nil rz rfl l2 q2
end
def g1 {α : Type} (_ ws : List α) : List α := ws
/-- where it is clear, nothing is refused -/
theorem fnX0 {P : Program} {w : World} {K : PySem.W.Frag} {mg : Str → Option Value} {base : Heap} {k : Nat} {f : Addr} {fd : FuncData} {ps : List Str} {sp : Sp} (F : FnOk P w K mg base (L2.CX P w) k f fd ps sp) : FnOk P w K mg base CX0 k f fd ps (fun vs H Q _ => sp vs H Q E0) :=
  ⟨fun vs H Q E h => F.len vs H Q E0 h, fun A outer s H ar us vs Q E hr e0 hb hv hs => codeAny_mono (F.run A outer s H ar us vs Q E0 hr e0 hb hv hs) fun r s' h => by
    match r, h with
    | .ok (.ret u), h => exact h
    | .ok .next, h => exact h.elim
    | .ok .brk, h => exact h.elim
    | .ok .cont, h => exact h.elim
    | .error e, h =>
      obtain ⟨_, _, _, _, _, _, _, _, _, _, _, _, z⟩ := h
      exact z.elim⟩
/-! ### the signs of the pieces -/
def Oc (ps : List Str) : Prop := ∀ p ∈ ps, ∀ c ∈ p.cps.toList, c < 1000
theorem oc_app {xs ys : List Str} (h : Oc xs) (h2 : Oc ys) : Oc (xs ++ ys) := fun p hp => by
  rcases List.mem_append.mp hp with e | e
  · exact h p e
  · exact h2 p e
theorem oc_one {z : Str} (h : ∀ c ∈ z.cps.toList, c < 1000) : Oc [z] := fun p hp => by
  rw [List.mem_singleton.mp hp]
  exact h
theorem oc_par : (∀ c ∈ ("(" : Str).cps.toList, c < 1000) ∧ ∀ c ∈ (")" : Str).cps.toList, c < 1000 := by decide +kernel
theorem oc_brk {w : Str} {ps : List Str} (hw : okS w) (h : Oc ps) : Oc (brk w ps) := by
  intro p hp
  rcases List.mem_cons.mp hp with e | e
  · rw [e]
    exact oc_par.1
  · rcases List.mem_append.mp e with e | e
    · rcases List.mem_cons.mp e with e | e
      · rw [e]
        exact hw.1
      · exact h p e
    · rw [List.mem_singleton.mp e]
      exact oc_par.2
mutual
theorem cz_oc : ∀ {n : Nat} {d : PyData} {ps : List Str}, Cz n d ps → Oc ps
  | _, _, _, .num (i := i) _ h2 => oc_one (by
    cases i with
    | ofNat n =>
      have e : (((toString (Int.ofNat n) : String) : Str)).cps.toList = TL.numL n := num_pos
      rw [e]
      intro c hc
      have := TL.numL_digits n c hc
      omega
    | negSucc n =>
      rw [num_neg]
      intro c hc
      rcases List.mem_cons.mp hc with e | e
      · omega
      · have := TL.numL_digits (n + 1) c e
        omega)
  | _, _, _, .text (z := z) h1 h2 => oc_one (by
    have q : ("\"" : Str).cps.toList = [34] := by decide +kernel
    rw [Str.cps_append, Str.cps_append, Array.toList_append, Array.toList_append, q]
    intro c hc
    rcases List.mem_append.mp hc with e | e
    · rcases List.mem_append.mp e with e | e
      · rw [List.mem_singleton.mp e]
        decide
      · exact (okS_text h1 h2).1 c e
    · rw [List.mem_singleton.mp e]
      decide)
  | _, _, _, .yes h => by
    have k : ∀ z ∈ noNames, z ∈ formWords ++ opWords := by decide +kernel
    exact oc_one (okS_word _ (k _ h)).1
  | _, _, _, .name h _ => oc_one (okS_name h).1
  | _, _, _, .fix hw fc => oc_brk (okS_word _ (fix_words _ hw).2.1) (fc_oc fc)
  | _, _, _, .call hf ha _ => oc_brk (okS_word _ (by decide +kernel)) (oc_app (cz_oc hf) (al_oc ha))
  | _, _, _, .do_ ha _ _ => oc_brk (okS_word _ (by decide +kernel)) (al_oc ha)
  | _, _, _, .op ho ha => by
    have k : ∀ p ∈ ops, p.1 ∈ formWords ++ opWords := by decide +kernel
    exact oc_brk (okS_word _ (k _ ho)) (al_oc ha)
theorem fc_oc : ∀ {n : Nat} {fb : Option Str} {ks : List Str} {xs : List PyData} {iss : List (List Str)}, Fc n fb ks xs iss → Oc iss.flatten
  | _, _, _, _, _, .nil => fun p hp => by cases hp
  | _, _, _, _, _, .binder h _ t => oc_app (oc_one (okS_name h).1) (fc_oc t)
  | _, _, _, _, _, .tag h t => oc_app (oc_one (okS_name h).1) (fc_oc t)
  | _, _, _, _, _, .binders _ _ h _ t => by
    refine oc_app (fun p hp => ?_) (fc_oc t)
    rcases List.mem_cons.mp hp with e | e
    · rw [e]
      exact oc_par.1
    · rcases List.mem_append.mp e with e | e
      · exact (okS_nm12 (h p e)).1
      · rw [List.mem_singleton.mp e]
        exact oc_par.2
  | _, _, _, _, _, .part h t => oc_app (cz_oc h) (fc_oc t)
theorem al_oc : ∀ {n : Nat} {ds : List PyData} {pss : List (List Str)}, Al n ds pss → Oc pss.flatten
  | _, _, _, .nil => fun p hp => by cases hp
  | _, _, _, .cons h t => oc_app (cz_oc h) (al_oc t)
end
theorem tx_oc : ∀ (p : Str) (ps : List Str), Oc ps → ∀ c ∈ tx p ps, c < 1000
  | _, [], _ => fun c hc => by cases hc
  | p, q :: ps, h => by
    intro c hc
    have hc : c ∈ gl p q ++ (q.cps.toList ++ tx q ps) := hc
    rcases List.mem_append.mp hc with e | e
    · unfold gl at e
      split at e
      · cases e
      · rw [List.mem_singleton.mp e]
        decide
    · rcases List.mem_append.mp e with e | e
      · exact h q List.mem_cons_self c e
      · exact tx_oc q ps (fun x hx => h x (List.mem_cons_of_mem _ hx)) c e
theorem text_ok {ps : List Str} (h : Oc ps) {z : Str} (hz : z.cps.toList = textC ps) : PyData.strOk z = true := by
  unfold PyData.strOk
  rw [Array.all_eq_true']
  intro c hc
  have hm := Array.mem_toList_iff.mpr hc
  rw [hz] at hm
  have : c < 1000 := by
    match ps, hm, h with
    | p :: ps, hm, h =>
      have hm : c ∈ p.cps.toList ++ tx p ps := hm
      rcases List.mem_append.mp hm with e | e
      · exact h p List.mem_cons_self c e
      · exact tx_oc p ps (fun x hx => h x (List.mem_cons_of_mem _ hx)) c e
  exact decide_eq_true (by omega)
/-- a term that is clear is written -/
def spShownC : Sp := fun vs H Q _ => ∃ (v : V) (d : PyData) (n : Nat) (ps : List Str), vs = [v] ∧ Dz H v d ∧ Cz n d ps ∧ wtD d ≤ 13000 ∧ ∀ (z : Str) (H' : Hp), Same H H' → z.cps.toList = textC ps → Q (.str z) H'
theorem shownC {P : Program} {w : World} {K : PySem.W.Frag} {mg : Str → Option Value} {base : Heap} {k : Nat} {f C : Addr} {fd : FuncData} (F : FnOk P w K mg base (L2.CX P w) k f fd ["term"] (spShown C)) : FnOk P w K mg base CX0 k f fd ["term"] spShownC := by
  refine (fnX0 F).imp fun vs H Q E h => ?_
  obtain ⟨v, d, n, ps, rfl, dz, cz, hw, q⟩ := h
  obtain ⟨told, e1, e2⟩ := cz_shown cz
  refine ⟨v, d, rfl, dz, cz_tz cz, hw, ?_⟩
  rw [e1]
  exact fun H' s' => q _ H' s' e2
def spRight : Sp := fun vs H Q _ => ∃ (a : Addr) (m : Nat) (v : V) (d : PyData) (ps : List Str), vs = [.ref a, v] ∧ m + 30000 ≤ big ∧ Dr H a m ∧ Dz H v d ∧ Cz 5 d ps ∧ ∀ H', Gx a H H' → Dr H' a (m + 30000) → Q (.bl true) H'
def spLaw (K : PySem.W.Frag) : Sp := fun vs H Q _ => ∃ (a : Addr) (ns : List Int), vs = [.ref a] ∧ SqL K H a (ns.map V.int) ∧ ns.length ≤ 63 ∧ ∀ H', Q (.bl true) H'
section
variable {P : Program} {w : World} {K : PySem.W.Frag} {mg : Str → Option Value} {base : Heap} {f : Addr} {fd : FuncData}
theorem ok_right (F : Fun K "_law_right" "_law_right" s_law_right f fd) (G_law_size : Has P w K mg base "_law_size" ["_law_thing"] 12 (spSize 11)) (G_law_pieces : Has P w K mg base "_law_pieces" ["_law_a_term"] 11 (spPieces 5)) (G_law_text : Has P w K mg base "_law_text" ["_law_pieces_here"] 2 spText) (G_law_loose : Has P w K mg base "_law_loose" ["_law_dr", "_law_pieces_here"] 2 spLoose)
    (Gshown_term : Has P w K mg base "shown_term" ["term"] 4 spShownC) (Jshown_term : HasK CX0 P w K mg base "shown_term" ["term"] 4 ["term"] g1 spShownC) (Gread_term : Has P w K mg base "read_term" ["text"] 8 spRead) (Jread_term : HasK CX0 P w K mg base "read_term" ["text"] 8 ["text"] g1 spRead) (m_str : mg "str" = none) : FnG P w K mg base 13 f fd ["_law_dr", "_law_a_term"] spRight := by
  refine Fun.okG F sc_law_right (fun vs H Q E h => ?_) (fun cdv A outer s H vs Q E gu hr h => ?_)
  · obtain ⟨a, m, v, d, ps, rfl, _⟩ := h
    rfl
  obtain ⟨a, m, v, d, ps, rfl, hm, dr, dz, cz, q⟩ := h
  have gu2 : (cxOf CX0 P w K mg base sl_law_right "_law_right" (defScope s_law_right) f cdv A outer s H E).nox.A.guards = some [] := gu
  have hun : (cxOf CX0 P w K mg base sl_law_right "_law_right" (defScope s_law_right) f cdv A outer s H E).nox.A.units + 130 < cLine := by
    have := hr.un
    show (A.deeper (envOfC "_law_right" (defScope s_law_right) s.heap.objs.size f cdv)).units + 130 < cLine
    omega
  refine ⟨_, (pss_cons (ps_if (pt_cmpR op_gt (pe_ix ix_tup (pe_has G_law_size (hr.mono (by omega)) (pa_cons (pv 1) pa_nil)) pe_int (fun _ _ => rfl)) pe_int (nomark _)) (pss_one (ps_ret pe_bl)) pss_nil)
  (pss_cons (ps_set (i := 2) sc_law_right.nd rfl (.inl rfl) (pe_has G_law_pieces (hr.mono (by omega)) (pa_cons (pv 1) pa_nil)))
  (pss_cons (ps_set (i := 3) sc_law_right.nd rfl (.inl rfl) (pe_has G_law_text (hr.mono (by omega)) (pa_cons (pv 2) pa_nil)))
  (pss_cons (ps_set (i := 4) sc_law_right.nd rfl (.inl rfl) (pe_callTy (call_strG gu2 hun) rfl m_str PyProof.Rows.Boot.«str» (pa_cons (pv 1) pa_nil)))
  (pss_cons (ps_if (PW.pt (pw_or (pt_cmpR (op_neD hr.units) (pe_lst (pa_cons (pe_has Gshown_term (hr.mono (by omega)) (pa_cons (pv 1) pa_nil)) (pa_cons (pe_hasK Jshown_term (hr.mono (by decide)) pass0 (pk_cons (pv 1) pk_nil)) pa_nil))) (pe_lst (pa_cons (pv 3) (pa_cons (pv 3) pa_nil))) (nomark _)) (pw_or1 (pt_cmpR op_ne (pe_callTy (call_strG gu2 hun) rfl m_str PyProof.Rows.Boot.«str» (pa_cons (pv 1) pa_nil)) (pv 4) (nomark _))))) (pss_one (ps_ret pe_bl)) pss_nil)
  (pss_cons (ps_for PassesOwn.never rfl (pi_list (pe_lst (pa_cons (pv 3) (pa_cons (pe_has G_law_loose (hr.mono (by omega)) (pa_cons (pv 0) (pa_cons (pv 2) pa_nil))) (pa_cons (pe_has G_law_loose (hr.mono (by omega)) (pa_cons (pv 0) (pa_cons (pv 2) pa_nil))) pa_nil))))) (pg_name (i := 5) sc_law_right.nd rfl (.inl rfl)) (pss_cons (ps_set (i := 6) sc_law_right.nd rfl (.inl rfl) (pe_has Gread_term (hr.mono (by omega)) (pa_cons (pv 5) pa_nil)))
  (pss_one (ps_if (PW.pt (pw_or (pt_cmpR (op_neD hr.units) (pv 6) (pv 1) (nomark _)) (pw_or (pt_cmpR op_ne (pe_callTy (call_strG gu2 hun) rfl m_str PyProof.Rows.Boot.«str» (pa_cons (pv 6) pa_nil)) (pv 4) (nomark _)) (pw_or1 (pt_cmpR (op_neD hr.units) (pe_hasK Jread_term (hr.mono (by decide)) pass0 (pk_cons (pv 5) pk_nil)) (pv 1) (nomark _)))))) (pss_one (ps_ret pe_bl)) pss_nil))))
  (pss_one (ps_ret pe_bl)))))))), ?_⟩
  refine ⟨_, rfl, v, d, rfl, dz, cz_wd cz (by decide), fun pz mz H1 s1 ez => ⟨pz, _, _, _, rfl, rfl, SqT.of ez, atI_nat (j := 0) rfl, _, _, rfl, rfl, _, rfl, ite2 (fun _ => ?_) (fun hc => ?_)⟩⟩
  · exact q H1 (same_gx s1) ((same_dr s1 dr).mono (by omega))
  have hcnt : cntZ d ≤ 400 := by
    have : ¬ (400 : Int) < (cntZ d : Nat) := fun h => hc (decide_eq_true h)
    omega
  obtain ⟨hw, hsh⟩ := cz_short cz hcnt
  have pr := cz_pr cz
  have nod : d.hasDict = false := PyData.hasDict_of_canLay d pr.lay
  have dep : d.depth ≤ 120 := Nat.le_trans pr.dep (by decide)
  have shp := cz_shape cz (by decide)
  have eqv := SeqAt.eqv_refl d pr.lay
  have dz1 := dz.tp (same_tp s1)
  obtain ⟨pv, rfl⟩ : ∃ pv, v = .ref pv := by
    obtain ⟨w9, its9, e9⟩ := cz_head cz
    subst e9
    cases dz with
    | tup h _ => exact ⟨_, rfl⟩
  refine ⟨_, rfl, .ref pv, d, ps, rfl, dz1, cz, hw, by decide, fun L H2 s2 eL => ?_⟩
  have pb := cz_pb cz
  have lps : ps.length ≤ 13000 := Nat.le_trans (cz_len cz) hw
  obtain ⟨p0, xs0, rfl⟩ : ∃ p0 xs0, ps = p0 :: xs0 := by
    match ps, (cz_sol cz).ne with
    | p0 :: xs0, _ => exact ⟨p0, xs0, rfl⟩
  have lx : xs0.length ≤ 13010 := by
    rw [List.length_cons] at lps
    omega
  refine ⟨_, rfl, L, p0, xs0, rfl, eL, pb, lx, fun zt H3 s3 ezt => ?_⟩
  have sk := text_ok (cz_oc cz) ezt
  have s13 := s1.trans (s2.trans s3)
  have d3 := dz.tp (same_tp s13)
  refine ⟨_, rfl, pv, d, rfl, d3.dp, pr.sho, nod, dep, hsh, ?_⟩
  refine ⟨_, rfl, .ref pv, d, 5, _, rfl, d3, cz, hw, fun z1 H4 s4 e4 => ?_⟩
  refine ⟨_, rfl, rfl, rfl, .ref pv, d, 5, _, rfl, d3.tp (same_tp s4), cz, hw, fun z2 H5 s5 e5 => ?_⟩
  obtain rfl : z1 = zt := str_list.mpr (by rw [e4, ezt])
  obtain rfl : z2 = z1 := str_list.mpr (by rw [e5, e4])
  refine ⟨(by show 2 ≤ sizeLine; decide), fun l1 hl1 => ?_⟩
  have s6 := same_new (o := .lst [.str z2, .str z2]) hl1
  refine ⟨_, rfl, _, rfl, (by show 2 ≤ sizeLine; decide), fun l2 hl2 => ?_⟩
  have s7 := same_new (o := .lst [.str z2, .str z2]) hl2
  have shl : SeqAt.shaped (.list [.str z2, .str z2]) = true := by
    unfold SeqAt.shaped
    simp [PyData.canLay0, PyData.canLayAll0, sk, PyData.depth, PyData.depthAll]
  refine ⟨.list [.str z2, .str z2], .list [.str z2, .str z2], .lst (SqL.of (s7 _ _ upd_same)) (.cons (.str _) (.cons (.str _) .nil)), .lst (SqL.of upd_same) (.cons (.str _) (.cons (.str _) .nil)), shl, shl, _, rfl, ?_⟩
  have eql : PyData.eqv (.list [.str z2, .str z2]) (.list [.str z2, .str z2]) = true := SeqAt.eqv_refl _ (SeqAt.canLay_of_shaped shl)
  rw [eql]
  refine ite_f (by simp) ?_
  have s07 := s13.trans (s4.trans (s5.trans (s6.trans s7)))
  have d7 := dz.tp (same_tp s07)
  have s27 := s3.trans (s4.trans (s5.trans (s6.trans s7)))
  have eL7 := s27 _ _ eL
  generalize upd (upd H5 l1 (.lst [.str z2, .str z2])) l2 (.lst [.str z2, .str z2]) = H7 at *
  refine ⟨_, rfl, pv, d, rfl, d7.dp, pr.sho, nod, dep, hsh, _, rfl, rfl, _, rfl, ite_f (by simp) ?_⟩
  -- the three texts
  have dr7 := same_dr s07 dr
  refine ⟨_, rfl, _, rfl, _, rfl, a, m, L, p0, xs0, rfl, by omega, dr7, eL7, pb, lx, fun y1 H8 g8 dr8 lo1 _ => ?_⟩
  have nL : L ≠ a := fun e => by
    obtain ⟨x, c, b, e2, _⟩ := dr7
    rw [← e, eL7] at e2
    cases e2
  refine ⟨_, rfl, _, rfl, a, m + 13020, L, p0, xs0, rfl, by omega, dr8, g8 _ _ nL eL7, pb, lx, fun y2 H9 g9 dr9 lo2 _ => ?_⟩
  refine ⟨(by show 3 ≤ sizeLine; decide), fun l3 hl3 => ?_⟩
  have s10 : Same H9 (upd H9 l3 (.lst [.str z2, .str y1, .str y2])) := same_new hl3
  have e10 : upd H9 l3 (.lst [.str z2, .str y1, .str y2]) l3 = some (.lst [.str z2, .str y1, .str y2]) := upd_same
  generalize upd H9 l3 (.lst [.str z2, .str y1, .str y2]) = H10 at *
  have g10 : Gx a H H10 := (same_gx s07).trans (g8.trans (g9.trans (same_gx s10)))
  have dr10 := same_dr s10 dr9
  have lo0 : Lo "(" (p0 :: xs0) z2.cps.toList := by
    rw [e5]
    exact textC_lo (by simp)
  have los : ∀ x ∈ [V.str z2, .str y1, .str y2], ∃ y : Str, x = .str y ∧ Lo "(" (p0 :: xs0) y.cps.toList := by
    intro x hx
    simp only [List.mem_cons, List.not_mem_nil, or_false] at hx
    rcases hx with e | e | e
    · exact ⟨_, e, lo0⟩
    · exact ⟨_, e, lo1⟩
    · exact ⟨_, e, lo2⟩
  refine ⟨l3, rfl, ⟨_, SqL.of e10⟩, for_list (xs := [V.str z2, .str y1, .str y2]) (fun i σ H' => ∃ t5 t6, σ = [some (.ref a), some (.ref pv), some (.ref L), some (.str z2), some (.str d.shown), t5, t6] ∧ Same H10 H') ?_ ?_ ?_ ?_⟩
  · exact ⟨none, none, rfl, Same.refl _⟩
  · rintro i σ H' hi ⟨_, _, _, s'⟩
    exact SqL.of (s' _ _ e10)
  · rintro i x σ H' hx ⟨t5, t6, rfl, s'⟩
    obtain ⟨y, rfl, lo⟩ := los x (List.mem_of_getElem? hx)
    have rd := cz_reads cz (by decide) lo
    have dA := dz.tp (g10.tp dr) |>.tp (same_tp s')
    refine ⟨_, rfl, y, d, rfl, rd, fun u H11 s11 du => ?_⟩
    have dB := dA.tp (same_tp s11)
    refine ⟨_, rfl, _, rfl, _, _, du.dp, dB.dp, shp, shp, _, rfl, ?_⟩
    rw [eqv]
    refine ite_f (by simp) ?_
    obtain ⟨pu, rfl⟩ : ∃ pu, u = .ref pu := by
      obtain ⟨w9, its9, e9⟩ := cz_head cz
      subst e9
      cases du with
      | tup h _ => exact ⟨_, rfl⟩
    refine ⟨_, rfl, pu, d, rfl, du.dp, pr.sho, nod, dep, hsh, _, rfl, rfl, _, rfl, ite_f (by simp) ?_⟩
    refine ⟨_, rfl, rfl, rfl, y, d, rfl, rd, fun u2 H12 s12 du2 => ?_⟩
    refine ⟨_, rfl, _, _, du2.dp, (dB.tp (same_tp s12)).dp, shp, shp, _, rfl, ?_⟩
    rw [eqv]
    refine ite_f (by simp) ?_
    exact ⟨_, _, rfl, s'.trans (s11.trans s12)⟩
  · rintro σ H' ⟨t5, t6, rfl, s'⟩
    exact q H' (g10.trans (same_gx s')) ((same_dr s' dr10).mono (by omega))
theorem ok_law (F : Fun K "law" "law" slaw f fd) (G_law_draws : Has P w K mg base "_law_draws" ["_law_cell"] 1 spDraws) (G_law_any : Has P w K mg base "_law_any" ["_law_dr", "_law_deep"] 9 (spAny 5)) (G_law_right : HasG P w K mg base "_law_right" ["_law_dr", "_law_a_term"] 13 spRight) : FnG P w K mg base 14 f fd ["_law_script"] (spLaw K) := by
  refine Fun.okG F sclaw (fun vs H Q E h => ?_) (fun cdv A outer s H vs Q E gu hr h => ?_)
  · obtain ⟨a, ns, rfl, _⟩ := h
    rfl
  obtain ⟨a, ns, rfl, hs, hl, q⟩ := h
  have gu2 : (cxOf CX0 P w K mg base sllaw "law" (defScope slaw) f cdv A outer s H E).nox.A.guards = some [] := gu
  refine ⟨_, (pss_cons (ps_for PassesOwn.never rfl (pi_list (pe_op op_cat (pe_slice sl_list (pv 0) po_none (po_some pe_int)) (pe_lst (pa_cons pe_int pa_nil)))) (pg_name (i := 1) sclaw.nd rfl (.inl rfl)) (pss_cons (ps_set (i := 2) sclaw.nd rfl (.inl rfl) (pe_has G_law_draws (hr.mono (by omega)) (pa_cons (pv 1) pa_nil)))
  (pss_one (ps_for PassesOwn.never rfl (pi_list (pe_lst (pa_cons pe_int (pa_cons pe_int pa_nil)))) (pg_name (i := 3) sclaw.nd rfl (.inl rfl)) (pss_one (ps_if (pt_not (pt_val (pe_hasG gu2 G_law_right (hr.mono (by omega)) (pa_cons (pv 2) (pa_cons (pe_has G_law_any (hr.mono (by omega)) (pa_cons (pv 2) (pa_cons (pv 3) pa_nil))) pa_nil))))) (pss_one (ps_ret pe_bl)) pss_nil))))))
  (pss_one (ps_ret pe_bl))), ?_⟩
  refine ⟨_, rfl, 4, rfl, a, _, rfl, hs, fun p1 h1 => ⟨(by show 1 ≤ sizeLine; decide), fun p2 h2 => ?_⟩⟩
  have hcl := cutV_length (ns.map V.int) none (some 4)
  have hcm : ∀ x ∈ cutV (ns.map V.int) none (some 4), ∃ c : Int, x = .int c := fun x hx => by
    unfold cutV at hx
    obtain ⟨c, _, e⟩ := List.mem_map.mp (List.mem_of_mem_drop (List.mem_of_mem_take hx))
    exact ⟨c, e.symm⟩
  rw [List.length_map] at hcl
  generalize cutV (ns.map V.int) none (some 4) = cs at *
  have hall : ∀ x ∈ cs ++ [V.int 0], ∃ c : Int, x = .int c := fun x hx => by
    rcases List.mem_append.mp hx with h | h
    · exact hcm x h
    · exact ⟨0, List.mem_singleton.mp h⟩
  refine ⟨p1, p2, cs, [.int 0], rfl, rfl, same_new h2 _ _ upd_same, upd_same, Nat.le_of_lt (small1000 (by show cs.length + 1 ≤ 1000; omega)), fun l hl' => ⟨l, rfl, ⟨_, SqL.of upd_same⟩, for_list (xs := cs ++ [V.int 0]) (fun i σ H' => H' l = some (.lst (cs ++ [V.int 0])) ∧ ∃ t1 t2 t3, σ = [some (.ref a), t1, t2, t3]) ?_ ?_ ?_ ?_⟩⟩
  · exact ⟨upd_same, none, none, none, rfl⟩
  · rintro i σ H' hi ⟨e, _⟩
    exact SqL.of e
  · rintro i x σ H' hx ⟨e, t1, t2, t3, rfl⟩
    obtain ⟨c, rfl⟩ := hall x (List.mem_of_getElem? hx)
    refine ⟨_, rfl, c, rfl, fun p H2 s2 n2 d2 => ?_⟩
    have nl : l ≠ p := ne_of_none e n2
    refine ⟨(by show 2 ≤ sizeLine; decide), fun l2 hl2 => ?_⟩
    have sl2 := same_new (o := .lst [.int 3, .int 5]) hl2
    have nl2 : l2 ≠ p := d2.ne hl2
    have bb : drB 5 = 10848210 := by decide
    refine ⟨l2, rfl, ⟨_, SqL.of upd_same⟩, for_list (xs := [V.int 3, .int 5]) (fun i σ H' => H' l = some (.lst (cs ++ [V.int 0])) ∧ H' l2 = some (.lst [.int 3, .int 5]) ∧ Dr H' p (i * 20000000) ∧ ∃ t3, σ = [some (.ref a), some (.int c), some (.ref p), t3]) ?_ ?_ ?_ ?_⟩
    · exact ⟨sl2 _ _ (s2 _ _ e), upd_same, (same_dr sl2 d2).mono (Nat.zero_le _), t3, rfl⟩
    · rintro i σ H3 hi ⟨_, h, _⟩
      exact SqL.of h
    · rintro i x σ H3 hx3 ⟨e3, e4, d3, t3, rfl⟩
      obtain ⟨kk, rfl, hkk⟩ : ∃ kk : Int, x = .int kk ∧ kk ≤ 5 := by
        have := List.mem_of_getElem? hx3
        simp only [List.mem_cons, List.not_mem_nil, or_false] at this
        rcases this with e | e
        · exact ⟨3, e, by decide⟩
        · exact ⟨5, e, by decide⟩
      have hi2 : i < 2 := (List.getElem?_eq_some_iff.mp hx3).1
      have ib : i * 20000000 + 20000000 ≤ big := by
        have : i = 0 ∨ i = 1 := by omega
        rcases this with rfl | rfl <;> decide
      refine ⟨_, rfl, _, rfl, _, rfl, p, i * 20000000, kk, rfl, hkk, by omega, d3, fun v dd ps H4 g4 d4 dz cz => ?_⟩
      refine ⟨p, i * 20000000 + drB 5, v, dd, ps, rfl, by omega, d4, dz, cz, fun H5 g5 d5 => ⟨_, rfl, iteF ?_⟩⟩
      exact ⟨g5 _ _ nl (g4 _ _ nl e3), g5 _ _ nl2 (g4 _ _ nl2 e4), d5.mono (by omega), _, rfl⟩
    · rintro σ H3 ⟨e3, _, d3, t3, rfl⟩
      exact ⟨e3, _, _, _, rfl⟩
  · rintro σ H' ⟨e, t1, t2, t3, rfl⟩
    exact q H'
end
end Wp
set_option Elab.async false
set_option linter.all false
set_option maxRecDepth 100000
set_option maxHeartbeats 4000000
namespace Wp
open PySem PySem.Spec PyProof.Rows L2
def strV : Value → Option Str
  | .str x _ => some x
  | _ => none
def strsV : List Value → Option (List Str)
  | [] => some []
  | v :: vs => match strV v, strsV vs with
    | some x, some xs => some (x :: xs)
    | _, _ => none
/-- a tuple of texts in the written part -/
def tupS (o : Obj) : Option (List Str) := match o.cls, o.data with
  | .type n, .seq its _ => if n = "tuple" ∧ its.size ≤ 100 then strsV its.toList else none
  | _, _ => none
theorem strs_vals : ∀ {vs : List Value} {xs : List Str}, strsV vs = some xs → Vals (xs.map V.str) vs
  | [], _, h => by
    cases h
    exact .nil
  | v :: vs, xs, h => by
    rw [strsV] at h
    cases h1 : strV v with
    | none => rw [h1] at h; cases h
    | some x =>
      cases h2 : strsV vs with
      | none => rw [h1, h2] at h; cases h
      | some ys =>
        rw [h1, h2] at h
        cases h
        refine .cons ?_ (strs_vals h2)
        cases v with
        | str y t =>
          cases h1
          exact ⟨t, rfl⟩
        | _ => cases h1
def intV : Value → Option Int
  | .int x _ => some x
  | _ => none
def intsV : List Value → Option (List Int)
  | [] => some []
  | v :: vs => match intV v, intsV vs with
    | some x, some xs => some (x :: xs)
    | _, _ => none
def tupN (o : Obj) : Option (List Int) := match o.cls, o.data with
  | .type n, .seq its _ => if n = "tuple" ∧ its.size ≤ 100 then intsV its.toList else none
  | _, _ => none
theorem ints_vals : ∀ {vs : List Value} {xs : List Int}, intsV vs = some xs → Vals (xs.map V.int) vs
  | [], _, h => by
    cases h
    exact .nil
  | v :: vs, xs, h => by
    rw [intsV] at h
    cases h1 : intV v with
    | none => rw [h1] at h; cases h
    | some x =>
      cases h2 : intsV vs with
      | none => rw [h1, h2] at h; cases h
      | some ys =>
        rw [h1, h2] at h
        cases h
        refine .cons ?_ (ints_vals h2)
        cases v with
        | int y t =>
          cases h1
          exact ⟨t, rfl⟩
        | _ => cases h1
theorem sq_strs {K : PySem.W.Frag} {t : Addr} {o : Obj} {ks : List Str} (g : K.lookup t = some o) (v : tupS o = some ks) (H : Hp) : SqT K H t (ks.map V.str) := by
  obtain ⟨oc, od, dt, sl⟩ := o
  unfold tupS at v
  cases oc with
  | type nm =>
    cases dt with
    | seq its m =>
      dsimp only at v
      by_cases h : nm = "tuple" ∧ its.size ≤ 100
      · rw [if_pos h] at v
        refine .inr ⟨_, its, m, g, by rw [h.1], rfl, ?_, strs_vals v⟩
        rw [sizeLine_eq]
        omega
      · rw [if_neg h] at v
        cases v
    | _ => cases v
  | _ => cases v
theorem sq_ints {K : PySem.W.Frag} {t : Addr} {o : Obj} {ks : List Int} (g : K.lookup t = some o) (v : tupN o = some ks) (H : Hp) : SqT K H t (ks.map V.int) := by
  obtain ⟨oc, od, dt, sl⟩ := o
  unfold tupN at v
  cases oc with
  | type nm =>
    cases dt with
    | seq its m =>
      dsimp only at v
      by_cases h : nm = "tuple" ∧ its.size ≤ 100
      · rw [if_pos h] at v
        refine .inr ⟨_, its, m, g, by rw [h.1], rfl, ?_, ints_vals v⟩
        rw [sizeLine_eq]
        omega
      · rw [if_neg h] at v
        cases v
    | _ => cases v
  | _ => cases v
theorem kb_shown {K : PySem.W.Frag} {f : Addr} {fd : FuncData} (F : Fun K "shown_term" "shown_term" sshown_term f fd) : KBn K fd ["term"] 0 ["term"] g1 g1 := by
  obtain ⟨oc, od, kV, doc, pm, an, cdv, ct, osl, rfl, lk, hcd⟩ := F.ex
  refine ⟨fun s us ws X l1 l2 => ?_, fun _ r => r⟩
  match us, ws, l1, l2 with
  | [], [u], _, _ => exact .of_eq rfl
theorem kb_read {K : PySem.W.Frag} {f : Addr} {fd : FuncData} (F : Fun K "read_term" "read_term" sread_term f fd) : KBn K fd ["text"] 0 ["text"] g1 g1 := by
  obtain ⟨oc, od, kV, doc, pm, an, cdv, ct, osl, rfl, lk, hcd⟩ := F.ex
  refine ⟨fun s us ws X l1 l2 => ?_, fun _ r => r⟩
  match us, ws, l1, l2 with
  | [], [u], _, _ => exact .of_eq rfl
theorem formA {K : PySem.W.Frag} {w : World} {fo t : Addr} {es : Array DictEntry} {n : Nat} {x : Str} {o : Obj} {ks : List Str} (l : K.lookup fo = some ⟨.type "dict", none, .dict es n, #[]⟩) (kl : PySem.W.KeysLit w.params es.toList) (e : PySem.W.nsIn K fo x = some (some (.ref t))) (g : K.lookup t = some o) (v : tupS o = some ks) :
    ∃ t, KDct K w fo x (.ref t) ∧ ∀ H, SqT K H t (ks.map V.str) := ⟨t, ⟨es, n, _, l, kl, e, rfl⟩, sq_strs g v⟩

theorem all_mk {l : PySem.W.OpenLaw} {w : World} {K : PySem.W.Frag} {h : Heap} {mg : Str → Option Value} {fa : Addr}
    {f_next : Addr} {oc_next kV_next dc_next pm_next cd_next ct_next : Value} {od_next an_next : Option Addr} {sl_next : Array (Option Value)}
    {f_draws : Addr} {oc_draws kV_draws dc_draws pm_draws cd_draws ct_draws : Value} {od_draws an_draws : Option Addr} {sl_draws : Array (Option Value)}
    {f_name1 : Addr} {oc_name1 kV_name1 dc_name1 pm_name1 cd_name1 ct_name1 : Value} {od_name1 an_name1 : Option Addr} {sl_name1 : Array (Option Value)}
    {f_lnames : Addr} {oc_lnames kV_lnames dc_lnames pm_lnames cd_lnames ct_lnames : Value} {od_lnames an_lnames : Option Addr} {sl_lnames : Array (Option Value)}
    {f_atom1 : Addr} {oc_atom1 kV_atom1 dc_atom1 pm_atom1 cd_atom1 ct_atom1 : Value} {od_atom1 an_atom1 : Option Addr} {sl_atom1 : Array (Option Value)}
    {f_anyT : Addr} {oc_anyT kV_anyT dc_anyT pm_anyT cd_anyT ct_anyT : Value} {od_anyT an_anyT : Option Addr} {sl_anyT : Array (Option Value)}
    {f_pieces : Addr} {oc_pieces kV_pieces dc_pieces pm_pieces cd_pieces ct_pieces : Value} {od_pieces an_pieces : Option Addr} {sl_pieces : Array (Option Value)}
    {f_row : Addr} {oc_row kV_row dc_row pm_row cd_row ct_row : Value} {od_row an_row : Option Addr} {sl_row : Array (Option Value)}
    {f_apart : Addr} {oc_apart kV_apart dc_apart pm_apart cd_apart ct_apart : Value} {od_apart an_apart : Option Addr} {sl_apart : Array (Option Value)}
    {f_text1 : Addr} {oc_text1 kV_text1 dc_text1 pm_text1 cd_text1 ct_text1 : Value} {od_text1 an_text1 : Option Addr} {sl_text1 : Array (Option Value)}
    {f_loose : Addr} {oc_loose kV_loose dc_loose pm_loose cd_loose ct_loose : Value} {od_loose an_loose : Option Addr} {sl_loose : Array (Option Value)}
    {f_size : Addr} {oc_size kV_size dc_size pm_size cd_size ct_size : Value} {od_size an_size : Option Addr} {sl_size : Array (Option Value)}
    {f_right : Addr} {oc_right kV_right dc_right pm_right cd_right ct_right : Value} {od_right an_right : Option Addr} {sl_right : Array (Option Value)}
    {f_law : Addr} {oc_law kV_law dc_law pm_law cd_law ct_law : Value} {od_law an_law : Option Addr} {sl_law : Array (Option Value)}
    {f_isName : Addr} {oc_isName kV_isName dc_isName pm_isName cd_isName ct_isName : Value} {od_isName an_isName : Option Addr} {sl_isName : Array (Option Value)}
    {f_sign : Addr} {oc_sign kV_sign dc_sign pm_sign cd_sign ct_sign : Value} {od_sign an_sign : Option Addr} {sl_sign : Array (Option Value)}
    {f_bnd : Addr} {oc_bnd kV_bnd dc_bnd pm_bnd cd_bnd ct_bnd : Value} {od_bnd an_bnd : Option Addr} {sl_bnd : Array (Option Value)}
    {f_uncl : Addr} {oc_uncl kV_uncl dc_uncl pm_uncl cd_uncl ct_uncl : Value} {od_uncl an_uncl : Option Addr} {sl_uncl : Array (Option Value)}
    {f_atom : Addr} {oc_atom kV_atom dc_atom pm_atom cd_atom ct_atom : Value} {od_atom an_atom : Option Addr} {sl_atom : Array (Option Value)}
    {f_pcs : Addr} {oc_pcs kV_pcs dc_pcs pm_pcs cd_pcs ct_pcs : Value} {od_pcs an_pcs : Option Addr} {sl_pcs : Array (Option Value)}
    {f_shown : Addr} {oc_shown kV_shown dc_shown pm_shown cd_shown ct_shown : Value} {od_shown an_shown : Option Addr} {sl_shown : Array (Option Value)}
    {f_read : Addr} {oc_read kV_read dc_read pm_read cd_read ct_read : Value} {od_read an_read : Option Addr} {sl_read : Array (Option Value)}
    {f_root : Addr} {oc_root kV_root dc_root pm_root cd_root ct_root : Value} {od_root an_root : Option Addr} {sl_root : Array (Option Value)}
    {f_newB : Addr} {oc_newB kV_newB dc_newB pm_newB cd_newB ct_newB : Value} {od_newB an_newB : Option Addr} {sl_newB : Array (Option Value)}
    {f_namesB : Addr} {oc_namesB kV_namesB dc_namesB pm_namesB cd_namesB ct_namesB : Value} {od_namesB an_namesB : Option Addr} {sl_namesB : Array (Option Value)}
    {f_wordB : Addr} {oc_wordB kV_wordB dc_wordB pm_wordB cd_wordB ct_wordB : Value} {od_wordB an_wordB : Option Addr} {sl_wordB : Array (Option Value)}
    {f_exp : Addr} {oc_exp kV_exp dc_exp pm_exp cd_exp ct_exp : Value} {od_exp an_exp : Option Addr} {sl_exp : Array (Option Value)}
    {f_made : Addr} {oc_made kV_made dc_made pm_made cd_made ct_made : Value} {od_made an_made : Option Addr} {sl_made : Array (Option Value)}
    {f_isWord : Addr} {oc_isWord kV_isWord dc_isWord pm_isWord cd_isWord ct_isWord : Value} {od_isWord an_isWord : Option Addr} {sl_isWord : Array (Option Value)}
    {f_begW : Addr} {oc_begW kV_begW dc_begW pm_begW cd_begW ct_begW : Value} {od_begW an_begW : Option Addr} {sl_begW : Array (Option Value)}
    {f_begN : Addr} {oc_begN kV_begN dc_begN pm_begN cd_begN ct_begN : Value} {od_begN an_begN : Option Addr} {sl_begN : Array (Option Value)}
    {u_MOST_NAME_SIGNS : Tok}
    {u_FIRST_SIGN : Tok}
    {u_LAST_SIGN : Tok}
    {u_LETTERS : Tok}
    {u_NAME_SIGNS : Tok}
    {u_FIGURES : Tok}
    {u_BLANKS : Tok}
    {ba nn ub : Addr} {oba onn oub : Obj}
    {fo bo oo : Addr} {esF esB esO : Array DictEntry} {nF nB nO : Nat}
    {t0 : Addr} {o0 : Obj}
    {t1 : Addr} {o1 : Obj}
    {t2 : Addr} {o2 : Obj}
    {t3 : Addr} {o3 : Obj}
    {t4 : Addr} {o4 : Obj}
    {t5 : Addr} {o5 : Obj}
    {t6 : Addr} {o6 : Obj}
    {t7 : Addr} {o7 : Obj}
    {t8 : Addr} {o8 : Obj}
    {t9 : Addr} {o9 : Obj}
    {t10 : Addr} {o10 : Obj}
    {t11 : Addr} {o11 : Obj}
    {t12 : Addr} {o12 : Obj}
    {t13 : Addr} {o13 : Obj}
    {t14 : Addr} {o14 : Obj}
    {t15 : Addr} {o15 : Obj}
    {t16 : Addr} {o16 : Obj}
    {t17 : Addr} {o17 : Obj}
    {t18 : Addr} {o18 : Obj}
    {t19 : Addr} {o19 : Obj}
    {t20 : Addr} {o20 : Obj}
    {t21 : Addr} {o21 : Obj}
    {t22 : Addr} {o22 : Obj}
    {t23 : Addr} {o23 : Obj}
    {t24 : Addr} {o24 : Obj}
    {tb0 : Addr} {ob0 : Obj}
    {tb1 : Addr} {ob1 : Obj}
    {tb2 : Addr} {ob2 : Obj}
    {tb3 : Addr} {ob3 : Obj}
    {uo0 : Tok}
    {uo1 : Tok}
    {uo2 : Tok}
    {uo3 : Tok}
    {uo4 : Tok}
    {uo5 : Tok}
    {uo6 : Tok}
    {uo7 : Tok}
    {uo8 : Tok}
    {uo9 : Tok}
    {uo10 : Tok}
    {CB CR : Addr}
    {f_binit : Addr} {oc_binit kV_binit dc_binit pm_binit cd_binit ct_binit : Value} {od_binit an_binit : Option Addr} {sl_binit : Array (Option Value)}
    {f_rinit : Addr} {oc_rinit kV_rinit dc_rinit pm_rinit cd_rinit ct_rinit : Value} {od_rinit an_rinit : Option Addr} {sl_rinit : Array (Option Value)}
    {f_takes : Addr} {oc_takes kV_takes dc_takes pm_takes cd_takes ct_takes : Value} {od_takes an_takes : Option Addr} {sl_takes : Array (Option Value)}
    {f_takes_in_text : Addr} {oc_takes_in_text kV_takes_in_text dc_takes_in_text pm_takes_in_text cd_takes_in_text ct_takes_in_text : Value} {od_takes_in_text an_takes_in_text : Option Addr} {sl_takes_in_text : Array (Option Value)}
    {f_takes_between : Addr} {oc_takes_between kV_takes_between dc_takes_between pm_takes_between cd_takes_between ct_takes_between : Value} {od_takes_between an_takes_between : Option Addr} {sl_takes_between : Array (Option Value)}
    {f_unlocks : Addr} {oc_unlocks kV_unlocks dc_unlocks pm_unlocks cd_unlocks ct_unlocks : Value} {od_unlocks an_unlocks : Option Addr} {sl_unlocks : Array (Option Value)}
    {f_shuts : Addr} {oc_shuts kV_shuts dc_shuts pm_shuts cd_shuts ct_shuts : Value} {od_shuts an_shuts : Option Addr} {sl_shuts : Array (Option Value)}
    {f_begins_part : Addr} {oc_begins_part kV_begins_part dc_begins_part pm_begins_part cd_begins_part ct_begins_part : Value} {od_begins_part an_begins_part : Option Addr} {sl_begins_part : Array (Option Value)}
    {f_begins : Addr} {oc_begins kV_begins dc_begins pm_begins cd_begins ct_begins : Value} {od_begins an_begins : Option Addr} {sl_begins : Array (Option Value)}
    {f_lengthens : Addr} {oc_lengthens kV_lengthens dc_lengthens pm_lengthens cd_lengthens ct_lengthens : Value} {od_lengthens an_lengthens : Option Addr} {sl_lengthens : Array (Option Value)}
    {f_names_here : Addr} {oc_names_here kV_names_here dc_names_here pm_names_here cd_names_here ct_names_here : Value} {od_names_here an_names_here : Option Addr} {sl_names_here : Array (Option Value)}
    {f_completes : Addr} {oc_completes kV_completes dc_completes pm_completes cd_completes ct_completes : Value} {od_completes an_completes : Option Addr} {sl_completes : Array (Option Value)}
    {f_add_thing : Addr} {oc_add_thing kV_add_thing dc_add_thing pm_add_thing cd_add_thing ct_add_thing : Value} {od_add_thing an_add_thing : Option Addr} {sl_add_thing : Array (Option Value)}
    {f_is_whole_text : Addr} {oc_is_whole_text kV_is_whole_text dc_is_whole_text pm_is_whole_text cd_is_whole_text ct_is_whole_text : Value} {od_is_whole_text an_is_whole_text : Option Addr} {sl_is_whole_text : Array (Option Value)}
    {C fI : Addr} {nmC qC : Str} {NC : Addr} {bsC : List Value} {snC : List Str} {subC : List Value} {abC : Bool} {colC : Option Bool} {ddC : Option Addr} {mC0 mC1 mC2 mC3 mC5 : Option Value} {ocI kVI dcI pmI cdI ctI : Value} {odI anI : Option Addr} {slI : Array (Option Value)}
    (X : K.In h) (G : h.Ns mainGlobals mg) (hfa : mg "law" = some (.ref fa))
    (a_next : PySem.W.nsIn K mainGlobals "_law_next" = some (some (.ref f_next)))
    (l_next : K.lookup f_next = some ⟨oc_next, od_next, .func (PySem.W.fnOf "_law_next" "_law_next" (defArgs s_law_next) (defBody s_law_next) (defScope s_law_next) .none kV_next dc_next pm_next an_next cd_next ct_next), sl_next⟩)
    (c_next : PySem.W.codeIn K cd_next "_law_next" = true)
    (k_next : PySem.W.keepIn K (.ref f_next) = true)
    (a_draws : PySem.W.nsIn K mainGlobals "_law_draws" = some (some (.ref f_draws)))
    (l_draws : K.lookup f_draws = some ⟨oc_draws, od_draws, .func (PySem.W.fnOf "_law_draws" "_law_draws" (defArgs s_law_draws) (defBody s_law_draws) (defScope s_law_draws) .none kV_draws dc_draws pm_draws an_draws cd_draws ct_draws), sl_draws⟩)
    (c_draws : PySem.W.codeIn K cd_draws "_law_draws" = true)
    (k_draws : PySem.W.keepIn K (.ref f_draws) = true)
    (a_name1 : PySem.W.nsIn K mainGlobals "_law_name" = some (some (.ref f_name1)))
    (l_name1 : K.lookup f_name1 = some ⟨oc_name1, od_name1, .func (PySem.W.fnOf "_law_name" "_law_name" (defArgs s_law_name) (defBody s_law_name) (defScope s_law_name) .none kV_name1 dc_name1 pm_name1 an_name1 cd_name1 ct_name1), sl_name1⟩)
    (c_name1 : PySem.W.codeIn K cd_name1 "_law_name" = true)
    (k_name1 : PySem.W.keepIn K (.ref f_name1) = true)
    (a_lnames : PySem.W.nsIn K mainGlobals "_law_names" = some (some (.ref f_lnames)))
    (l_lnames : K.lookup f_lnames = some ⟨oc_lnames, od_lnames, .func (PySem.W.fnOf "_law_names" "_law_names" (defArgs s_law_names) (defBody s_law_names) (defScope s_law_names) .none kV_lnames dc_lnames pm_lnames an_lnames cd_lnames ct_lnames), sl_lnames⟩)
    (c_lnames : PySem.W.codeIn K cd_lnames "_law_names" = true)
    (k_lnames : PySem.W.keepIn K (.ref f_lnames) = true)
    (a_atom1 : PySem.W.nsIn K mainGlobals "_law_atom" = some (some (.ref f_atom1)))
    (l_atom1 : K.lookup f_atom1 = some ⟨oc_atom1, od_atom1, .func (PySem.W.fnOf "_law_atom" "_law_atom" (defArgs s_law_atom) (defBody s_law_atom) (defScope s_law_atom) .none kV_atom1 dc_atom1 pm_atom1 an_atom1 cd_atom1 ct_atom1), sl_atom1⟩)
    (c_atom1 : PySem.W.codeIn K cd_atom1 "_law_atom" = true)
    (k_atom1 : PySem.W.keepIn K (.ref f_atom1) = true)
    (a_anyT : PySem.W.nsIn K mainGlobals "_law_any" = some (some (.ref f_anyT)))
    (l_anyT : K.lookup f_anyT = some ⟨oc_anyT, od_anyT, .func (PySem.W.fnOf "_law_any" "_law_any" (defArgs s_law_any) (defBody s_law_any) (defScope s_law_any) .none kV_anyT dc_anyT pm_anyT an_anyT cd_anyT ct_anyT), sl_anyT⟩)
    (c_anyT : PySem.W.codeIn K cd_anyT "_law_any" = true)
    (k_anyT : PySem.W.keepIn K (.ref f_anyT) = true)
    (a_pieces : PySem.W.nsIn K mainGlobals "_law_pieces" = some (some (.ref f_pieces)))
    (l_pieces : K.lookup f_pieces = some ⟨oc_pieces, od_pieces, .func (PySem.W.fnOf "_law_pieces" "_law_pieces" (defArgs s_law_pieces) (defBody s_law_pieces) (defScope s_law_pieces) .none kV_pieces dc_pieces pm_pieces an_pieces cd_pieces ct_pieces), sl_pieces⟩)
    (c_pieces : PySem.W.codeIn K cd_pieces "_law_pieces" = true)
    (k_pieces : PySem.W.keepIn K (.ref f_pieces) = true)
    (a_row : PySem.W.nsIn K mainGlobals "_law_row" = some (some (.ref f_row)))
    (l_row : K.lookup f_row = some ⟨oc_row, od_row, .func (PySem.W.fnOf "_law_row" "_law_row" (defArgs s_law_row) (defBody s_law_row) (defScope s_law_row) .none kV_row dc_row pm_row an_row cd_row ct_row), sl_row⟩)
    (c_row : PySem.W.codeIn K cd_row "_law_row" = true)
    (k_row : PySem.W.keepIn K (.ref f_row) = true)
    (a_apart : PySem.W.nsIn K mainGlobals "_law_apart" = some (some (.ref f_apart)))
    (l_apart : K.lookup f_apart = some ⟨oc_apart, od_apart, .func (PySem.W.fnOf "_law_apart" "_law_apart" (defArgs s_law_apart) (defBody s_law_apart) (defScope s_law_apart) .none kV_apart dc_apart pm_apart an_apart cd_apart ct_apart), sl_apart⟩)
    (c_apart : PySem.W.codeIn K cd_apart "_law_apart" = true)
    (k_apart : PySem.W.keepIn K (.ref f_apart) = true)
    (a_text1 : PySem.W.nsIn K mainGlobals "_law_text" = some (some (.ref f_text1)))
    (l_text1 : K.lookup f_text1 = some ⟨oc_text1, od_text1, .func (PySem.W.fnOf "_law_text" "_law_text" (defArgs s_law_text) (defBody s_law_text) (defScope s_law_text) .none kV_text1 dc_text1 pm_text1 an_text1 cd_text1 ct_text1), sl_text1⟩)
    (c_text1 : PySem.W.codeIn K cd_text1 "_law_text" = true)
    (k_text1 : PySem.W.keepIn K (.ref f_text1) = true)
    (a_loose : PySem.W.nsIn K mainGlobals "_law_loose" = some (some (.ref f_loose)))
    (l_loose : K.lookup f_loose = some ⟨oc_loose, od_loose, .func (PySem.W.fnOf "_law_loose" "_law_loose" (defArgs s_law_loose) (defBody s_law_loose) (defScope s_law_loose) .none kV_loose dc_loose pm_loose an_loose cd_loose ct_loose), sl_loose⟩)
    (c_loose : PySem.W.codeIn K cd_loose "_law_loose" = true)
    (k_loose : PySem.W.keepIn K (.ref f_loose) = true)
    (a_size : PySem.W.nsIn K mainGlobals "_law_size" = some (some (.ref f_size)))
    (l_size : K.lookup f_size = some ⟨oc_size, od_size, .func (PySem.W.fnOf "_law_size" "_law_size" (defArgs s_law_size) (defBody s_law_size) (defScope s_law_size) .none kV_size dc_size pm_size an_size cd_size ct_size), sl_size⟩)
    (c_size : PySem.W.codeIn K cd_size "_law_size" = true)
    (k_size : PySem.W.keepIn K (.ref f_size) = true)
    (a_right : PySem.W.nsIn K mainGlobals "_law_right" = some (some (.ref f_right)))
    (l_right : K.lookup f_right = some ⟨oc_right, od_right, .func (PySem.W.fnOf "_law_right" "_law_right" (defArgs s_law_right) (defBody s_law_right) (defScope s_law_right) .none kV_right dc_right pm_right an_right cd_right ct_right), sl_right⟩)
    (c_right : PySem.W.codeIn K cd_right "_law_right" = true)
    (k_right : PySem.W.keepIn K (.ref f_right) = true)
    (a_law : PySem.W.nsIn K mainGlobals "law" = some (some (.ref f_law)))
    (l_law : K.lookup f_law = some ⟨oc_law, od_law, .func (PySem.W.fnOf "law" "law" (defArgs slaw) (defBody slaw) (defScope slaw) .none kV_law dc_law pm_law an_law cd_law ct_law), sl_law⟩)
    (c_law : PySem.W.codeIn K cd_law "law" = true)
    (k_law : PySem.W.keepIn K (.ref f_law) = true)
    (a_isName : PySem.W.nsIn K mainGlobals "is_name" = some (some (.ref f_isName)))
    (l_isName : K.lookup f_isName = some ⟨oc_isName, od_isName, .func (PySem.W.fnOf "is_name" "is_name" (defArgs sis_name) (defBody sis_name) (defScope sis_name) .none kV_isName dc_isName pm_isName an_isName cd_isName ct_isName), sl_isName⟩)
    (c_isName : PySem.W.codeIn K cd_isName "is_name" = true)
    (k_isName : PySem.W.keepIn K (.ref f_isName) = true)
    (a_sign : PySem.W.nsIn K mainGlobals "is_text_sign" = some (some (.ref f_sign)))
    (l_sign : K.lookup f_sign = some ⟨oc_sign, od_sign, .func (PySem.W.fnOf "is_text_sign" "is_text_sign" (defArgs sis_text_sign) (defBody sis_text_sign) (defScope sis_text_sign) .none kV_sign dc_sign pm_sign an_sign cd_sign ct_sign), sl_sign⟩)
    (c_sign : PySem.W.codeIn K cd_sign "is_text_sign" = true)
    (k_sign : PySem.W.keepIn K (.ref f_sign) = true)
    (a_bnd : PySem.W.nsIn K mainGlobals "binders_of" = some (some (.ref f_bnd)))
    (l_bnd : K.lookup f_bnd = some ⟨oc_bnd, od_bnd, .func (PySem.W.fnOf "binders_of" "binders_of" (defArgs sbinders_of) (defBody sbinders_of) (defScope sbinders_of) .none kV_bnd dc_bnd pm_bnd an_bnd cd_bnd ct_bnd), sl_bnd⟩)
    (c_bnd : PySem.W.codeIn K cd_bnd "binders_of" = true)
    (k_bnd : PySem.W.keepIn K (.ref f_bnd) = true)
    (a_uncl : PySem.W.nsIn K mainGlobals "is_unclear" = some (some (.ref f_uncl)))
    (l_uncl : K.lookup f_uncl = some ⟨oc_uncl, od_uncl, .func (PySem.W.fnOf "is_unclear" "is_unclear" (defArgs sis_unclear) (defBody sis_unclear) (defScope sis_unclear) .none kV_uncl dc_uncl pm_uncl an_uncl cd_uncl ct_uncl), sl_uncl⟩)
    (c_uncl : PySem.W.codeIn K cd_uncl "is_unclear" = true)
    (k_uncl : PySem.W.keepIn K (.ref f_uncl) = true)
    (a_atom : PySem.W.nsIn K mainGlobals "shown_atom" = some (some (.ref f_atom)))
    (l_atom : K.lookup f_atom = some ⟨oc_atom, od_atom, .func (PySem.W.fnOf "shown_atom" "shown_atom" (defArgs sshown_atom) (defBody sshown_atom) (defScope sshown_atom) .none kV_atom dc_atom pm_atom an_atom cd_atom ct_atom), sl_atom⟩)
    (c_atom : PySem.W.codeIn K cd_atom "shown_atom" = true)
    (k_atom : PySem.W.keepIn K (.ref f_atom) = true)
    (a_pcs : PySem.W.nsIn K mainGlobals "pieces_of" = some (some (.ref f_pcs)))
    (l_pcs : K.lookup f_pcs = some ⟨oc_pcs, od_pcs, .func (PySem.W.fnOf "pieces_of" "pieces_of" (defArgs spieces_of) (defBody spieces_of) (defScope spieces_of) .none kV_pcs dc_pcs pm_pcs an_pcs cd_pcs ct_pcs), sl_pcs⟩)
    (c_pcs : PySem.W.codeIn K cd_pcs "pieces_of" = true)
    (k_pcs : PySem.W.keepIn K (.ref f_pcs) = true)
    (a_shown : PySem.W.nsIn K mainGlobals "shown_term" = some (some (.ref f_shown)))
    (l_shown : K.lookup f_shown = some ⟨oc_shown, od_shown, .func (PySem.W.fnOf "shown_term" "shown_term" (defArgs sshown_term) (defBody sshown_term) (defScope sshown_term) .none kV_shown dc_shown pm_shown an_shown cd_shown ct_shown), sl_shown⟩)
    (c_shown : PySem.W.codeIn K cd_shown "shown_term" = true)
    (k_shown : PySem.W.keepIn K (.ref f_shown) = true)
    (a_read : PySem.W.nsIn K mainGlobals "read_term" = some (some (.ref f_read)))
    (l_read : K.lookup f_read = some ⟨oc_read, od_read, .func (PySem.W.fnOf "read_term" "read_term" (defArgs sread_term) (defBody sread_term) (defScope sread_term) .none kV_read dc_read pm_read an_read cd_read ct_read), sl_read⟩)
    (c_read : PySem.W.codeIn K cd_read "read_term" = true)
    (k_read : PySem.W.keepIn K (.ref f_read) = true)
    (a_root : PySem.W.nsIn K mainGlobals "root_bracket" = some (some (.ref f_root)))
    (l_root : K.lookup f_root = some ⟨oc_root, od_root, .func (PySem.W.fnOf "root_bracket" "root_bracket" (defArgs sroot_bracket) (defBody sroot_bracket) (defScope sroot_bracket) .none kV_root dc_root pm_root an_root cd_root ct_root), sl_root⟩)
    (c_root : PySem.W.codeIn K cd_root "root_bracket" = true)
    (k_root : PySem.W.keepIn K (.ref f_root) = true)
    (a_newB : PySem.W.nsIn K mainGlobals "new_bracket" = some (some (.ref f_newB)))
    (l_newB : K.lookup f_newB = some ⟨oc_newB, od_newB, .func (PySem.W.fnOf "new_bracket" "new_bracket" (defArgs snew_bracket) (defBody snew_bracket) (defScope snew_bracket) .none kV_newB dc_newB pm_newB an_newB cd_newB ct_newB), sl_newB⟩)
    (c_newB : PySem.W.codeIn K cd_newB "new_bracket" = true)
    (k_newB : PySem.W.keepIn K (.ref f_newB) = true)
    (a_namesB : PySem.W.nsIn K mainGlobals "names_bracket" = some (some (.ref f_namesB)))
    (l_namesB : K.lookup f_namesB = some ⟨oc_namesB, od_namesB, .func (PySem.W.fnOf "names_bracket" "names_bracket" (defArgs snames_bracket) (defBody snames_bracket) (defScope snames_bracket) .none kV_namesB dc_namesB pm_namesB an_namesB cd_namesB ct_namesB), sl_namesB⟩)
    (c_namesB : PySem.W.codeIn K cd_namesB "names_bracket" = true)
    (k_namesB : PySem.W.keepIn K (.ref f_namesB) = true)
    (a_wordB : PySem.W.nsIn K mainGlobals "word_bracket" = some (some (.ref f_wordB)))
    (l_wordB : K.lookup f_wordB = some ⟨oc_wordB, od_wordB, .func (PySem.W.fnOf "word_bracket" "word_bracket" (defArgs sword_bracket) (defBody sword_bracket) (defScope sword_bracket) .none kV_wordB dc_wordB pm_wordB an_wordB cd_wordB ct_wordB), sl_wordB⟩)
    (c_wordB : PySem.W.codeIn K cd_wordB "word_bracket" = true)
    (k_wordB : PySem.W.keepIn K (.ref f_wordB) = true)
    (a_exp : PySem.W.nsIn K mainGlobals "expected_in" = some (some (.ref f_exp)))
    (l_exp : K.lookup f_exp = some ⟨oc_exp, od_exp, .func (PySem.W.fnOf "expected_in" "expected_in" (defArgs sexpected_in) (defBody sexpected_in) (defScope sexpected_in) .none kV_exp dc_exp pm_exp an_exp cd_exp ct_exp), sl_exp⟩)
    (c_exp : PySem.W.codeIn K cd_exp "expected_in" = true)
    (k_exp : PySem.W.keepIn K (.ref f_exp) = true)
    (a_made : PySem.W.nsIn K mainGlobals "made_of" = some (some (.ref f_made)))
    (l_made : K.lookup f_made = some ⟨oc_made, od_made, .func (PySem.W.fnOf "made_of" "made_of" (defArgs smade_of) (defBody smade_of) (defScope smade_of) .none kV_made dc_made pm_made an_made cd_made ct_made), sl_made⟩)
    (c_made : PySem.W.codeIn K cd_made "made_of" = true)
    (k_made : PySem.W.keepIn K (.ref f_made) = true)
    (a_isWord : PySem.W.nsIn K mainGlobals "is_word" = some (some (.ref f_isWord)))
    (l_isWord : K.lookup f_isWord = some ⟨oc_isWord, od_isWord, .func (PySem.W.fnOf "is_word" "is_word" (defArgs sis_word) (defBody sis_word) (defScope sis_word) .none kV_isWord dc_isWord pm_isWord an_isWord cd_isWord ct_isWord), sl_isWord⟩)
    (c_isWord : PySem.W.codeIn K cd_isWord "is_word" = true)
    (k_isWord : PySem.W.keepIn K (.ref f_isWord) = true)
    (a_begW : PySem.W.nsIn K mainGlobals "begins_word" = some (some (.ref f_begW)))
    (l_begW : K.lookup f_begW = some ⟨oc_begW, od_begW, .func (PySem.W.fnOf "begins_word" "begins_word" (defArgs sbegins_word) (defBody sbegins_word) (defScope sbegins_word) .none kV_begW dc_begW pm_begW an_begW cd_begW ct_begW), sl_begW⟩)
    (c_begW : PySem.W.codeIn K cd_begW "begins_word" = true)
    (k_begW : PySem.W.keepIn K (.ref f_begW) = true)
    (a_begN : PySem.W.nsIn K mainGlobals "begins_number" = some (some (.ref f_begN)))
    (l_begN : K.lookup f_begN = some ⟨oc_begN, od_begN, .func (PySem.W.fnOf "begins_number" "begins_number" (defArgs sbegins_number) (defBody sbegins_number) (defScope sbegins_number) .none kV_begN dc_begN pm_begN an_begN cd_begN ct_begN), sl_begN⟩)
    (c_begN : PySem.W.codeIn K cd_begN "begins_number" = true)
    (k_begN : PySem.W.keepIn K (.ref f_begN) = true)
    (z_len : PySem.W.nsIn K mainGlobals "len" = some none)
    (z_min : PySem.W.nsIn K mainGlobals "min" = some none)
    (z_list : PySem.W.nsIn K mainGlobals "list" = some none)
    (z_any : PySem.W.nsIn K mainGlobals "any" = some none)
    (z_all : PySem.W.nsIn K mainGlobals "all" = some none)
    (z_isinstance : PySem.W.nsIn K mainGlobals "isinstance" = some none)
    (z_str : PySem.W.nsIn K mainGlobals "str" = some none)
    (z_ord : PySem.W.nsIn K mainGlobals "ord" = some none)
    (z_tuple : PySem.W.nsIn K mainGlobals "tuple" = some none)
    (z_int : PySem.W.nsIn K mainGlobals "int" = some none)
    (z_enumerate : PySem.W.nsIn K mainGlobals "enumerate" = some none)
    (z_zip : PySem.W.nsIn K mainGlobals "zip" = some none)
    (z_reversed : PySem.W.nsIn K mainGlobals "reversed" = some none)
    (z_range : PySem.W.nsIn K mainGlobals "range" = some none)
    (z_ValueError : PySem.W.nsIn K mainGlobals "ValueError" = some none)
    (z_sum : PySem.W.nsIn K mainGlobals "sum" = some none)
    (z_max : PySem.W.nsIn K mainGlobals "max" = some none)
    (a_MOST_NAME_SIGNS : PySem.W.nsIn K mainGlobals "MOST_NAME_SIGNS" = some (some (.int 12 u_MOST_NAME_SIGNS)))
    (a_FIRST_SIGN : PySem.W.nsIn K mainGlobals "FIRST_SIGN" = some (some (.int 32 u_FIRST_SIGN)))
    (a_LAST_SIGN : PySem.W.nsIn K mainGlobals "LAST_SIGN" = some (some (.int 126 u_LAST_SIGN)))
    (a_LETTERS : PySem.W.nsIn K mainGlobals "LETTERS" = some (some (.str "abcdefghijklmnopqrstuvwxyz" u_LETTERS)))
    (a_NAME_SIGNS : PySem.W.nsIn K mainGlobals "NAME_SIGNS" = some (some (.str "abcdefghijklmnopqrstuvwxyz0123456789" u_NAME_SIGNS)))
    (a_FIGURES : PySem.W.nsIn K mainGlobals "FIGURES" = some (some (.str "0123456789" u_FIGURES)))
    (a_BLANKS : PySem.W.nsIn K mainGlobals "BLANKS" = some (some (.str " \n" u_BLANKS)))
    (a_BARRED_SIGNS : PySem.W.nsIn K mainGlobals "BARRED_SIGNS" = some (some (.ref ba)))
    (g_BARRED_SIGNS : K.lookup ba = some oba)
    (v_BARRED_SIGNS : tupN oba = some ([34, 37, 92] : List Int))
    (a_NO_NAMES : PySem.W.nsIn K mainGlobals "NO_NAMES" = some (some (.ref nn)))
    (g_NO_NAMES : K.lookup nn = some onn)
    (v_NO_NAMES : tupS onn = some noNames)
    (a_UNBRACKETED : PySem.W.nsIn K mainGlobals "UNBRACKETED" = some (some (.ref ub)))
    (g_UNBRACKETED : K.lookup ub = some oub)
    (v_UNBRACKETED : tupS oub = some unbr)
    (a_FORMS : PySem.W.nsIn K mainGlobals "FORMS" = some (some (.ref fo)))
    (l_FORMS : K.lookup fo = some ⟨.type "dict", none, .dict esF nF, #[]⟩)
    (klF : PySem.W.KeysLit w.params esF.toList)
    (loF : (fo == sysModules) = false)
    (ksF : keysD esF.toList = some formWords)
    (a_BOUNDS : PySem.W.nsIn K mainGlobals "BOUNDS" = some (some (.ref bo)))
    (l_BOUNDS : K.lookup bo = some ⟨.type "dict", none, .dict esB nB, #[]⟩)
    (klB : PySem.W.KeysLit w.params esB.toList)
    (loB : (bo == sysModules) = false)
    (ksB : keysD esB.toList = some (bounds.map (·.1)))
    (a_OPS : PySem.W.nsIn K mainGlobals "OPS" = some (some (.ref oo)))
    (l_OPS : K.lookup oo = some ⟨.type "dict", none, .dict esO nO, #[]⟩)
    (klO : PySem.W.KeysLit w.params esO.toList)
    (loO : (oo == sysModules) = false)
    (ksO : keysD esO.toList = some opWords)
    (e0 : PySem.W.nsIn K fo "num" = some (some (.ref t0)))
    (g0 : K.lookup t0 = some o0)
    (v0 : tupS o0 = some (["number"] : List Str))
    (e1 : PySem.W.nsIn K fo "text" = some (some (.ref t1)))
    (g1 : K.lookup t1 = some o1)
    (v1 : tupS o1 = some (["text"] : List Str))
    (e2 : PySem.W.nsIn K fo "yes" = some (some (.ref t2)))
    (g2 : K.lookup t2 = some o2)
    (v2 : tupS o2 = some ([] : List Str))
    (e3 : PySem.W.nsIn K fo "no" = some (some (.ref t3)))
    (g3 : K.lookup t3 = some o3)
    (v3 : tupS o3 = some ([] : List Str))
    (e4 : PySem.W.nsIn K fo "none" = some (some (.ref t4)))
    (g4 : K.lookup t4 = some o4)
    (v4 : tupS o4 = some ([] : List Str))
    (e5 : PySem.W.nsIn K fo "name" = some (some (.ref t5)))
    (g5 : K.lookup t5 = some o5)
    (v5 : tupS o5 = some (["name"] : List Str))
    (e6 : PySem.W.nsIn K fo "fun" = some (some (.ref t6)))
    (g6 : K.lookup t6 = some o6)
    (v6 : tupS o6 = some (["binders", "part"] : List Str))
    (e7 : PySem.W.nsIn K fo "rec" = some (some (.ref t7)))
    (g7 : K.lookup t7 = some o7)
    (v7 : tupS o7 = some (["binder", "binders", "part"] : List Str))
    (e8 : PySem.W.nsIn K fo "call" = some (some (.ref t8)))
    (g8 : K.lookup t8 = some o8)
    (v8 : tupS o8 = some (["part", "handed parts"] : List Str))
    (e9 : PySem.W.nsIn K fo "let" = some (some (.ref t9)))
    (g9 : K.lookup t9 = some o9)
    (v9 : tupS o9 = some (["binder", "part", "part"] : List Str))
    (e10 : PySem.W.nsIn K fo "if" = some (some (.ref t10)))
    (g10 : K.lookup t10 = some o10)
    (v10 : tupS o10 = some (["part", "part", "part"] : List Str))
    (e11 : PySem.W.nsIn K fo "do" = some (some (.ref t11)))
    (g11 : K.lookup t11 = some o11)
    (v11 : tupS o11 = some (["row parts"] : List Str))
    (e12 : PySem.W.nsIn K fo "op" = some (some (.ref t12)))
    (g12 : K.lookup t12 = some o12)
    (v12 : tupS o12 = some (["word", "op parts"] : List Str))
    (e13 : PySem.W.nsIn K fo "cell" = some (some (.ref t13)))
    (g13 : K.lookup t13 = some o13)
    (v13 : tupS o13 = some (["part"] : List Str))
    (e14 : PySem.W.nsIn K fo "get" = some (some (.ref t14)))
    (g14 : K.lookup t14 = some o14)
    (v14 : tupS o14 = some (["part"] : List Str))
    (e15 : PySem.W.nsIn K fo "set" = some (some (.ref t15)))
    (g15 : K.lookup t15 = some o15)
    (v15 : tupS o15 = some (["part", "part"] : List Str))
    (e16 : PySem.W.nsIn K fo "say" = some (some (.ref t16)))
    (g16 : K.lookup t16 = some o16)
    (v16 : tupS o16 = some (["part"] : List Str))
    (e17 : PySem.W.nsIn K fo "fault" = some (some (.ref t17)))
    (g17 : K.lookup t17 = some o17)
    (v17 : tupS o17 = some (["part"] : List Str))
    (e18 : PySem.W.nsIn K fo "guard" = some (some (.ref t18)))
    (g18 : K.lookup t18 = some o18)
    (v18 : tupS o18 = some (["part", "binder", "part"] : List Str))
    (e19 : PySem.W.nsIn K fo "wind" = some (some (.ref t19)))
    (g19 : K.lookup t19 = some o19)
    (v19 : tupS o19 = some (["part", "part", "part"] : List Str))
    (e20 : PySem.W.nsIn K fo "catch" = some (some (.ref t20)))
    (g20 : K.lookup t20 = some o20)
    (v20 : tupS o20 = some (["binder", "part"] : List Str))
    (e21 : PySem.W.nsIn K fo "go" = some (some (.ref t21)))
    (g21 : K.lookup t21 = some o21)
    (v21 : tupS o21 = some (["part", "part"] : List Str))
    (e22 : PySem.W.nsIn K fo "mark" = some (some (.ref t22)))
    (g22 : K.lookup t22 = some o22)
    (v22 : tupS o22 = some (["tag", "part"] : List Str))
    (e23 : PySem.W.nsIn K fo "take" = some (some (.ref t23)))
    (g23 : K.lookup t23 = some o23)
    (v23 : tupS o23 = some (["tag", "binder", "part"] : List Str))
    (e24 : PySem.W.nsIn K fo "use" = some (some (.ref t24)))
    (g24 : K.lookup t24 = some o24)
    (v24 : tupS o24 = some (["part", "part"] : List Str))
    (eb0 : PySem.W.nsIn K bo "binders" = some (some (.ref tb0)))
    (gb0 : K.lookup tb0 = some ob0)
    (vb0 : tupN ob0 = some ([0, 6] : List Int))
    (eb1 : PySem.W.nsIn K bo "handed parts" = some (some (.ref tb1)))
    (gb1 : K.lookup tb1 = some ob1)
    (vb1 : tupN ob1 = some ([0, 6] : List Int))
    (eb2 : PySem.W.nsIn K bo "row parts" = some (some (.ref tb2)))
    (gb2 : K.lookup tb2 = some ob2)
    (vb2 : tupN ob2 = some ([1, 12] : List Int))
    (eb3 : PySem.W.nsIn K bo "op parts" = some (some (.ref tb3)))
    (gb3 : K.lookup tb3 = some ob3)
    (vb3 : tupN ob3 = some ([1, 2] : List Int))
    (eo0 : PySem.W.nsIn K oo "plus" = some (some (.int 2 uo0)))
    (eo1 : PySem.W.nsIn K oo "minus" = some (some (.int 2 uo1)))
    (eo2 : PySem.W.nsIn K oo "times" = some (some (.int 2 uo2)))
    (eo3 : PySem.W.nsIn K oo "less" = some (some (.int 2 uo3)))
    (eo4 : PySem.W.nsIn K oo "same" = some (some (.int 2 uo4)))
    (eo5 : PySem.W.nsIn K oo "joined" = some (some (.int 2 uo5)))
    (eo6 : PySem.W.nsIn K oo "pair" = some (some (.int 2 uo6)))
    (eo7 : PySem.W.nsIn K oo "first" = some (some (.int 1 uo7)))
    (eo8 : PySem.W.nsIn K oo "rest" = some (some (.int 1 uo8)))
    (eo9 : PySem.W.nsIn K oo "kind" = some (some (.int 1 uo9)))
    (eo10 : PySem.W.nsIn K oo "written" = some (some (.int 1 uo10)))
    (a_Bracket : PySem.W.nsIn K mainGlobals "Bracket" = some (some (.ref CB)))
    (pgCB : PySem.W.plainGet K CB Str.empty = true)
    (hdCB : PySem.W.hasDictIn K CB = true)
    (poCB : PySem.W.plainOver K CB = true)
    (saCB : PySem.W.findIn K (.ref CB) "__setattr__" = some (some (.builtin "object.__setattr__")))
    (noCB_word : PySem.W.findIn K (.ref CB) "word" = some none)
    (noCB_kinds : PySem.W.findIn K (.ref CB) "kinds" = some none)
    (noCB_least : PySem.W.findIn K (.ref CB) "least" = some none)
    (noCB_most : PySem.W.findIn K (.ref CB) "most" = some none)
    (noCB_things : PySem.W.findIn K (.ref CB) "things" = some none)
    (mkCB : PySem.W.makesIn K CB = true)
    (kpCB : PySem.W.keepIn K (.ref CB) = true)
    (a_Reader : PySem.W.nsIn K mainGlobals "Reader" = some (some (.ref CR)))
    (pgCR : PySem.W.plainGet K CR Str.empty = true)
    (hdCR : PySem.W.hasDictIn K CR = true)
    (poCR : PySem.W.plainOver K CR = true)
    (saCR : PySem.W.findIn K (.ref CR) "__setattr__" = some (some (.builtin "object.__setattr__")))
    (noCR_brackets : PySem.W.findIn K (.ref CR) "brackets" = some none)
    (noCR_token : PySem.W.findIn K (.ref CR) "token" = some none)
    (noCR_reads : PySem.W.findIn K (.ref CR) "reads" = some none)
    (mkCR : PySem.W.makesIn K CR = true)
    (kpCR : PySem.W.keepIn K (.ref CR) = true)
    (a_binit : PySem.W.findIn K (.ref CB) "__init__" = some (some (.ref f_binit)))
    (fn_binit : PySem.W.isFn K (.ref f_binit) = true)
    (l_binit : K.lookup f_binit = some ⟨oc_binit, od_binit, .func (PySem.W.fnOf "__init__" "Bracket.__init__" (defArgs sBracket___init__) (defBody sBracket___init__) (defScope sBracket___init__) .none kV_binit dc_binit pm_binit an_binit cd_binit ct_binit), sl_binit⟩)
    (c_binit : PySem.W.codeIn K cd_binit "Bracket.__init__" = true)
    (k_binit : PySem.W.keepIn K (.ref f_binit) = true)
    (a_rinit : PySem.W.findIn K (.ref CR) "__init__" = some (some (.ref f_rinit)))
    (fn_rinit : PySem.W.isFn K (.ref f_rinit) = true)
    (l_rinit : K.lookup f_rinit = some ⟨oc_rinit, od_rinit, .func (PySem.W.fnOf "__init__" "Reader.__init__" (defArgs sReader___init__) (defBody sReader___init__) (defScope sReader___init__) .none kV_rinit dc_rinit pm_rinit an_rinit cd_rinit ct_rinit), sl_rinit⟩)
    (c_rinit : PySem.W.codeIn K cd_rinit "Reader.__init__" = true)
    (k_rinit : PySem.W.keepIn K (.ref f_rinit) = true)
    (a_takes : PySem.W.findIn K (.ref CR) "takes" = some (some (.ref f_takes)))
    (fn_takes : PySem.W.isFn K (.ref f_takes) = true)
    (l_takes : K.lookup f_takes = some ⟨oc_takes, od_takes, .func (PySem.W.fnOf "takes" "Reader.takes" (defArgs sReader_takes) (defBody sReader_takes) (defScope sReader_takes) .none kV_takes dc_takes pm_takes an_takes cd_takes ct_takes), sl_takes⟩)
    (c_takes : PySem.W.codeIn K cd_takes "Reader.takes" = true)
    (k_takes : PySem.W.keepIn K (.ref f_takes) = true)
    (a_takes_in_text : PySem.W.findIn K (.ref CR) "takes_in_text" = some (some (.ref f_takes_in_text)))
    (fn_takes_in_text : PySem.W.isFn K (.ref f_takes_in_text) = true)
    (l_takes_in_text : K.lookup f_takes_in_text = some ⟨oc_takes_in_text, od_takes_in_text, .func (PySem.W.fnOf "takes_in_text" "Reader.takes_in_text" (defArgs sReader_takes_in_text) (defBody sReader_takes_in_text) (defScope sReader_takes_in_text) .none kV_takes_in_text dc_takes_in_text pm_takes_in_text an_takes_in_text cd_takes_in_text ct_takes_in_text), sl_takes_in_text⟩)
    (c_takes_in_text : PySem.W.codeIn K cd_takes_in_text "Reader.takes_in_text" = true)
    (k_takes_in_text : PySem.W.keepIn K (.ref f_takes_in_text) = true)
    (a_takes_between : PySem.W.findIn K (.ref CR) "takes_between" = some (some (.ref f_takes_between)))
    (fn_takes_between : PySem.W.isFn K (.ref f_takes_between) = true)
    (l_takes_between : K.lookup f_takes_between = some ⟨oc_takes_between, od_takes_between, .func (PySem.W.fnOf "takes_between" "Reader.takes_between" (defArgs sReader_takes_between) (defBody sReader_takes_between) (defScope sReader_takes_between) .none kV_takes_between dc_takes_between pm_takes_between an_takes_between cd_takes_between ct_takes_between), sl_takes_between⟩)
    (c_takes_between : PySem.W.codeIn K cd_takes_between "Reader.takes_between" = true)
    (k_takes_between : PySem.W.keepIn K (.ref f_takes_between) = true)
    (a_unlocks : PySem.W.findIn K (.ref CR) "unlocks" = some (some (.ref f_unlocks)))
    (fn_unlocks : PySem.W.isFn K (.ref f_unlocks) = true)
    (l_unlocks : K.lookup f_unlocks = some ⟨oc_unlocks, od_unlocks, .func (PySem.W.fnOf "unlocks" "Reader.unlocks" (defArgs sReader_unlocks) (defBody sReader_unlocks) (defScope sReader_unlocks) .none kV_unlocks dc_unlocks pm_unlocks an_unlocks cd_unlocks ct_unlocks), sl_unlocks⟩)
    (c_unlocks : PySem.W.codeIn K cd_unlocks "Reader.unlocks" = true)
    (k_unlocks : PySem.W.keepIn K (.ref f_unlocks) = true)
    (a_shuts : PySem.W.findIn K (.ref CR) "shuts" = some (some (.ref f_shuts)))
    (fn_shuts : PySem.W.isFn K (.ref f_shuts) = true)
    (l_shuts : K.lookup f_shuts = some ⟨oc_shuts, od_shuts, .func (PySem.W.fnOf "shuts" "Reader.shuts" (defArgs sReader_shuts) (defBody sReader_shuts) (defScope sReader_shuts) .none kV_shuts dc_shuts pm_shuts an_shuts cd_shuts ct_shuts), sl_shuts⟩)
    (c_shuts : PySem.W.codeIn K cd_shuts "Reader.shuts" = true)
    (k_shuts : PySem.W.keepIn K (.ref f_shuts) = true)
    (a_begins_part : PySem.W.findIn K (.ref CR) "begins_part" = some (some (.ref f_begins_part)))
    (fn_begins_part : PySem.W.isFn K (.ref f_begins_part) = true)
    (l_begins_part : K.lookup f_begins_part = some ⟨oc_begins_part, od_begins_part, .func (PySem.W.fnOf "begins_part" "Reader.begins_part" (defArgs sReader_begins_part) (defBody sReader_begins_part) (defScope sReader_begins_part) .none kV_begins_part dc_begins_part pm_begins_part an_begins_part cd_begins_part ct_begins_part), sl_begins_part⟩)
    (c_begins_part : PySem.W.codeIn K cd_begins_part "Reader.begins_part" = true)
    (k_begins_part : PySem.W.keepIn K (.ref f_begins_part) = true)
    (a_begins : PySem.W.findIn K (.ref CR) "begins" = some (some (.ref f_begins)))
    (fn_begins : PySem.W.isFn K (.ref f_begins) = true)
    (l_begins : K.lookup f_begins = some ⟨oc_begins, od_begins, .func (PySem.W.fnOf "begins" "Reader.begins" (defArgs sReader_begins) (defBody sReader_begins) (defScope sReader_begins) .none kV_begins dc_begins pm_begins an_begins cd_begins ct_begins), sl_begins⟩)
    (c_begins : PySem.W.codeIn K cd_begins "Reader.begins" = true)
    (k_begins : PySem.W.keepIn K (.ref f_begins) = true)
    (a_lengthens : PySem.W.findIn K (.ref CR) "lengthens" = some (some (.ref f_lengthens)))
    (fn_lengthens : PySem.W.isFn K (.ref f_lengthens) = true)
    (l_lengthens : K.lookup f_lengthens = some ⟨oc_lengthens, od_lengthens, .func (PySem.W.fnOf "lengthens" "Reader.lengthens" (defArgs sReader_lengthens) (defBody sReader_lengthens) (defScope sReader_lengthens) .none kV_lengthens dc_lengthens pm_lengthens an_lengthens cd_lengthens ct_lengthens), sl_lengthens⟩)
    (c_lengthens : PySem.W.codeIn K cd_lengthens "Reader.lengthens" = true)
    (k_lengthens : PySem.W.keepIn K (.ref f_lengthens) = true)
    (a_names_here : PySem.W.findIn K (.ref CR) "names_here" = some (some (.ref f_names_here)))
    (fn_names_here : PySem.W.isFn K (.ref f_names_here) = true)
    (l_names_here : K.lookup f_names_here = some ⟨oc_names_here, od_names_here, .func (PySem.W.fnOf "names_here" "Reader.names_here" (defArgs sReader_names_here) (defBody sReader_names_here) (defScope sReader_names_here) .none kV_names_here dc_names_here pm_names_here an_names_here cd_names_here ct_names_here), sl_names_here⟩)
    (c_names_here : PySem.W.codeIn K cd_names_here "Reader.names_here" = true)
    (k_names_here : PySem.W.keepIn K (.ref f_names_here) = true)
    (a_completes : PySem.W.findIn K (.ref CR) "completes" = some (some (.ref f_completes)))
    (fn_completes : PySem.W.isFn K (.ref f_completes) = true)
    (l_completes : K.lookup f_completes = some ⟨oc_completes, od_completes, .func (PySem.W.fnOf "completes" "Reader.completes" (defArgs sReader_completes) (defBody sReader_completes) (defScope sReader_completes) .none kV_completes dc_completes pm_completes an_completes cd_completes ct_completes), sl_completes⟩)
    (c_completes : PySem.W.codeIn K cd_completes "Reader.completes" = true)
    (k_completes : PySem.W.keepIn K (.ref f_completes) = true)
    (a_add_thing : PySem.W.findIn K (.ref CR) "add_thing" = some (some (.ref f_add_thing)))
    (fn_add_thing : PySem.W.isFn K (.ref f_add_thing) = true)
    (l_add_thing : K.lookup f_add_thing = some ⟨oc_add_thing, od_add_thing, .func (PySem.W.fnOf "add_thing" "Reader.add_thing" (defArgs sReader_add_thing) (defBody sReader_add_thing) (defScope sReader_add_thing) .none kV_add_thing dc_add_thing pm_add_thing an_add_thing cd_add_thing ct_add_thing), sl_add_thing⟩)
    (c_add_thing : PySem.W.codeIn K cd_add_thing "Reader.add_thing" = true)
    (k_add_thing : PySem.W.keepIn K (.ref f_add_thing) = true)
    (a_is_whole_text : PySem.W.findIn K (.ref CR) "is_whole_text" = some (some (.ref f_is_whole_text)))
    (fn_is_whole_text : PySem.W.isFn K (.ref f_is_whole_text) = true)
    (l_is_whole_text : K.lookup f_is_whole_text = some ⟨oc_is_whole_text, od_is_whole_text, .func (PySem.W.fnOf "is_whole_text" "Reader.is_whole_text" (defArgs sReader_is_whole_text) (defBody sReader_is_whole_text) (defScope sReader_is_whole_text) .none kV_is_whole_text dc_is_whole_text pm_is_whole_text an_is_whole_text cd_is_whole_text ct_is_whole_text), sl_is_whole_text⟩)
    (c_is_whole_text : PySem.W.codeIn K cd_is_whole_text "Reader.is_whole_text" = true)
    (k_is_whole_text : PySem.W.keepIn K (.ref f_is_whole_text) = true)
    (aC : PySem.W.nsIn K mainGlobals "NoText" = some (some (.ref C)))
    (xL : K.lookup C = some (excClassObj nmC qC C NC bsC PySem.HandSPX.veTail true snC subC abC colC ddC mC0 mC1 mC2 mC3 mC5 "ValueError.__new__"))
    (saC : PySem.W.findIn K (.ref C) "__setattr__" = some (some (.builtin "object.__setattr__")))
    (gaC : PySem.W.findIn K (.ref C) "__getattribute__" = some (some (.builtin "BaseException.__getattribute__")))
    (ggC : PySem.W.findIn K (.ref C) "__getattr__" = some none)
    (nbC : PySem.W.findIn K (.ref C) "at" = some none)
    (aI : PySem.W.findIn K (.ref C) "__init__" = some (some (.ref fI)))
    (tI : PySem.W.typeIn K (.ref fI) = some (.type "function"))
    (lI : K.lookup fI = some ⟨ocI, odI, .func (PySem.W.fnOf "__init__" "NoText.__init__" (defArgs sInitX) (defBody sInitX) (defScope sInitX) .none kVI dcI pmI anI cdI ctI), slI⟩)
    (cI : PySem.W.codeIn K cdI "NoText.__init__" = true)
    (kI : PySem.W.keepIn K (.ref fI) = true)
    (kC : PySem.W.keepIn K (.ref C) = true)
    (eC : PySem.W.subIn K (.ref C) (.type "BaseException") = some true)
    (tC : PySem.W.typeIn K (.ref C) = some (.type "type"))
    (hdC : PySem.W.hasDictIn K C = true)
    (clC : PySem.W.isClsIn K C = true)
    (vV : PySem.W.findCls K (.type "ValueError") (.type "type") "__init__" = some (.val (.builtin "ValueError.__init__")))
    :
    ∃ fd : FuncData, (∀ (s : Shared) (v : Value), BindsTo s fd ⟨[v], []⟩ [("_law_script", v)]) ∧ ∀ base : Heap, K.In base → base.Ns mainGlobals mg → FnG l.prog w K mg base 14 fa fd ["_law_script"] (spLaw K) := by
  have e := hfa.symm.trans (PySem.W.mg_of X G a_law)
  cases e
  have F_next := fun_mk (st := s_law_next) l_next c_next k_next
  have m_next := PySem.W.mg_of X G a_next
  have b_next := F_next.binds (ps := ["_law_dr"]) fun _ _ _ _ _ _ us hl => match us, hl with | [_], _ => rfl
  have F_draws := fun_mk (st := s_law_draws) l_draws c_draws k_draws
  have m_draws := PySem.W.mg_of X G a_draws
  have b_draws := F_draws.binds (ps := ["_law_cell"]) fun _ _ _ _ _ _ us hl => match us, hl with | [_], _ => rfl
  have F_name1 := fun_mk (st := s_law_name) l_name1 c_name1 k_name1
  have m_name1 := PySem.W.mg_of X G a_name1
  have b_name1 := F_name1.binds (ps := ["_law_dr"]) fun _ _ _ _ _ _ us hl => match us, hl with | [_], _ => rfl
  have F_lnames := fun_mk (st := s_law_names) l_lnames c_lnames k_lnames
  have m_lnames := PySem.W.mg_of X G a_lnames
  have b_lnames := F_lnames.binds (ps := ["_law_dr", "_law_most"]) fun _ _ _ _ _ _ us hl => match us, hl with | [_, _], _ => rfl
  have F_atom1 := fun_mk (st := s_law_atom) l_atom1 c_atom1 k_atom1
  have m_atom1 := PySem.W.mg_of X G a_atom1
  have b_atom1 := F_atom1.binds (ps := ["_law_dr"]) fun _ _ _ _ _ _ us hl => match us, hl with | [_], _ => rfl
  have F_anyT := fun_mk (st := s_law_any) l_anyT c_anyT k_anyT
  have m_anyT := PySem.W.mg_of X G a_anyT
  have b_anyT := F_anyT.binds (ps := ["_law_dr", "_law_deep"]) fun _ _ _ _ _ _ us hl => match us, hl with | [_, _], _ => rfl
  have F_pieces := fun_mk (st := s_law_pieces) l_pieces c_pieces k_pieces
  have m_pieces := PySem.W.mg_of X G a_pieces
  have b_pieces := F_pieces.binds (ps := ["_law_a_term"]) fun _ _ _ _ _ _ us hl => match us, hl with | [_], _ => rfl
  have F_row := fun_mk (st := s_law_row) l_row c_row k_row
  have m_row := PySem.W.mg_of X G a_row
  have b_row := F_row.binds (ps := ["_law_word", "_law_things"]) fun _ _ _ _ _ _ us hl => match us, hl with | [_, _], _ => rfl
  have F_apart := fun_mk (st := s_law_apart) l_apart c_apart k_apart
  have m_apart := PySem.W.mg_of X G a_apart
  have b_apart := F_apart.binds (ps := ["_law_one", "_law_two"]) fun _ _ _ _ _ _ us hl => match us, hl with | [_, _], _ => rfl
  have F_text1 := fun_mk (st := s_law_text) l_text1 c_text1 k_text1
  have m_text1 := PySem.W.mg_of X G a_text1
  have b_text1 := F_text1.binds (ps := ["_law_pieces_here"]) fun _ _ _ _ _ _ us hl => match us, hl with | [_], _ => rfl
  have F_loose := fun_mk (st := s_law_loose) l_loose c_loose k_loose
  have m_loose := PySem.W.mg_of X G a_loose
  have b_loose := F_loose.binds (ps := ["_law_dr", "_law_pieces_here"]) fun _ _ _ _ _ _ us hl => match us, hl with | [_, _], _ => rfl
  have F_size := fun_mk (st := s_law_size) l_size c_size k_size
  have m_size := PySem.W.mg_of X G a_size
  have b_size := F_size.binds (ps := ["_law_thing"]) fun _ _ _ _ _ _ us hl => match us, hl with | [_], _ => rfl
  have F_right := fun_mk (st := s_law_right) l_right c_right k_right
  have m_right := PySem.W.mg_of X G a_right
  have b_right := F_right.binds (ps := ["_law_dr", "_law_a_term"]) fun _ _ _ _ _ _ us hl => match us, hl with | [_, _], _ => rfl
  have F_law := fun_mk (st := slaw) l_law c_law k_law
  have m_law := PySem.W.mg_of X G a_law
  have b_law := F_law.binds (ps := ["_law_script"]) fun _ _ _ _ _ _ us hl => match us, hl with | [_], _ => rfl
  have F_isName := fun_mk (st := sis_name) l_isName c_isName k_isName
  have m_isName := PySem.W.mg_of X G a_isName
  have b_isName := F_isName.binds (ps := ["thing"]) fun _ _ _ _ _ _ us hl => match us, hl with | [_], _ => rfl
  have F_sign := fun_mk (st := sis_text_sign) l_sign c_sign k_sign
  have m_sign := PySem.W.mg_of X G a_sign
  have b_sign := F_sign.binds (ps := ["sign"]) fun _ _ _ _ _ _ us hl => match us, hl with | [_], _ => rfl
  have F_bnd := fun_mk (st := sbinders_of) l_bnd c_bnd k_bnd
  have m_bnd := PySem.W.mg_of X G a_bnd
  have b_bnd := F_bnd.binds (ps := ["term"]) fun _ _ _ _ _ _ us hl => match us, hl with | [_], _ => rfl
  have F_uncl := fun_mk (st := sis_unclear) l_uncl c_uncl k_uncl
  have m_uncl := PySem.W.mg_of X G a_uncl
  have b_uncl := F_uncl.binds (ps := ["term"]) fun _ _ _ _ _ _ us hl => match us, hl with | [_], _ => rfl
  have F_atom := fun_mk (st := sshown_atom) l_atom c_atom k_atom
  have m_atom := PySem.W.mg_of X G a_atom
  have b_atom := F_atom.binds (ps := ["term"]) fun _ _ _ _ _ _ us hl => match us, hl with | [_], _ => rfl
  have F_pcs := fun_mk (st := spieces_of) l_pcs c_pcs k_pcs
  have m_pcs := PySem.W.mg_of X G a_pcs
  have b_pcs := F_pcs.binds (ps := ["term"]) fun _ _ _ _ _ _ us hl => match us, hl with | [_], _ => rfl
  have F_shown := fun_mk (st := sshown_term) l_shown c_shown k_shown
  have m_shown := PySem.W.mg_of X G a_shown
  have b_shown := F_shown.binds (ps := ["term"]) fun _ _ _ _ _ _ us hl => match us, hl with | [_], _ => rfl
  have F_read := fun_mk (st := sread_term) l_read c_read k_read
  have m_read := PySem.W.mg_of X G a_read
  have b_read := F_read.binds (ps := ["text"]) fun _ _ _ _ _ _ us hl => match us, hl with | [_], _ => rfl
  have F_root := fun_mk (st := sroot_bracket) l_root c_root k_root
  have m_root := PySem.W.mg_of X G a_root
  have b_root := F_root.binds (ps := []) fun _ _ _ _ _ _ us hl => match us, hl with | [], _ => rfl
  have F_newB := fun_mk (st := snew_bracket) l_newB c_newB k_newB
  have m_newB := PySem.W.mg_of X G a_newB
  have b_newB := F_newB.binds (ps := []) fun _ _ _ _ _ _ us hl => match us, hl with | [], _ => rfl
  have F_namesB := fun_mk (st := snames_bracket) l_namesB c_namesB k_namesB
  have m_namesB := PySem.W.mg_of X G a_namesB
  have b_namesB := F_namesB.binds (ps := []) fun _ _ _ _ _ _ us hl => match us, hl with | [], _ => rfl
  have F_wordB := fun_mk (st := sword_bracket) l_wordB c_wordB k_wordB
  have m_wordB := PySem.W.mg_of X G a_wordB
  have b_wordB := F_wordB.binds (ps := ["word"]) fun _ _ _ _ _ _ us hl => match us, hl with | [_], _ => rfl
  have F_exp := fun_mk (st := sexpected_in) l_exp c_exp k_exp
  have m_exp := PySem.W.mg_of X G a_exp
  have b_exp := F_exp.binds (ps := ["bracket"]) fun _ _ _ _ _ _ us hl => match us, hl with | [_], _ => rfl
  have F_made := fun_mk (st := smade_of) l_made c_made k_made
  have m_made := PySem.W.mg_of X G a_made
  have b_made := F_made.binds (ps := ["bracket"]) fun _ _ _ _ _ _ us hl => match us, hl with | [_], _ => rfl
  have F_isWord := fun_mk (st := sis_word) l_isWord c_isWord k_isWord
  have m_isWord := PySem.W.mg_of X G a_isWord
  have b_isWord := F_isWord.binds (ps := ["token"]) fun _ _ _ _ _ _ us hl => match us, hl with | [_], _ => rfl
  have F_begW := fun_mk (st := sbegins_word) l_begW c_begW k_begW
  have m_begW := PySem.W.mg_of X G a_begW
  have b_begW := F_begW.binds (ps := ["token"]) fun _ _ _ _ _ _ us hl => match us, hl with | [_], _ => rfl
  have F_begN := fun_mk (st := sbegins_number) l_begN c_begN k_begN
  have m_begN := PySem.W.mg_of X G a_begN
  have b_begN := F_begN.binds (ps := ["token"]) fun _ _ _ _ _ _ us hl => match us, hl with | [_], _ => rfl
  have n_len := PySem.W.mg_none_of X G z_len
  have n_min := PySem.W.mg_none_of X G z_min
  have n_list := PySem.W.mg_none_of X G z_list
  have n_any := PySem.W.mg_none_of X G z_any
  have n_all := PySem.W.mg_none_of X G z_all
  have n_isinstance := PySem.W.mg_none_of X G z_isinstance
  have n_str := PySem.W.mg_none_of X G z_str
  have n_ord := PySem.W.mg_none_of X G z_ord
  have n_tuple := PySem.W.mg_none_of X G z_tuple
  have n_int := PySem.W.mg_none_of X G z_int
  have n_enumerate := PySem.W.mg_none_of X G z_enumerate
  have n_zip := PySem.W.mg_none_of X G z_zip
  have n_reversed := PySem.W.mg_none_of X G z_reversed
  have n_range := PySem.W.mg_none_of X G z_range
  have n_ValueError := PySem.W.mg_none_of X G z_ValueError
  have n_sum := PySem.W.mg_none_of X G z_sum
  have n_max := PySem.W.mg_none_of X G z_max
  have m_MOST_NAME_SIGNS := PySem.W.mg_of X G a_MOST_NAME_SIGNS
  have m_FIRST_SIGN := PySem.W.mg_of X G a_FIRST_SIGN
  have m_LAST_SIGN := PySem.W.mg_of X G a_LAST_SIGN
  have clCB : Cls K CB := ⟨pgCB, hdCB, poCB, saCB⟩
  have TxCB : TxB K CB := ⟨clCB, noCB_word, noCB_kinds, noCB_least, noCB_most, noCB_things⟩
  have m_Bracket := PySem.W.mg_of X G a_Bracket
  have clCR : Cls K CR := ⟨pgCR, hdCR, poCR, saCR⟩
  have TxCR : TxR K CR := ⟨clCR, noCR_brackets, noCR_token, noCR_reads⟩
  have m_Reader := PySem.W.mg_of X G a_Reader
  have F_binit := fun_mk (st := sBracket___init__) l_binit c_binit k_binit
  have b_binit := F_binit.binds (ps := ["self", "word", "kinds", "least", "most"]) fun _ _ _ _ _ _ us hl => match us, hl with | [_, _, _, _, _], _ => rfl
  have M_binit : Mk K CB f_binit := ⟨mkCB, a_binit, fn_binit, kpCB⟩
  have F_rinit := fun_mk (st := sReader___init__) l_rinit c_rinit k_rinit
  have b_rinit := F_rinit.binds (ps := ["self"]) fun _ _ _ _ _ _ us hl => match us, hl with | [_], _ => rfl
  have M_rinit : Mk K CR f_rinit := ⟨mkCR, a_rinit, fn_rinit, kpCR⟩
  have F_takes := fun_mk (st := sReader_takes) l_takes c_takes k_takes
  have b_takes := F_takes.binds (ps := ["self", "sign"]) fun _ _ _ _ _ _ us hl => match us, hl with | [_, _], _ => rfl
  have M_takes : Meth K CR "takes" f_takes := ⟨a_takes, fn_takes, k_takes⟩
  have F_takes_in_text := fun_mk (st := sReader_takes_in_text) l_takes_in_text c_takes_in_text k_takes_in_text
  have b_takes_in_text := F_takes_in_text.binds (ps := ["self", "sign"]) fun _ _ _ _ _ _ us hl => match us, hl with | [_, _], _ => rfl
  have M_takes_in_text : Meth K CR "takes_in_text" f_takes_in_text := ⟨a_takes_in_text, fn_takes_in_text, k_takes_in_text⟩
  have F_takes_between := fun_mk (st := sReader_takes_between) l_takes_between c_takes_between k_takes_between
  have b_takes_between := F_takes_between.binds (ps := ["self", "sign"]) fun _ _ _ _ _ _ us hl => match us, hl with | [_, _], _ => rfl
  have M_takes_between : Meth K CR "takes_between" f_takes_between := ⟨a_takes_between, fn_takes_between, k_takes_between⟩
  have F_unlocks := fun_mk (st := sReader_unlocks) l_unlocks c_unlocks k_unlocks
  have b_unlocks := F_unlocks.binds (ps := ["self", "expected"]) fun _ _ _ _ _ _ us hl => match us, hl with | [_, _], _ => rfl
  have M_unlocks : Meth K CR "unlocks" f_unlocks := ⟨a_unlocks, fn_unlocks, k_unlocks⟩
  have F_shuts := fun_mk (st := sReader_shuts) l_shuts c_shuts k_shuts
  have b_shuts := F_shuts.binds (ps := ["self"]) fun _ _ _ _ _ _ us hl => match us, hl with | [_], _ => rfl
  have M_shuts : Meth K CR "shuts" f_shuts := ⟨a_shuts, fn_shuts, k_shuts⟩
  have F_begins_part := fun_mk (st := sReader_begins_part) l_begins_part c_begins_part k_begins_part
  have b_begins_part := F_begins_part.binds (ps := ["self", "sign"]) fun _ _ _ _ _ _ us hl => match us, hl with | [_, _], _ => rfl
  have M_begins_part : Meth K CR "begins_part" f_begins_part := ⟨a_begins_part, fn_begins_part, k_begins_part⟩
  have F_begins := fun_mk (st := sReader_begins) l_begins c_begins k_begins
  have b_begins := F_begins.binds (ps := ["self", "kind", "sign"]) fun _ _ _ _ _ _ us hl => match us, hl with | [_, _, _], _ => rfl
  have M_begins : Meth K CR "begins" f_begins := ⟨a_begins, fn_begins, k_begins⟩
  have F_lengthens := fun_mk (st := sReader_lengthens) l_lengthens c_lengthens k_lengthens
  have b_lengthens := F_lengthens.binds (ps := ["self", "sign"]) fun _ _ _ _ _ _ us hl => match us, hl with | [_, _], _ => rfl
  have M_lengthens : Meth K CR "lengthens" f_lengthens := ⟨a_lengthens, fn_lengthens, k_lengthens⟩
  have F_names_here := fun_mk (st := sReader_names_here) l_names_here c_names_here k_names_here
  have b_names_here := F_names_here.binds (ps := ["self"]) fun _ _ _ _ _ _ us hl => match us, hl with | [_], _ => rfl
  have M_names_here : Meth K CR "names_here" f_names_here := ⟨a_names_here, fn_names_here, k_names_here⟩
  have F_completes := fun_mk (st := sReader_completes) l_completes c_completes k_completes
  have b_completes := F_completes.binds (ps := ["self"]) fun _ _ _ _ _ _ us hl => match us, hl with | [_], _ => rfl
  have M_completes : Meth K CR "completes" f_completes := ⟨a_completes, fn_completes, k_completes⟩
  have F_add_thing := fun_mk (st := sReader_add_thing) l_add_thing c_add_thing k_add_thing
  have b_add_thing := F_add_thing.binds (ps := ["self", "thing"]) fun _ _ _ _ _ _ us hl => match us, hl with | [_, _], _ => rfl
  have M_add_thing : Meth K CR "add_thing" f_add_thing := ⟨a_add_thing, fn_add_thing, k_add_thing⟩
  have F_is_whole_text := fun_mk (st := sReader_is_whole_text) l_is_whole_text c_is_whole_text k_is_whole_text
  have b_is_whole_text := F_is_whole_text.binds (ps := ["self"]) fun _ _ _ _ _ _ us hl => match us, hl with | [_], _ => rfl
  have M_is_whole_text : Meth K CR "is_whole_text" f_is_whole_text := ⟨a_is_whole_text, fn_is_whole_text, k_is_whole_text⟩
  have hF : FormsOk K w fo := by
    unfold FormsOk forms
    refine List.forall_mem_cons.mpr ⟨formA l_FORMS klF e0 g0 v0, List.forall_mem_cons.mpr ⟨formA l_FORMS klF e1 g1 v1, List.forall_mem_cons.mpr ⟨formA l_FORMS klF e2 g2 v2, List.forall_mem_cons.mpr ⟨formA l_FORMS klF e3 g3 v3, List.forall_mem_cons.mpr ⟨formA l_FORMS klF e4 g4 v4, List.forall_mem_cons.mpr ⟨formA l_FORMS klF e5 g5 v5, List.forall_mem_cons.mpr ⟨formA l_FORMS klF e6 g6 v6, List.forall_mem_cons.mpr ⟨formA l_FORMS klF e7 g7 v7, List.forall_mem_cons.mpr ⟨formA l_FORMS klF e8 g8 v8, List.forall_mem_cons.mpr ⟨formA l_FORMS klF e9 g9 v9, List.forall_mem_cons.mpr ⟨formA l_FORMS klF e10 g10 v10, List.forall_mem_cons.mpr ⟨formA l_FORMS klF e11 g11 v11, List.forall_mem_cons.mpr ⟨formA l_FORMS klF e12 g12 v12, List.forall_mem_cons.mpr ⟨formA l_FORMS klF e13 g13 v13, List.forall_mem_cons.mpr ⟨formA l_FORMS klF e14 g14 v14, List.forall_mem_cons.mpr ⟨formA l_FORMS klF e15 g15 v15, List.forall_mem_cons.mpr ⟨formA l_FORMS klF e16 g16 v16, List.forall_mem_cons.mpr ⟨formA l_FORMS klF e17 g17 v17, List.forall_mem_cons.mpr ⟨formA l_FORMS klF e18 g18 v18, List.forall_mem_cons.mpr ⟨formA l_FORMS klF e19 g19 v19, List.forall_mem_cons.mpr ⟨formA l_FORMS klF e20 g20 v20, List.forall_mem_cons.mpr ⟨formA l_FORMS klF e21 g21 v21, List.forall_mem_cons.mpr ⟨formA l_FORMS klF e22 g22 v22, List.forall_mem_cons.mpr ⟨formA l_FORMS klF e23 g23 v23, List.forall_mem_cons.mpr ⟨formA l_FORMS klF e24 g24 v24, fun _ h => nomatch h⟩⟩⟩⟩⟩⟩⟩⟩⟩⟩⟩⟩⟩⟩⟩⟩⟩⟩⟩⟩⟩⟩⟩⟩⟩
  have hB : BoundsOk K w bo := by
    unfold BoundsOk bounds
    refine List.forall_mem_cons.mpr ⟨⟨tb0, ⟨_, _, _, l_BOUNDS, klB, eb0, rfl⟩, sq_ints gb0 vb0⟩, List.forall_mem_cons.mpr ⟨⟨tb1, ⟨_, _, _, l_BOUNDS, klB, eb1, rfl⟩, sq_ints gb1 vb1⟩, List.forall_mem_cons.mpr ⟨⟨tb2, ⟨_, _, _, l_BOUNDS, klB, eb2, rfl⟩, sq_ints gb2 vb2⟩, List.forall_mem_cons.mpr ⟨⟨tb3, ⟨_, _, _, l_BOUNDS, klB, eb3, rfl⟩, sq_ints gb3 vb3⟩, fun _ h => nomatch h⟩⟩⟩⟩
  have hO : OpsOk K w oo := by
    unfold OpsOk ops
    refine List.forall_mem_cons.mpr ⟨⟨_, _, _, l_OPS, klO, eo0, ⟨_, rfl⟩⟩, List.forall_mem_cons.mpr ⟨⟨_, _, _, l_OPS, klO, eo1, ⟨_, rfl⟩⟩, List.forall_mem_cons.mpr ⟨⟨_, _, _, l_OPS, klO, eo2, ⟨_, rfl⟩⟩, List.forall_mem_cons.mpr ⟨⟨_, _, _, l_OPS, klO, eo3, ⟨_, rfl⟩⟩, List.forall_mem_cons.mpr ⟨⟨_, _, _, l_OPS, klO, eo4, ⟨_, rfl⟩⟩, List.forall_mem_cons.mpr ⟨⟨_, _, _, l_OPS, klO, eo5, ⟨_, rfl⟩⟩, List.forall_mem_cons.mpr ⟨⟨_, _, _, l_OPS, klO, eo6, ⟨_, rfl⟩⟩, List.forall_mem_cons.mpr ⟨⟨_, _, _, l_OPS, klO, eo7, ⟨_, rfl⟩⟩, List.forall_mem_cons.mpr ⟨⟨_, _, _, l_OPS, klO, eo8, ⟨_, rfl⟩⟩, List.forall_mem_cons.mpr ⟨⟨_, _, _, l_OPS, klO, eo9, ⟨_, rfl⟩⟩, List.forall_mem_cons.mpr ⟨⟨_, _, _, l_OPS, klO, eo10, ⟨_, rfl⟩⟩, fun _ h => nomatch h⟩⟩⟩⟩⟩⟩⟩⟩⟩⟩⟩
  have kF : KAll K w fo formWords := ⟨esF, nF, l_FORMS, klF, loF, ksF, by decide +kernel, by decide⟩
  have kB : KAll K w bo (bounds.map (·.1)) := ⟨esB, nB, l_BOUNDS, klB, loB, ksB, by decide +kernel, by decide⟩
  have kO : KAll K w oo opWords := ⟨esO, nO, l_OPS, klO, loO, ksO, by decide +kernel, by decide⟩
  have hBar : BarsOk K ba := fun H => sq_ints g_BARRED_SIGNS v_BARRED_SIGNS H
  have hN : TxtT K nn noNames := fun H => sq_strs g_NO_NAMES v_NO_NAMES H
  have hU : TxtT K ub unbr := fun H => sq_strs g_UNBRACKETED v_UNBRACKETED H
  have m_FORMS := PySem.W.mg_of X G a_FORMS
  have m_BOUNDS := PySem.W.mg_of X G a_BOUNDS
  have m_OPS := PySem.W.mg_of X G a_OPS
  have m_BARRED_SIGNS := PySem.W.mg_of X G a_BARRED_SIGNS
  have m_NO_NAMES := PySem.W.mg_of X G a_NO_NAMES
  have m_UNBRACKETED := PySem.W.mg_of X G a_UNBRACKETED
  have m_LETTERS := PySem.W.mg_of X G a_LETTERS
  have m_NAME_SIGNS := PySem.W.mg_of X G a_NAME_SIGNS
  have m_FIGURES := PySem.W.mg_of X G a_FIGURES
  have m_BLANKS := PySem.W.mg_of X G a_BLANKS
  have mC := PySem.W.mg_of X G aC
  have T : OexC K C := ⟨⟨_, _, _, _, _, _, _, _, _, _, _, _, _, _, _, xL, rfl⟩, saC, eC, tC, kC⟩
  have FI := fun_mk (st := sInitX) lI cI kI
  have bI := FI.binds (ps := ["self", "at"]) fun _ _ _ _ _ _ us hl => match us, hl with | [_, _], _ => rfl
  refine ⟨PySem.W.fnOf "law" "law" (defArgs slaw) (defBody slaw) (defScope slaw) .none kV_law dc_law pm_law an_law cd_law ct_law, fun s v => .of_eq rfl, fun base _ _ => ?_⟩
  have H_next : Has l.prog w K mg base "_law_next" ["_law_dr"] 1 spNext := ⟨_, _, ok_next F_next, m_next, k_next, b_next⟩
  have H_draws : Has l.prog w K mg base "_law_draws" ["_law_cell"] 1 spDraws := ⟨_, _, ok_draws F_draws n_range, m_draws, k_draws, b_draws⟩
  have H_name1 : Has l.prog w K mg base "_law_name" ["_law_dr"] 2 spName1 := ⟨_, _, ok_name1 F_name1 H_next, m_name1, k_name1, b_name1⟩
  have H_lnames : Has l.prog w K mg base "_law_names" ["_law_dr", "_law_most"] 3 spNames := ⟨_, _, ok_lnames F_lnames H_next H_name1 n_range n_tuple, m_lnames, k_lnames, b_lnames⟩
  have H_atom1 : Has l.prog w K mg base "_law_atom" ["_law_dr"] 3 spAtom1 := ⟨_, _, ok_atom1 F_atom1 H_next H_name1 n_range n_len, m_atom1, k_atom1, b_atom1⟩
  have H_any : ∀ n, n ≤ 6 → Has l.prog w K mg base "_law_any" ["_law_dr", "_law_deep"] (4 + n) (spAny n) := by
    intro n
    induction n with
    | zero => exact fun _ => ⟨_, _, any_zero F_anyT H_atom1, m_anyT, k_anyT, b_anyT⟩
    | succ n ih => exact fun hn => ⟨_, _, any_step (by omega) F_anyT H_atom1 H_next H_name1 H_lnames (ih (by omega)) n_range n_tuple n_len n_str n_int, m_anyT, k_anyT, b_anyT⟩
  have H_pr : ∀ n, Has l.prog w K mg base "_law_pieces" ["_law_a_term"] (2 * n + 1) (spPieces n) := by
    intro n
    induction n with
    | zero => exact ⟨_, _, pieces_ok F_pieces (fun m h => by cases h) n_len n_str n_int n_isinstance, m_pieces, k_pieces, b_pieces⟩
    | succ n ih => exact ⟨_, _, pieces_ok F_pieces (fun m h => by
        cases h
        exact ⟨ih, ⟨_, _, ok_row F_row ih n_list, m_row, k_row, b_row⟩⟩) n_len n_str n_int n_isinstance, m_pieces, k_pieces, b_pieces⟩
  have H_size := size_ok (P := l.prog) (w := w) (base := base) F_size b_size m_size n_isinstance n_tuple n_str n_int n_sum n_max 11
  have H_apart : Has l.prog w K mg base "_law_apart" ["_law_one", "_law_two"] 1 spApart := ⟨_, _, ok_apart F_apart, m_apart, k_apart, b_apart⟩
  have H_text1 : Has l.prog w K mg base "_law_text" ["_law_pieces_here"] 2 spText := ⟨_, _, ok_text1 F_text1 H_apart n_zip n_int, m_text1, k_text1, b_text1⟩
  have H_loose : Has l.prog w K mg base "_law_loose" ["_law_dr", "_law_pieces_here"] 2 spLoose := ⟨_, _, ok_loose F_loose H_next n_zip n_int, m_loose, k_loose, b_loose⟩
  have H_isName : Has l.prog w K mg base "is_name" ["thing"] 1 spName := ⟨_, _, ok_name F_isName n_isinstance n_str n_len n_all m_MOST_NAME_SIGNS m_LETTERS m_NAME_SIGNS, m_isName, k_isName, b_isName⟩
  have H_sign : Has l.prog w K mg base "is_text_sign" ["sign"] 1 spSign := ⟨_, _, ok_sign F_sign n_ord m_FIRST_SIGN m_LAST_SIGN m_BARRED_SIGNS hBar, m_sign, k_sign, b_sign⟩
  have H_bnd : Has l.prog w K mg base "binders_of" ["term"] 1 spBnd := ⟨_, _, ok_bnd F_bnd n_zip m_FORMS hF, m_bnd, k_bnd, b_bnd⟩
  have H_uncl : Has l.prog w K mg base "is_unclear" ["term"] 2 spUncl := ⟨_, _, ok_uncl F_uncl n_any m_NO_NAMES hN H_bnd, m_uncl, k_uncl, b_uncl⟩
  have H_atom : Has l.prog w K mg base "shown_atom" ["term"] 1 spAtom := ⟨_, _, ok_atom F_atom n_str m_NO_NAMES hN, m_atom, k_atom, b_atom⟩
  have H_pcs : Has l.prog w K mg base "pieces_of" ["term"] 1 spPcs := ⟨_, _, ok_pcs F_pcs n_zip m_FORMS hF, m_pcs, k_pcs, b_pcs⟩
  have O_shown := ok_shown F_shown n_reversed H_uncl H_atom H_pcs T mC nbC aI tI (ok_initX FI n_ValueError vV) bI
  have C_B : HasC l.prog w K mg base "Bracket" CB ["self", "word", "kinds", "least", "most"] 1 (spBI CB) := ⟨_, _, ok_binit F_binit TxCB, M_binit, m_Bracket, b_binit⟩
  have H_root : Has l.prog w K mg base "root_bracket" [] 3 (spB0 CB rootBr) := ⟨_, _, ok_root F_root C_B, m_root, k_root, b_root⟩
  have H_newB : Has l.prog w K mg base "new_bracket" [] 3 (spB0 CB newBr) := ⟨_, _, ok_new F_newB C_B, m_newB, k_newB, b_newB⟩
  have H_namesB : Has l.prog w K mg base "names_bracket" [] 3 (spB0 CB namesBr) := ⟨_, _, ok_names F_namesB C_B m_BOUNDS hB, m_namesB, k_namesB, b_namesB⟩
  have H_exp : Has l.prog w K mg base "expected_in" ["bracket"] 1 (spExp CB) := ⟨_, _, ok_exp F_exp TxCB n_len n_min, m_exp, k_exp, b_exp⟩
  have H_isWord : Has l.prog w K mg base "is_word" ["token"] 1 spIsWord := ⟨_, _, ok_isWord F_isWord m_OPS m_FORMS m_UNBRACKETED kO kF hU, m_isWord, k_isWord, b_isWord⟩
  have H_begW : Has l.prog w K mg base "begins_word" ["token"] 2 spBegW := ⟨_, _, ok_begW F_begW m_OPS m_FORMS n_list n_any kO kF H_isWord, m_begW, k_begW, b_begW⟩
  have H_begN : Has l.prog w K mg base "begins_number" ["token"] 1 spBegN := ⟨_, _, ok_begN F_begN n_all m_FIGURES, m_begN, k_begN, b_begN⟩
  have H_wordB : Has l.prog w K mg base "word_bracket" ["word"] 3 (spWB CB) := ⟨_, _, ok_wordBr F_wordB m_OPS m_FORMS m_BOUNDS n_len kO hO hF kB hB C_B, m_wordB, k_wordB, b_wordB⟩
  have H_made : Has l.prog w K mg base "made_of" ["bracket"] 1 (spMade CB) := ⟨_, _, ok_made F_made TxCB m_OPS n_tuple kO, m_made, k_made, b_made⟩
  have C_R : HasC l.prog w K mg base "Reader" CR ["self"] 4 (spRI CB CR) := ⟨_, _, ok_rinit F_rinit TxCR H_root, M_rinit, m_Reader, b_rinit⟩
  have H_add_thing : HasM l.prog w K mg base CR "add_thing" ["self", "thing"] 1 (spAdd CB CR) := ⟨_, _, ok_add F_add_thing TxCR TxCB, M_add_thing, b_add_thing⟩
  have H_names_here : HasM l.prog w K mg base CR "names_here" ["self"] 1 (spNH CB CR) := ⟨_, _, ok_nh F_names_here TxCR TxCB, M_names_here, b_names_here⟩
  have H_lengthens : HasM l.prog w K mg base CR "lengthens" ["self", "sign"] 3 (spLen CB CR) := ⟨_, _, ok_len F_lengthens TxCR n_len m_MOST_NAME_SIGNS H_begN H_begW H_isName H_names_here, M_lengthens, b_lengthens⟩
  have H_completes : HasM l.prog w K mg base CR "completes" ["self"] 4 (spCompl CB CR) := ⟨_, _, ok_compl F_completes TxCR n_int m_NO_NAMES hN H_isWord H_wordB H_add_thing H_names_here, M_completes, b_completes⟩
  have H_shuts : HasM l.prog w K mg base CR "shuts" ["self"] 2 (spShut CB CR) := ⟨_, _, ok_shut F_shuts TxCR TxCB n_len H_made H_add_thing, M_shuts, b_shuts⟩
  have H_unlocks : HasM l.prog w K mg base CR "unlocks" ["self", "expected"] 4 (spUnl CB CR) := ⟨_, _, ok_unl F_unlocks TxCR H_newB H_namesB, M_unlocks, b_unlocks⟩
  have H_begins : HasM l.prog w K mg base CR "begins" ["self", "kind", "sign"] 4 (spBeg CB CR) := ⟨_, _, ok_beg F_begins TxCR H_lengthens, M_begins, b_begins⟩
  have H_begins_part : HasM l.prog w K mg base CR "begins_part" ["self", "sign"] 5 (spBP CB CR) := ⟨_, _, ok_bp F_begins_part TxCR m_LETTERS H_begins, M_begins_part, b_begins_part⟩
  have H_takes_between : HasM l.prog w K mg base CR "takes_between" ["self", "sign"] 6 (spBtw CB CR) := ⟨_, _, ok_btw F_takes_between TxCR m_BLANKS H_exp H_shuts H_unlocks H_begins_part H_begins, M_takes_between, b_takes_between⟩
  have H_takes_in_text : HasM l.prog w K mg base CR "takes_in_text" ["self", "sign"] 2 (spInT CB CR) := ⟨_, _, ok_int F_takes_in_text TxCR H_sign H_add_thing, M_takes_in_text, b_takes_in_text⟩
  have H_takes : HasM l.prog w K mg base CR "takes" ["self", "sign"] 7 (spTakes CB CR) := ⟨_, _, ok_takes F_takes TxCR m_NAME_SIGNS H_takes_in_text H_lengthens H_completes H_takes_between, M_takes, b_takes⟩
  have H_is_whole_text : HasM l.prog w K mg base CR "is_whole_text" ["self"] 5 (spWhl CB CR) := ⟨_, _, ok_whl F_is_whole_text TxCR TxCB n_len H_completes, M_is_whole_text, b_is_whole_text⟩
  have O_read := ok_read F_read TxCR TxCB n_enumerate C_R H_takes H_is_whole_text
  have H_read : Has l.prog w K mg base "read_term" ["text"] 8 spRead := ⟨_, _, O_read, m_read, k_read, b_read⟩
  have S_shown := shownC O_shown
  have R_right := ok_right F_right H_size (H_pr 5) H_text1 H_loose ⟨_, _, S_shown, m_shown, k_shown, b_shown⟩ ⟨_, _, _, S_shown, m_shown, k_shown, kb_shown F_shown⟩ H_read ⟨_, _, _, O_read, m_read, k_read, kb_read F_read⟩ n_str
  exact ok_law F_law H_draws (H_any 5 (by decide)) ⟨_, _, R_right, m_right, k_right, b_right⟩
theorem walk {l : PySem.W.OpenLaw} {q : Program} {loose : List Str} {XP : (Str → Option Value) → Heap → Prop} {YP : World → Heap → Prop} {d : DefRec} {K : Params → PySem.W.Frag} (hn : l.most = some 63) (hdf : d.params.defaults = [])
    (hY : ∀ (w : World) (h : Heap), YP w h → (K w.params).In h)
    (F : ∀ (w : World) (mg : Str → Option Value) (fa : Addr) (h : Heap), (K w.params).In h → h.Ns mainGlobals mg → mg d.name = some (.ref fa) →
      ∃ fd : FuncData, (∀ (s : Shared) (u : Value), BindsTo s fd ⟨[u], []⟩ [("_law_script", u)]) ∧ ∀ base : Heap, (K w.params).In base → base.Ns mainGlobals mg → FnG l.prog w (K w.params) mg base 14 fa fd ["_law_script"] (spLaw (K w.params))) :
    PySem.W.WalkO q loose XP YP l.row.toRowW d [] (fun f vs => PySem.call f vs) :=
  walk_ofG (n := 63) (k := 14) (x := "_law_script") (sp := fun w => spLaw (K w.params)) hn (by decide) hdf ⟨rfl, by decide, by decide⟩ hY F (fun _ _ a ns hl _ hS => ⟨a, ns, rfl, hS, hl, fun _ => rfl⟩)
end Wp
set_option Elab.async false
open PySem PySem.W PyProof.Rows
set_option maxRecDepth 100000 in
set_option maxHeartbeats 0 in
theorem PySem.Challenge.cw_windpoints_k66_terms_written_and_read_holds : PySem.Challenge.rw_windpoints_k66_terms_written_and_read.Holds := by
  w_on; o_law; k_head; (case hw => w_witness2)
  k_fill
  refine Wp.walk (l := PySem.Challenge.rw_windpoints_k66_terms_written_and_read) rfl rfl (fun w h Y => PySem.W.kIn_of Y) ?F
  case F =>
    intro w mg fa h KX G hmg
    refine' Wp.all_mk KX G hmg ?wq_a_next ?wq_l_next ?wq_c_next ?wq_k_next ?wq_a_draws ?wq_l_draws ?wq_c_draws ?wq_k_draws ?wq_a_name1 ?wq_l_name1 ?wq_c_name1 ?wq_k_name1 ?wq_a_lnames ?wq_l_lnames ?wq_c_lnames ?wq_k_lnames ?wq_a_atom1 ?wq_l_atom1 ?wq_c_atom1 ?wq_k_atom1 ?wq_a_anyT ?wq_l_anyT ?wq_c_anyT ?wq_k_anyT ?wq_a_pieces ?wq_l_pieces ?wq_c_pieces ?wq_k_pieces ?wq_a_row ?wq_l_row ?wq_c_row ?wq_k_row ?wq_a_apart ?wq_l_apart ?wq_c_apart ?wq_k_apart ?wq_a_text1 ?wq_l_text1 ?wq_c_text1 ?wq_k_text1 ?wq_a_loose ?wq_l_loose ?wq_c_loose ?wq_k_loose ?wq_a_size ?wq_l_size ?wq_c_size ?wq_k_size ?wq_a_right ?wq_l_right ?wq_c_right ?wq_k_right ?wq_a_law ?wq_l_law ?wq_c_law ?wq_k_law ?wq_a_isName ?wq_l_isName ?wq_c_isName ?wq_k_isName ?wq_a_sign ?wq_l_sign ?wq_c_sign ?wq_k_sign ?wq_a_bnd ?wq_l_bnd ?wq_c_bnd ?wq_k_bnd ?wq_a_uncl ?wq_l_uncl ?wq_c_uncl ?wq_k_uncl ?wq_a_atom ?wq_l_atom ?wq_c_atom ?wq_k_atom ?wq_a_pcs ?wq_l_pcs ?wq_c_pcs ?wq_k_pcs ?wq_a_shown ?wq_l_shown ?wq_c_shown ?wq_k_shown ?wq_a_read ?wq_l_read ?wq_c_read ?wq_k_read ?wq_a_root ?wq_l_root ?wq_c_root ?wq_k_root ?wq_a_newB ?wq_l_newB ?wq_c_newB ?wq_k_newB ?wq_a_namesB ?wq_l_namesB ?wq_c_namesB ?wq_k_namesB ?wq_a_wordB ?wq_l_wordB ?wq_c_wordB ?wq_k_wordB ?wq_a_exp ?wq_l_exp ?wq_c_exp ?wq_k_exp ?wq_a_made ?wq_l_made ?wq_c_made ?wq_k_made ?wq_a_isWord ?wq_l_isWord ?wq_c_isWord ?wq_k_isWord ?wq_a_begW ?wq_l_begW ?wq_c_begW ?wq_k_begW ?wq_a_begN ?wq_l_begN ?wq_c_begN ?wq_k_begN ?wq_z_len ?wq_z_min ?wq_z_list ?wq_z_any ?wq_z_all ?wq_z_isinstance ?wq_z_str ?wq_z_ord ?wq_z_tuple ?wq_z_int ?wq_z_enumerate ?wq_z_zip ?wq_z_reversed ?wq_z_range ?wq_z_ValueError ?wq_z_sum ?wq_z_max ?wq_a_MOST_NAME_SIGNS ?wq_a_FIRST_SIGN ?wq_a_LAST_SIGN ?wq_a_LETTERS ?wq_a_NAME_SIGNS ?wq_a_FIGURES ?wq_a_BLANKS ?wq_a_BARRED_SIGNS ?wq_g_BARRED_SIGNS ?wq_v_BARRED_SIGNS ?wq_a_NO_NAMES ?wq_g_NO_NAMES ?wq_v_NO_NAMES ?wq_a_UNBRACKETED ?wq_g_UNBRACKETED ?wq_v_UNBRACKETED ?wq_a_FORMS ?wq_l_FORMS ?wq_klF ?wq_loF ?wq_ksF ?wq_a_BOUNDS ?wq_l_BOUNDS ?wq_klB ?wq_loB ?wq_ksB ?wq_a_OPS ?wq_l_OPS ?wq_klO ?wq_loO ?wq_ksO ?wq_e0 ?wq_g0 ?wq_v0 ?wq_e1 ?wq_g1 ?wq_v1 ?wq_e2 ?wq_g2 ?wq_v2 ?wq_e3 ?wq_g3 ?wq_v3 ?wq_e4 ?wq_g4 ?wq_v4 ?wq_e5 ?wq_g5 ?wq_v5 ?wq_e6 ?wq_g6 ?wq_v6 ?wq_e7 ?wq_g7 ?wq_v7 ?wq_e8 ?wq_g8 ?wq_v8 ?wq_e9 ?wq_g9 ?wq_v9 ?wq_e10 ?wq_g10 ?wq_v10 ?wq_e11 ?wq_g11 ?wq_v11 ?wq_e12 ?wq_g12 ?wq_v12 ?wq_e13 ?wq_g13 ?wq_v13 ?wq_e14 ?wq_g14 ?wq_v14 ?wq_e15 ?wq_g15 ?wq_v15 ?wq_e16 ?wq_g16 ?wq_v16 ?wq_e17 ?wq_g17 ?wq_v17 ?wq_e18 ?wq_g18 ?wq_v18 ?wq_e19 ?wq_g19 ?wq_v19 ?wq_e20 ?wq_g20 ?wq_v20 ?wq_e21 ?wq_g21 ?wq_v21 ?wq_e22 ?wq_g22 ?wq_v22 ?wq_e23 ?wq_g23 ?wq_v23 ?wq_e24 ?wq_g24 ?wq_v24 ?wq_eb0 ?wq_gb0 ?wq_vb0 ?wq_eb1 ?wq_gb1 ?wq_vb1 ?wq_eb2 ?wq_gb2 ?wq_vb2 ?wq_eb3 ?wq_gb3 ?wq_vb3 ?wq_eo0 ?wq_eo1 ?wq_eo2 ?wq_eo3 ?wq_eo4 ?wq_eo5 ?wq_eo6 ?wq_eo7 ?wq_eo8 ?wq_eo9 ?wq_eo10 ?wq_a_Bracket ?wq_pgCB ?wq_hdCB ?wq_poCB ?wq_saCB ?wq_noCB_word ?wq_noCB_kinds ?wq_noCB_least ?wq_noCB_most ?wq_noCB_things ?wq_mkCB ?wq_kpCB ?wq_a_Reader ?wq_pgCR ?wq_hdCR ?wq_poCR ?wq_saCR ?wq_noCR_brackets ?wq_noCR_token ?wq_noCR_reads ?wq_mkCR ?wq_kpCR ?wq_a_binit ?wq_fn_binit ?wq_l_binit ?wq_c_binit ?wq_k_binit ?wq_a_rinit ?wq_fn_rinit ?wq_l_rinit ?wq_c_rinit ?wq_k_rinit ?wq_a_takes ?wq_fn_takes ?wq_l_takes ?wq_c_takes ?wq_k_takes ?wq_a_takes_in_text ?wq_fn_takes_in_text ?wq_l_takes_in_text ?wq_c_takes_in_text ?wq_k_takes_in_text ?wq_a_takes_between ?wq_fn_takes_between ?wq_l_takes_between ?wq_c_takes_between ?wq_k_takes_between ?wq_a_unlocks ?wq_fn_unlocks ?wq_l_unlocks ?wq_c_unlocks ?wq_k_unlocks ?wq_a_shuts ?wq_fn_shuts ?wq_l_shuts ?wq_c_shuts ?wq_k_shuts ?wq_a_begins_part ?wq_fn_begins_part ?wq_l_begins_part ?wq_c_begins_part ?wq_k_begins_part ?wq_a_begins ?wq_fn_begins ?wq_l_begins ?wq_c_begins ?wq_k_begins ?wq_a_lengthens ?wq_fn_lengthens ?wq_l_lengthens ?wq_c_lengthens ?wq_k_lengthens ?wq_a_names_here ?wq_fn_names_here ?wq_l_names_here ?wq_c_names_here ?wq_k_names_here ?wq_a_completes ?wq_fn_completes ?wq_l_completes ?wq_c_completes ?wq_k_completes ?wq_a_add_thing ?wq_fn_add_thing ?wq_l_add_thing ?wq_c_add_thing ?wq_k_add_thing ?wq_a_is_whole_text ?wq_fn_is_whole_text ?wq_l_is_whole_text ?wq_c_is_whole_text ?wq_k_is_whole_text ?wq_aC ?wq_xL ?wq_saC ?wq_gaC ?wq_ggC ?wq_nbC ?wq_aI ?wq_tI ?wq_lI ?wq_cI ?wq_kI ?wq_kC ?wq_eC ?wq_tC ?wq_hdC ?wq_clC ?wq_vV
    (case wq_a_next => k_is)
    (case wq_l_next => k_is)
    (case wq_c_next => k_is)
    (case wq_k_next => k_is)
    (case wq_a_draws => k_is)
    (case wq_l_draws => k_is)
    (case wq_c_draws => k_is)
    (case wq_k_draws => k_is)
    (case wq_a_name1 => k_is)
    (case wq_l_name1 => k_is)
    (case wq_c_name1 => k_is)
    (case wq_k_name1 => k_is)
    (case wq_a_lnames => k_is)
    (case wq_l_lnames => k_is)
    (case wq_c_lnames => k_is)
    (case wq_k_lnames => k_is)
    (case wq_a_atom1 => k_is)
    (case wq_l_atom1 => k_is)
    (case wq_c_atom1 => k_is)
    (case wq_k_atom1 => k_is)
    (case wq_a_anyT => k_is)
    (case wq_l_anyT => k_is)
    (case wq_c_anyT => k_is)
    (case wq_k_anyT => k_is)
    (case wq_a_pieces => k_is)
    (case wq_l_pieces => k_is)
    (case wq_c_pieces => k_is)
    (case wq_k_pieces => k_is)
    (case wq_a_row => k_is)
    (case wq_l_row => k_is)
    (case wq_c_row => k_is)
    (case wq_k_row => k_is)
    (case wq_a_apart => k_is)
    (case wq_l_apart => k_is)
    (case wq_c_apart => k_is)
    (case wq_k_apart => k_is)
    (case wq_a_text1 => k_is)
    (case wq_l_text1 => k_is)
    (case wq_c_text1 => k_is)
    (case wq_k_text1 => k_is)
    (case wq_a_loose => k_is)
    (case wq_l_loose => k_is)
    (case wq_c_loose => k_is)
    (case wq_k_loose => k_is)
    (case wq_a_size => k_is)
    (case wq_l_size => k_is)
    (case wq_c_size => k_is)
    (case wq_k_size => k_is)
    (case wq_a_right => k_is)
    (case wq_l_right => k_is)
    (case wq_c_right => k_is)
    (case wq_k_right => k_is)
    (case wq_a_law => k_is)
    (case wq_l_law => k_is)
    (case wq_c_law => k_is)
    (case wq_k_law => k_is)
    (case wq_a_isName => k_is)
    (case wq_l_isName => k_is)
    (case wq_c_isName => k_is)
    (case wq_k_isName => k_is)
    (case wq_a_sign => k_is)
    (case wq_l_sign => k_is)
    (case wq_c_sign => k_is)
    (case wq_k_sign => k_is)
    (case wq_a_bnd => k_is)
    (case wq_l_bnd => k_is)
    (case wq_c_bnd => k_is)
    (case wq_k_bnd => k_is)
    (case wq_a_uncl => k_is)
    (case wq_l_uncl => k_is)
    (case wq_c_uncl => k_is)
    (case wq_k_uncl => k_is)
    (case wq_a_atom => k_is)
    (case wq_l_atom => k_is)
    (case wq_c_atom => k_is)
    (case wq_k_atom => k_is)
    (case wq_a_pcs => k_is)
    (case wq_l_pcs => k_is)
    (case wq_c_pcs => k_is)
    (case wq_k_pcs => k_is)
    (case wq_a_shown => k_is)
    (case wq_l_shown => k_is)
    (case wq_c_shown => k_is)
    (case wq_k_shown => k_is)
    (case wq_a_read => k_is)
    (case wq_l_read => k_is)
    (case wq_c_read => k_is)
    (case wq_k_read => k_is)
    (case wq_a_root => k_is)
    (case wq_l_root => k_is)
    (case wq_c_root => k_is)
    (case wq_k_root => k_is)
    (case wq_a_newB => k_is)
    (case wq_l_newB => k_is)
    (case wq_c_newB => k_is)
    (case wq_k_newB => k_is)
    (case wq_a_namesB => k_is)
    (case wq_l_namesB => k_is)
    (case wq_c_namesB => k_is)
    (case wq_k_namesB => k_is)
    (case wq_a_wordB => k_is)
    (case wq_l_wordB => k_is)
    (case wq_c_wordB => k_is)
    (case wq_k_wordB => k_is)
    (case wq_a_exp => k_is)
    (case wq_l_exp => k_is)
    (case wq_c_exp => k_is)
    (case wq_k_exp => k_is)
    (case wq_a_made => k_is)
    (case wq_l_made => k_is)
    (case wq_c_made => k_is)
    (case wq_k_made => k_is)
    (case wq_a_isWord => k_is)
    (case wq_l_isWord => k_is)
    (case wq_c_isWord => k_is)
    (case wq_k_isWord => k_is)
    (case wq_a_begW => k_is)
    (case wq_l_begW => k_is)
    (case wq_c_begW => k_is)
    (case wq_k_begW => k_is)
    (case wq_a_begN => k_is)
    (case wq_l_begN => k_is)
    (case wq_c_begN => k_is)
    (case wq_k_begN => k_is)
    (case wq_z_len => k_is)
    (case wq_z_min => k_is)
    (case wq_z_list => k_is)
    (case wq_z_any => k_is)
    (case wq_z_all => k_is)
    (case wq_z_isinstance => k_is)
    (case wq_z_str => k_is)
    (case wq_z_ord => k_is)
    (case wq_z_tuple => k_is)
    (case wq_z_int => k_is)
    (case wq_z_enumerate => k_is)
    (case wq_z_zip => k_is)
    (case wq_z_reversed => k_is)
    (case wq_z_range => k_is)
    (case wq_z_ValueError => k_is)
    (case wq_z_sum => k_is)
    (case wq_z_max => k_is)
    (case wq_a_MOST_NAME_SIGNS => k_is)
    (case wq_a_FIRST_SIGN => k_is)
    (case wq_a_LAST_SIGN => k_is)
    (case wq_a_LETTERS => k_is)
    (case wq_a_NAME_SIGNS => k_is)
    (case wq_a_FIGURES => k_is)
    (case wq_a_BLANKS => k_is)
    (case wq_a_BARRED_SIGNS => k_is)
    (case wq_g_BARRED_SIGNS => k_is)
    (case wq_v_BARRED_SIGNS => rfl)
    (case wq_a_NO_NAMES => k_is)
    (case wq_g_NO_NAMES => k_is)
    (case wq_v_NO_NAMES => rfl)
    (case wq_a_UNBRACKETED => k_is)
    (case wq_g_UNBRACKETED => k_is)
    (case wq_v_UNBRACKETED => rfl)
    (case wq_a_FORMS => k_is)
    (case wq_l_FORMS => k_is)
    (case wq_klF => repeat (first | exact trivial | refine ⟨⟨_, _, rfl, rfl⟩, ?_⟩))
    (case wq_loF => first | rfl | decide)
    (case wq_ksF => rfl)
    (case wq_a_BOUNDS => k_is)
    (case wq_l_BOUNDS => k_is)
    (case wq_klB => repeat (first | exact trivial | refine ⟨⟨_, _, rfl, rfl⟩, ?_⟩))
    (case wq_loB => first | rfl | decide)
    (case wq_ksB => rfl)
    (case wq_a_OPS => k_is)
    (case wq_l_OPS => k_is)
    (case wq_klO => repeat (first | exact trivial | refine ⟨⟨_, _, rfl, rfl⟩, ?_⟩))
    (case wq_loO => first | rfl | decide)
    (case wq_ksO => rfl)
    (case wq_e0 => k_is)
    (case wq_g0 => k_is)
    (case wq_v0 => rfl)
    (case wq_e1 => k_is)
    (case wq_g1 => k_is)
    (case wq_v1 => rfl)
    (case wq_e2 => k_is)
    (case wq_g2 => k_is)
    (case wq_v2 => rfl)
    (case wq_e3 => k_is)
    (case wq_g3 => k_is)
    (case wq_v3 => rfl)
    (case wq_e4 => k_is)
    (case wq_g4 => k_is)
    (case wq_v4 => rfl)
    (case wq_e5 => k_is)
    (case wq_g5 => k_is)
    (case wq_v5 => rfl)
    (case wq_e6 => k_is)
    (case wq_g6 => k_is)
    (case wq_v6 => rfl)
    (case wq_e7 => k_is)
    (case wq_g7 => k_is)
    (case wq_v7 => rfl)
    (case wq_e8 => k_is)
    (case wq_g8 => k_is)
    (case wq_v8 => rfl)
    (case wq_e9 => k_is)
    (case wq_g9 => k_is)
    (case wq_v9 => rfl)
    (case wq_e10 => k_is)
    (case wq_g10 => k_is)
    (case wq_v10 => rfl)
    (case wq_e11 => k_is)
    (case wq_g11 => k_is)
    (case wq_v11 => rfl)
    (case wq_e12 => k_is)
    (case wq_g12 => k_is)
    (case wq_v12 => rfl)
    (case wq_e13 => k_is)
    (case wq_g13 => k_is)
    (case wq_v13 => rfl)
    (case wq_e14 => k_is)
    (case wq_g14 => k_is)
    (case wq_v14 => rfl)
    (case wq_e15 => k_is)
    (case wq_g15 => k_is)
    (case wq_v15 => rfl)
    (case wq_e16 => k_is)
    (case wq_g16 => k_is)
    (case wq_v16 => rfl)
    (case wq_e17 => k_is)
    (case wq_g17 => k_is)
    (case wq_v17 => rfl)
    (case wq_e18 => k_is)
    (case wq_g18 => k_is)
    (case wq_v18 => rfl)
    (case wq_e19 => k_is)
    (case wq_g19 => k_is)
    (case wq_v19 => rfl)
    (case wq_e20 => k_is)
    (case wq_g20 => k_is)
    (case wq_v20 => rfl)
    (case wq_e21 => k_is)
    (case wq_g21 => k_is)
    (case wq_v21 => rfl)
    (case wq_e22 => k_is)
    (case wq_g22 => k_is)
    (case wq_v22 => rfl)
    (case wq_e23 => k_is)
    (case wq_g23 => k_is)
    (case wq_v23 => rfl)
    (case wq_e24 => k_is)
    (case wq_g24 => k_is)
    (case wq_v24 => rfl)
    (case wq_eb0 => k_is)
    (case wq_gb0 => k_is)
    (case wq_vb0 => rfl)
    (case wq_eb1 => k_is)
    (case wq_gb1 => k_is)
    (case wq_vb1 => rfl)
    (case wq_eb2 => k_is)
    (case wq_gb2 => k_is)
    (case wq_vb2 => rfl)
    (case wq_eb3 => k_is)
    (case wq_gb3 => k_is)
    (case wq_vb3 => rfl)
    (case wq_eo0 => k_is)
    (case wq_eo1 => k_is)
    (case wq_eo2 => k_is)
    (case wq_eo3 => k_is)
    (case wq_eo4 => k_is)
    (case wq_eo5 => k_is)
    (case wq_eo6 => k_is)
    (case wq_eo7 => k_is)
    (case wq_eo8 => k_is)
    (case wq_eo9 => k_is)
    (case wq_eo10 => k_is)
    (case wq_a_Bracket => k_is)
    (case wq_pgCB => k_is)
    (case wq_hdCB => k_is)
    (case wq_poCB => k_is)
    (case wq_saCB => k_is)
    (case wq_noCB_word => k_is)
    (case wq_noCB_kinds => k_is)
    (case wq_noCB_least => k_is)
    (case wq_noCB_most => k_is)
    (case wq_noCB_things => k_is)
    (case wq_mkCB => k_is)
    (case wq_kpCB => k_is)
    (case wq_a_Reader => k_is)
    (case wq_pgCR => k_is)
    (case wq_hdCR => k_is)
    (case wq_poCR => k_is)
    (case wq_saCR => k_is)
    (case wq_noCR_brackets => k_is)
    (case wq_noCR_token => k_is)
    (case wq_noCR_reads => k_is)
    (case wq_mkCR => k_is)
    (case wq_kpCR => k_is)
    (case wq_a_binit => k_is)
    (case wq_fn_binit => k_is)
    (case wq_l_binit => k_is)
    (case wq_c_binit => k_is)
    (case wq_k_binit => k_is)
    (case wq_a_rinit => k_is)
    (case wq_fn_rinit => k_is)
    (case wq_l_rinit => k_is)
    (case wq_c_rinit => k_is)
    (case wq_k_rinit => k_is)
    (case wq_a_takes => k_is)
    (case wq_fn_takes => k_is)
    (case wq_l_takes => k_is)
    (case wq_c_takes => k_is)
    (case wq_k_takes => k_is)
    (case wq_a_takes_in_text => k_is)
    (case wq_fn_takes_in_text => k_is)
    (case wq_l_takes_in_text => k_is)
    (case wq_c_takes_in_text => k_is)
    (case wq_k_takes_in_text => k_is)
    (case wq_a_takes_between => k_is)
    (case wq_fn_takes_between => k_is)
    (case wq_l_takes_between => k_is)
    (case wq_c_takes_between => k_is)
    (case wq_k_takes_between => k_is)
    (case wq_a_unlocks => k_is)
    (case wq_fn_unlocks => k_is)
    (case wq_l_unlocks => k_is)
    (case wq_c_unlocks => k_is)
    (case wq_k_unlocks => k_is)
    (case wq_a_shuts => k_is)
    (case wq_fn_shuts => k_is)
    (case wq_l_shuts => k_is)
    (case wq_c_shuts => k_is)
    (case wq_k_shuts => k_is)
    (case wq_a_begins_part => k_is)
    (case wq_fn_begins_part => k_is)
    (case wq_l_begins_part => k_is)
    (case wq_c_begins_part => k_is)
    (case wq_k_begins_part => k_is)
    (case wq_a_begins => k_is)
    (case wq_fn_begins => k_is)
    (case wq_l_begins => k_is)
    (case wq_c_begins => k_is)
    (case wq_k_begins => k_is)
    (case wq_a_lengthens => k_is)
    (case wq_fn_lengthens => k_is)
    (case wq_l_lengthens => k_is)
    (case wq_c_lengthens => k_is)
    (case wq_k_lengthens => k_is)
    (case wq_a_names_here => k_is)
    (case wq_fn_names_here => k_is)
    (case wq_l_names_here => k_is)
    (case wq_c_names_here => k_is)
    (case wq_k_names_here => k_is)
    (case wq_a_completes => k_is)
    (case wq_fn_completes => k_is)
    (case wq_l_completes => k_is)
    (case wq_c_completes => k_is)
    (case wq_k_completes => k_is)
    (case wq_a_add_thing => k_is)
    (case wq_fn_add_thing => k_is)
    (case wq_l_add_thing => k_is)
    (case wq_c_add_thing => k_is)
    (case wq_k_add_thing => k_is)
    (case wq_a_is_whole_text => k_is)
    (case wq_fn_is_whole_text => k_is)
    (case wq_l_is_whole_text => k_is)
    (case wq_c_is_whole_text => k_is)
    (case wq_k_is_whole_text => k_is)
    (case wq_aC => k_is)
    (case wq_xL => k_is)
    (case wq_saC => k_is)
    (case wq_gaC => k_is)
    (case wq_ggC => k_is)
    (case wq_nbC => k_is)
    (case wq_aI => k_is)
    (case wq_tI => k_is)
    (case wq_lI => k_is)
    (case wq_cI => k_is)
    (case wq_kI => k_is)
    (case wq_kC => k_is)
    (case wq_eC => k_is)
    (case wq_tC => k_is)
    (case wq_hdC => k_is)
    (case wq_clC => k_is)
    (case wq_vV => k_is)
