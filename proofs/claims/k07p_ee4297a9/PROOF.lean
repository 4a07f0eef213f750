import PyProof.Rows.All
import Wide.All
import OpenK.AllK
import Wide.FinOn
import HandS.ForMost
import HandS.Wide
import HandS.Deep
import HandS.IsInst
import HandS.Small
import HandS.TupAny
import PySem.Challenge.RW_newsflood_k07_rounds_anywhere
set_option Elab.async false
set_option linter.all false
set_option maxRecDepth 100000
set_option maxHeartbeats 1000000
namespace EE
open PySem PySem.Spec PyProof.Rows L2
abbrev Fg := PySem.W.Frag
inductive EV where
  | non | bl (b : Bool) | int (i : Int) | str (x : Str) | ref (n : Nat) | ty (n : String) | tup (xs : List EV)
  deriving Inhabited
inductive EO where
  | lst (xs : List EV) | ro (xs : List EV) | dic (t : Bool) (kvs : List (EV × EV)) | lkd (t : Bool) (kvs : List (EV × EV)) | obj (c : Nat) (fs : List (Option EV))
  deriving Inhabited
abbrev ES := List (Option EV)
abbrev EH := List EO
abbrev Rho := List (Bool × Addr)
def adr (ρ : Rho) (n : Nat) : Option Addr := (ρ[n]?).map (·.2)
mutual
def VR (K : Fg) (ρ : Rho) (H : Hp) : EV → V → Prop
  | .non, v => v = .non
  | .bl b, v => v = .bl b
  | .int i, v => v = .int i
  | .str x, v => v = .str x
  | .ref n, v => ∃ a, adr ρ n = some a ∧ v = .ref a
  | .ty n, v => v = .ty n
  | .tup xs, v => ∃ a vs, v = .ref a ∧ H a = some (.tup vs) ∧ VRs K ρ H xs vs
def VRs (K : Fg) (ρ : Rho) (H : Hp) : List EV → List V → Prop
  | [], vs => vs = []
  | x :: xs, vs => ∃ v r, vs = v :: r ∧ VR K ρ H x v ∧ VRs K ρ H xs r
end
structure Ext0 (K : Fg) (ρ ρ' : Rho) (H H' : Hp) : Prop where
  pre : ∃ t, ρ' = ρ ++ t
  tup : ∀ a xs, H a = some (.tup xs) → H' a = some (.tup xs)
  frz : ∀ a o u, H a = some (.frz o u) → H' a = some (.frz o u)
structure Ext (K : Fg) (ρ ρ' : Rho) (H H' : Hp) : Prop extends Ext0 K ρ ρ' H H' where
  new : ∀ a, (true, a) ∈ ρ' → (true, a) ∈ ρ ∨ H a = none
  rest : ∀ a o, H a = some o → (true, a) ∉ ρ → H' a = some o
theorem Ext.refl (K : Fg) (ρ : Rho) (H : Hp) : Ext K ρ ρ H H :=
  ⟨⟨⟨[], by simp⟩, fun _ _ h => h, fun _ _ _ h => h⟩, fun _ h => .inl h, fun _ _ h _ => h⟩
theorem Ext.trans {K : Fg} {ρ ρ1 ρ2 : Rho} {H H1 H2 : Hp} (a : Ext K ρ ρ1 H H1) (b : Ext K ρ1 ρ2 H1 H2) : Ext K ρ ρ2 H H2 := by
  obtain ⟨t1, e1⟩ := a.pre
  obtain ⟨t2, e2⟩ := b.pre
  refine ⟨⟨⟨t1 ++ t2, by rw [e2, e1, List.append_assoc]⟩, fun x xs h => b.tup _ _ (a.tup _ _ h), fun x o u h => b.frz _ _ _ (a.frz _ _ _ h)⟩, fun x h => ?_, fun x o h hn => ?_⟩
  · rcases b.new x h with h1 | h1
    · exact a.new x h1
    · by_cases hx : (true, x) ∈ ρ
      · exact .inl hx
      · right
        cases q : H x with
        | none => rfl
        | some o =>
          have := a.rest x o q hx
          rw [h1] at this
          cases this
  · have h1 := a.rest x o h hn
    refine b.rest x o h1 fun hm => ?_
    rcases a.new x hm with z | z
    · exact hn z
    · rw [h] at z
      cases z
theorem Ext0.at {K : Fg} {ρ ρ' : Rho} {H H' : Hp} (e : Ext0 K ρ ρ' H H') {n : Nat} {a : Bool × Addr} (h : ρ[n]? = some a) : ρ'[n]? = some a := by
  obtain ⟨t, rfl⟩ := e.pre
  rw [List.getElem?_append_left (List.getElem?_eq_some_iff.mp h).1]
  exact h
theorem Ext0.get {K : Fg} {ρ ρ' : Rho} {H H' : Hp} (e : Ext0 K ρ ρ' H H') {n : Nat} {a : Addr} (h : adr ρ n = some a) : adr ρ' n = some a := by
  unfold adr at h ⊢
  obtain ⟨b, h1, h2⟩ := Option.map_eq_some_iff.mp h
  rw [e.at h1]
  exact congrArg some h2
theorem adr_of {ρ : Rho} {n : Nat} {b : Bool} {a : Addr} (h : ρ[n]? = some (b, a)) : adr ρ n = some a := by
  unfold adr
  rw [h]
  rfl
mutual
theorem VR.mono0 {K : Fg} {ρ ρ' : Rho} {H H' : Hp} (e : Ext0 K ρ ρ' H H') : ∀ (x : EV) (v : V), VR K ρ H x v → VR K ρ' H' x v
  | .non, v, h => by simp only [VR] at h ⊢; exact h
  | .bl b, v, h => by simp only [VR] at h ⊢; exact h
  | .int i, v, h => by simp only [VR] at h ⊢; exact h
  | .str s, v, h => by simp only [VR] at h ⊢; exact h
  | .ty n, v, h => by simp only [VR] at h ⊢; exact h
  | .ref n, v, h => by
    simp only [VR] at h ⊢
    obtain ⟨a, h1, h2⟩ := h
    exact ⟨a, e.get h1, h2⟩
  | .tup xs, v, h => by
    simp only [VR] at h ⊢
    obtain ⟨a, vs, h1, h2, h3⟩ := h
    exact ⟨a, vs, h1, e.tup _ _ h2, VRs.mono0 e xs vs h3⟩
theorem VRs.mono0 {K : Fg} {ρ ρ' : Rho} {H H' : Hp} (e : Ext0 K ρ ρ' H H') : ∀ (xs : List EV) (vs : List V), VRs K ρ H xs vs → VRs K ρ' H' xs vs
  | [], vs, h => by simp only [VRs] at h ⊢; exact h
  | x :: xs, vs, h => by
    simp only [VRs] at h ⊢
    obtain ⟨v, r, h1, h2, h3⟩ := h
    exact ⟨v, r, h1, VR.mono0 e x v h2, VRs.mono0 e xs r h3⟩
end
theorem VR.mono {K : Fg} {ρ ρ' : Rho} {H H' : Hp} (e : Ext K ρ ρ' H H') (x : EV) (v : V) (h : VR K ρ H x v) : VR K ρ' H' x v := VR.mono0 e.toExt0 x v h
theorem VRs.mono {K : Fg} {ρ ρ' : Rho} {H H' : Hp} (e : Ext K ρ ρ' H H') (x : List EV) (v : List V) (h : VRs K ρ H x v) : VRs K ρ' H' x v := VRs.mono0 e.toExt0 x v h
section
variable {K : Fg} {ρ : Rho} {H : Hp}
theorem vr_non {v : V} : VR K ρ H .non v ↔ v = .non := by simp only [VR]
theorem vr_bl {b : Bool} {v : V} : VR K ρ H (.bl b) v ↔ v = .bl b := by simp only [VR]
theorem vr_int {i : Int} {v : V} : VR K ρ H (.int i) v ↔ v = .int i := by simp only [VR]
theorem vr_str {i : Str} {v : V} : VR K ρ H (.str i) v ↔ v = .str i := by simp only [VR]
theorem vr_ty {n : String} {v : V} : VR K ρ H (.ty n) v ↔ v = .ty n := by simp only [VR]
theorem vr_ref {n : Nat} {v : V} : VR K ρ H (.ref n) v ↔ ∃ a, adr ρ n = some a ∧ v = .ref a := by simp only [VR]
theorem vr_tup {xs : List EV} {v : V} : VR K ρ H (.tup xs) v ↔ ∃ a vs, v = .ref a ∧ H a = some (.tup vs) ∧ VRs K ρ H xs vs := by simp only [VR]
theorem vrs_nil {vs : List V} : VRs K ρ H [] vs ↔ vs = [] := by simp only [VRs]
theorem vrs_cons {x : EV} {xs : List EV} {vs : List V} : VRs K ρ H (x :: xs) vs ↔ ∃ v r, vs = v :: r ∧ VR K ρ H x v ∧ VRs K ρ H xs r := by simp only [VRs]
theorem VRs.length : ∀ {xs : List EV} {vs : List V}, VRs K ρ H xs vs → xs.length = vs.length
  | [], vs, h => by rw [vrs_nil] at h; subst h; rfl
  | x :: xs, vs, h => by
    obtain ⟨v, r, rfl, _, h2⟩ := vrs_cons.mp h
    rw [List.length_cons, List.length_cons, VRs.length h2]
theorem VRs.get : ∀ {xs : List EV} {vs : List V} {i : Nat} {x : EV}, VRs K ρ H xs vs → xs[i]? = some x → ∃ v, vs[i]? = some v ∧ VR K ρ H x v
  | [], _, _, _, _, e => by simp at e
  | x :: xs, vs, i, y, h, e => by
    obtain ⟨v, r, rfl, h1, h2⟩ := vrs_cons.mp h
    cases i with
    | zero =>
      simp only [List.getElem?_cons_zero, Option.some.injEq] at e
      subst e
      exact ⟨v, rfl, h1⟩
    | succ i =>
      simp only [List.getElem?_cons_succ] at e ⊢
      exact VRs.get h2 e
theorem VRs.append : ∀ {xs ys : List EV} {vs us : List V}, VRs K ρ H xs vs → VRs K ρ H ys us → VRs K ρ H (xs ++ ys) (vs ++ us)
  | [], ys, vs, us, h, g => by rw [vrs_nil] at h; subst h; exact g
  | x :: xs, ys, vs, us, h, g => by
    obtain ⟨v, r, rfl, h1, h2⟩ := vrs_cons.mp h
    exact vrs_cons.mpr ⟨v, r ++ us, rfl, h1, VRs.append h2 g⟩
theorem VRs.one {x : EV} {v : V} (h : VR K ρ H x v) : VRs K ρ H [x] [v] := vrs_cons.mpr ⟨v, [], rfl, h, vrs_nil.mpr rfl⟩
theorem VRs.set {x : EV} {v : V} (hx : VR K ρ H x v) : ∀ {xs : List EV} {vs : List V} (i : Nat), VRs K ρ H xs vs → VRs K ρ H (xs.set i x) (vs.set i v)
  | [], vs, i, h => by rw [vrs_nil] at h; subst h; exact vrs_nil.mpr rfl
  | y :: xs, vs, i, h => by
    obtain ⟨u, r, rfl, h1, h2⟩ := vrs_cons.mp h
    cases i with
    | zero => exact vrs_cons.mpr ⟨v, r, rfl, hx, h2⟩
    | succ i => exact vrs_cons.mpr ⟨u, r.set i v, rfl, h1, VRs.set hx i h2⟩
theorem VRs.take : ∀ {xs : List EV} {vs : List V} (n : Nat), VRs K ρ H xs vs → VRs K ρ H (xs.take n) (vs.take n)
  | xs, vs, 0, h => by simp only [List.take_zero]; exact vrs_nil.mpr rfl
  | [], vs, n + 1, h => by rw [vrs_nil] at h; subst h; exact vrs_nil.mpr rfl
  | x :: xs, vs, n + 1, h => by
    obtain ⟨v, r, rfl, h1, h2⟩ := vrs_cons.mp h
    exact vrs_cons.mpr ⟨v, r.take n, rfl, h1, VRs.take n h2⟩
theorem VRs.drop : ∀ {xs : List EV} {vs : List V} (n : Nat), VRs K ρ H xs vs → VRs K ρ H (xs.drop n) (vs.drop n)
  | xs, vs, 0, h => h
  | [], vs, n + 1, h => by rw [vrs_nil] at h; subst h; exact vrs_nil.mpr rfl
  | x :: xs, vs, n + 1, h => by
    obtain ⟨v, r, rfl, h1, h2⟩ := vrs_cons.mp h
    exact VRs.drop n h2
theorem VRs.ints : ∀ (ns : List Int), VRs K ρ H (ns.map EV.int) (ns.map V.int)
  | [] => vrs_nil.mpr rfl
  | n :: ns => vrs_cons.mpr ⟨.int n, ns.map V.int, rfl, vr_int.mpr rfl, VRs.ints ns⟩
theorem VRs.of_ints : ∀ {ns : List Int} {vs : List V}, VRs K ρ H (ns.map EV.int) vs → vs = ns.map V.int
  | [], vs, h => vrs_nil.mp h
  | n :: ns, vs, h => by
    obtain ⟨v, r, rfl, h1, h2⟩ := vrs_cons.mp h
    rw [vr_int.mp h1, VRs.of_ints h2]
    rfl
end
structure Gx where
  K : Fg
  ct : Nat → Addr × List Str
def RoL (K : Fg) (H : Hp) (a : Addr) (xs : List V) : Prop :=
  (∃ o, H a = some (.frz o (.lst xs))) ∨
    ∃ (o : Obj) (its : Array Value) (n : Nat), K.lookup a = some o ∧ o.cls = .type "list" ∧ o.dict = none ∧ o.data = .seq its n ∧ its.size ≤ sizeLine ∧ Vals xs its.toList
theorem RoL.sq {K : Fg} {H : Hp} {a : Addr} {xs : List V} (h : RoL K H a xs) : SqL K H a xs := by
  rcases h with ⟨o, h⟩ | h
  · exact .inl (.inr ⟨o, h⟩)
  · exact .inr h
theorem RoL.mono {K : Fg} {ρ ρ' : Rho} {H H' : Hp} (e : Ext0 K ρ ρ' H H') {a : Addr} {xs : List V} (h : RoL K H a xs) : RoL K H' a xs := by
  rcases h with ⟨o, h⟩ | h
  · exact .inl ⟨o, e.frz _ _ _ h⟩
  · exact .inr h
def keyOf : EV → Option Key
  | .int i => some (.inl i)
  | .str x => some (.inr x)
  | _ => none
def keysOf : List EV → Option (List Key)
  | [] => some []
  | x :: xs => match keyOf x, keysOf xs with
    | some k, some ks => some (k :: ks)
    | _, _ => none
def tkeyOf : EV → Option (List Key)
  | .tup xs => keysOf xs
  | _ => none
def KR {κ : Type} (f : EV → Option κ) (R : EV → V → Prop) : List (EV × EV) → List (κ × V) → Prop
  | [], l => l = []
  | p :: ps, l => ∃ k v r, l = (k, v) :: r ∧ f p.1 = some k ∧ R p.2 v ∧ KR f R ps r
def FR (R : EV → V → Prop) : Option EV → Option V → Prop
  | some x, some v => R x v
  | none, none => True
  | _, _ => False
def DR (R : EV → V → Prop) (t : Bool) (kvs : List (EV × EV)) (u : HO) : Prop := match t with
  | false => ∃ l, u = .dK l ∧ KR keyOf R kvs l
  | true => ∃ l, u = .dT l ∧ KR tkeyOf R kvs l
def OR (G : Gx) (ρ : Rho) (H : Hp) : EO → Addr → Prop
  | .lst xs, a => ∃ vs, H a = some (.lst vs) ∧ VRs G.K ρ H xs vs
  | .ro xs, a => ∃ vs, RoL G.K H a vs ∧ VRs G.K ρ H xs vs
  | .dic t kvs, a => ∃ u, H a = some u ∧ DR (VR G.K ρ H) t kvs u
  | .lkd t kvs, a => ∃ f u, H a = some (.frz f u) ∧ DR (VR G.K ρ H) t kvs u
  | .obj c fs, a => ∃ dx l, H a = some (.ins (G.ct c).1 dx l) ∧ fs.length = (G.ct c).2.length ∧ l.length ≤ (fs.filter fun z => z.isSome).length ∧
      (∀ (i : Nat) (x : Option EV), fs[i]? = some x → ∀ m, (G.ct c).2[i]? = some m → FR (VR G.K ρ H) x (l.lookup m)) ∧ ∀ m, m ∉ (G.ct c).2 → l.lookup m = none
def EO.mu : EO → Bool
  | .ro _ => false
  | _ => true
structure HR (G : Gx) (ρ : Rho) (H : Hp) (eh : EH) : Prop where
  len : ρ.length = eh.length
  dis : ∀ (m n : Nat) (a : Addr), ρ[m]? = some (true, a) → ρ[n]? = some (true, a) → m = n
  obj : ∀ (n : Nat) (o : EO), eh[n]? = some o → ∃ a, ρ[n]? = some (o.mu, a) ∧ OR G ρ H o a
theorem KR.mono {κ : Type} {f : EV → Option κ} {R R' : EV → V → Prop} (h : ∀ x v, R x v → R' x v) : ∀ {ps : List (EV × EV)} {l : List (κ × V)}, KR f R ps l → KR f R' ps l
  | [], _, q => q
  | p :: ps, _, ⟨k, v, r, e, h1, h2, h3⟩ => ⟨k, v, r, e, h1, h _ _ h2, KR.mono h h3⟩
theorem FR.mono {R R' : EV → V → Prop} (h : ∀ x v, R x v → R' x v) : ∀ {x : Option EV} {v : Option V}, FR R x v → FR R' x v
  | some _, some _, q => h _ _ q
  | none, none, _ => trivial
  | some _, none, q => q.elim
  | none, some _, q => q.elim
theorem DR.mono {R R' : EV → V → Prop} (h : ∀ x v, R x v → R' x v) : ∀ {t : Bool} {kvs : List (EV × EV)} {u : HO}, DR R t kvs u → DR R' t kvs u
  | false, _, _, ⟨l, e, q⟩ => ⟨l, e, q.mono h⟩
  | true, _, _, ⟨l, e, q⟩ => ⟨l, e, q.mono h⟩
theorem DR.mt {R : EV → V → Prop} : ∀ {t : Bool} {kvs : List (EV × EV)} {u : HO}, DR R t kvs u → L2.Mut (some u)
  | false, _, _, ⟨l, e, q⟩ => by subst e; exact True.intro
  | true, _, _, ⟨l, e, q⟩ => by subst e; exact True.intro
theorem DR.ntup {R : EV → V → Prop} : ∀ {t : Bool} {kvs : List (EV × EV)} {u : HO}, DR R t kvs u → ∀ xs, u ≠ .tup xs
  | false, _, _, ⟨l, e, q⟩, _, z => by subst e; cases z
  | true, _, _, ⟨l, e, q⟩, _, z => by subst e; cases z
theorem DR.nfrz {R : EV → V → Prop} : ∀ {t : Bool} {kvs : List (EV × EV)} {u : HO}, DR R t kvs u → ∀ o v, u ≠ .frz o v
  | false, _, _, ⟨l, e, q⟩, _, _, z => by subst e; cases z
  | true, _, _, ⟨l, e, q⟩, _, _, z => by subst e; cases z
theorem OR.keep {G : Gx} {ρ ρ' : Rho} {H H' : Hp} (e : Ext0 G.K ρ ρ' H H') {o : EO} {a : Addr} (hb : o.mu = true → H' a = H a) (h : OR G ρ H o a) : OR G ρ' H' o a := by
  have m := fun x v => VR.mono0 (K := G.K) (ρ := ρ) (ρ' := ρ') (H := H) (H' := H') e x v
  cases o with
  | lst xs =>
    obtain ⟨vs, h1, h2⟩ := h
    exact ⟨vs, by rw [hb rfl]; exact h1, VRs.mono0 e _ _ h2⟩
  | ro xs =>
    obtain ⟨vs, h1, h2⟩ := h
    exact ⟨vs, h1.mono e, VRs.mono0 e _ _ h2⟩
  | dic t kvs =>
    obtain ⟨u, h1, h2⟩ := h
    exact ⟨u, by rw [hb rfl]; exact h1, h2.mono m⟩
  | lkd t kvs =>
    obtain ⟨f, u, h1, h2⟩ := h
    exact ⟨f, u, by rw [hb rfl]; exact h1, h2.mono m⟩
  | obj c fs =>
    obtain ⟨dx, l, h1, h2, h3, h4, h5⟩ := h
    exact ⟨dx, l, by rw [hb rfl]; exact h1, h2, h3, fun i x hx n hn => (h4 i x hx n hn).mono m, h5⟩
theorem OR.there {G : Gx} {ρ : Rho} {H : Hp} {o : EO} {a : Addr} (hm : o.mu = true) (h : OR G ρ H o a) : ∃ u, H a = some u ∧ ∀ xs, u ≠ .tup xs := by
  cases o with
  | lst xs =>
    obtain ⟨vs, h1, _⟩ := h
    exact ⟨_, h1, fun _ z => by cases z⟩
  | ro xs => cases hm
  | dic t kvs =>
    obtain ⟨u, h1, h2⟩ := h
    exact ⟨u, h1, h2.ntup⟩
  | lkd t kvs =>
    obtain ⟨f, u, h1, h2⟩ := h
    exact ⟨_, h1, fun _ z => by cases z⟩
  | obj c fs =>
    obtain ⟨dx, l, h1, _⟩ := h
    exact ⟨_, h1, fun _ z => by cases z⟩
theorem Ext.alloc {K : Fg} {ρ : Rho} {H : Hp} {p : Addr} (u : HO) (hp : H p = none) : Ext K ρ (ρ ++ [(true, p)]) H (upd H p u) where
  pre := ⟨[(true, p)], rfl⟩
  tup := fun a xs h => by rw [upd_ne (ne_of_none h hp)]; exact h
  frz := fun a o v h => by rw [upd_ne (ne_of_none h hp)]; exact h
  new := fun a h => by
    rcases List.mem_append.mp h with h | h
    · exact .inl h
    · have := List.mem_singleton.mp h
      cases this
      exact .inr hp
  rest := fun a o h _ => by rw [upd_ne (ne_of_none h hp)]; exact h
theorem Ext.side {K : Fg} {ρ : Rho} {H : Hp} {p : Addr} (u : HO) (hp : H p = none) : Ext K ρ ρ H (upd H p u) where
  pre := ⟨[], by simp⟩
  tup := fun a xs h => by rw [upd_ne (ne_of_none h hp)]; exact h
  frz := fun a o v h => by rw [upd_ne (ne_of_none h hp)]; exact h
  new := fun a h => .inl h
  rest := fun a o h _ => by rw [upd_ne (ne_of_none h hp)]; exact h
theorem Ext.write {K : Fg} {ρ : Rho} {H : Hp} {n : Nat} {p : Addr} {u0 : HO} (u : HO) (hn : ρ[n]? = some (true, p)) (h0 : H p = some u0) (ht : ∀ xs, u0 ≠ .tup xs) (hf : ∀ o v, u0 ≠ .frz o v) : Ext K ρ ρ H (upd H p u) where
  pre := ⟨[], by simp⟩
  tup := fun a xs h => by
    rw [upd_ne]
    · exact h
    · intro e
      subst e
      rw [h0] at h
      cases h
      exact ht _ rfl
  frz := fun a o v h => by
    rw [upd_ne]
    · exact h
    · intro e
      subst e
      rw [h0] at h
      cases h
      exact hf _ _ rfl
  new := fun a h => .inl h
  rest := fun a o h hx => by
    rw [upd_ne]
    · exact h
    · intro e
      subst e
      exact hx (List.mem_of_getElem? hn)
theorem Ext.mut {K : Fg} {ρ ρ' : Rho} {H H' : Hp} {p : Addr} {u : HO} (e : Ext K ρ ρ' H H') (hp : H p = none) : Ext K ρ ρ' H (upd H' p u) where
  pre := e.pre
  tup := fun a xs h => by rw [upd_ne (ne_of_none h hp)]; exact e.tup _ _ h
  frz := fun a o v h => by rw [upd_ne (ne_of_none h hp)]; exact e.frz _ _ _ h
  new := e.new
  rest := fun a o h hx => by rw [upd_ne (ne_of_none h hp)]; exact e.rest _ _ h hx
theorem Ext.push {K : Fg} {ρ ρ' : Rho} {H H' : Hp} {p : Addr} (e : Ext K ρ ρ' H H') (hp : H p = none) : Ext K ρ (ρ' ++ [(true, p)]) H H' where
  pre := by
    obtain ⟨t, ht⟩ := e.pre
    exact ⟨t ++ [(true, p)], by rw [ht, List.append_assoc]⟩
  tup := e.tup
  frz := e.frz
  new := fun a h => by
    rcases List.mem_append.mp h with h | h
    · exact e.new a h
    · have := List.mem_singleton.mp h
      cases this
      exact .inr hp
  rest := e.rest
theorem HR.ext {G : Gx} {ρ : Rho} {H : Hp} {eh : EH} (h : HR G ρ H eh) {H' : Hp} (e : Ext0 G.K ρ ρ H H') (hk : ∀ a, (true, a) ∈ ρ → H' a = H a) : HR G ρ H' eh where
  len := h.len
  dis := h.dis
  obj := fun n o ho => by
    obtain ⟨a, ha, hO⟩ := h.obj n o ho
    refine ⟨a, ha, hO.keep e fun hm => hk a ?_⟩
    rw [hm] at ha
    exact List.mem_of_getElem? ha
theorem HR.at {G : Gx} {ρ : Rho} {H : Hp} {eh : EH} (h : HR G ρ H eh) {a : Addr} (hm : (true, a) ∈ ρ) : ∃ (n : Nat) (o : EO), ρ[n]? = some (true, a) ∧ eh[n]? = some o ∧ o.mu = true ∧ OR G ρ H o a := by
  obtain ⟨n, hn⟩ := List.mem_iff_getElem?.mp hm
  have hl : n < eh.length := by
    rw [← h.len]
    exact (List.getElem?_eq_some_iff.mp hn).1
  obtain ⟨a', ha, hO⟩ := h.obj n _ (List.getElem?_eq_getElem hl)
  rw [hn] at ha
  simp only [Option.some.injEq, Prod.mk.injEq] at ha
  obtain ⟨h1, rfl⟩ := ha
  exact ⟨n, _, hn, List.getElem?_eq_getElem hl, h1.symm, hO⟩
theorem HR.fresh {G : Gx} {ρ : Rho} {H : Hp} {eh : EH} (h : HR G ρ H eh) {p : Addr} (hp : H p = none) : (true, p) ∉ ρ := fun hm => by
  obtain ⟨n, o, _, _, h1, h2⟩ := h.at hm
  obtain ⟨u, hu, _⟩ := h2.there h1
  rw [hp] at hu
  cases hu
theorem HR.side {G : Gx} {ρ : Rho} {H : Hp} {eh : EH} (h : HR G ρ H eh) {p : Addr} (u : HO) (hp : H p = none) : HR G ρ (upd H p u) eh :=
  h.ext (Ext.side u hp).toExt0 fun a ha => upd_ne fun e => h.fresh hp (e ▸ ha)
theorem HR.push {G : Gx} {ρ : Rho} {H : Hp} {eh : EH} (h : HR G ρ H eh) {p : Addr} {o : EO} (hp : (true, p) ∉ ρ) (hm : o.mu = true) (ho : OR G (ρ ++ [(true, p)]) H o p) : HR G (ρ ++ [(true, p)]) H (eh ++ [o]) where
  len := by simp [h.len]
  dis := fun m n a e1 e2 => by
    have key : ∀ (k : Nat), (ρ ++ [(true, p)])[k]? = some (true, a) → (ρ[k]? = some (true, a) ∧ a ≠ p) ∨ (k = ρ.length ∧ a = p) := by
      intro k hk
      have hl : k < (ρ ++ [(true, p)]).length := (List.getElem?_eq_some_iff.mp hk).1
      simp only [List.length_append, List.length_singleton] at hl
      by_cases hk2 : k < ρ.length
      · rw [List.getElem?_append_left hk2] at hk
        exact .inl ⟨hk, fun e => hp (e ▸ List.mem_of_getElem? hk)⟩
      · have : k = ρ.length := by omega
        subst this
        rw [List.getElem?_append_right (Nat.le_refl _), Nat.sub_self] at hk
        simp only [List.getElem?_cons_zero, Option.some.injEq, Prod.mk.injEq, true_and] at hk
        exact .inr ⟨rfl, hk.symm⟩
    rcases key m e1 with ⟨a3, a4⟩ | ⟨a1, a2⟩
    · rcases key n e2 with ⟨b3, b4⟩ | ⟨b1, b2⟩
      · exact h.dis m n a a3 b3
      · exact absurd b2 a4
    · rcases key n e2 with ⟨b3, b4⟩ | ⟨b1, b2⟩
      · exact absurd a2 b4
      · rw [a1, b1]
  obj := fun n z hz => by
    have hl : n < (eh ++ [o]).length := (List.getElem?_eq_some_iff.mp hz).1
    simp only [List.length_append, List.length_singleton] at hl
    by_cases hk2 : n < eh.length
    · rw [List.getElem?_append_left hk2] at hz
      obtain ⟨a, ha, hO⟩ := h.obj n z hz
      have e : Ext0 G.K ρ (ρ ++ [(true, p)]) H H := ⟨⟨[(true, p)], rfl⟩, fun _ _ q => q, fun _ _ _ q => q⟩
      exact ⟨a, e.at ha, hO.keep e fun _ => rfl⟩
    · have : n = eh.length := by omega
      subst this
      rw [List.getElem?_append_right (Nat.le_refl _), Nat.sub_self] at hz
      simp only [List.getElem?_cons_zero, Option.some.injEq] at hz
      subst hz
      refine ⟨p, ?_, ho⟩
      rw [List.getElem?_append_right (by rw [h.len]; exact Nat.le_refl _), h.len, Nat.sub_self, hm]
      rfl
theorem HR.alloc {G : Gx} {ρ : Rho} {H : Hp} {eh : EH} (h : HR G ρ H eh) {p : Addr} {u : HO} {o : EO} (hp : H p = none) (hm : o.mu = true) (ho : OR G (ρ ++ [(true, p)]) (upd H p u) o p) : HR G (ρ ++ [(true, p)]) (upd H p u) (eh ++ [o]) :=
  (h.side u hp).push (h.fresh hp) hm ho
theorem HR.write {G : Gx} {ρ : Rho} {H : Hp} {eh : EH} (h : HR G ρ H eh) {n : Nat} {p : Addr} {o' : EO} {u : HO} (hn : ρ[n]? = some (true, p)) (hm : o'.mu = true) (e : Ext G.K ρ ρ H (upd H p u))
    (ho : OR G ρ (upd H p u) o' p) : HR G ρ (upd H p u) (eh.set n o') where
  len := by simp [h.len]
  dis := h.dis
  obj := fun j z hz => by
    by_cases hj : n = j
    · subst hj
      have hl : n < eh.length := by
        have := (List.getElem?_eq_some_iff.mp hz).1
        simpa using this
      rw [List.getElem?_set_self hl] at hz
      cases hz
      exact ⟨p, by rw [hm]; exact hn, ho⟩
    · rw [List.getElem?_set_ne hj] at hz
      obtain ⟨a, ha, hO⟩ := h.obj j z hz
      refine ⟨a, ha, hO.keep e.toExt0 fun hmz => upd_ne fun ea => hj ?_⟩
      subst ea
      rw [hmz] at ha
      exact h.dis n j a hn ha
def SR (K : Fg) (ρ : Rho) (H : Hp) (es : ES) (σ : L2.St) : Prop := σ.length = es.length ∧ ∀ (i : Nat) (v : EV), es[i]? = some (some v) → ∃ u, σ[i]? = some (some u) ∧ VR K ρ H v u
structure Rel (G : Gx) (ρ : Rho) (σ : L2.St) (H : Hp) (es : ES) (eh : EH) : Prop where
  sl : SR G.K ρ H es σ
  hr : HR G ρ H eh
theorem SR.mono {K : Fg} {ρ ρ' : Rho} {H H' : Hp} {es : ES} {σ : L2.St} (e : Ext K ρ ρ' H H') (h : SR K ρ H es σ) : SR K ρ' H' es σ :=
  ⟨h.1, fun i v hv => by
    obtain ⟨u, h1, h2⟩ := h.2 i v hv
    exact ⟨u, h1, VR.mono e _ _ h2⟩⟩
theorem SR.set {K : Fg} {ρ : Rho} {H : Hp} {es : ES} {σ : L2.St} {v : EV} {u : V} (h : SR K ρ H es σ) (i : Nat) (hv : VR K ρ H v u) : SR K ρ H (es.set i (some v)) (σ.set i (some u)) := by
  refine ⟨by simp [h.1], fun j w hw => ?_⟩
  by_cases hj : i = j
  · subst hj
    have hi : i < es.length := by
      have := (List.getElem?_eq_some_iff.mp hw).1
      simpa using this
    rw [List.getElem?_set_self hi] at hw
    cases hw
    exact ⟨u, List.getElem?_set_self (by rw [h.1]; exact hi), hv⟩
  · rw [List.getElem?_set_ne hj] at hw ⊢
    exact h.2 j w hw
theorem SR.unset {K : Fg} {ρ : Rho} {H : Hp} {es : ES} {σ : L2.St} (h : SR K ρ H es σ) (i : Nat) : SR K ρ H (es.set i none) (σ.set i none) := by
  refine ⟨by simp [h.1], fun j w hw => ?_⟩
  by_cases hj : i = j
  · subst hj
    have hi : i < es.length := by
      have := (List.getElem?_eq_some_iff.mp hw).1
      simpa using this
    rw [List.getElem?_set_self hi] at hw
    cases hw
  · rw [List.getElem?_set_ne hj] at hw ⊢
    exact h.2 j w hw
def wip (es : ES) : List Nat → ES
  | [] => es
  | v :: vs => (wip es vs).set v none
theorem SR.wip {K : Fg} {ρ : Rho} {H : Hp} {es : ES} {σ : L2.St} (h : SR K ρ H es σ) : ∀ vs : List Nat, SR K ρ H (EE.wip es vs) (L2.wipe σ vs)
  | [] => h
  | v :: vs => (SR.wip h vs).unset v
theorem Rel.ext {G : Gx} {ρ ρ' : Rho} {σ : L2.St} {H H' : Hp} {es : ES} {eh eh' : EH} (r : Rel G ρ σ H es eh) (e : Ext G.K ρ ρ' H H') (h : HR G ρ' H' eh') : Rel G ρ' σ H' es eh' := ⟨r.sl.mono e, h⟩
end EE
set_option Elab.async false
set_option linter.all false
set_option maxRecDepth 100000
set_option maxHeartbeats 1000000
namespace EE
open PySem PySem.Spec PyProof.Rows L2
structure Exn where
  c : Nat
  fs : List EV
  deriving Inhabited
inductive Res (α : Type) where
  | ok (v : α) (h : EH) | er (x : Exn) (h : EH) | no
def Res.bind {α β : Type} (r : Res α) (k : α → EH → Res β) : Res β := match r with
  | .ok v h => k v h
  | .er x h => .er x h
  | .no => .no
@[simp] theorem bind_ok {α β : Type} (v : α) (h : EH) (k : α → EH → Res β) : (Res.ok v h).bind k = k v h := rfl
@[simp] theorem bind_er {α β : Type} (x : Exn) (h : EH) (k : α → EH → Res β) : (Res.er x h).bind k = .er x h := rfl
@[simp] theorem bind_no {α β : Type} (k : α → EH → Res β) : (Res.no).bind k = .no := rfl
inductive Flw where
  | nx (es : ES) | rt (v : EV) | bk (es : ES) | ct (es : ES)
inductive VF where
  | nx (σ : L2.St) | rt (v : V) | bk (σ : L2.St) | ct (σ : L2.St)
abbrev DE := ES → EH → Res EV
abbrev DT := ES → EH → Res Bool
abbrev DA := ES → EH → Res (List EV)
abbrev DS := ES → EH → Res Flw
abbrev D2 := EV → EV → EH → Res EV
abbrev D1 := EV → EH → Res EV
abbrev DL := List EV → EH → Res EV
def XR (G : Gx) (ρ : Rho) (H : Hp) (x : Exn) (c : Value) (own : Option Addr) : Prop :=
  c = .ref (G.ct x.c).1 ∧ match x.fs with
    | [] => own = none
    | y :: r => ∃ d vs, own = some d ∧ H d = some (.xd ((G.ct x.c).2.zip vs)) ∧ VRs G.K ρ H (y :: r) vs ∧ (G.ct x.c).2.length = (y :: r).length
def wr {α β : Type} (G : Gx) (R : Rho → Hp → α → β → Prop) (ρ : Rho) (H : Hp) (r : Res α) (Q : β → Hp → Prop) (E : XK) : Prop := match r with
  | .ok v h => ∀ ρ' H' u, Ext G.K ρ ρ' H H' → HR G ρ' H' h → R ρ' H' v u → Q u H'
  | .er x h => ∀ ρ' H' c own, Ext G.K ρ ρ' H H' → HR G ρ' H' h → XR G ρ' H' x c own → E c own H'
  | .no => False
theorem wr.mono {α β : Type} {G : Gx} {R : Rho → Hp → α → β → Prop} {ρ ρ1 : Rho} {H H1 : Hp} {r : Res α} {Q : β → Hp → Prop} {E : XK} (e : Ext G.K ρ ρ1 H H1) (h : wr G R ρ H r Q E) : wr G R ρ1 H1 r Q E := by
  cases r with
  | ok v h' => exact fun ρ' H' u e' hr q => h ρ' H' u (e.trans e') hr q
  | er x h' => exact fun ρ' H' c own e' hr q => h ρ' H' c own (e.trans e') hr q
  | no => exact h
def Sound {α β : Type} (G : Gx) (E : XK) (R : Rho → Hp → α → β → Prop) (t : L2.St → Hp → (β → Hp → Prop) → Prop) (d : ES → EH → Res α) : Prop :=
  ∀ ρ σ H es eh Q, Rel G ρ σ H es eh → wr G R ρ H (d es eh) Q E → t σ H Q
theorem Sound.bind {α β : Type} {G : Gx} {E : XK} {R : Rho → Hp → α → β → Prop} {t : L2.St → Hp → (β → Hp → Prop) → Prop} {d : ES → EH → Res α} (h : Sound G E R t d) {ρ : Rho} {σ : L2.St} {H : Hp} {es : ES} {eh : EH} (rel : Rel G ρ σ H es eh)
    {γ δ : Type} {R2 : Rho → Hp → γ → δ → Prop} {k : α → EH → Res γ} {Q2 : δ → Hp → Prop} (hw : wr G R2 ρ H ((d es eh).bind k) Q2 E) {Kt : β → Hp → Prop}
    (hk : ∀ ρ1 H1 v eh1 u, Ext G.K ρ ρ1 H H1 → Rel G ρ1 σ H1 es eh1 → R ρ1 H1 v u → wr G R2 ρ1 H1 (k v eh1) Q2 E → Kt u H1) : t σ H Kt := by
  refine h ρ σ H es eh Kt rel ?_
  cases q : d es eh with
  | ok v h' =>
    rw [q] at hw
    exact fun ρ' H' u e hr r => hk ρ' H' v h' u e (rel.ext e hr) r (hw.mono e)
  | er x h' =>
    rw [q] at hw
    exact hw
  | no =>
    rw [q] at hw
    exact hw
theorem Sound.bind0 {α β : Type} {G : Gx} {E : XK} {R : Rho → Hp → α → β → Prop} {t : L2.St → Hp → (β → Hp → Prop) → Prop} {d : ES → EH → Res α} (h : Sound G E R t d) {ρ0 ρ : Rho} {σ : L2.St} {H0 H : Hp} {es : ES} {eh : EH} (rel : Rel G ρ σ H es eh) (e0 : Ext G.K ρ0 ρ H0 H)
    {γ δ : Type} {R2 : Rho → Hp → γ → δ → Prop} {k : α → EH → Res γ} {Q2 : δ → Hp → Prop} (hw : wr G R2 ρ0 H0 ((d es eh).bind k) Q2 E) {Kt : β → Hp → Prop}
    (hk : ∀ ρ1 H1 v eh1 u, Ext G.K ρ ρ1 H H1 → Rel G ρ1 σ H1 es eh1 → R ρ1 H1 v u → wr G R2 ρ0 H0 (k v eh1) Q2 E → Kt u H1) : t σ H Kt := by
  refine h ρ σ H es eh Kt rel ?_
  cases q : d es eh with
  | ok v h' =>
    rw [q] at hw
    exact fun ρ' H' u e hr r => hk ρ' H' v h' u e (rel.ext e hr) r hw
  | er x h' =>
    rw [q] at hw
    exact fun ρ' H' c own e' hr q => hw ρ' H' c own (e0.trans e') hr q
  | no =>
    rw [q] at hw
    exact hw
abbrev RB : Rho → Hp → Bool → Bool → Prop := fun _ _ a b => a = b
abbrev SndE (G : Gx) (E : XK) (t : TE) (d : DE) : Prop := Sound G E (VR G.K) t d
abbrev SndT (G : Gx) (E : XK) (t : TT) (d : DT) : Prop := Sound G E RB t d
abbrev SndA (G : Gx) (E : XK) (t : TA) (d : DA) : Prop := Sound G E (VRs G.K) t d
def RF (G : Gx) (ρ : Rho) (H : Hp) : Flw → VF → Prop
  | .nx es, .nx σ => SR G.K ρ H es σ
  | .rt v, .rt u => VR G.K ρ H v u
  | .bk es, .bk σ => SR G.K ρ H es σ
  | .ct es, .ct σ => SR G.K ρ H es σ
  | _, _ => False
def qD (D : Ends) : VF → Hp → Prop
  | .nx σ, H => D.nx σ H
  | .rt v, H => D.rt v H
  | .bk σ, H => D.bk σ H
  | .ct σ, H => D.ct σ H
def SndS (G : Gx) (E : XK) (t : TS) (d : DS) : Prop := ∀ ρ σ H es eh D, Rel G ρ σ H es eh → wr G (RF G) ρ H (d es eh) (qD D) E → t D σ H
def Snd2 (G : Gx) (E : XK) (r : R2) (f : D2) : Prop := ∀ ρ H eh x y a b Q, HR G ρ H eh → VR G.K ρ H x a → VR G.K ρ H y b → wr G (VR G.K) ρ H (f x y eh) Q E → r a b H Q
def Snd1 (G : Gx) (E : XK) (r : V → Hp → VK → Prop) (f : D1) : Prop := ∀ ρ H eh x a Q, HR G ρ H eh → VR G.K ρ H x a → wr G (VR G.K) ρ H (f x eh) Q E → r a H Q
def SndL (G : Gx) (E : XK) (r : List V → Hp → VK → Prop) (f : DL) : Prop := ∀ ρ H eh xs as Q, HR G ρ H eh → VRs G.K ρ H xs as → wr G (VR G.K) ρ H (f xs eh) Q E → r as H Q
def SndM (G : Gx) (E : XK) (r : V → List V → Hp → VK → Prop) (f : EV → DL) : Prop := ∀ ρ H eh x a xs as Q, HR G ρ H eh → VR G.K ρ H x a → VRs G.K ρ H xs as → wr G (VR G.K) ρ H (f x xs eh) Q E → r a as H Q
def Res.orElse {α : Type} (r : Res α) (k : Unit → Res α) : Res α := match r with
  | .no => k ()
  | z => z
def d2or (f g : D2) : D2 := fun x y h => (f x y h).orElse fun _ => g x y h
def dLor (f g : DL) : DL := fun x h => (f x h).orElse fun _ => g x h
def dMor (f g : EV → DL) : EV → DL := fun x xs h => (f x xs h).orElse fun _ => g x xs h
theorem wr_or {α β : Type} {G : Gx} {R : Rho → Hp → α → β → Prop} {ρ : Rho} {H : Hp} {r : Res α} {k : Unit → Res α} {Q : β → Hp → Prop} {E : XK} (h : wr G R ρ H (r.orElse k) Q E) : wr G R ρ H r Q E ∨ wr G R ρ H (k ()) Q E := by
  cases r with
  | ok v h' => exact .inl h
  | er x h' => exact .inl h
  | no => exact .inr h
section
variable (X : Cx) (ct : Nat → Addr × List Str) (E : XK)
abbrev Cx.g (X : Cx) (ct : Nat → Addr × List Str) : Gx := ⟨X.K, ct⟩
def PEd (e : Expr) (d : DE) : Prop := ∃ t, PE X e t ∧ SndE ⟨X.K, ct⟩ E t d
def PTd (e : Expr) (d : DT) : Prop := ∃ t, PT X e t ∧ SndT ⟨X.K, ct⟩ E t d
def PWd (e : Expr) (d : DT) : Prop := ∃ t, PW X e t ∧ SndT ⟨X.K, ct⟩ E t d
def PAd (es : List Expr) (d : DA) : Prop := ∃ t, PA X es t ∧ SndA ⟨X.K, ct⟩ E t d
def PSd (s : Stmt) (d : DS) : Prop := ∃ t, PS X s t ∧ SndS ⟨X.K, ct⟩ E t d
def PSsd (s : List Stmt) (d : DS) : Prop := ∃ t, PSs X s t ∧ SndS ⟨X.K, ct⟩ E t d
def Opd (f : Value → Value → Sem Value) (d : D2) : Prop := ∃ r, OpR X f r ∧ Snd2 ⟨X.K, ct⟩ E r d
def Ixd (d : D2) : Prop := ∃ r, IxR X r ∧ Snd2 ⟨X.K, ct⟩ E r d
def Und (f : Value → Sem Value) (d : D1) : Prop := ∃ r, UnR X f r ∧ Snd1 ⟨X.K, ct⟩ E r d
def Cld (f : Value) (d : DL) : Prop := ∃ r, CallR X f r ∧ SndL ⟨X.K, ct⟩ E r d
def Mtd (id : String) (d : EV → DL) : Prop := ∃ r, MtR X id r ∧ SndM ⟨X.K, ct⟩ E r d
end
def dVar (i : Nat) : DE := fun es h => match es[i]? with
  | some (some v) => .ok v h
  | _ => .no
def dC (v : EV) : DE := fun _ h => .ok v h
def dOp (f : D2) (a b : DE) : DE := fun es h => (a es h).bind fun x h1 => (b es h1).bind fun y h2 => f x y h2
def dUn (f : D1) (a : DE) : DE := fun es h => (a es h).bind fun x h1 => f x h1
def dNil : DA := fun _ h => .ok [] h
def dCons (a : DE) (r : DA) : DA := fun es h => (a es h).bind fun x h1 => (r es h1).bind fun xs h2 => .ok (x :: xs) h2
def dCB (f : DL) (a : DA) : DE := fun es h => (a es h).bind fun xs h1 => f xs h1
def dTup (a : DA) : DE := fun es h => (a es h).bind fun xs h1 => if xs.length ≤ 100000 then .ok (.tup xs) h1 else .no
def dLst (a : DA) : DE := fun es h => (a es h).bind fun xs h1 => if xs.length ≤ 100000 then .ok (.ref h1.length) (h1 ++ [.lst xs]) else .no
def dB (a : DE) : DT := fun es h => (a es h).bind fun x h1 => match x with
  | .bl b => .ok b h1
  | _ => .no
def dAnd (a b : DT) : DT := fun es h => (a es h).bind fun c h1 => if c = true then b es h1 else .ok false h1
def dOr (a b : DT) : DT := fun es h => (a es h).bind fun c h1 => if c = true then .ok true h1 else b es h1
def dNot (a : DT) : DT := fun es h => (a es h).bind fun c h1 => .ok (!c) h1
def dAndV (a b : DE) : DE := fun es h => (a es h).bind fun x h1 => match x with
  | .bl c => if c = true then b es h1 else .ok (.bl false) h1
  | _ => .no
def dOrV (a b : DE) : DE := fun es h => (a es h).bind fun x h1 => match x with
  | .bl c => if c = true then .ok (.bl true) h1 else b es h1
  | _ => .no
def dNotV (a : DE) : DE := fun es h => (a es h).bind fun x h1 => match x with
  | .bl c => .ok (.bl (!c)) h1
  | _ => .no
def dIf (t : DT) (a b : DE) : DE := fun es h => (t es h).bind fun c h1 => if c = true then a es h1 else b es h1
section
variable {X : Cx} {ct : Nat → Addr × List Str} {E : XK} {G : Gx}
theorem sz5 {n : Nat} (h : n ≤ 100000) : n ≤ sizeLine := Nat.le_trans h (by decide)
theorem snd_var {i : Nat} : SndE G E (tVar i) (dVar i) := fun ρ σ H es eh Q rel h => by
  unfold dVar at h
  split at h
  · rename_i v hv
    obtain ⟨u, h1, h2⟩ := rel.sl.2 i v hv
    exact ⟨u, h1, h ρ H u (Ext.refl _ _ _) rel.hr h2⟩
  · exact h.elim
theorem snd_c {v : EV} {u : V} (hv : ∀ ρ H, VR G.K ρ H v u) : SndE G E (tC u) (dC v) := fun ρ σ H es eh Q rel h => h ρ H u (Ext.refl _ _ _) rel.hr (hv ρ H)
theorem snd_op {r : R2} {f : D2} {ta tb : TE} {a b : DE} (hr : Snd2 G E r f) (ha : SndE G E ta a) (hb : SndE G E tb b) : SndE G E (tOp r ta tb) (dOp f a b) := fun ρ σ H es eh Q rel h => by
  refine ha.bind rel h fun ρ1 H1 x eh1 u e1 rel1 v1 h1 => ?_
  refine hb.bind rel1 h1 fun ρ2 H2 y eh2 w e2 rel2 v2 h2 => ?_
  exact hr ρ2 H2 eh2 x y u w Q rel2.hr (v1.mono e2) v2 h2
theorem snd_un {r : V → Hp → VK → Prop} {f : D1} {ta : TE} {a : DE} (hr : Snd1 G E r f) (ha : SndE G E ta a) : SndE G E (tUn r ta) (dUn f a) := fun ρ σ H es eh Q rel h => by
  refine ha.bind rel h fun ρ1 H1 x eh1 u e1 rel1 v1 h1 => ?_
  exact hr ρ1 H1 eh1 x u Q rel1.hr v1 h1
theorem snd_nil : SndA G E tNil dNil := fun ρ σ H es eh Q rel h => h ρ H [] (Ext.refl _ _ _) rel.hr (vrs_nil.mpr rfl)
theorem snd_cons {ta : TE} {tr : TA} {a : DE} {r : DA} (ha : SndE G E ta a) (hr : SndA G E tr r) : SndA G E (tCons ta tr) (dCons a r) := fun ρ σ H es eh Q rel h => by
  refine ha.bind rel h fun ρ1 H1 x eh1 u e1 rel1 v1 h1 => ?_
  refine hr.bind rel1 h1 fun ρ2 H2 xs eh2 us e2 rel2 v2 h2 => ?_
  exact h2 ρ2 H2 (u :: us) (Ext.refl _ _ _) rel2.hr (vrs_cons.mpr ⟨u, us, rfl, v1.mono e2, v2⟩)
theorem snd_cb {r : List V → Hp → VK → Prop} {f : DL} {ta : TA} {a : DA} (hr : SndL G E r f) (ha : SndA G E ta a) : SndE G E (tCB r ta) (dCB f a) := fun ρ σ H es eh Q rel h => by
  refine ha.bind rel h fun ρ1 H1 x eh1 u e1 rel1 v1 h1 => ?_
  exact hr ρ1 H1 eh1 x u Q rel1.hr v1 h1
theorem snd_tup {ta : TA} {a : DA} (ha : SndA G E ta a) : SndE G E (tTup ta) (dTup a) := fun ρ σ H es eh Q rel h => by
  refine ha.bind rel h fun ρ1 H1 xs eh1 us e1 rel1 v1 h1 => ?_
  split at h1
  · rename_i hl
    refine ⟨by rw [← v1.length]; exact sz5 hl, fun p hp => ?_⟩
    exact h1 ρ1 _ _ (Ext.side _ hp) (rel1.hr.side _ hp) (vr_tup.mpr ⟨p, us, rfl, upd_same, VRs.mono (Ext.side _ hp) _ _ v1⟩)
  · exact h1.elim
theorem last_get {ρ : Rho} {p : Addr} {n : Nat} (h : ρ.length = n) : adr (ρ ++ [(true, p)]) n = some p := by
  unfold adr
  subst h
  rw [List.getElem?_append_right (Nat.le_refl _), Nat.sub_self]
  rfl
theorem new_lst {ρ : Rho} {H : Hp} {eh : EH} {xs : List EV} {us : List V} {Q : VK} (hr : HR G ρ H eh) (v : VRs G.K ρ H xs us) (h : wr G (VR G.K) ρ H (.ok (.ref eh.length) (eh ++ [.lst xs])) Q E) : ∀ p, H p = none → Q (.ref p) (upd H p (.lst us)) := fun p hp => by
  refine h (ρ ++ [(true, p)]) _ _ (Ext.alloc _ hp) (hr.alloc hp rfl ⟨us, upd_same, VRs.mono (Ext.alloc _ hp) _ _ v⟩) (vr_ref.mpr ⟨p, last_get hr.len, rfl⟩)
theorem snd_lst {ta : TA} {a : DA} (ha : SndA G E ta a) : SndE G E (tLst ta) (dLst a) := fun ρ σ H es eh Q rel h => by
  refine ha.bind rel h fun ρ1 H1 xs eh1 us e1 rel1 v1 h1 => ?_
  split at h1
  · rename_i hl
    exact ⟨by rw [← v1.length]; exact sz5 hl, new_lst rel1.hr v1 h1⟩
  · exact h1.elim
theorem snd_B {ta : TE} {a : DE} (ha : SndE G E ta a) : SndT G E (tB ta) (dB a) := fun ρ σ H es eh Q rel h => by
  refine ha.bind rel h fun ρ1 H1 x eh1 u e1 rel1 v1 h1 => ?_
  cases x with
  | bl b => exact ⟨b, vr_bl.mp v1, h1 ρ1 H1 b (Ext.refl _ _ _) rel1.hr rfl⟩
  | _ => exact h1.elim
theorem snd_and {ta tb : TT} {a b : DT} (ha : SndT G E ta a) (hb : SndT G E tb b) : SndT G E (tAnd ta tb) (dAnd a b) := fun ρ σ H es eh Q rel h => by
  refine ha.bind rel h fun ρ1 H1 x eh1 u e1 rel1 v1 h1 => ?_
  subst v1
  cases x with
  | true => exact iteT (hb ρ1 σ H1 es eh1 Q rel1 h1)
  | false => exact iteF (h1 ρ1 H1 false (Ext.refl _ _ _) rel1.hr rfl)
theorem snd_or {ta tb : TT} {a b : DT} (ha : SndT G E ta a) (hb : SndT G E tb b) : SndT G E (tOr ta tb) (dOr a b) := fun ρ σ H es eh Q rel h => by
  refine ha.bind rel h fun ρ1 H1 x eh1 u e1 rel1 v1 h1 => ?_
  subst v1
  cases x with
  | true => exact iteT (h1 ρ1 H1 true (Ext.refl _ _ _) rel1.hr rfl)
  | false => exact iteF (hb ρ1 σ H1 es eh1 Q rel1 h1)
theorem snd_not {ta : TT} {a : DT} (ha : SndT G E ta a) : SndT G E (tNot ta) (dNot a) := fun ρ σ H es eh Q rel h => by
  refine ha.bind rel h fun ρ1 H1 x eh1 u e1 rel1 v1 h1 => ?_
  subst v1
  exact h1 ρ1 H1 _ (Ext.refl _ _ _) rel1.hr rfl
theorem snd_andV {ta tb : TE} {a b : DE} (ha : SndE G E ta a) (hb : SndE G E tb b) : SndE G E (tAndV ta tb) (dAndV a b) := fun ρ σ H es eh Q rel h => by
  refine ha.bind rel h fun ρ1 H1 x eh1 u e1 rel1 v1 h1 => ?_
  cases x with
  | bl c =>
    refine ⟨c, vr_bl.mp v1, ?_⟩
    cases c with
    | true => exact iteT (hb ρ1 σ H1 es eh1 Q rel1 h1)
    | false => exact iteF (h1 ρ1 H1 _ (Ext.refl _ _ _) rel1.hr (vr_bl.mpr rfl))
  | _ => exact h1.elim
theorem snd_orV {ta tb : TE} {a b : DE} (ha : SndE G E ta a) (hb : SndE G E tb b) : SndE G E (tOrV ta tb) (dOrV a b) := fun ρ σ H es eh Q rel h => by
  refine ha.bind rel h fun ρ1 H1 x eh1 u e1 rel1 v1 h1 => ?_
  cases x with
  | bl c =>
    refine ⟨c, vr_bl.mp v1, ?_⟩
    cases c with
    | true => exact iteT (h1 ρ1 H1 _ (Ext.refl _ _ _) rel1.hr (vr_bl.mpr rfl))
    | false => exact iteF (hb ρ1 σ H1 es eh1 Q rel1 h1)
  | _ => exact h1.elim
theorem snd_notV {ta : TE} {a : DE} (ha : SndE G E ta a) : SndE G E (tNotV ta) (dNotV a) := fun ρ σ H es eh Q rel h => by
  refine ha.bind rel h fun ρ1 H1 x eh1 u e1 rel1 v1 h1 => ?_
  cases x with
  | bl c => exact ⟨c, vr_bl.mp v1, h1 ρ1 H1 _ (Ext.refl _ _ _) rel1.hr (vr_bl.mpr rfl)⟩
  | _ => exact h1.elim
theorem snd_if {tt : TT} {ta tb : TE} {t : DT} {a b : DE} (ht : SndT G E tt t) (ha : SndE G E ta a) (hb : SndE G E tb b) : SndE G E (tIf tt ta tb) (dIf t a b) := fun ρ σ H es eh Q rel h => by
  refine ht.bind rel h fun ρ1 H1 x eh1 u e1 rel1 v1 h1 => ?_
  subst v1
  cases x with
  | true => exact iteT (ha ρ1 σ H1 es eh1 Q rel1 h1)
  | false => exact iteF (hb ρ1 σ H1 es eh1 Q rel1 h1)
theorem xe_var (i : Nat) {x : Str} {pos : Pos} (hN : X.N[i]? = some x := by rfl) (hv : Vis X.env.scope x := by first | exact Or.inl rfl | exact Or.inr (Or.inl rfl) | exact Or.inr (Or.inr rfl)) (hd : (x == ("__debug__" : Str)) = false := by decide)
    (hcd : (x == ("__classdict__" : Str)) = false := by decide) : PEd X ct E (.Name x pos) (dVar i) := ⟨_, pe_var hN hv hd hcd, snd_var⟩
theorem xe_int {i j pos} : PEd X ct E (.Constant (.int i) j pos) (dC (.int i)) := ⟨_, pe_int, snd_c fun _ _ => vr_int.mpr rfl⟩
theorem xe_bl {b j pos} : PEd X ct E (.Constant (.bool b) j pos) (dC (.bl b)) := ⟨_, pe_bl, snd_c fun _ _ => vr_bl.mpr rfl⟩
theorem xe_non {j pos} : PEd X ct E (.Constant .none j pos) (dC .non) := ⟨_, pe_non, snd_c fun _ _ => vr_non.mpr rfl⟩
theorem xe_str {x j pos} : PEd X ct E (.Constant (.str x) j pos) (dC (.str x)) := ⟨_, pe_str, snd_c fun _ _ => vr_str.mpr rfl⟩
theorem xe_globI {x : Str} {pos : Pos} {i : Int} (hg : Gl X x) (hm : ∃ t, X.mg x = some (.int i t)) (hd : (x == ("__debug__" : Str)) = false := by decide) : PEd X ct E (.Name x pos) (dC (.int i)) := by
  obtain ⟨t, hm⟩ := hm
  exact ⟨_, pe_glob (v := .int i) hg hm ⟨t, rfl⟩ hd, snd_c fun _ _ => vr_int.mpr rfl⟩
theorem xe_globS {x : Str} {pos : Pos} {i : Str} (hg : Gl X x) (hm : ∃ t, X.mg x = some (.str i t)) (hd : (x == ("__debug__" : Str)) = false := by decide) : PEd X ct E (.Name x pos) (dC (.str i)) := by
  obtain ⟨t, hm⟩ := hm
  exact ⟨_, pe_glob (v := .str i) hg hm ⟨t, rfl⟩ hd, snd_c fun _ _ => vr_str.mpr rfl⟩
variable {a b c : Expr} {es rest : List Expr} {pos : Pos} {da db dc : DE} {dt du : DT} {dr : DA}
theorem xe_op {op : Operator} {f : D2} (ho : Opd X ct E (binaryOp op) f) (ha : PEd X ct E a da) (hb : PEd X ct E b db) : PEd X ct E (.BinOp a op b pos) (dOp f da db) := by
  obtain ⟨r, h1, h2⟩ := ho
  obtain ⟨ta, a1, a2⟩ := ha
  obtain ⟨tb, b1, b2⟩ := hb
  exact ⟨_, pe_op h1 a1 b1, snd_op h2 a2 b2⟩
theorem xe_un {op : UnaryOp} {f : D1} (ho : Und X ct E (unaryOp op) f) (ha : PEd X ct E a da) : PEd X ct E (.UnaryOp op a pos) (dUn f da) := by
  obtain ⟨r, h1, h2⟩ := ho
  obtain ⟨ta, a1, a2⟩ := ha
  exact ⟨_, pe_un h1 a1, snd_un h2 a2⟩
theorem xe_ix {f : D2} (ho : Ixd X ct E f) (ha : PEd X ct E a da) (hb : PEd X ct E b db) (hs : PlainIx b := by exact fun _ _ => rfl) : PEd X ct E (.Subscript a b pos) (dOp f da db) := by
  obtain ⟨r, h1, h2⟩ := ho
  obtain ⟨ta, a1, a2⟩ := ha
  obtain ⟨tb, b1, b2⟩ := hb
  exact ⟨_, pe_ix h1 a1 b1 hs, snd_op h2 a2 b2⟩
theorem xa_nil : PAd X ct E [] dNil := ⟨_, pa_nil, snd_nil⟩
theorem xe_tup {x1} (h : PAd X ct E es dr) : PEd X ct E (.Tuple es x1 pos) (dTup dr) := by
  obtain ⟨t, h1, h2⟩ := h
  exact ⟨_, pe_tup h1, snd_tup h2⟩
theorem xe_lst (h : PAd X ct E es dr) : PEd X ct E (.List es pos) (dLst dr) := by
  obtain ⟨t, h1, h2⟩ := h
  exact ⟨_, pe_lst h1, snd_lst h2⟩
theorem xt_val {e : Expr} {d : DE} (h : PEd X ct E e d) (he : ∀ whole, isTrue e X.env whole = (do let v ← whole; standAt e.pos; holding [v] (truthy v)) := by intro _; rfl) : PTd X ct E e (dB d) := by
  obtain ⟨t, h1, h2⟩ := h
  exact ⟨_, pt_val h1 he, snd_B h2⟩
theorem xw_and1 (h : PTd X ct E a dt) : PWd X ct E (.BoolOp .And [a] pos) dt := by
  obtain ⟨t, h1, h2⟩ := h
  exact ⟨_, pw_and1 h1, h2⟩
theorem xw_or1 (h : PTd X ct E a dt) : PWd X ct E (.BoolOp .Or [a] pos) dt := by
  obtain ⟨t, h1, h2⟩ := h
  exact ⟨_, pw_or1 h1, h2⟩
theorem xw_and (h : PTd X ct E a dt) (g : PWd X ct E (.BoolOp .And (b :: rest) pos) du) : PWd X ct E (.BoolOp .And (a :: b :: rest) pos) (dAnd dt du) := by
  obtain ⟨t, h1, h2⟩ := h
  obtain ⟨u, g1, g2⟩ := g
  exact ⟨_, pw_and h1 g1, snd_and h2 g2⟩
theorem xw_or (h : PTd X ct E a dt) (g : PWd X ct E (.BoolOp .Or (b :: rest) pos) du) : PWd X ct E (.BoolOp .Or (a :: b :: rest) pos) (dOr dt du) := by
  obtain ⟨t, h1, h2⟩ := h
  obtain ⟨u, g1, g2⟩ := g
  exact ⟨_, pw_or h1 g1, snd_or h2 g2⟩
theorem xt_w (h : PWd X ct E a dt) : PTd X ct E a dt := by
  obtain ⟨t, h1, h2⟩ := h
  exact ⟨_, h1.pt, h2⟩
theorem xt_not (h : PTd X ct E a dt) : PTd X ct E (.UnaryOp .Not a pos) (dNot dt) := by
  obtain ⟨t, h1, h2⟩ := h
  exact ⟨_, pt_not h1, snd_not h2⟩
theorem xe_one {op} (h : PEd X ct E a da) : PEd X ct E (.BoolOp op [a] pos) da := by
  obtain ⟨t, h1, h2⟩ := h
  exact ⟨_, pe_one h1, h2⟩
theorem xe_and (h : PEd X ct E a da) (g : PEd X ct E (.BoolOp .And (b :: rest) pos) db) : PEd X ct E (.BoolOp .And (a :: b :: rest) pos) (dAndV da db) := by
  obtain ⟨t, h1, h2⟩ := h
  obtain ⟨u, g1, g2⟩ := g
  exact ⟨_, pe_and h1 g1, snd_andV h2 g2⟩
theorem xe_or (h : PEd X ct E a da) (g : PEd X ct E (.BoolOp .Or (b :: rest) pos) db) : PEd X ct E (.BoolOp .Or (a :: b :: rest) pos) (dOrV da db) := by
  obtain ⟨t, h1, h2⟩ := h
  obtain ⟨u, g1, g2⟩ := g
  exact ⟨_, pe_or h1 g1, snd_orV h2 g2⟩
theorem xe_not (h : PEd X ct E a da) : PEd X ct E (.UnaryOp .Not a pos) (dNotV da) := by
  obtain ⟨t, h1, h2⟩ := h
  exact ⟨_, pe_not h1, snd_notV h2⟩
theorem xe_if (h : PTd X ct E c dt) (ha : PEd X ct E a da) (hb : PEd X ct E b db) : PEd X ct E (.IfExp c a b pos) (dIf dt da db) := by
  obtain ⟨t, h1, h2⟩ := h
  obtain ⟨ta, a1, a2⟩ := ha
  obtain ⟨tb, b1, b2⟩ := hb
  exact ⟨_, pe_ifExp h1 a1 b1, snd_if h2 a2 b2⟩
end
end EE
set_option Elab.async false
set_option linter.all false
set_option maxRecDepth 100000
set_option maxHeartbeats 1000000
namespace EE
open PySem PySem.Spec PyProof.Rows L2
def lstAt (h : EH) (n : Nat) : Option (List EV) := match h[n]? with
  | some (.lst xs) => some xs
  | some (.ro xs) => some xs
  | _ => none
def mutAt (h : EH) (n : Nat) : Option (List EV) := match h[n]? with
  | some (.lst xs) => some xs
  | _ => none
def dicAt (h : EH) (n : Nat) : Option (Bool × List (EV × EV)) := match h[n]? with
  | some (.dic t xs) => some (t, xs)
  | some (.lkd t xs) => some (t, xs)
  | _ => none
section
variable {G : Gx} {ρ : Rho} {H : Hp} {eh : EH} {n : Nat}
theorem lst_of (hr : HR G ρ H eh) {xs : List EV} (h : lstAt eh n = some xs) : ∃ a vs, adr ρ n = some a ∧ SqL G.K H a vs ∧ VRs G.K ρ H xs vs := by
  unfold lstAt at h
  split at h
  · rename_i ys e
    cases h
    obtain ⟨a, h1, vs, h2, h3⟩ := hr.obj n _ e
    exact ⟨a, vs, adr_of h1, SqL.of h2, h3⟩
  · rename_i ys e
    cases h
    obtain ⟨a, h1, vs, h2, h3⟩ := hr.obj n _ e
    exact ⟨a, vs, adr_of h1, h2.sq, h3⟩
  · cases h
theorem mut_of (hr : HR G ρ H eh) {xs : List EV} (h : mutAt eh n = some xs) : ∃ a vs, adr ρ n = some a ∧ H a = some (.lst vs) ∧ VRs G.K ρ H xs vs ∧ ρ[n]? = some (true, a) := by
  unfold mutAt at h
  split at h
  · rename_i ys e
    cases h
    obtain ⟨a, h1, vs, h2, h3⟩ := hr.obj n _ e
    exact ⟨a, vs, adr_of h1, h2, h3, h1⟩
  · cases h
end
def fInt (c : Int → Int → Bool) (g : Int → Int → EV) : D2 := fun x y h => match x, y with
  | .int i, .int j => if c i j = true then .ok (g i j) h else .no
  | _, _ => .no
def fAddI : D2 := fInt (fun _ _ => true) fun i j => .int (i + j)
def fSub : D2 := fInt (fun _ _ => true) fun i j => .int (i - j)
def fMulI : D2 := fInt (fun i j => (decide (-(2 ^ 64) < i) && decide (i < 2 ^ 64)) || (decide (-(2 ^ 64) < j) && decide (j < 2 ^ 64))) fun i j => .int (i * j)
def fMod : D2 := fInt (fun _ j => decide (0 < j)) fun i j => .int (i % j)
def fDiv : D2 := fInt (fun _ j => decide (0 < j) && decide (j < 2 ^ 64)) fun i j => .int (i / j)
def fPow : D2 := fInt (fun i j => decide (0 ≤ j) && decide (j ≤ 64) && decide (i.natAbs < 2 ^ 64)) fun i j => .int (i ^ j.toNat)
def fLt : D2 := fInt (fun _ _ => true) fun i j => .bl (decide (i < j))
def fLe : D2 := fInt (fun _ _ => true) fun i j => .bl (decide (i ≤ j))
def fGt : D2 := fInt (fun _ _ => true) fun i j => .bl (decide (j < i))
def fGe : D2 := fInt (fun _ _ => true) fun i j => .bl (decide (j ≤ i))
section
variable {X : Cx} {ct : Nat → Addr × List Str} {E : XK} {G : Gx}
theorem snd_I {c : Int → Int → Bool} {C : Int → Int → Prop} {g : Int → Int → EV} {gV : Int → Int → V} (hc : ∀ i j, c i j = true → C i j) (hg : ∀ ρ H i j, VR G.K ρ H (g i j) (gV i j)) : Snd2 G E (rI C gV) (fInt c g) := fun ρ H eh x y a b Q hr hx hy h => by
  unfold fInt at h
  split at h
  · rename_i i j
    split at h
    · rename_i hcc
      exact ⟨i, j, vr_int.mp hx, vr_int.mp hy, hc i j hcc, h ρ H _ (Ext.refl _ _ _) hr (hg _ _ _ _)⟩
    · exact h.elim
  · exact h.elim
theorem snd_I0 {c : Int → Int → Bool} {g : Int → Int → EV} {gV : Int → Int → V} (hg : ∀ ρ H i j, VR G.K ρ H (g i j) (gV i j)) : Snd2 G E (rI0 gV) (fInt c g) := fun ρ H eh x y a b Q hr hx hy h => by
  unfold fInt at h
  split at h
  · rename_i i j
    split at h
    · rename_i hcc
      exact ⟨i, j, vr_int.mp hx, vr_int.mp hy, h ρ H _ (Ext.refl _ _ _) hr (hg _ _ _ _)⟩
    · exact h.elim
  · exact h.elim
theorem OpR.or {f : Value → Value → Sem Value} {r r' : R2} (h : OpR X f r) (h' : OpR X f r') : OpR X f (fun x y H Q => r x y H Q ∨ r' x y H Q) := by
  intro pins s σ H x y v u Q I rx ry q
  rcases q with q | q
  · exact h pins s σ H x y v u Q I rx ry q
  · exact h' pins s σ H x y v u Q I rx ry q
theorem Opd.or {f : Value → Value → Sem Value} {d d' : D2} (h : Opd X ct E f d) (h' : Opd X ct E f d') : Opd X ct E f (d2or d d') := by
  obtain ⟨r, h1, h2⟩ := h
  obtain ⟨r', h1', h2'⟩ := h'
  refine ⟨_, OpR.or h1 h1', fun ρ H eh x y a b Q hr hx hy h => ?_⟩
  rcases wr_or h with h | h
  · exact .inl (h2 ρ H eh x y a b Q hr hx hy h)
  · exact .inr (h2' ρ H eh x y a b Q hr hx hy h)
theorem Ixd.or {d d' : D2} (h : Ixd X ct E d) (h' : Ixd X ct E d') : Ixd X ct E (d2or d d') := by
  obtain ⟨r, h1, h2⟩ := h
  obtain ⟨r', h1', h2'⟩ := h'
  refine ⟨_, h1.or h1', fun ρ H eh x y a b Q hr hx hy h => ?_⟩
  rcases wr_or h with h | h
  · exact .inl (h2 ρ H eh x y a b Q hr hx hy h)
  · exact .inr (h2' ρ H eh x y a b Q hr hx hy h)
theorem Cld.or {f : Value} {d d' : DL} (h : Cld X ct E f d) (h' : Cld X ct E f d') : Cld X ct E f (dLor d d') := by
  obtain ⟨r, h1, h2⟩ := h
  obtain ⟨r', h1', h2'⟩ := h'
  refine ⟨_, h1.or h1', fun ρ H eh xs as Q hr hx h => ?_⟩
  rcases wr_or h with h | h
  · exact .inl (h2 ρ H eh xs as Q hr hx h)
  · exact .inr (h2' ρ H eh xs as Q hr hx h)
theorem Mtd.or {id : String} {d d' : EV → DL} (h : Mtd X ct E id d) (h' : Mtd X ct E id d') : Mtd X ct E id (dMor d d') := by
  obtain ⟨r, h1, h2⟩ := h
  obtain ⟨r', h1', h2'⟩ := h'
  refine ⟨_, h1.or h1', fun ρ H eh x a xs as Q hr hx hxs h => ?_⟩
  rcases wr_or h with h | h
  · exact .inl (h2 ρ H eh x a xs as Q hr hx hxs h)
  · exact .inr (h2' ρ H eh x a xs as Q hr hx hxs h)
theorem pow64 : (2 : Int) ^ 64 = 18446744073709551616 := by decide
theorem o_addI : Opd X ct E (binaryOp .Add) fAddI := ⟨_, op_add, snd_I0 fun _ _ _ _ => vr_int.mpr rfl⟩
theorem o_sub : Opd X ct E (binaryOp .Sub) fSub := ⟨_, op_sub, snd_I0 fun _ _ _ _ => vr_int.mpr rfl⟩
theorem o_mulI : Opd X ct E (binaryOp .Mult) fMulI := ⟨_, op_mul, snd_I (fun i j h => by
  simp only [Bool.or_eq_true, Bool.and_eq_true, decide_eq_true_eq] at h
  exact h) fun _ _ _ _ => vr_int.mpr rfl⟩
theorem o_mod : Opd X ct E (binaryOp .Mod) fMod := ⟨_, op_mod, snd_I (fun i j h => of_decide_eq_true h) fun _ _ _ _ => vr_int.mpr rfl⟩
theorem o_div : Opd X ct E (binaryOp .FloorDiv) fDiv := ⟨_, op_fdivW, snd_I (fun i j h => by
  simp only [Bool.and_eq_true, decide_eq_true_eq] at h
  refine wide_div (b := 64) h.1 ?_ (by decide) (by decide)
  have := h.2
  rw [pow64] at this
  have e : (2 : Nat) ^ 64 = 18446744073709551616 := by decide
  rw [e]
  omega) fun _ _ _ _ => vr_int.mpr rfl⟩
theorem o_pow : Opd X ct E (binaryOp .Pow) fPow := ⟨_, op_pow, snd_I (fun i j h => by
  simp only [Bool.and_eq_true, decide_eq_true_eq] at h
  exact ⟨h.1.1, by omega, h.2⟩) fun _ _ _ _ => vr_int.mpr rfl⟩
theorem o_lt : Opd X ct E (compareOp .Lt) fLt := ⟨_, op_lt, snd_I0 fun _ _ _ _ => vr_bl.mpr rfl⟩
theorem o_le : Opd X ct E (compareOp .LtE) fLe := ⟨_, op_le, snd_I0 fun _ _ _ _ => vr_bl.mpr rfl⟩
theorem o_gt : Opd X ct E (compareOp .Gt) fGt := ⟨_, op_gt, snd_I0 fun _ _ _ _ => vr_bl.mpr rfl⟩
theorem o_ge : Opd X ct E (compareOp .GtE) fGe := ⟨_, op_ge, snd_I0 fun _ _ _ _ => vr_bl.mpr rfl⟩
def fNeg : D1 := fun x h => match x with
  | .int i => .ok (.int (-i)) h
  | _ => .no
theorem o_neg : Und X ct E (unaryOp .USub) fNeg := ⟨_, un_neg, fun ρ H eh x a Q hr hx h => by
  unfold fNeg at h
  split at h
  · rename_i i
    exact ⟨i, vr_int.mp hx, h ρ H _ (Ext.refl _ _ _) hr (vr_int.mpr rfl)⟩
  · exact h.elim⟩
def fCat : D2 := fun x y h => match x, y with
  | .ref m, .ref n => match mutAt h m, mutAt h n with
    | some xs, some ys => if xs.length + ys.length ≤ 100000 then .ok (.ref h.length) (h ++ [.lst (xs ++ ys)]) else .no
    | _, _ => .no
  | _, _ => .no
theorem o_cat : Opd X ct E (binaryOp .Add) fCat := ⟨_, op_cat, fun ρ H eh x y a b Q hr hx hy h => by
  unfold fCat at h
  split at h
  · rename_i m n
    split at h
    · rename_i xs ys e1 e2
      split at h
      · rename_i hl
        obtain ⟨a1, vs, g1, g2, g3, _⟩ := mut_of hr e1
        obtain ⟨a2, us, k1, k2, k3, _⟩ := mut_of hr e2
        obtain ⟨a', q1, rfl⟩ := vr_ref.mp hx
        obtain ⟨b', q2, rfl⟩ := vr_ref.mp hy
        rw [g1] at q1; cases q1
        rw [k1] at q2; cases q2
        refine ⟨a1, a2, vs, us, rfl, rfl, g2, k2, ?_, new_lst hr (g3.append k3) h⟩
        rw [← g3.length, ← k3.length]
        exact sz5 hl
      · exact h.elim
    · exact h.elim
  · exact h.elim⟩
def fRep : D2 := fun x y h => match x, y with
  | .ref m, .int k => match mutAt h m with
    | some xs => if decide (0 ≤ k) && decide (k ≤ 1000) && decide (xs.length ≤ 10) = true then .ok (.ref h.length) (h ++ [.lst (List.replicate k.toNat xs).flatten]) else .no
    | _ => .no
  | _, _ => .no
theorem VRs.rep {K : Fg} {ρ : Rho} {H : Hp} {xs : List EV} {vs : List V} (h : VRs K ρ H xs vs) : ∀ n : Nat, VRs K ρ H (List.replicate n xs).flatten (List.replicate n vs).flatten
  | 0 => vrs_nil.mpr rfl
  | n + 1 => by
    rw [List.replicate_succ, List.replicate_succ, List.flatten_cons, List.flatten_cons]
    exact h.append (VRs.rep h n)
theorem o_rep : Opd X ct E (binaryOp .Mult) fRep := ⟨_, op_rep, fun ρ H eh x y a b Q hr hx hy h => by
  unfold fRep at h
  split at h
  · rename_i m k
    split at h
    · rename_i xs e1
      split at h
      · rename_i hl
        simp only [Bool.and_eq_true, decide_eq_true_eq] at hl
        obtain ⟨⟨l1, l2⟩, l3⟩ := hl
        obtain ⟨a1, vs, g1, g2, g3, _⟩ := mut_of hr e1
        obtain ⟨a', q1, rfl⟩ := vr_ref.mp hx
        rw [g1] at q1; cases q1
        refine ⟨a1, k, vs, rfl, vr_int.mp hy, g2, by omega, by omega, ?_, new_lst hr (g3.rep _) h⟩
        rw [← g3.length]
        have h1 : k.toNat ≤ 1000 := by omega
        exact sz5 (Nat.le_trans (Nat.mul_le_mul l3 h1) (by decide))
      · exact h.elim
    · exact h.elim
  · exact h.elim⟩
def fIxL : D2 := fun x y h => match x, y with
  | .ref m, .int i => match lstAt h m with
    | some xs => match atI xs i with
      | some v => .ok v h
      | none => .no
    | none => .no
  | _, _ => .no
theorem atI_vr {K : Fg} {ρ : Rho} {H : Hp} {xs : List EV} {vs : List V} (h : VRs K ρ H xs vs) {i : Int} {x : EV} (e : atI xs i = some x) : ∃ v, atI vs i = some v ∧ VR K ρ H x v := by
  unfold atI at e ⊢
  rw [← h.length]
  cases q : ixN xs.length i with
  | none => rw [q] at e; cases e
  | some j =>
    rw [q] at e
    exact h.get e
theorem i_lst : Ixd X ct E fIxL := ⟨_, ix_list, fun ρ H eh x y a b Q hr hx hy h => by
  unfold fIxL at h
  split at h
  · rename_i m i
    split at h
    · rename_i xs e1
      split at h
      · rename_i v e2
        obtain ⟨a1, vs, g1, g2, g3⟩ := lst_of hr e1
        obtain ⟨a', q1, rfl⟩ := vr_ref.mp hx
        rw [g1] at q1; cases q1
        obtain ⟨w, w1, w2⟩ := atI_vr g3 e2
        exact ⟨a1, vs, i, w, rfl, vr_int.mp hy, g2, w1, h ρ H _ (Ext.refl _ _ _) hr w2⟩
      · exact h.elim
    · exact h.elim
  · exact h.elim⟩
def fIxT : D2 := fun x y h => match x, y with
  | .tup xs, .int i => match atI xs i with
    | some v => .ok v h
    | none => .no
  | _, _ => .no
theorem i_tup : Ixd X ct E fIxT := ⟨_, ix_tup, fun ρ H eh x y a b Q hr hx hy h => by
  unfold fIxT at h
  split at h
  · rename_i xs i
    split at h
    · rename_i v e2
      obtain ⟨a1, vs, rfl, g2, g3⟩ := vr_tup.mp hx
      obtain ⟨w, w1, w2⟩ := atI_vr g3 e2
      exact ⟨a1, vs, i, w, rfl, vr_int.mp hy, SqT.of g2, w1, h ρ H _ (Ext.refl _ _ _) hr w2⟩
    · exact h.elim
  · exact h.elim⟩
abbrev fIx : D2 := d2or fIxL fIxT
theorem i_ix : Ixd X ct E fIx := i_lst.or i_tup
def cutE (xs : List EV) (lo hi : Option Int) : List EV := (xs.drop (HT.sIx xs.length 0 lo)).take (HT.sIx xs.length xs.length hi - HT.sIx xs.length 0 lo)
def fSl : EV → Option Int → Option Int → EH → Res EV := fun x lo hi h => match x with
  | .ref m => match lstAt h m with
    | some xs => .ok (.ref h.length) (h ++ [.lst (cutE xs lo hi)])
    | none => .no
  | _ => .no
def dPart (e : Option DE) : ES → EH → Res (Option Int) := fun es h => match e with
  | none => .ok none h
  | some d => (d es h).bind fun x h1 => match x with
    | .int i => .ok (some i) h1
    | _ => .no
def dSl (f : EV → Option Int → Option Int → EH → Res EV) (a : DE) (lo hi : ES → EH → Res (Option Int)) : DE := fun es h => (a es h).bind fun x h1 => (lo es h1).bind fun l h2 => (hi es h2).bind fun u h3 => f x l u h3
abbrev RO : Rho → Hp → Option Int → Option Int → Prop := fun _ _ a b => a = b
def POd (X : Cx) (ct : Nat → Addr × List Str) (E : XK) (e : Option Expr) (d : ES → EH → Res (Option Int)) : Prop := ∃ t, PO X e t ∧ Sound ⟨X.K, ct⟩ E RO t d
theorem xo_none : POd X ct E none (dPart none) := ⟨_, po_none, fun ρ σ H es eh Q rel h => h ρ H none (Ext.refl _ _ _) rel.hr rfl⟩
theorem xo_some {e : Expr} {d : DE} (h : PEd X ct E e d) : POd X ct E (some e) (dPart (some d)) := by
  obtain ⟨t, h1, h2⟩ := h
  refine ⟨_, po_some h1, fun ρ σ H es eh Q rel h => ?_⟩
  refine h2.bind rel h fun ρ1 H1 x eh1 u e1 rel1 v1 h1 => ?_
  cases x with
  | int i => exact ⟨i, vr_int.mp v1, h1 ρ1 H1 _ (Ext.refl _ _ _) rel1.hr rfl⟩
  | _ => exact h1.elim
theorem xe_slice {a : Expr} {lo hi : Option Expr} {p2 pos : Pos} {da : DE} {dl dh : ES → EH → Res (Option Int)} (ha : PEd X ct E a da) (hl : POd X ct E lo dl) (hh : POd X ct E hi dh) : PEd X ct E (.Subscript a (.Slice lo hi none p2) pos) (dSl fSl da dl dh) := by
  obtain ⟨t, h1, h2⟩ := ha
  obtain ⟨tl, l1, l2⟩ := hl
  obtain ⟨th, k1, k2⟩ := hh
  refine ⟨_, pe_slice sl_list h1 l1 k1, fun ρ σ H es eh Q rel h => ?_⟩
  refine h2.bind rel h fun ρ1 H1 x eh1 u e1 rel1 v1 h1 => ?_
  refine l2.bind rel1 h1 fun ρ2 H2 l eh2 l' e2 rel2 v2 h2 => ?_
  refine k2.bind rel2 h2 fun ρ3 H3 k eh3 k' e3 rel3 v3 h3 => ?_
  cases v2
  cases v3
  have v1' := (v1.mono e2).mono e3
  unfold fSl at h3
  split at h3
  · rename_i m
    split at h3
    · rename_i xs e4
      obtain ⟨a1, vs, g1, g2, g3⟩ := lst_of rel3.hr e4
      obtain ⟨a', q1, rfl⟩ := vr_ref.mp v1'
      rw [g1] at q1; cases q1
      refine ⟨a1, vs, rfl, g2, new_lst rel3.hr ?_ h3⟩
      unfold cutV
      rw [← g3.length]
      exact (g3.drop _).take _
    · exact h3.elim
  · exact h3.elim
def fLen : DL := fun xs h => match xs with
  | [.ref m] => match lstAt h m with
    | some xs => .ok (.int xs.length) h
    | none => .no
  | [.tup xs] => .ok (.int xs.length) h
  | _ => .no
theorem vrs_one {K : Fg} {ρ : Rho} {H : Hp} {x : EV} {vs : List V} (h : VRs K ρ H [x] vs) : ∃ v, vs = [v] ∧ VR K ρ H x v := by
  obtain ⟨v, r, rfl, h1, h2⟩ := vrs_cons.mp h
  rw [vrs_nil.mp h2]
  exact ⟨v, rfl, h1⟩
theorem vrs_two {K : Fg} {ρ : Rho} {H : Hp} {x y : EV} {vs : List V} (h : VRs K ρ H [x, y] vs) : ∃ v u, vs = [v, u] ∧ VR K ρ H x v ∧ VR K ρ H y u := by
  obtain ⟨v, r, rfl, h1, h2⟩ := vrs_cons.mp h
  obtain ⟨u, rfl, h3⟩ := vrs_one h2
  exact ⟨v, u, rfl, h1, h3⟩
theorem c_len : Cld X ct E (.builtin "len") fLen := ⟨_, call_len_seq, fun ρ H eh xs as Q hr hx h => by
  unfold fLen at h
  split at h
  · rename_i m
    split at h
    · rename_i ys e1
      obtain ⟨v, rfl, hv⟩ := vrs_one hx
      obtain ⟨a1, vs, g1, g2, g3⟩ := lst_of hr e1
      obtain ⟨a', q1, rfl⟩ := vr_ref.mp hv
      rw [g1] at q1; cases q1
      exact ⟨a1, vs, rfl, .inl g2, h ρ H _ (Ext.refl _ _ _) hr (by rw [g3.length]; exact vr_int.mpr rfl)⟩
    · exact h.elim
  · rename_i ys
    obtain ⟨v, rfl, hv⟩ := vrs_one hx
    obtain ⟨a1, vs, rfl, g2, g3⟩ := vr_tup.mp hv
    exact ⟨a1, vs, rfl, .inr (SqT.of g2), h ρ H _ (Ext.refl _ _ _) hr (by rw [g3.length]; exact vr_int.mpr rfl)⟩
  · exact h.elim⟩
def fListOf : DL := fun xs h => match xs with
  | [.ref m] => match lstAt h m with
    | some xs => .ok (.ref h.length) (h ++ [.lst xs])
    | none => .no
  | [.tup xs] => .ok (.ref h.length) (h ++ [.lst xs])
  | _ => .no
theorem c_list : Cld X ct E (.type "list") fListOf := ⟨_, call_list_of, fun ρ H eh xs as Q hr hx h => by
  unfold fListOf at h
  split at h
  · rename_i m
    split at h
    · rename_i ys e1
      obtain ⟨v, rfl, hv⟩ := vrs_one hx
      obtain ⟨a1, vs, g1, g2, g3⟩ := lst_of hr e1
      obtain ⟨a', q1, rfl⟩ := vr_ref.mp hv
      rw [g1] at q1; cases q1
      exact ⟨a1, vs, rfl, .inl g2, new_lst hr g3 h⟩
    · exact h.elim
  · rename_i ys
    obtain ⟨v, rfl, hv⟩ := vrs_one hx
    obtain ⟨a1, vs, rfl, g2, g3⟩ := vr_tup.mp hv
    exact ⟨a1, vs, rfl, .inr (SqT.of g2), new_lst hr g3 h⟩
  · exact h.elim⟩
mutual
def dat0 (f : Nat → Option (List PyData)) : EV → Option PyData
  | .non => some .none
  | .bl b => some (.bool b)
  | .int i => some (.int i)
  | .str x => some (.str x)
  | .ref n => (f n).map PyData.list
  | .ty _ => none
  | .tup xs => (dat0s f xs).map PyData.tuple
def dat0s (f : Nat → Option (List PyData)) : List EV → Option (List PyData)
  | [] => some []
  | x :: xs => match dat0 f x, dat0s f xs with
    | some d, some ds => some (d :: ds)
    | _, _ => none
end
def datF (h : EH) : Nat → Nat → Option (List PyData)
  | 0, _ => none
  | n + 1, k => match lstAt h k with
    | some xs => dat0s (datF h n) xs
    | none => none
def dat (h : EH) (x : EV) : Option PyData := dat0 (datF h 4) x
mutual
theorem dat0_dp {G : Gx} {ρ : Rho} {H : Hp} {f : Nat → Option (List PyData)} (hf : ∀ n ds, f n = some ds → ∃ a vs, adr ρ n = some a ∧ SqL G.K H a vs ∧ DpAll G.K H vs ds) : ∀ (x : EV) (v : V) (d : PyData), VR G.K ρ H x v → dat0 f x = some d → Dp G.K H v d
  | .non, v, d, hx, h => by
    rw [vr_non.mp hx]
    simp only [dat0, Option.some.injEq] at h
    subst h
    exact .non
  | .bl b, v, d, hx, h => by
    rw [vr_bl.mp hx]
    simp only [dat0, Option.some.injEq] at h
    subst h
    exact .bl b
  | .int b, v, d, hx, h => by
    rw [vr_int.mp hx]
    simp only [dat0, Option.some.injEq] at h
    subst h
    exact .int b
  | .str b, v, d, hx, h => by
    rw [vr_str.mp hx]
    simp only [dat0, Option.some.injEq] at h
    subst h
    exact .str b
  | .ty b, v, d, hx, h => by
    simp only [dat0] at h
    cases h
  | .ref n, v, d, hx, h => by
    simp only [dat0] at h
    obtain ⟨ds, h1, rfl⟩ := Option.map_eq_some_iff.mp h
    obtain ⟨a, vs, e1, e2, e3⟩ := hf n ds h1
    obtain ⟨a', e4, rfl⟩ := vr_ref.mp hx
    rw [e1] at e4; cases e4
    exact .lst e2 e3
  | .tup xs, v, d, hx, h => by
    simp only [dat0] at h
    obtain ⟨ds, h1, rfl⟩ := Option.map_eq_some_iff.mp h
    obtain ⟨a, vs, rfl, e2, e3⟩ := vr_tup.mp hx
    exact .tup (SqT.of e2) (dat0s_dp hf xs vs ds e3 h1)
theorem dat0s_dp {G : Gx} {ρ : Rho} {H : Hp} {f : Nat → Option (List PyData)} (hf : ∀ n ds, f n = some ds → ∃ a vs, adr ρ n = some a ∧ SqL G.K H a vs ∧ DpAll G.K H vs ds) : ∀ (xs : List EV) (vs : List V) (ds : List PyData), VRs G.K ρ H xs vs → dat0s f xs = some ds → DpAll G.K H vs ds
  | [], vs, ds, hx, h => by
    rw [vrs_nil.mp hx]
    simp only [dat0s, Option.some.injEq] at h
    subst h
    exact .nil
  | x :: xs, vs, ds, hx, h => by
    obtain ⟨v, r, rfl, h1, h2⟩ := vrs_cons.mp hx
    simp only [dat0s] at h
    split at h
    · rename_i d ds' e1 e2
      cases h
      exact .cons (dat0_dp hf x v d h1 e1) (dat0s_dp hf xs r ds' h2 e2)
    · cases h
end
theorem datF_dp {G : Gx} {ρ : Rho} {H : Hp} {eh : EH} (hr : HR G ρ H eh) : ∀ (m n : Nat) (ds : List PyData), datF eh m n = some ds → ∃ a vs, adr ρ n = some a ∧ SqL G.K H a vs ∧ DpAll G.K H vs ds
  | 0, n, ds, h => by cases h
  | m + 1, n, ds, h => by
    simp only [datF] at h
    split at h
    · rename_i xs e1
      obtain ⟨a, vs, g1, g2, g3⟩ := lst_of hr e1
      exact ⟨a, vs, g1, g2, dat0s_dp (fun k ks => datF_dp hr m k ks) xs vs ds g3 h⟩
    · cases h
theorem dat_dp {G : Gx} {ρ : Rho} {H : Hp} {eh : EH} (hr : HR G ρ H eh) {x : EV} {v : V} {d : PyData} (hx : VR G.K ρ H x v) (h : dat eh x = some d) : Dp G.K H v d := dat0_dp (datF_dp hr 4) x v d hx h
def fEqS (neg : Bool) : D2 := fun x y h => match x, y with
  | .int i, .int j => .ok (.bl (neg ^^ decide (i = j))) h
  | .bl i, .bl j => .ok (.bl (neg ^^ decide (i = j))) h
  | .str i, .str j => .ok (.bl (neg ^^ decide (i = j))) h
  | _, _ => .no
def fEqD (neg : Bool) : D2 := fun x y h => match dat h x, dat h y with
  | some d, some e => if (SeqAt.shaped d && SeqAt.shaped e) = true then .ok (.bl (neg ^^ PyData.eqv d e)) h else .no
  | _, _ => .no
abbrev fEq : D2 := d2or (fEqS false) (fEqD false)
abbrev fNe : D2 := d2or (fEqS true) (fEqD true)
theorem o_eqS : Opd X ct E (compareOp .Eq) (fEqS false) := ⟨_, op_eq, fun ρ H eh x y a b Q hr hx hy h => by
  unfold fEqS at h
  split at h
  · rename_i i j
    rw [vr_int.mp hx, vr_int.mp hy]
    refine ⟨rfl, h ρ H _ (Ext.refl _ _ _) hr (vr_bl.mpr ?_)⟩
    simp
  · rename_i i j
    rw [vr_bl.mp hx, vr_bl.mp hy]
    refine ⟨rfl, h ρ H _ (Ext.refl _ _ _) hr (vr_bl.mpr ?_)⟩
    simp
  · rename_i i j
    rw [vr_str.mp hx, vr_str.mp hy]
    refine ⟨rfl, h ρ H _ (Ext.refl _ _ _) hr (vr_bl.mpr ?_)⟩
    simp
  · exact h.elim⟩
theorem o_neS : Opd X ct E (compareOp .NotEq) (fEqS true) := ⟨_, op_ne, fun ρ H eh x y a b Q hr hx hy h => by
  unfold fEqS at h
  split at h
  · rename_i i j
    rw [vr_int.mp hx, vr_int.mp hy]
    refine ⟨rfl, h ρ H _ (Ext.refl _ _ _) hr (vr_bl.mpr ?_)⟩
    simp
  · rename_i i j
    rw [vr_bl.mp hx, vr_bl.mp hy]
    refine ⟨rfl, h ρ H _ (Ext.refl _ _ _) hr (vr_bl.mpr ?_)⟩
    simp
  · rename_i i j
    rw [vr_str.mp hx, vr_str.mp hy]
    refine ⟨rfl, h ρ H _ (Ext.refl _ _ _) hr (vr_bl.mpr ?_)⟩
    simp
  · exact h.elim⟩
theorem o_eqD (hu : X.A.units + 64 < cLine) : Opd X ct E (compareOp .Eq) (fEqD false) := ⟨_, op_eqD hu, fun ρ H eh x y a b Q hr hx hy h => by
  unfold fEqD at h
  split at h
  · rename_i d e e1 e2
    split at h
    · rename_i hs
      simp only [Bool.and_eq_true] at hs
      refine ⟨d, e, dat_dp hr hx e1, dat_dp hr hy e2, hs.1, hs.2, h ρ H _ (Ext.refl _ _ _) hr (vr_bl.mpr ?_)⟩
      simp
    · exact h.elim
  · exact h.elim⟩
theorem o_neD (hu : X.A.units + 64 < cLine) : Opd X ct E (compareOp .NotEq) (fEqD true) := ⟨_, op_neD hu, fun ρ H eh x y a b Q hr hx hy h => by
  unfold fEqD at h
  split at h
  · rename_i d e e1 e2
    split at h
    · rename_i hs
      simp only [Bool.and_eq_true] at hs
      refine ⟨d, e, dat_dp hr hx e1, dat_dp hr hy e2, hs.1, hs.2, h ρ H _ (Ext.refl _ _ _) hr (vr_bl.mpr ?_)⟩
      simp
    · exact h.elim
  · exact h.elim⟩
theorem o_eq (hu : X.A.units + 64 < cLine) : Opd X ct E (compareOp .Eq) fEq := o_eqS.or (o_eqD hu)
theorem o_ne (hu : X.A.units + 64 < cLine) : Opd X ct E (compareOp .NotEq) fNe := o_neS.or (o_neD hu)
def fInL (neg : Bool) : D2 := fun x y h => match y with
  | .ref n => match dat h x, datF h 4 n with
    | some d, some ds => if (SeqAt.shaped d && SeqAt.shaped (.list ds)) = true then .ok (.bl (neg ^^ ds.any fun z => PyData.eqv z d)) h else .no
    | _, _ => .no
  | _ => .no
theorem dat_ref {eh : EH} {n : Nat} {ds : List PyData} (h : datF eh 4 n = some ds) : dat eh (.ref n) = some (.list ds) := by
  unfold dat
  simp only [dat0, h, Option.map_some]
theorem o_inL (hu : X.A.units + 65 < cLine) : Opd X ct E (compareOp .In) (fInL false) := ⟨_, op_inD hu, fun ρ H eh x y a b Q hr hx hy h => by
  unfold fInL at h
  split at h
  · rename_i n
    split at h
    · rename_i d ds e1 e2
      split at h
      · rename_i hs
        simp only [Bool.and_eq_true] at hs
        refine ⟨d, ds, dat_dp hr hx e1, dat_dp hr hy (dat_ref e2), hs.1, hs.2, h ρ H _ (Ext.refl _ _ _) hr (vr_bl.mpr ?_)⟩
        simp
      · exact h.elim
    · exact h.elim
  · exact h.elim⟩
theorem o_notInL (hu : X.A.units + 65 < cLine) : Opd X ct E (compareOp .NotIn) (fInL true) := ⟨_, op_notInD hu, fun ρ H eh x y a b Q hr hx hy h => by
  unfold fInL at h
  split at h
  · rename_i n
    split at h
    · rename_i d ds e1 e2
      split at h
      · rename_i hs
        simp only [Bool.and_eq_true] at hs
        refine ⟨d, ds, dat_dp hr hx e1, dat_dp hr hy (dat_ref e2), hs.1, hs.2, h ρ H _ (Ext.refl _ _ _) hr (vr_bl.mpr ?_)⟩
        simp
      · exact h.elim
    · exact h.elim
  · exact h.elim⟩
def fIsN (neg : Bool) : D2 := fun x y h => match x, y with
  | .non, .non => .ok (.bl (neg ^^ true)) h
  | .int _, .non => .ok (.bl (neg ^^ false)) h
  | .bl _, .non => .ok (.bl (neg ^^ false)) h
  | .str _, .non => .ok (.bl (neg ^^ false)) h
  | .ref _, .non => .ok (.bl (neg ^^ false)) h
  | .tup _, .non => .ok (.bl (neg ^^ false)) h
  | _, _ => .no
theorem o_isN : Opd X ct E (compareOp .Is) (fIsN false) := ⟨_, op_isN, fun ρ H eh x y a b Q hr hx hy h => by
  unfold fIsN at h
  split at h
  · rw [vr_non.mp hx]
    exact ⟨vr_non.mp hy, h ρ H _ (Ext.refl _ _ _) hr (vr_bl.mpr (by simp))⟩
  · rw [vr_int.mp hx]
    exact ⟨vr_non.mp hy, h ρ H _ (Ext.refl _ _ _) hr (vr_bl.mpr (by simp))⟩
  · rw [vr_bl.mp hx]
    exact ⟨vr_non.mp hy, h ρ H _ (Ext.refl _ _ _) hr (vr_bl.mpr (by simp))⟩
  · rw [vr_str.mp hx]
    exact ⟨vr_non.mp hy, h ρ H _ (Ext.refl _ _ _) hr (vr_bl.mpr (by simp))⟩
  · obtain ⟨q, _, rfl⟩ := vr_ref.mp hx
    exact ⟨vr_non.mp hy, h ρ H _ (Ext.refl _ _ _) hr (vr_bl.mpr (by simp))⟩
  · obtain ⟨q, _, rfl, _⟩ := vr_tup.mp hx
    exact ⟨vr_non.mp hy, h ρ H _ (Ext.refl _ _ _) hr (vr_bl.mpr (by simp))⟩
  · exact h.elim⟩
theorem o_notN : Opd X ct E (compareOp .IsNot) (fIsN true) := ⟨_, op_notN, fun ρ H eh x y a b Q hr hx hy h => by
  unfold fIsN at h
  split at h
  · rw [vr_non.mp hx]
    exact ⟨vr_non.mp hy, h ρ H _ (Ext.refl _ _ _) hr (vr_bl.mpr (by simp))⟩
  · rw [vr_int.mp hx]
    exact ⟨vr_non.mp hy, h ρ H _ (Ext.refl _ _ _) hr (vr_bl.mpr (by simp))⟩
  · rw [vr_bl.mp hx]
    exact ⟨vr_non.mp hy, h ρ H _ (Ext.refl _ _ _) hr (vr_bl.mpr (by simp))⟩
  · rw [vr_str.mp hx]
    exact ⟨vr_non.mp hy, h ρ H _ (Ext.refl _ _ _) hr (vr_bl.mpr (by simp))⟩
  · obtain ⟨q, _, rfl⟩ := vr_ref.mp hx
    exact ⟨vr_non.mp hy, h ρ H _ (Ext.refl _ _ _) hr (vr_bl.mpr (by simp))⟩
  · obtain ⟨q, _, rfl, _⟩ := vr_tup.mp hx
    exact ⟨vr_non.mp hy, h ρ H _ (Ext.refl _ _ _) hr (vr_bl.mpr (by simp))⟩
  · exact h.elim⟩
variable {a b c e : Expr} {es rest : List Expr} {pos : Pos} {da db dc : DE} {dt du : DT} {dr : DA}
theorem xe_cmp {op : CmpOp} {f : D2} (ho : Opd X ct E (compareOp op) f) (ha : PEd X ct E a da) (hb : PEd X ct E b db) (hm : behindInMarks op b = false := by first | exact nobehind _ (by decide) (by decide) | rfl) : PEd X ct E (.Compare a [op] [b] pos) (dOp f da db) := by
  obtain ⟨r, h1, h2⟩ := ho
  obtain ⟨ta, a1, a2⟩ := ha
  obtain ⟨tb, b1, b2⟩ := hb
  exact ⟨_, pe_cmpR h1 a1 b1 hm, snd_op h2 a2 b2⟩
theorem xt_cmp {op : CmpOp} {f : D2} (ho : Opd X ct E (compareOp op) f) (ha : PEd X ct E a da) (hb : PEd X ct E b db) (hm : behindInMarks op b = false := by first | exact nobehind _ (by decide) (by decide) | rfl) : PTd X ct E (.Compare a [op] [b] pos) (dB (dOp f da db)) := by
  obtain ⟨r, h1, h2⟩ := ho
  obtain ⟨ta, a1, a2⟩ := ha
  obtain ⟨tb, b1, b2⟩ := hb
  exact ⟨_, pt_cmpR h1 a1 b1 hm, snd_B (snd_op h2 a2 b2)⟩
def dChain (f g : D2) (a b c : DE) : DE := fun es h => (a es h).bind fun x h1 => (b es h1).bind fun y h2 => (f x y h2).bind fun z h3 => match z with
  | .bl k => if k = true then (c es h3).bind fun w h4 => g y w h4 else .ok (.bl false) h3
  | _ => .no
theorem Snd2.bind {r : R2} {f : D2} {E : XK} (h : Snd2 G E r f) {ρ : Rho} {H : Hp} {eh : EH} (hr : HR G ρ H eh) {x y : EV} {a b : V} (hx : VR G.K ρ H x a) (hy : VR G.K ρ H y b)
    {γ δ : Type} {R2' : Rho → Hp → γ → δ → Prop} {k : EV → EH → Res γ} {Q2 : δ → Hp → Prop} (hw : wr G R2' ρ H ((f x y eh).bind k) Q2 E) {Kt : V → Hp → Prop}
    (hk : ∀ ρ1 H1 v eh1 u, Ext G.K ρ ρ1 H H1 → HR G ρ1 H1 eh1 → VR G.K ρ1 H1 v u → wr G R2' ρ1 H1 (k v eh1) Q2 E → Kt u H1) : r a b H Kt := by
  refine h ρ H eh x y a b Kt hr hx hy ?_
  cases q : f x y eh with
  | ok v h' =>
    rw [q] at hw
    exact fun ρ' H' u e hr' rv => hk ρ' H' v h' u e hr' rv (hw.mono e)
  | er z h' =>
    rw [q] at hw
    exact hw
  | no =>
    rw [q] at hw
    exact hw
theorem snd_chain {r r' : R2} {f g : D2} {ta tb tc : TE} (hf : Snd2 G E r f) (hg : Snd2 G E r' g) (ha : SndE G E ta da) (hb : SndE G E tb db) (hc : SndE G E tc dc) : SndE G E (tChain r r' ta tb tc) (dChain f g da db dc) := fun ρ σ H es eh Q rel h => by
  refine ha.bind rel h fun ρ1 H1 x eh1 u e1 rel1 v1 h1 => ?_
  refine hb.bind rel1 h1 fun ρ2 H2 y eh2 w e2 rel2 v2 h2 => ?_
  refine hf.bind rel2.hr (v1.mono e2) v2 h2 fun ρ3 H3 z eh3 zz e3 hr3 v3 h3 => ?_
  cases z with
  | bl k =>
    refine ⟨k, vr_bl.mp v3, ?_⟩
    cases k with
    | true =>
      refine iteT (hc.bind (rel2.ext e3 hr3) h3 fun ρ4 H4 q eh4 qq e4 rel4 v4 h4 => ?_)
      exact hg ρ4 H4 eh4 y q w qq Q rel4.hr ((v2.mono e3).mono e4) v4 h4
    | false => exact iteF (h3 ρ3 H3 _ (Ext.refl _ _ _) hr3 (vr_bl.mpr rfl))
  | _ => exact h3.elim
theorem xe_chain {op op' : CmpOp} {f g : D2} (ho : Opd X ct E (compareOp op) f) (ho' : Opd X ct E (compareOp op') g) (ha : PEd X ct E a da) (hb : PEd X ct E b db) (hc : PEd X ct E c dc)
    (hm : lastMarks [op, op'] [b, c] = false := by with_unfolding_all rfl) : PEd X ct E (.Compare a [op, op'] [b, c] pos) (dChain f g da db dc) := by
  obtain ⟨r, h1, h2⟩ := ho
  obtain ⟨r', h1', h2'⟩ := ho'
  obtain ⟨ta, a1, a2⟩ := ha
  obtain ⟨tb, b1, b2⟩ := hb
  obtain ⟨tc, c1, c2⟩ := hc
  exact ⟨_, pe_chain h1 h1' a1 b1 c1 hm, snd_chain h2 h2' a2 b2 c2⟩
theorem xa_cons (ha : PEd X ct E e da) (hr : PAd X ct E es dr) (hs : starEach (e :: es) X.env = (false, eval e X.env) :: starEach es X.env := by rfl) : PAd X ct E (e :: es) (dCons da dr) := by
  obtain ⟨ta, a1, a2⟩ := ha
  obtain ⟨tr, r1, r2⟩ := hr
  exact ⟨_, pa_cons a1 r1 hs, snd_cons a2 r2⟩
theorem xe_callB {x : Str} {p : Pos} {id : String} {f : DL} (hc : Cld X ct E (.builtin id) f) (hg : Gl X x) (hm : X.mg x = none) (hv : bootBuiltins x = some (.builtin id)) (ha : PAd X ct E (e :: es) dr) (hn : x ≠ "__name__" := by decide) (hdb : (x == ("__debug__" : Str)) = false := by decide)
    (he : starEach (e :: es) X.env = (false, eval e X.env) :: starEach es X.env := by rfl) (hpl : (backTo pos (starEach es X.env)).any (·.1) = false := by rfl) : PEd X ct E (.Call (.Name x p) (e :: es) [] pos) (dCB f dr) := by
  obtain ⟨r, h1, h2⟩ := hc
  obtain ⟨ta, a1, a2⟩ := ha
  exact ⟨_, pe_callB h1 hg hm hv a1 hn hdb he hpl, snd_cb h2 a2⟩
theorem xe_callTy {x : Str} {p : Pos} {T : String} {f : DL} (hc : Cld X ct E (.type T) f) (hg : Gl X x) (hm : X.mg x = none) (hv : bootBuiltins x = some (.type T)) (ha : PAd X ct E (e :: es) dr) (hn : x ≠ "__name__" := by decide) (hdb : (x == ("__debug__" : Str)) = false := by decide)
    (he : starEach (e :: es) X.env = (false, eval e X.env) :: starEach es X.env := by rfl) (hpl : (backTo pos (starEach es X.env)).any (·.1) = false := by rfl) : PEd X ct E (.Call (.Name x p) (e :: es) [] pos) (dCB f dr) := by
  obtain ⟨r, h1, h2⟩ := hc
  obtain ⟨ta, a1, a2⟩ := ha
  exact ⟨_, pe_callTy h1 hg hm hv a1 hn hdb he hpl, snd_cb h2 a2⟩
end
inductive Ty where
  | none_ | bool_ | int_ | str_ | list_ | tuple_ | dict_
  deriving DecidableEq
def Ty.nm : Ty → String
  | .none_ => "NoneType" | .bool_ => "bool" | .int_ => "int" | .str_ => "str" | .list_ => "list" | .tuple_ => "tuple" | .dict_ => "dict"
def Ty.isa : Ty → Ty → Bool
  | .bool_, .int_ => true
  | a, b => decide (a = b)
theorem kit_all {K : Fg} : ∀ t c : Ty, PySem.W.kitOne K (.type t.nm) (.type c.nm) = some (t.isa c) := fun t c => kit_ty (by cases t <;> cases c <;> decide +kernel)
def tyOf (h : EH) : EV → Option Ty
  | .non => some .none_
  | .bl _ => some .bool_
  | .int _ => some .int_
  | .str _ => some .str_
  | .tup _ => some .tuple_
  | .ty _ => none
  | .ref n => match h[n]? with
    | some (.lst _) => some .list_
    | some (.ro _) => some .list_
    | some (.dic _ _) => some .dict_
    | _ => none
theorem tyOf_tx {G : Gx} {ρ : Rho} {H : Hp} {eh : EH} (hr : HR G ρ H eh) {x : EV} {v : V} {t : Ty} (hx : VR G.K ρ H x v) (h : tyOf eh x = some t) : TyX G.K H v (.type t.nm) := by
  cases x with
  | non => rw [vr_non.mp hx]; cases h; exact .base .non
  | bl b => rw [vr_bl.mp hx]; cases h; exact .base (.bl b)
  | int b => rw [vr_int.mp hx]; cases h; exact .base (.int b)
  | str b => rw [vr_str.mp hx]; cases h; exact .base (.str b)
  | tup xs =>
    obtain ⟨a, vs, rfl, e2, e3⟩ := vr_tup.mp hx
    cases h
    exact .base (.tup e2)
  | ty n => cases h
  | ref n =>
    obtain ⟨a, ha, rfl⟩ := vr_ref.mp hx
    simp only [tyOf] at h
    split at h
    · rename_i xs e
      cases h
      obtain ⟨a', ha', vs, h2, _⟩ := hr.obj n _ e
      rw [adr_of ha'] at ha; cases ha
      exact .base (.lst h2)
    · rename_i xs e
      cases h
      obtain ⟨a', ha', vs, h2, _⟩ := hr.obj n _ e
      rw [adr_of ha'] at ha; cases ha
      rcases h2 with ⟨o, h2⟩ | ⟨o, its, k, h2, h3, _⟩
      · exact .base (.frz h2)
      · exact .kList h2 h3
    · rename_i t0 xs e
      cases h
      obtain ⟨a', ha', h2⟩ := hr.obj n _ e
      rw [adr_of ha'] at ha; cases ha
      obtain ⟨u, h2, h3⟩ := h2
      cases t0 with
      | false =>
        obtain ⟨l, rfl, _⟩ := h3
        exact .base (.dK h2)
      | true =>
        obtain ⟨l, rfl, _⟩ := h3
        exact .base (.dT h2)
    · cases h
def fIsi (c : Ty) (d : DE) : DE := fun es h => (d es h).bind fun x h1 => match tyOf h1 x with
  | some t => .ok (.bl (t.isa c)) h1
  | none => .no
def fIsi2 (c c' : Ty) (d : DE) : DE := fun es h => (d es h).bind fun x h1 => match tyOf h1 x with
  | some t => .ok (.bl (t.isa c || t.isa c')) h1
  | none => .no
section
variable {X : Cx} {ct : Nat → Addr × List Str} {E : XK} {e : Expr} {pos p q : Pos} {d : DE}
theorem xe_isi (c : Ty) {y : Str} (hg : Gl X "isinstance") (hm : X.mg "isinstance" = none) (hgy : Gl X y) (hmy : X.mg y = none) (hvy : bootBuiltins y = some (.type c.nm)) (he : PEd X ct E e d) (hn : y ≠ "__name__" := by decide) (hdb : (y == ("__debug__" : Str)) = false := by decide)
    (hs1 : starEach [e, .Name y q] X.env = (false, eval e X.env) :: starEach [.Name y q] X.env := by rfl) (hs2 : starEach [.Name y q] X.env = (false, eval (.Name y q) X.env) :: starEach [] X.env := by rfl) (hpl : (backTo pos (starEach [.Name y q] X.env)).any (·.1) = false := by rfl) :
    PEd X ct E (.Call (.Name "isinstance" p) [e, .Name y q] [] pos) (fIsi c d) := by
  obtain ⟨t, h1, h2⟩ := he
  refine ⟨_, pe_callB call_isi hg hm (by decide +kernel) (pa_cons h1 (pa_cons (pe_bltn (v := .ty c.nm) hgy hmy hvy rfl hn hdb) pa_nil hs2) hs1) (by decide) (by decide) hs1 hpl, fun ρ σ H es eh Q rel h => ?_⟩
  refine h2.bind rel h fun ρ1 H1 x eh1 u e1 rel1 v1 h1 => ?_
  split at h1
  · rename_i t ht
    exact ⟨u, .ty c.nm, _, _, t.isa c, rfl, .ty _, tyOf_tx rel1.hr v1 ht, kit_all t c, h1 ρ1 H1 _ (Ext.refl _ _ _) rel1.hr (vr_bl.mpr rfl)⟩
  · exact h1.elim
theorem xe_isi2 (c c' : Ty) {y y' : Str} {k : Nat} {q' qt : Pos} (hg : Gl X "isinstance") (hm : X.mg "isinstance" = none) (hgy : Gl X y) (hmy : X.mg y = none) (hvy : bootBuiltins y = some (.type c.nm)) (hgy' : Gl X y') (hmy' : X.mg y' = none) (hvy' : bootBuiltins y' = some (.type c'.nm)) (he : PEd X ct E e d)
    (hn : y ≠ "__name__" := by decide) (hdb : (y == ("__debug__" : Str)) = false := by decide) (hn' : y' ≠ "__name__" := by decide) (hdb' : (y' == ("__debug__" : Str)) = false := by decide)
    (hs1 : starEach [e, .Tuple [.Name y q, .Name y' q'] k qt] X.env = (false, eval e X.env) :: starEach [.Tuple [.Name y q, .Name y' q'] k qt] X.env := by rfl) (hs2 : starEach [.Tuple [.Name y q, .Name y' q'] k qt] X.env = (false, eval (.Tuple [.Name y q, .Name y' q'] k qt) X.env) :: starEach [] X.env := by rfl)
    (hs3 : starEach [.Name y q, .Name y' q'] X.env = (false, eval (.Name y q) X.env) :: starEach [.Name y' q'] X.env := by rfl) (hs4 : starEach [.Name y' q'] X.env = (false, eval (.Name y' q') X.env) :: starEach [] X.env := by rfl)
    (hpl : (backTo pos (starEach [.Tuple [.Name y q, .Name y' q'] k qt] X.env)).any (·.1) = false := by rfl) :
    PEd X ct E (.Call (.Name "isinstance" p) [e, .Tuple [.Name y q, .Name y' q'] k qt] [] pos) (fIsi2 c c' d) := by
  obtain ⟨t, h1, h2⟩ := he
  refine ⟨_, pe_callB call_isiT hg hm (by decide +kernel) (pa_cons h1 (pa_cons (pe_tup (pa_cons (pe_bltn (v := .ty c.nm) hgy hmy hvy rfl hn hdb) (pa_cons (pe_bltn (v := .ty c'.nm) hgy' hmy' hvy' rfl hn' hdb') pa_nil hs4) hs3)) pa_nil hs2) hs1) (by decide) (by decide) hs1 hpl, fun ρ σ H es eh Q rel h => ?_⟩
  refine h2.bind rel h fun ρ1 H1 x eh1 u e1 rel1 v1 h1 => ?_
  split at h1
  · rename_i t ht
    refine ⟨by show 2 ≤ sizeLine; decide, fun tp hp => ?_⟩
    have hr2 := rel1.hr.side (HO.tup [.ty c.nm, .ty c'.nm]) hp
    refine ⟨u, tp, [.ty c.nm, .ty c'.nm], _, [.type c.nm, .type c'.nm], t.isa c || t.isa c', rfl, upd_same, .cons (.ty _) (.cons (.ty _) .nil), tyOf_tx hr2 (v1.mono (Ext.side _ hp)) ht, ?_, h1 ρ1 _ _ (Ext.side _ hp) hr2 (vr_bl.mpr rfl)⟩
    refine kitAny_cons (kit_all t c) (fun hb => ?_) (fun hb => by rw [hb]; rfl)
    rw [hb, Bool.false_or]
    exact kitAny_cons (kit_all t c') (fun hb2 => by rw [hb2]; rfl) (fun hb2 => hb2)
  · exact h1.elim
end
end EE
set_option Elab.async false
set_option linter.all false
set_option maxRecDepth 100000
set_option maxHeartbeats 1000000
namespace EE
open PySem PySem.Spec PyProof.Rows L2
def dNext : DS := fun es h => .ok (.nx es) h
def dSeq (a b : DS) : DS := fun es h => (a es h).bind fun f h1 => match f with
  | .nx es1 => b es1 h1
  | .rt v => .ok (.rt v) h1
  | .bk e => .ok (.bk e) h1
  | .ct e => .ok (.ct e) h1
def dIfS (t : DT) (a b : DS) : DS := fun es h => (t es h).bind fun c h1 => if c = true then a es h1 else b es h1
def dRet (a : DE) : DS := fun es h => (a es h).bind fun x h1 => .ok (.rt x) h1
def dRetN : DS := fun _ h => .ok (.rt .non) h
def dDrop (a : DE) : DS := fun es h => (a es h).bind fun _ h1 => .ok (.nx es) h1
def dNever : DS := fun _ _ => .no
def dBreak : DS := fun es h => .ok (.bk es) h
def dCont : DS := fun es h => .ok (.ct es) h
abbrev DG := EV → ES → EH → Res ES
abbrev DGs := List EV → ES → EH → Res ES
abbrev DSet := EV → EV → EV → EH → Res Unit
def dName (i : Nat) : DG := fun x es h => .ok (es.set i (some x)) h
def dGNil : DGs := fun xs es h => match xs with
  | [] => .ok es h
  | _ => .no
def dGCons (g : DG) (r : DGs) : DGs := fun xs es h => match xs with
  | x :: xs => (g x es h).bind fun es1 h1 => r xs es1 h1
  | [] => .no
def dGTup (n : Nat) (r : DGs) : DG := fun x es h => match x with
  | .tup xs => if xs.length = n then r xs es h else .no
  | _ => .no
def dGSub (a b : DE) (f : DSet) : DG := fun x es h => (a es h).bind fun o h1 => (b es h1).bind fun i h2 => (f o i x h2).bind fun _ h3 => .ok es h3
def dAsg (a : DE) (g : DG) : DS := fun es h => (a es h).bind fun x h1 => (g x es h1).bind fun es1 h2 => .ok (.nx es1) h2
def dPar (i j : Nat) (a : DA) : DS := fun es h => (a es h).bind fun xs h1 => match xs with
  | [x, y] => .ok (.nx ((es.set i (some x)).set j (some y))) h1
  | _ => .no
def dAug (i : Nat) (a : DE) (f : D2) : DS := fun es h => match es[i]? with
  | some (some x) => (a es h).bind fun y h1 => (f x y h1).bind fun z h2 => .ok (.nx (es.set i (some z))) h2
  | _ => .no
abbrev RS (G : Gx) : Rho → Hp → ES → L2.St → Prop := fun ρ H es σ => SR G.K ρ H es σ
def SndG (G : Gx) (E : XK) (t : TG) (d : DG) : Prop := ∀ ρ σ H es eh x u Q, Rel G ρ σ H es eh → VR G.K ρ H x u → wr G (RS G) ρ H (d x es eh) Q E → t u σ H Q
def SndGs (G : Gx) (E : XK) (t : TGs) (d : DGs) : Prop := ∀ ρ σ H es eh x u Q, Rel G ρ σ H es eh → VRs G.K ρ H x u → wr G (RS G) ρ H (d x es eh) Q E → t u σ H Q
def SndSet (G : Gx) (E : XK) (t : TSet) (d : DSet) : Prop := ∀ ρ H eh o i x a b c Q, HR G ρ H eh → VR G.K ρ H o a → VR G.K ρ H i b → VR G.K ρ H x c → wr G (fun _ _ (_ : Unit) (_ : Unit) => True) ρ H (d o i x eh) (fun _ => Q) E → t a b c H Q
section
variable (X : Cx) (ct : Nat → Addr × List Str) (E : XK)
def PGd (e : Expr) (d : DG) : Prop := ∃ t, PG X e t ∧ SndG ⟨X.K, ct⟩ E t d
def PGsd (e : List Expr) (d : DGs) : Prop := ∃ t, PGs X e t ∧ SndGs ⟨X.K, ct⟩ E t d
def PSetd (d : DSet) : Prop := ∃ t, PSet X t ∧ SndSet ⟨X.K, ct⟩ E t d
end
section
variable {G : Gx} {E : XK}
theorem SndG.bind {t : TG} {d : DG} (h : SndG G E t d) {ρ : Rho} {σ : L2.St} {H : Hp} {es : ES} {eh : EH} (rel : Rel G ρ σ H es eh) {x : EV} {u : V} (hx : VR G.K ρ H x u)
    {γ δ : Type} {R2 : Rho → Hp → γ → δ → Prop} {k : ES → EH → Res γ} {Q2 : δ → Hp → Prop} (hw : wr G R2 ρ H ((d x es eh).bind k) Q2 E) {Kt : L2.St → Hp → Prop}
    (hk : ∀ ρ1 H1 es1 eh1 σ1, Ext G.K ρ ρ1 H H1 → Rel G ρ1 σ1 H1 es1 eh1 → d x es eh = .ok es1 eh1 → wr G R2 ρ1 H1 (k es1 eh1) Q2 E → Kt σ1 H1) : t u σ H Kt := by
  refine h ρ σ H es eh x u Kt rel hx ?_
  cases q : d x es eh with
  | ok v h' =>
    rw [q] at hw
    exact fun ρ' H' u e hr r => hk ρ' H' v h' u e ⟨r, hr⟩ q (hw.mono e)
  | er x h' =>
    rw [q] at hw
    exact hw
  | no =>
    rw [q] at hw
    exact hw
theorem SndGs.bind {t : TGs} {d : DGs} (h : SndGs G E t d) {ρ : Rho} {σ : L2.St} {H : Hp} {es : ES} {eh : EH} (rel : Rel G ρ σ H es eh) {x : List EV} {u : List V} (hx : VRs G.K ρ H x u)
    {γ δ : Type} {R2 : Rho → Hp → γ → δ → Prop} {k : ES → EH → Res γ} {Q2 : δ → Hp → Prop} (hw : wr G R2 ρ H ((d x es eh).bind k) Q2 E) {Kt : L2.St → Hp → Prop}
    (hk : ∀ ρ1 H1 es1 eh1 σ1, Ext G.K ρ ρ1 H H1 → Rel G ρ1 σ1 H1 es1 eh1 → wr G R2 ρ1 H1 (k es1 eh1) Q2 E → Kt σ1 H1) : t u σ H Kt := by
  refine h ρ σ H es eh x u Kt rel hx ?_
  cases q : d x es eh with
  | ok v h' =>
    rw [q] at hw
    exact fun ρ' H' u e hr r => hk ρ' H' v h' u e ⟨r, hr⟩ (hw.mono e)
  | er x h' =>
    rw [q] at hw
    exact hw
  | no =>
    rw [q] at hw
    exact hw
theorem SndS.bind {t : TS} {d : DS} (h : SndS G E t d) {ρ : Rho} {σ : L2.St} {H : Hp} {es : ES} {eh : EH} (rel : Rel G ρ σ H es eh)
    {γ δ : Type} {R2 : Rho → Hp → γ → δ → Prop} {k : Flw → EH → Res γ} {Q2 : δ → Hp → Prop} (hw : wr G R2 ρ H ((d es eh).bind k) Q2 E) {D : Ends}
    (hk : ∀ ρ1 H1 f eh1 vf, Ext G.K ρ ρ1 H H1 → HR G ρ1 H1 eh1 → RF G ρ1 H1 f vf → wr G R2 ρ1 H1 (k f eh1) Q2 E → qD D vf H1) : t D σ H := by
  refine h ρ σ H es eh D rel ?_
  cases q : d es eh with
  | ok v h' =>
    rw [q] at hw
    exact fun ρ' H' u e hr r => hk ρ' H' v h' u e hr r (hw.mono e)
  | er x h' =>
    rw [q] at hw
    exact hw
  | no =>
    rw [q] at hw
    exact hw
theorem snd_next : SndS G E tNext dNext := fun ρ σ H es eh D rel h => h ρ H (.nx σ) (Ext.refl _ _ _) rel.hr rel.sl
theorem snd_seq {t u : TS} {a b : DS} (ha : SndS G E t a) (hb : SndS G E u b) : SndS G E (tSeq t u) (dSeq a b) := fun ρ σ H es eh D rel h => by
  refine ha.bind rel h fun ρ1 H1 f eh1 vf e1 hr1 rf h1 => ?_
  cases f with
  | nx es1 =>
    cases vf with
    | nx σ1 => exact hb ρ1 σ1 H1 es1 eh1 D ⟨rf, hr1⟩ h1
    | _ => exact rf.elim
  | rt v =>
    cases vf with
    | rt w => exact h1 ρ1 H1 (.rt w) (Ext.refl _ _ _) hr1 rf
    | _ => exact rf.elim
  | bk v =>
    cases vf with
    | bk w => exact h1 ρ1 H1 (.bk w) (Ext.refl _ _ _) hr1 rf
    | _ => exact rf.elim
  | ct v =>
    cases vf with
    | ct w => exact h1 ρ1 H1 (.ct w) (Ext.refl _ _ _) hr1 rf
    | _ => exact rf.elim
theorem snd_ifS {tt : TT} {t u : TS} {c : DT} {a b : DS} (hc : SndT G E tt c) (ha : SndS G E t a) (hb : SndS G E u b) : SndS G E (tIfS tt t u) (dIfS c a b) := fun ρ σ H es eh D rel h => by
  refine hc.bind rel h fun ρ1 H1 x eh1 u e1 rel1 v1 h1 => ?_
  subst v1
  cases x with
  | true => exact iteT (ha ρ1 σ H1 es eh1 D rel1 h1)
  | false => exact iteF (hb ρ1 σ H1 es eh1 D rel1 h1)
theorem snd_ret {te : TE} {a : DE} (ha : SndE G E te a) : SndS G E (tRet te) (dRet a) := fun ρ σ H es eh D rel h => by
  refine ha.bind rel h fun ρ1 H1 x eh1 u e1 rel1 v1 h1 => ?_
  exact h1 ρ1 H1 (.rt u) (Ext.refl _ _ _) rel1.hr v1
theorem snd_retN : SndS G E tRetN dRetN := fun ρ σ H es eh D rel h => h ρ H (.rt .non) (Ext.refl _ _ _) rel.hr (show VR G.K ρ H .non .non from vr_non.mpr rfl)
theorem snd_drop {te : TE} {a : DE} (ha : SndE G E te a) : SndS G E (tDrop te) (dDrop a) := fun ρ σ H es eh D rel h => by
  refine ha.bind rel h fun ρ1 H1 x eh1 u e1 rel1 v1 h1 => ?_
  exact h1 ρ1 H1 (.nx σ) (Ext.refl _ _ _) rel1.hr rel1.sl
theorem snd_never : SndS G E tNever dNever := fun ρ σ H es eh D rel h => h
theorem snd_break : SndS G E tBreak dBreak := fun ρ σ H es eh D rel h => h ρ H (.bk σ) (Ext.refl _ _ _) rel.hr rel.sl
theorem snd_cont : SndS G E tCont dCont := fun ρ σ H es eh D rel h => h ρ H (.ct σ) (Ext.refl _ _ _) rel.hr rel.sl
theorem snd_gname {i : Nat} : SndG G E (gName i) (dName i) := fun ρ σ H es eh x u Q rel hx h => h ρ H _ (Ext.refl _ _ _) rel.hr (rel.sl.set i hx)
theorem snd_gnil : SndGs G E gNil dGNil := fun ρ σ H es eh x u Q rel hx h => by
  cases x with
  | nil => exact ⟨vrs_nil.mp hx, h ρ H _ (Ext.refl _ _ _) rel.hr rel.sl⟩
  | cons _ _ => exact h.elim
theorem snd_gcons {t : TG} {u : TGs} {d : DG} {ds : DGs} (h1 : SndG G E t d) (h2 : SndGs G E u ds) : SndGs G E (gCons t u) (dGCons d ds) := fun ρ σ H es eh x us Q rel hx h => by
  cases x with
  | nil => exact h.elim
  | cons x xs =>
    obtain ⟨v, r, rfl, v1, v2⟩ := vrs_cons.mp hx
    refine ⟨v, r, rfl, h1.bind rel v1 h fun ρ1 H1 es1 eh1 σ1 e1 rel1 _ hw => ?_⟩
    exact h2 ρ1 σ1 H1 es1 eh1 xs r Q rel1 (v2.mono e1) hw
theorem snd_gtup {n : Nat} {u : TGs} {ds : DGs} (h2 : SndGs G E u ds) : SndG G E (gTup G.K n u) (dGTup n ds) := fun ρ σ H es eh x us Q rel hx h => by
  cases x with
  | tup xs =>
    obtain ⟨a, vs, rfl, g2, g3⟩ := vr_tup.mp hx
    simp only [dGTup] at h
    split at h
    · rename_i hl
      exact ⟨a, vs, rfl, SqT.of g2, by rw [← g3.length]; exact hl, h2 ρ σ H es eh xs vs Q rel g3 h⟩
    · exact h.elim
  | _ => exact h.elim
theorem snd_gsub {to ti : TE} {t : TSet} {a b : DE} {f : DSet} (ha : SndE G E to a) (hb : SndE G E ti b) (hf : SndSet G E t f) : SndG G E (gSub to ti t) (dGSub a b f) := fun ρ σ H es eh x u Q rel hx h => by
  refine ha.bind rel h fun ρ1 H1 o eh1 w e1 rel1 v1 h1 => ?_
  refine hb.bind rel1 h1 fun ρ2 H2 i eh2 w2 e2 rel2 v2 h2 => ?_
  refine hf ρ2 H2 eh2 o i x w w2 u _ rel2.hr (v1.mono e2) v2 ((hx.mono e1).mono e2) ?_
  cases q : f o i x eh2 with
  | ok v h' =>
    rw [q] at h2
    exact fun ρ' H' u e hr r => h2 ρ' H' σ e hr (rel2.sl.mono e)
  | er z h' =>
    rw [q] at h2
    exact h2
  | no =>
    rw [q] at h2
    exact h2
theorem snd_asg {te : TE} {g : TG} {a : DE} {d : DG} (ha : SndE G E te a) (hg : SndG G E g d) : SndS G E (tAsg te g) (dAsg a d) := fun ρ σ H es eh D rel h => by
  refine ha.bind rel h fun ρ1 H1 x eh1 u e1 rel1 v1 h1 => ?_
  refine hg.bind rel1 v1 h1 fun ρ2 H2 es2 eh2 σ2 e2 rel2 _ h2 => ?_
  exact h2 ρ2 H2 (.nx σ2) (Ext.refl _ _ _) rel2.hr rel2.sl
theorem snd_par {i j : Nat} {ta : TA} {a : DA} (ha : SndA G E ta a) : SndS G E (tPar i j ta) (dPar i j a) := fun ρ σ H es eh D rel h => by
  refine ha.bind rel h fun ρ1 H1 x eh1 u e1 rel1 v1 h1 => ?_
  split at h1
  · rename_i x y
    obtain ⟨v, w, rfl, q1, q2⟩ := vrs_two v1
    exact ⟨v, w, rfl, h1 ρ1 H1 (.nx _) (Ext.refl _ _ _) rel1.hr ((rel1.sl.set i q1).set j q2)⟩
  · exact h1.elim
theorem snd_aug {i : Nat} {te : TE} {ti : TIp} {a : DE} {f : D2} (ha : SndE G E te a) (hf : Snd2 G E ti f) : SndS G E (tAug i te ti) (dAug i a f) := fun ρ σ H es eh D rel h => by
  unfold dAug at h
  split at h
  · rename_i x hx
    obtain ⟨u, h1, h2⟩ := rel.sl.2 i x hx
    refine ⟨u, h1, ha.bind rel h fun ρ1 H1 y eh1 w e1 rel1 v1 h1 => ?_⟩
    refine hf.bind rel1.hr (h2.mono e1) v1 h1 fun ρ2 H2 z eh2 zz e2 hr2 v2 h3 => ?_
    exact h3 ρ2 H2 (.nx _) (Ext.refl _ _ _) hr2 ((rel1.sl.mono e2).set i v2)
  · exact h.elim
end
def sLst : DSet := fun o i x h => match o, i with
  | .ref n, .int k => match mutAt h n with
    | some xs => match ixN xs.length k with
      | some j => .ok () (h.set n (.lst (xs.set j x)))
      | none => .no
    | none => .no
  | _, _ => .no
section
variable {X : Cx} {ct : Nat → Addr × List Str} {E : XK} {G : Gx}
theorem put_lst {ρ : Rho} {H : Hp} {eh : EH} {n : Nat} {a : Addr} {vs us : List V} {ys : List EV} (hr : HR G ρ H eh) (hn : ρ[n]? = some (true, a)) (ha : H a = some (.lst vs)) (hy : VRs G.K ρ H ys us) :
    Ext G.K ρ ρ H (upd H a (.lst us)) ∧ HR G ρ (upd H a (.lst us)) (eh.set n (.lst ys)) := by
  have e : Ext G.K ρ ρ H (upd H a (.lst us)) := Ext.write _ hn ha (fun _ z => by cases z) fun _ _ z => by cases z
  exact ⟨e, hr.write hn rfl e ⟨us, upd_same, hy.mono e⟩⟩
theorem set_lst : PSetd X ct E sLst := ⟨_, set_list, fun ρ H eh o i x a b c Q hr ho hi hx h => by
  unfold sLst at h
  split at h
  · rename_i n k
    split at h
    · rename_i xs e1
      split at h
      · rename_i j e2
        obtain ⟨a1, vs, g1, g2, g3, g4⟩ := mut_of hr e1
        obtain ⟨a', q1, rfl⟩ := vr_ref.mp ho
        rw [g1] at q1; cases q1
        obtain ⟨e, hr'⟩ := put_lst hr g4 g2 (g3.set hx j)
        exact ⟨a1, vs, k, j, rfl, vr_int.mp hi, g2, by rw [← g3.length]; exact e2, h ρ _ () e hr' trivial⟩
      · exact h.elim
    · exact h.elim
  · exact h.elim⟩
theorem PSetd.or {d d' : DSet} (h : PSetd X ct E d) (h' : PSetd X ct E d') : PSetd X ct E (fun o i x h => (d o i x h).orElse fun _ => d' o i x h) := by
  obtain ⟨r, h1, h2⟩ := h
  obtain ⟨r', h1', h2'⟩ := h'
  refine ⟨fun o i v H Q => r o i v H Q ∨ r' o i v H Q, ?_, fun ρ H eh o i x a b c Q hr ho hi hx h => ?_⟩
  · intro pins s σ H o i v ov iv u Q I ro ri rv q
    rcases q with q | q
    · exact h1 pins s σ H o i v ov iv u Q I ro ri rv q
    · exact h1' pins s σ H o i v ov iv u Q I ro ri rv q
  · rcases wr_or h with h | h
    · exact .inl (h2 ρ H eh o i x a b c Q hr ho hi hx h)
    · exact .inr (h2' ρ H eh o i x a b c Q hr ho hi hx h)
def mApp : EV → DL := fun x xs h => match x, xs with
  | .ref n, [y] => match mutAt h n with
    | some ys => if ys.length < 100000 then .ok .non (h.set n (.lst (ys ++ [y]))) else .no
    | none => .no
  | _, _ => .no
theorem m_app : Mtd X ct E "list.append" mApp := ⟨_, mt_append, fun ρ H eh x a xs as Q hr hx hxs h => by
  unfold mApp at h
  split at h
  · rename_i n y
    split at h
    · rename_i ys e1
      split at h
      · rename_i hl
        obtain ⟨a1, vs, g1, g2, g3, g4⟩ := mut_of hr e1
        obtain ⟨a', q1, rfl⟩ := vr_ref.mp hx
        rw [g1] at q1; cases q1
        obtain ⟨v, rfl, hv⟩ := vrs_one hxs
        obtain ⟨e, hr'⟩ := put_lst hr g4 g2 (g3.append (VRs.one hv))
        exact ⟨a1, vs, v, rfl, rfl, g2, by rw [← g3.length]; exact Nat.lt_of_lt_of_le hl (by decide), h ρ _ _ e hr' (vr_non.mpr rfl)⟩
      · exact h.elim
    · exact h.elim
  · exact h.elim⟩
def dBM (f : EV → DL) (o : DE) (a : DA) : DE := fun es h => (o es h).bind fun x h1 => match x with
  | .ref n => match lstAt h1 n with
    | some _ => (a es h1).bind fun xs h2 => f x xs h2
    | none => .no
  | _ => .no
theorem snd_bmL {r : V → List V → Hp → VK → Prop} {f : EV → DL} {to : TE} {ta : TA} {o : DE} {a : DA} (hr : SndM G E r f) (ho : SndE G E to o) (ha : SndA G E ta a) : SndE G E (tBM G.K "list" r to ta) (dBM f o a) := fun ρ σ H es eh Q rel h => by
  refine ho.bind rel h fun ρ1 H1 x eh1 u e1 rel1 v1 h1 => ?_
  cases x with
  | ref n =>
    simp only at h1
    split at h1
    · rename_i ys e2
      obtain ⟨a1, vs, g1, g2, g3⟩ := lst_of rel1.hr e2
      obtain ⟨a', q1, rfl⟩ := vr_ref.mp v1
      rw [g1] at q1; cases q1
      refine ⟨.inl ⟨rfl, vs, g2⟩, ha.bind rel1 h1 fun ρ2 H2 xs eh2 us e2 rel2 v2 h2 => ?_⟩
      exact hr ρ2 H2 eh2 _ _ xs us Q rel2.hr (v1.mono e2) v2 h2
    · exact h1.elim
  | _ => exact h1.elim
variable {a b c e : Expr} {es rest : List Expr} {pos : Pos} {da db dc : DE} {dt du : DT} {dr : DA} {ds ds' : DS} {st : Stmt} {sts sts' : List Stmt}
theorem xss_nil : PSsd X ct E [] dNext := ⟨_, pss_nil, snd_next⟩
theorem xss_cons (h1 : PSd X ct E st ds) (h2 : PSsd X ct E sts ds') : PSsd X ct E (st :: sts) (dSeq ds ds') := by
  obtain ⟨t, a1, a2⟩ := h1
  obtain ⟨u, b1, b2⟩ := h2
  exact ⟨_, pss_cons a1 b1, snd_seq a2 b2⟩
theorem xss_one (h1 : PSd X ct E st ds) : PSsd X ct E [st] ds := by
  obtain ⟨t, a1, a2⟩ := h1
  exact ⟨_, pss_one a1, a2⟩
theorem xs_pass : PSd X ct E (.Pass pos) dNext := ⟨_, ps_pass, snd_next⟩
theorem xs_break : PSd X ct E (.Break pos) dBreak := ⟨_, ps_break, snd_break⟩
theorem xs_cont : PSd X ct E (.Continue pos) dCont := ⟨_, ps_continue, snd_cont⟩
theorem xs_never : PSd X ct E st dNever := ⟨_, ps_never, snd_never⟩
theorem xss_never : PSsd X ct E sts dNever := ⟨_, pss_never, snd_never⟩
theorem xs_expr (he : PEd X ct E e da) (hs : swapsWith e none pos.line X.env = pure false := by rfl) : PSd X ct E (.Expr e pos) (dDrop da) := by
  obtain ⟨t, a1, a2⟩ := he
  exact ⟨_, ps_expr a1 hs, snd_drop a2⟩
theorem xs_ret (he : PEd X ct E e da) : PSd X ct E (.Return (some e) pos) (dRet da) := by
  obtain ⟨t, a1, a2⟩ := he
  exact ⟨_, ps_ret a1, snd_ret a2⟩
theorem xs_retN : PSd X ct E (.Return none pos) dRetN := ⟨_, ps_retN, snd_retN⟩
theorem xs_if (hc : PTd X ct E c dt) (ha : PSsd X ct E sts ds) (hb : PSsd X ct E sts' ds') : PSd X ct E (.If c sts sts' pos) (dIfS dt ds ds') := by
  obtain ⟨t, a1, a2⟩ := hc
  obtain ⟨u, b1, b2⟩ := ha
  obtain ⟨w, c1, c2⟩ := hb
  exact ⟨_, ps_if a1 b1 c1, snd_ifS a2 b2 c2⟩
theorem xg_name (i : Nat) {x : Str} (hN : X.N.Nodup) (hi : X.N[i]? = some x := by rfl) (hx : Loc X.env.scope x := by first | exact Or.inl rfl | exact Or.inr rfl) (hf : X.fn x = true ∨ X.env.scope.names.lookup x = some .local := by first | exact .inl rfl | exact .inr rfl | assumption) : PGd X ct E (.Name x pos) (dName i) :=
  ⟨_, pg_name hN hi hx hf, snd_gname⟩
theorem xgs_nil : PGsd X ct E [] dGNil := ⟨_, pgs_nil, snd_gnil⟩
theorem xgs_cons {d : DG} {d' : DGs} (h1 : PGd X ct E e d) (h2 : PGsd X ct E es d') (hs : (assignEach (e :: es) X.env).map (·.2) = assign e X.env :: (assignEach es X.env).map (·.2) := by rfl) : PGsd X ct E (e :: es) (dGCons d d') := by
  obtain ⟨t, a1, a2⟩ := h1
  obtain ⟨u, b1, b2⟩ := h2
  exact ⟨_, pgs_cons a1 b1 hs, snd_gcons a2 b2⟩
theorem xg_tup {k n : Nat} {d' : DGs} (hc : X.calm = true) (h : PGsd X ct E es d') (hn : (assignEach es X.env).length = n := by rfl) (hst : (assignEach es X.env).findIdx? (·.1) = none := by rfl) : PGd X ct E (.Tuple es k pos) (dGTup n d') := by
  obtain ⟨t, a1, a2⟩ := h
  exact ⟨_, pg_tup hc a1 hn hst, snd_gtup a2⟩
theorem xg_sub {f : DSet} (ha : PEd X ct E a da) (hb : PEd X ct E b db) (hf : PSetd X ct E f) (hh : ∀ v, assign (.Subscript a b pos) X.env v = (do
      let ov ← holding [v] (eval a X.env)
      let iv ← holding [v, ov] (eval b X.env)
      standAt pos
      holding [v, ov, iv] (setItem ov iv v)
      release [v, ov, iv] []) := by intro _; rfl) : PGd X ct E (.Subscript a b pos) (dGSub da db f) := by
  obtain ⟨t, a1, a2⟩ := ha
  obtain ⟨u, b1, b2⟩ := hb
  obtain ⟨w, c1, c2⟩ := hf
  exact ⟨_, pg_sub a1 b1 c1 hh, snd_gsub a2 b2 c2⟩
theorem xs_asg {tg : Expr} {d : DG} (he : PEd X ct E e da) (hg : PGd X ct E tg d) (hs : swapsWithSole [tg] e pos.line X.env = pure false := by rfl) (hw : swappedStores [tg] e X.env = pure none := by rfl)
    (h1 : (assignEach [tg] X.env).map (·.2) = [assign tg X.env] := by rfl) : PSd X ct E (.Assign [tg] e pos) (dAsg da d) := by
  obtain ⟨t, a1, a2⟩ := he
  obtain ⟨u, b1, b2⟩ := hg
  exact ⟨_, ps_asg a1 b1 hs hw h1, snd_asg a2 b2⟩
theorem xs_set (i : Nat) {x : Str} {pos' : Pos} (hN : X.N.Nodup) (he : PEd X ct E e da) (hi : X.N[i]? = some x := by rfl) (hx : Loc X.env.scope x := by first | exact Or.inl rfl | exact Or.inr rfl) (hs : swapsWith e (some (.Name x pos')) pos.line X.env = pure false := by rfl)
    (hf : X.fn x = true ∨ X.env.scope.names.lookup x = some .local := by first | exact .inl rfl | exact .inr rfl | assumption) : PSd X ct E (.Assign [.Name x pos'] e pos) (dAsg da (dName i)) := by
  obtain ⟨t, a1, a2⟩ := he
  exact ⟨_, ps_set hN hi hx a1 hs hf, snd_asg a2 snd_gname⟩
theorem xs_par (i j : Nat) {x y : Str} {px py pt : Pos} {kt k2 pt2} (hc : X.calm = true) (hN : X.N.Nodup) (ha : PAd X ct E [a, b] dr) (hw : swappedStores [.Tuple [.Name x px, .Name y py] kt pt] (.Tuple [a, b] k2 pt2) X.env = pure (some [x, y]))
    (hi : X.N[i]? = some x := by rfl) (hj : X.N[j]? = some y := by rfl) (hij : i ≠ j := by decide) (hx : X.env.scope.names.lookup x = some .local := by rfl) (hy : X.env.scope.names.lookup y = some .local := by rfl)
    (hs : swapsWithSole [.Tuple [.Name x px, .Name y py] kt pt] (.Tuple [a, b] k2 pt2) pos.line X.env = pure false := by rfl) : PSd X ct E (.Assign [.Tuple [.Name x px, .Name y py] kt pt] (.Tuple [a, b] k2 pt2) pos) (dPar i j dr) := by
  obtain ⟨t, a1, a2⟩ := ha
  exact ⟨_, ps_par hc hN hi hj hij hx hy a1 hw hs, snd_par a2⟩
theorem xs_aug (i : Nat) {x : Str} {op : Operator} {f : D2} {pos' : Pos} (hN : X.N.Nodup) (he : PEd X ct E e da) (ho : Opd X ct E (inplaceOp op) f) (hi : X.N[i]? = some x := by rfl) (hx : Loc X.env.scope x := by first | exact Or.inl rfl | exact Or.inr rfl)
    (hf : X.fn x = true ∨ X.env.scope.names.lookup x = some .local := by first | exact .inl rfl | exact .inr rfl | assumption) : PSd X ct E (.AugAssign (.Name x pos') op e pos) (dAug i da f) := by
  obtain ⟨t, a1, a2⟩ := he
  obtain ⟨r, b1, b2⟩ := ho
  exact ⟨_, ps_aug hN hi hx a1 b1 hf, snd_aug a2 b2⟩
theorem o_iadd : Opd X ct E (inplaceOp .Add) fAddI := ⟨_, iop_add, snd_I0 fun _ _ _ _ => vr_int.mpr rfl⟩
theorem o_isub : Opd X ct E (inplaceOp .Sub) fSub := ⟨_, iop_sub, snd_I0 fun _ _ _ _ => vr_int.mpr rfl⟩
theorem xe_bmL {name : Str} {apos cpos : Pos} {id : String} {f : EV → DL} (pa : PlainAttrs "list") (slot : Slot "list" name id) (hty : typeOf (.builtin id) = pure (.type "method_descriptor")) (hm : Mtd X ct E id f) (ho : PEd X ct E a da) (ha : PAd X ct E (e :: es) dr)
    (hbase : attributeBase a name X.env (eval a X.env) = eval a X.env := by rfl)
    (hfew : ((backTo cpos (starEach (e :: es) X.env)).all (fun x => !x.1) && (backToKw cpos (keywordEach [] X.env)).all (fun x => x.1.isSome)
      && decide ((e :: es).length + ([] : List Keyword).length + (if ([] : List Keyword).isEmpty then 0 else 1) < 30)) = true := by rfl)
    (hline : (apos.endLine == cpos.line) = true := by rfl) (hs : starEach (e :: es) X.env = (false, eval e X.env) :: starEach es X.env := by rfl) (hplain : (backTo cpos (starEach es X.env)).any (·.1) = false := by rfl) :
    PEd X ct E (.Call (.Attribute a name apos) (e :: es) [] cpos) (dBM f da dr) := by
  obtain ⟨r, m1, m2⟩ := hm
  obtain ⟨t, a1, a2⟩ := ho
  obtain ⟨u, b1, b2⟩ := ha
  exact ⟨_, pe_bm pa slot hty m1 a1 b1 hbase hfew hline hs hplain, snd_bmL m2 a2 b2⟩
theorem xe_append {apos cpos : Pos} (ho : PEd X ct E a da) (ha : PAd X ct E [e] dr)
    (hbase : attributeBase a "append" X.env (eval a X.env) = eval a X.env := by rfl)
    (hfew : ((backTo cpos (starEach [e] X.env)).all (fun x => !x.1) && (backToKw cpos (keywordEach [] X.env)).all (fun x => x.1.isSome)
      && decide ([e].length + ([] : List Keyword).length + (if ([] : List Keyword).isEmpty then 0 else 1) < 30)) = true := by rfl)
    (hline : (apos.endLine == cpos.line) = true := by rfl) (hs : starEach [e] X.env = (false, eval e X.env) :: starEach [] X.env := by rfl) (hplain : (backTo cpos (starEach [] X.env)).any (·.1) = false := by rfl) :
    PEd X ct E (.Call (.Attribute a "append" apos) [e] [] cpos) (dBM mApp da dr) := xe_bmL PySem.F.plainAttrs_list PySem.F.slot_list_append PySem.F.type_list_append m_app ho ha hbase hfew hline hs hplain
end
structure Wlk where
  src : Option Nat
  xs : List EV
  tl : Nat → EV → EV
def Wlk.cur (it : Wlk) (h : EH) : Option (List EV) := match it.src with
  | none => some it.xs
  | some n => lstAt h n
def JR (G : Gx) (ρ0 : Rho) (H0 : Hp) (it : Wlk) (J : It) : Prop := ∀ ρ H eh xs, Ext G.K ρ0 ρ H0 H → HR G ρ H eh → it.cur eh = some xs →
  (∀ (i : Nat) (x : EV), xs[i]? = some x → J.go i H ∧ ∀ y H', J.yld i H y H' → Ext G.K ρ ρ H H' ∧ HR G ρ H' eh ∧ VR G.K ρ H' (it.tl i x) y) ∧ (∀ (i : Nat), xs[i]? = none → J.stop i H)
abbrev DI := ES → EH → Res Wlk
abbrev SndI (G : Gx) (E : XK) (t : TI) (d : DI) : Prop := Sound G E (JR G) t d
def forGo (it : Wlk) (g : DG) (b : DS) : Nat → Nat → DS
  | 0, _, _, _ => .no
  | m + 1, i, es, h => match it.cur h with
    | none => .no
    | some xs => match xs[i]? with
      | none => .ok (.nx es) h
      | some x => (g (it.tl i x) es h).bind fun es1 h1 => (b es1 h1).bind fun f h2 => match f with
        | .nx es2 => forGo it g b m (i + 1) es2 h2
        | .ct es2 => forGo it g b m (i + 1) es2 h2
        | .bk es2 => .ok (.nx es2) h2
        | .rt v => .ok (.rt v) h2
def dFor (di : DI) (g : DG) (b : DS) : DS := fun es h => (di es h).bind fun it h1 => match it.cur h1 with
  | none => .no
  | some xs => forGo it g b (xs.length + 1) 0 es h1
def dItL (a : DE) : DI := fun es h => (a es h).bind fun x h1 => match x with
  | .ref n => match lstAt h1 n with
    | some _ => .ok ⟨some n, [], fun _ x => x⟩ h1
    | none => .no
  | _ => .no
def dItT (a : DE) : DI := fun es h => (a es h).bind fun x h1 => match x with
  | .tup xs => .ok ⟨none, xs, fun _ x => x⟩ h1
  | _ => .no
def rng (lo : Int) (n : Nat) : List EV := (List.range n).map fun (i : Nat) => .int (lo + i)
def dItR1 (a : DA) : DI := fun es h => (a es h).bind fun xs h1 => match xs with
  | [.int n] => if decide (-100000 ≤ n) && decide (n ≤ 100000) = true then .ok ⟨none, rng 0 n.toNat, fun _ x => x⟩ h1 else .no
  | _ => .no
def dItR2 (a : DA) : DI := fun es h => (a es h).bind fun xs h1 => match xs with
  | [.int lo, .int n] => if decide (-100000 ≤ n) && decide (n ≤ 100000) && decide (-100000 ≤ lo) && decide (lo ≤ 100000) = true then .ok ⟨none, rng lo (n - lo).toNat, fun _ x => x⟩ h1 else .no
  | _ => .no
section
variable {X : Cx} {ct : Nat → Addr × List Str} {E : XK} {G : Gx}
theorem jr_lst {ρ : Rho} {H : Hp} {n : Nat} {a : Addr} (h : adr ρ n = some a) : JR G ρ H ⟨some n, [], fun _ x => x⟩ (Itl G.K a) := fun ρ' H' eh xs e hr hc => by
  obtain ⟨a', vs, g1, g2, g3⟩ := lst_of hr (show lstAt eh n = some xs from hc)
  rw [e.get h] at g1; cases g1
  refine ⟨fun i x hx => ?_, fun i hx => ⟨vs, g2, ?_⟩⟩
  · obtain ⟨v, h1, h2⟩ := g3.get hx
    refine ⟨⟨vs, v, g2, h1⟩, fun y H2 hy => ?_⟩
    obtain ⟨rfl, hy⟩ := hy
    have := hy vs g2
    rw [h1] at this
    cases this
    exact ⟨Ext.refl _ _ _, hr, h2⟩
  · rw [← g3.length]
    exact List.getElem?_eq_none_iff.mp hx
theorem jr_tup {ρ : Rho} {H : Hp} {a : Addr} {xs : List EV} {vs : List V} (h : H a = some (.tup vs)) (hv : VRs G.K ρ H xs vs) : JR G ρ H ⟨none, xs, fun _ x => x⟩ (Itt G.K a) := fun ρ' H' eh ys e hr hc => by
  cases hc
  have g2 := e.tup _ _ h
  have g3 := hv.mono e
  refine ⟨fun i x hx => ?_, fun i hx => ⟨vs, SqT.of g2, ?_⟩⟩
  · obtain ⟨v, h1, h2⟩ := g3.get hx
    refine ⟨⟨vs, v, SqT.of g2, h1⟩, fun y H2 hy => ?_⟩
    obtain ⟨rfl, hy⟩ := hy
    have := hy vs (SqT.of g2)
    rw [h1] at this
    cases this
    exact ⟨Ext.refl _ _ _, hr, h2⟩
  · rw [← g3.length]
    exact List.getElem?_eq_none_iff.mp hx
theorem rng_get {lo : Int} {n i : Nat} {x : EV} (h : (rng lo n)[i]? = some x) : i < n ∧ x = .int (lo + i) := by
  unfold rng at h
  rw [List.getElem?_map] at h
  obtain ⟨j, h1, rfl⟩ := Option.map_eq_some_iff.mp h
  obtain ⟨h2, h3⟩ := List.getElem?_eq_some_iff.mp h1
  simp only [List.length_range] at h2
  simp only [List.getElem_range] at h3
  subst h3
  exact ⟨h2, rfl⟩
theorem rng_len (lo : Int) (n : Nat) : (rng lo n).length = n := by simp [rng]
theorem jr_rng {ρ : Rho} {H : Hp} {lo : Int} {n : Nat} : JR G ρ H ⟨none, rng lo n, fun _ x => x⟩ (Itr lo n) := fun ρ' H' eh ys e hr hc => by
  cases hc
  refine ⟨fun i x hx => ?_, fun i hx => ?_⟩
  · obtain ⟨h1, rfl⟩ := rng_get hx
    refine ⟨h1, fun y H2 hy => ?_⟩
    obtain ⟨rfl, rfl⟩ := hy
    exact ⟨Ext.refl _ _ _, hr, vr_int.mpr rfl⟩
  · have := List.getElem?_eq_none_iff.mp hx
    rw [rng_len] at this
    exact this
theorem snd_itL {tl : TE} {a : DE} (ha : SndE G E tl a) : SndI G E (iList G.K tl) (dItL a) := fun ρ σ H es eh Q rel h => by
  refine ha.bind rel h fun ρ1 H1 x eh1 u e1 rel1 v1 h1 => ?_
  cases x with
  | ref n =>
    simp only at h1
    split at h1
    · rename_i xs e2
      obtain ⟨a1, vs, g1, g2, g3⟩ := lst_of rel1.hr e2
      obtain ⟨a', q1, rfl⟩ := vr_ref.mp v1
      rw [g1] at q1; cases q1
      exact ⟨a1, rfl, ⟨vs, g2⟩, h1 ρ1 H1 _ (Ext.refl _ _ _) rel1.hr (jr_lst g1)⟩
    · exact h1.elim
  | _ => exact h1.elim
theorem snd_itT {tl : TE} {a : DE} (ha : SndE G E tl a) : SndI G E (iTup G.K tl) (dItT a) := fun ρ σ H es eh Q rel h => by
  refine ha.bind rel h fun ρ1 H1 x eh1 u e1 rel1 v1 h1 => ?_
  cases x with
  | tup xs =>
    obtain ⟨a1, vs, rfl, g2, g3⟩ := vr_tup.mp v1
    exact ⟨a1, rfl, ⟨vs, SqT.of g2⟩, h1 ρ1 H1 _ (Ext.refl _ _ _) rel1.hr (jr_tup g2 g3)⟩
  | _ => exact h1.elim
theorem snd_itR1 {ta : TA} {a : DA} (ha : SndA G E ta a) : SndI G E (iRng1 ta) (dItR1 a) := fun ρ σ H es eh Q rel h => by
  refine ha.bind rel h fun ρ1 H1 x eh1 u e1 rel1 v1 h1 => ?_
  split at h1
  · rename_i n
    split at h1
    · rename_i hc
      simp only [Bool.and_eq_true, decide_eq_true_eq] at hc
      obtain ⟨v, rfl, hv⟩ := vrs_one v1
      rw [vr_int.mp hv]
      exact ⟨n, rfl, by omega, by omega, h1 ρ1 H1 _ (Ext.refl _ _ _) rel1.hr jr_rng⟩
    · exact h1.elim
  · exact h1.elim
theorem snd_itR2 {ta : TA} {a : DA} (ha : SndA G E ta a) : SndI G E (iRng2 ta) (dItR2 a) := fun ρ σ H es eh Q rel h => by
  refine ha.bind rel h fun ρ1 H1 x eh1 u e1 rel1 v1 h1 => ?_
  split at h1
  · rename_i lo n
    split at h1
    · rename_i hc
      simp only [Bool.and_eq_true, decide_eq_true_eq] at hc
      obtain ⟨v, w, rfl, hv, hw⟩ := vrs_two v1
      rw [vr_int.mp hv, vr_int.mp hw]
      exact ⟨lo, n, rfl, ⟨by omega, by omega, by omega, by omega⟩, h1 ρ1 H1 _ (Ext.refl _ _ _) rel1.hr jr_rng⟩
    · exact h1.elim
  · exact h1.elim
theorem snd_for {wi : TI} {g : TG} {tb : TS} {di : DI} {dg : DG} {b : DS} (hi : SndI G E wi di) (hg : SndG G E g dg) (hb : SndS G E tb b) : SndS G E (tFor wi g tb) (dFor di dg b) := fun ρ σ H es eh D rel h => by
  refine hi.bind rel h fun ρ1 H1 it eh1 J e1 rel1 jr h1 => ?_
  split at h1
  · exact h1.elim
  · rename_i xs0 _
    refine ⟨fun i m σ H => ∃ ρ' es eh, Ext G.K ρ1 ρ' H1 H ∧ Rel G ρ' σ H es eh ∧ wr G (RF G) ρ' H (forGo it dg b m i es eh) (qD D) E, ⟨_, ρ1, es, eh1, Ext.refl _ _ _, rel1, h1⟩, ?_⟩
    rintro i m σ' H' ⟨ρ', es', eh', e', rel', hw⟩
    cases m with
    | zero => exact hw.elim
    | succ m =>
      unfold forGo at hw
      split at hw
      · exact hw.elim
      · rename_i xs hxs
        obtain ⟨j1, j2⟩ := jr ρ' H' eh' xs e' rel'.hr hxs
        split at hw
        · rename_i hn
          exact .inl ⟨j2 i hn, hw ρ' H' (.nx σ') (Ext.refl _ _ _) rel'.hr rel'.sl⟩
        · rename_i x hx
          obtain ⟨go, yl⟩ := j1 i x hx
          refine .inr ⟨go, fun σ2 H2 => ∃ ρ2 es2 eh2, Ext G.K ρ1 ρ2 H1 H2 ∧ Rel G ρ2 σ2 H2 es2 eh2 ∧ wr G (RF G) ρ2 H2 (forGo it dg b m (i + 1) es2 eh2) (qD D) E, fun σ2 H2 q => ⟨m, Nat.lt_succ_self m, q⟩, fun y H3 hy => ?_⟩
          obtain ⟨e3, hr3, v3⟩ := yl y H3 hy
          refine hg.bind (rel'.ext e3 hr3) v3 (hw.mono e3) fun ρ4 H4 es4 eh4 σ4 e4 rel4 _ h4 => ?_
          refine hb.bind rel4 h4 fun ρ5 H5 f eh5 vf e5 hr5 rf h5 => ?_
          have et := ((e'.trans e3).trans e4).trans e5
          cases f with
          | nx es5 =>
            cases vf with
            | nx σ5 => exact ⟨ρ5, es5, eh5, et, ⟨rf, hr5⟩, h5⟩
            | _ => exact rf.elim
          | ct es5 =>
            cases vf with
            | ct σ5 => exact ⟨ρ5, es5, eh5, et, ⟨rf, hr5⟩, h5⟩
            | _ => exact rf.elim
          | bk es5 =>
            cases vf with
            | bk σ5 => exact h5 ρ5 H5 (.nx σ5) (Ext.refl _ _ _) hr5 rf
            | _ => exact rf.elim
          | rt v =>
            cases vf with
            | rt w => exact h5 ρ5 H5 (.rt w) (Ext.refl _ _ _) hr5 rf
            | _ => exact rf.elim
def PId (X : Cx) (ct : Nat → Addr × List Str) (E : XK) (tg iter : Expr) (d : DI) : Prop := ∃ t, PI X tg iter t ∧ SndI ⟨X.K, ct⟩ E t d
variable {tg iter a b : Expr} {da db : DE} {dr : DA} {di : DI} {dg : DG} {ds : DS} {body : List Stmt} {pos p : Pos}
theorem xi_list (h : PEd X ct E a da) : PId X ct E tg a (dItL da) := by
  obtain ⟨t, h1, h2⟩ := h
  exact ⟨_, pi_list h1, snd_itL h2⟩
theorem xi_tup (h : PEd X ct E a da) : PId X ct E tg a (dItT da) := by
  obtain ⟨t, h1, h2⟩ := h
  exact ⟨_, pi_tup h1, snd_itT h2⟩
theorem xi_rng1 (hg : Gl X "range") (hm : X.mg "range" = none) (ha : PAd X ct E [a] dr) (hs : starEach [a] X.env = [(false, eval a X.env)] := by rfl) : PId X ct E tg (.Call (.Name "range" p) [a] [] pos) (dItR1 dr) := by
  obtain ⟨t, h1, h2⟩ := ha
  exact ⟨_, pi_range1 hg hm h1 hs, snd_itR1 h2⟩
theorem xi_rng2 (hg : Gl X "range") (hm : X.mg "range" = none) (ha : PAd X ct E [a, b] dr) (hs : starEach [a, b] X.env = [(false, eval a X.env), (false, eval b X.env)] := by rfl) (hs2 : starEach [b] X.env = [(false, eval b X.env)] := by rfl) :
    PId X ct E tg (.Call (.Name "range" p) [a, b] [] pos) (dItR2 dr) := by
  obtain ⟨t, h1, h2⟩ := ha
  exact ⟨_, pi_range2 hg hm h1 hs hs2, snd_itR2 h2⟩
theorem xs_for (hp : PassesOwn (model X.prog X.w) X.A X.env X.xe) (hc : X.calm = true) (hi : PId X ct E tg iter di) (hg : PGd X ct E tg dg) (hb : PSsd X ct E body ds)
    (hs : ∀ x, foldedSetIterable iter X.env x = pure x := by intro _; rfl) : PSd X ct E (.For tg iter body [] pos) (dFor di dg ds) := by
  obtain ⟨t, a1, a2⟩ := hi
  obtain ⟨u, b1, b2⟩ := hg
  obtain ⟨w, c1, c2⟩ := hb
  exact ⟨_, ps_for hp hc a1 b1 c1 hs, snd_for a2 b2 c2⟩
end
def lcGo (it : Wlk) (g : DG) (t : DT) (e : DE) (vs : List Nat) : Nat → Nat → List EV → ES → EH → Res (List EV)
  | 0, _, _, _, _ => .no
  | m + 1, i, acc, es, h => match it.cur h with
    | none => .no
    | some xs => match xs[i]? with
      | none => .ok acc h
      | some x => (g (it.tl i x) (wip es vs) h).bind fun es1 h1 => (t es1 h1).bind fun b h2 => if b = true then (e es1 h2).bind fun y h3 => (if acc.length < 50000 then lcGo it g t e vs m (i + 1) (acc ++ [y]) es h3 else .no) else lcGo it g t e vs m (i + 1) acc es h2
def dLc (di : DI) (g : DG) (t : DT) (e : DE) (vs : List Nat) : DE := fun es h => (di es h).bind fun it h1 => match it.cur h1 with
  | none => .no
  | some xs => (lcGo it g t e vs (xs.length + 1) 0 [] es h1).bind fun ys h2 => .ok (.ref h2.length) (h2 ++ [.lst ys])
def OnlyIn (g : TG) (vs : List Nat) : Prop := ∀ (τ : L2.St) (v : V) (σ : L2.St) (H : Hp) (Q Q' : L2.St → Hp → Prop), wipe σ vs = τ → (∀ σ2 H2, wipe σ2 vs = τ → Q σ2 H2 → Q' σ2 H2) → g v σ H Q → g v σ H Q'
def OnlyIns (g : TGs) (vs : List Nat) : Prop := ∀ (τ : L2.St) (v : List V) (σ : L2.St) (H : Hp) (Q Q' : L2.St → Hp → Prop), wipe σ vs = τ → (∀ σ2 H2, wipe σ2 vs = τ → Q σ2 H2 → Q' σ2 H2) → g v σ H Q → g v σ H Q'
theorem wipe_set {σ : L2.St} {i : Nat} {x : Option V} : ∀ {vs : List Nat}, i ∈ vs → wipe (σ.set i x) vs = wipe σ vs := by
  have comm : ∀ (vs : List Nat) (σ : L2.St) (i : Nat), i ∉ vs → ∀ x, wipe (σ.set i x) vs = (wipe σ vs).set i x := by
    intro vs
    induction vs with
    | nil => intro σ i _ x; rfl
    | cons v vs ih =>
      intro σ i hi x
      simp only [List.mem_cons, not_or] at hi
      show (wipe (σ.set i x) vs).set v none = ((wipe σ vs).set v none).set i x
      rw [ih σ i hi.2 x, List.set_comm _ _ hi.1]
  intro vs hi
  induction vs with
  | nil => cases hi
  | cons v vs ih =>
    show (wipe (σ.set i x) vs).set v none = (wipe σ vs).set v none
    by_cases h : i ∈ vs
    · rw [ih h]
    · have e : i = v := by
        rcases List.mem_cons.mp hi with e | e
        · exact e
        · exact absurd e h
      subst e
      rw [comm vs σ i h x, List.set_set]
theorem wipe_wipe {σ : L2.St} : ∀ vs : List Nat, wipe (wipe σ vs) vs = wipe σ vs := by
  have key : ∀ (ws vs : List Nat), (∀ v ∈ ws, v ∈ vs) → wipe (wipe σ ws) vs = wipe σ vs := by
    intro ws
    induction ws with
    | nil => intro vs _; rfl
    | cons w ws ih =>
      intro vs h
      show wipe ((wipe σ ws).set w none) vs = wipe σ vs
      rw [wipe_set (h w List.mem_cons_self)]
      exact ih vs fun v hv => h v (List.mem_cons_of_mem _ hv)
  exact fun vs => key vs vs fun _ h => h
theorem only_name {i : Nat} {vs : List Nat} (h : i ∈ vs) : OnlyIn (gName i) vs := fun τ v σ H Q Q' hw hq q => hq _ _ ((wipe_set h).trans hw) q
theorem only_nil {vs : List Nat} : OnlyIns gNil vs := fun τ v σ H Q Q' hw hq q => ⟨q.1, hq _ _ hw q.2⟩
theorem only_cons {g : TG} {u : TGs} {vs : List Nat} (h : OnlyIn g vs) (hu : OnlyIns u vs) : OnlyIns (gCons g u) vs := fun τ xs σ H Q Q' hw hq q => by
  obtain ⟨v, r, e, q⟩ := q
  exact ⟨v, r, e, h τ v σ H _ _ hw (fun σ1 H1 w1 q1 => hu τ r σ1 H1 Q Q' w1 hq q1) q⟩
theorem only_tup {K : Fg} {n : Nat} {u : TGs} {vs : List Nat} (hu : OnlyIns u vs) : OnlyIn (gTup K n u) vs := fun τ v σ H Q Q' hw hq q => by
  obtain ⟨a, xs, e, h1, hl, q⟩ := q
  exact ⟨a, xs, e, h1, hl, hu τ xs σ H Q Q' hw hq q⟩
section
variable {X : Cx} {ct : Nat → Addr × List Str} {E : XK} {G : Gx}
theorem SR.bare {K : Fg} {ρ : Rho} {H H' : Hp} {es : ES} {σ : L2.St} (e : Ext0 K ρ ρ H H') (h : SR K ρ H es σ) : SR K ρ H' es σ := ⟨h.1, fun i v hv => by
  obtain ⟨u, h1, h2⟩ := h.2 i v hv
  exact ⟨u, h1, VR.mono0 e _ _ h2⟩⟩
theorem ext0_upd {K : Fg} {ρ : Rho} {H : Hp} {p : Addr} {xs : List V} {u : HO} (h : H p = some (.lst xs)) : Ext0 K ρ ρ H (upd H p u) where
  pre := ⟨[], by simp⟩
  tup := fun a ys q => by
    rw [upd_ne]
    · exact q
    · intro z
      subst z
      rw [h] at q
      cases q
  frz := fun a o v q => by
    rw [upd_ne]
    · exact q
    · intro z
      subst z
      rw [h] at q
      cases q
theorem snd_lc {wi : TI} {g : TG} {tt : TT} {te : TE} {vs : List Nat} {di : DI} {dg : DG} {dt : DT} {de : DE} (hi : SndI G E wi di) (hg : SndG G E g dg) (ho : OnlyIn g vs) (ht : SndT G E tt dt) (he : SndE G E te de) : SndE G E (tLc wi g tt te vs) (dLc di dg dt de vs) := fun ρ σ H es eh Q rel h => by
  refine hi.bind rel h fun ρ1 H1 it eh1 J e1 rel1 jr h1 => ?_
  split at h1
  · exact h1.elim
  · rename_i xs0 _
    intro Dl hD
    refine ⟨fun i m H => ∃ ρ' eh acc us, Ext G.K ρ1 ρ' H1 H ∧ HR G ρ' H eh ∧ (true, Dl) ∉ ρ' ∧ H Dl = some (.lst us) ∧ VRs G.K ρ' H acc us ∧
      wr G (VR G.K) ρ1 H1 ((lcGo it dg dt de vs m i acc es eh).bind fun ys h2 => .ok (.ref h2.length) (h2 ++ [.lst ys])) Q E,
      ⟨_, ρ1, eh1, [], [], Ext.side _ hD, rel1.hr.side _ hD, rel1.hr.fresh hD, upd_same, vrs_nil.mpr rfl, h1⟩, ?_⟩
    rintro i m H' ⟨ρ', eh', acc, us, e', hr', hn, hDl, hacc, hw⟩
    cases m with
    | zero => exact hw.elim
    | succ m =>
      unfold lcGo at hw
      split at hw
      · exact hw.elim
      · rename_i xs hxs
        obtain ⟨j1, j2⟩ := jr ρ' H' eh' xs e' hr' hxs
        split at hw
        · rename_i hnone
          refine .inl ⟨j2 i hnone, ?_⟩
          have e5 := e'.push hD
          have e0 : Ext0 G.K ρ' (ρ' ++ [(true, Dl)]) H' H' := ⟨⟨[(true, Dl)], rfl⟩, fun _ _ q => q, fun _ _ _ q => q⟩
          exact hw (ρ' ++ [(true, Dl)]) H' _ e5 (hr'.push hn rfl ⟨us, hDl, VRs.mono0 e0 _ _ hacc⟩) (vr_ref.mpr ⟨Dl, last_get hr'.len, rfl⟩)
        · rename_i x hx
          obtain ⟨go, yl⟩ := j1 i x hx
          refine .inr ⟨go, fun H2 => ∃ ρ2 eh2 acc2 us2, Ext G.K ρ1 ρ2 H1 H2 ∧ HR G ρ2 H2 eh2 ∧ (true, Dl) ∉ ρ2 ∧ H2 Dl = some (.lst us2) ∧ VRs G.K ρ2 H2 acc2 us2 ∧
            wr G (VR G.K) ρ1 H1 ((lcGo it dg dt de vs m (i + 1) acc2 es eh2).bind fun ys h2 => .ok (.ref h2.length) (h2 ++ [.lst ys])) Q E, fun H2 q => ⟨m, Nat.lt_succ_self m, q⟩, fun y H3 hy => ?_⟩
          obtain ⟨e3, hr3, v3⟩ := yl y H3 hy
          have keepD : ∀ {ρa ρb : Rho} {Ha Hb : Hp} {vs : List V}, Ext G.K ρa ρb Ha Hb → (true, Dl) ∉ ρa → Ha Dl = some (.lst vs) → (true, Dl) ∉ ρb ∧ Hb Dl = some (.lst vs) := fun e hn h => by
            refine ⟨fun hm => ?_, e.rest _ _ h hn⟩
            rcases e.new _ hm with z | z
            · exact hn z
            · rw [h] at z; cases z
          have d3 := keepD e3 hn hDl
          have sr : SR G.K ρ' H3 (wip es vs) (wipe σ vs) := ((rel1.sl.mono e').mono e3).wip vs
          have en : Ext G.K ρ1 ρ' H1 H3 := e'.trans e3
          refine ho (wipe σ vs) y (wipe σ vs) H3 (fun σ2 H2 => tt σ2 H2 fun b H3 =>
              if b = true then te σ2 H3 fun y H4 => ∃ acc, H4 Dl = some (.lst acc) ∧ acc.length < sizeLine ∧ (∃ ρ2 eh2 acc2 us2, Ext G.K ρ1 ρ2 H1 (upd H4 Dl (.lst (acc ++ [y]))) ∧ HR G ρ2 (upd H4 Dl (.lst (acc ++ [y]))) eh2 ∧ (true, Dl) ∉ ρ2 ∧ (upd H4 Dl (.lst (acc ++ [y]))) Dl = some (.lst us2) ∧ VRs G.K ρ2 (upd H4 Dl (.lst (acc ++ [y]))) acc2 us2 ∧
                wr G (VR G.K) ρ1 H1 ((lcGo it dg dt de vs m (i + 1) acc2 es eh2).bind fun ys h2 => .ok (.ref h2.length) (h2 ++ [.lst ys])) Q E)
              else ∃ ρ2 eh2 acc2 us2, Ext G.K ρ1 ρ2 H1 H3 ∧ HR G ρ2 H3 eh2 ∧ (true, Dl) ∉ ρ2 ∧ H3 Dl = some (.lst us2) ∧ VRs G.K ρ2 H3 acc2 us2 ∧
                wr G (VR G.K) ρ1 H1 ((lcGo it dg dt de vs m (i + 1) acc2 es eh2).bind fun ys h2 => .ok (.ref h2.length) (h2 ++ [.lst ys])) Q E) _ (wipe_wipe vs) (fun σ2 H2 w q => ⟨w, q⟩) ?_
          refine hg ρ' (wipe σ vs) H3 (wip es vs) eh' (it.tl i x) y _ ⟨sr, hr3⟩ v3 ?_
          · skip
            cases qg : dg (it.tl i x) (wip es vs) eh' with
            | no =>
              rw [qg] at hw
              exact hw
            | er z h' =>
              rw [qg] at hw
              exact fun ρ' H' c own e' hr q => hw ρ' H' c own (en.trans e') hr q
            | ok es4 eh4 =>
              rw [qg] at hw
              intro ρ4 H4 σ4 e4 hr4 sr4
              have d4 := keepD e4 d3.1 d3.2
              have hw4 : wr G (VR G.K) ρ1 H1 ((dt es4 eh4).bind fun b h2 => (if b = true then (de es4 h2).bind fun y h3 => (if acc.length < 50000 then lcGo it dg dt de vs m (i + 1) (acc ++ [y]) es h3 else .no) else lcGo it dg dt de vs m (i + 1) acc es h2).bind fun ys h2 => .ok (.ref h2.length) (h2 ++ [.lst ys])) Q E := by
                have hw' := hw
                simp only [bind_ok] at hw'
                cases qt : dt es4 eh4 with
                | ok b h2 => rw [qt] at hw'; exact hw'
                | er z h2 => rw [qt] at hw'; exact hw'
                | no => rw [qt] at hw'; exact hw'
              refine ht.bind0 ⟨sr4, hr4⟩ (en.trans e4) hw4 fun ρ5 H5 b eh5 b' e5 rel5 v5 h5 => ?_
              subst v5
              have d5 := keepD e5 d4.1 d4.2
              have e15 := (en.trans e4).trans e5
              cases b with
              | false =>
                refine iteF ⟨ρ5, eh5, acc, us, e15, rel5.hr, d5.1, d5.2, ((hacc.mono e3).mono e4).mono e5, h5⟩
              | true =>
                have h5' : wr G (VR G.K) ρ1 H1 ((de es4 eh5).bind fun y h3 => (if acc.length < 50000 then lcGo it dg dt de vs m (i + 1) (acc ++ [y]) es h3 else .no).bind fun ys h2 => .ok (.ref h2.length) (h2 ++ [.lst ys])) Q E := by
                  have hw' := h5
                  simp only [if_true] at hw'
                  cases qt : de es4 eh5 with
                  | ok b h2 => rw [qt] at hw'; exact hw'
                  | er z h2 => rw [qt] at hw'; exact hw'
                  | no => rw [qt] at hw'; exact hw'
                refine iteT (he.bind0 rel5 e15 h5' fun ρ6 H6 y6 eh6 u6 e6 rel6 v6 h6 => ?_)
                have d6 := keepD e6 d5.1 d5.2
                have hacc6 := (((hacc.mono e3).mono e4).mono e5).mono e6
                split at h6
                · rename_i hl
                  have em : Ext G.K ρ1 ρ6 H1 (upd H6 Dl (.lst (us ++ [u6]))) := (e15.trans e6).mut hD
                  have eb : Ext0 G.K ρ6 ρ6 H6 (upd H6 Dl (.lst (us ++ [u6]))) := ext0_upd d6.2
                  refine ⟨us, d6.2, ?_, ρ6, eh6, acc ++ [y6], us ++ [u6], em, rel6.hr.ext eb fun a ha => upd_ne fun z => d6.1 (z ▸ ha), d6.1, upd_same, VRs.mono0 eb _ _ (hacc6.append (VRs.one v6)), h6⟩
                  rw [← hacc6.length]
                  exact Nat.lt_of_lt_of_le hl (by decide)
                · exact h6.elim
end
end EE
set_option Elab.async false
set_option linter.all false
set_option maxRecDepth 100000
set_option maxHeartbeats 1000000
namespace EE
open PySem PySem.Spec PyProof.Rows L2
def Res.noer {α : Type} (r : Res α) : Res α := match r with
  | .er _ _ => .no
  | z => z
@[simp] theorem noer_ok {α : Type} (v : α) (h : EH) : (Res.ok v h).noer = .ok v h := rfl
@[simp] theorem noer_no {α : Type} : (Res.no : Res α).noer = .no := rfl
def dDef (np N : Nat) (b : DS) : DL := fun args h => if args.length = np then (b (args.map some ++ List.replicate (N - args.length) none) h).bind fun f h1 => match f with
  | .nx _ => .ok .non h1
  | .rt v => .ok v h1
  | .bk _ => .no
  | .ct _ => .no
  else .no
def dCall (f : DL) (a : DA) : DE := fun es h => (a es h).bind fun xs h1 => (f xs h1).noer
def spD0 (G : Gx) (f : DL) : Sp := fun vs H Q _ => ∃ ρ xs eh, VRs G.K ρ H xs vs ∧ HR G ρ H eh ∧ wr G (VR G.K) ρ H (f xs eh) Q E0
theorem wr_noer {α β : Type} {G : Gx} {R : Rho → Hp → α → β → Prop} {ρ : Rho} {H : Hp} {r : Res α} {Q : β → Hp → Prop} {E E' : XK} (h : wr G R ρ H r.noer Q E) : wr G R ρ H r Q E' := by
  cases r with
  | ok v h' => exact h
  | er x h' => exact h.elim
  | no => exact h
theorem sr_start {K : Fg} {ρ : Rho} {H : Hp} {xs : List EV} {vs : List V} (N : List Str) (h : VRs K ρ H xs vs) : SR K ρ H (xs.map some ++ List.replicate (N.length - xs.length) none) (L2.start N vs) := by
  have hl := h.length
  refine ⟨by simp [L2.start, hl], fun i v hv => ?_⟩
  unfold L2.start
  by_cases hi : i < xs.length
  · rw [List.getElem?_append_left (by simpa using hi), List.getElem?_map] at hv
    obtain ⟨y, h1, h2⟩ := Option.map_eq_some_iff.mp hv
    cases h2
    obtain ⟨u, h3, h4⟩ := h.get h1
    refine ⟨u, ?_, h4⟩
    rw [List.getElem?_append_left (by rw [List.length_map, ← hl]; exact hi), List.getElem?_map, h3]
    rfl
  · rw [List.getElem?_append_right (by simpa using hi)] at hv
    rw [List.getElem?_replicate] at hv
    split at hv
    · cases hv
    · cases hv
section
variable {P : Program} {w : World} {K : Fg} {mg : Str → Option Value} {base : Heap} {ct : Nat → Addr × List Str}
theorem fn_d {x qual : Str} {st : Stmt} {f : Addr} {fd : FuncData} {N ps : List Str} {k : Nat} {d : DS} (F : Fun K x qual st f fd) (S : FnScope N ps (defScope st))
    (h : ∀ (cdv : Value) (A : Around) (outer : List Env) (s : Shared) (H : Hp) (E : XK), Room k (A.deeper (envOfC qual (defScope st) s.heap.objs.size f cdv)) → PSsd (cxOf CX0 P w K mg base N qual (defScope st) f cdv A outer s H E).nox ct E0 (defBody st) d) :
    FnOk P w K mg base CX0 (k + 1) f fd ps (spD0 ⟨K, ct⟩ (dDef ps.length N.length d)) := by
  refine F.ok S (fun vs H Q E hs => ?_) fun cdv A outer s H vs Q E hr hs => ?_
  · obtain ⟨ρ, xs, eh, h1, h2, h3⟩ := hs
    rw [← h1.length]
    unfold dDef at h3
    split at h3
    · assumption
    · exact h3.elim
  · obtain ⟨ρ, xs, eh, h1, h2, h3⟩ := hs
    obtain ⟨t, b1, b2⟩ := h cdv A outer s H E hr
    refine ⟨t, b1, b2 ρ (L2.start N vs) H _ eh _ ⟨sr_start N h1, h2⟩ ?_⟩
    unfold dDef at h3
    split at h3
    · cases q : d (xs.map some ++ List.replicate (N.length - xs.length) none) eh with
      | no => rw [q] at h3; exact h3
      | er z h' => rw [q] at h3; exact h3
      | ok fl h' =>
        rw [q] at h3
        intro ρ' H' vf e hr' rf
        cases fl with
        | nx es' =>
          cases vf with
          | nx σ' => exact h3 ρ' H' .non e hr' (vr_non.mpr rfl)
          | _ => exact rf.elim
        | rt v =>
          cases vf with
          | rt u => exact h3 ρ' H' u e hr' rf
          | _ => exact rf.elim
        | bk _ => exact h3.elim
        | ct _ => exact h3.elim
    · exact h3.elim
def FnD (P : Program) (w : World) (K : Fg) (mg : Str → Option Value) (base : Heap) (ct : Nat → Addr × List Str) (k : Nat) (x : Str) (fn : DL) : Prop := ∃ f fd ps, FnOk P w K mg base CX0 k f fd ps (spD0 ⟨K, ct⟩ fn) ∧ mg x = some (.ref f) ∧ PySem.W.keepIn K (.ref f) = true ∧ Binds K fd ps []
theorem FnD.mono {j k : Nat} {x : Str} {fn : DL} (F : FnD P w K mg base ct j x fn) (h : j ≤ k) : FnD P w K mg base ct k x fn := by
  obtain ⟨f, fd, ps, h1, h2⟩ := F
  exact ⟨f, fd, ps, h1.mono h, h2⟩
def Tx (K : Fg) (mg : Str → Option Value) (x : Str) (st : Stmt) (ps : List Str) : Prop := ∃ f fd, Fun K x x st f fd ∧ mg x = some (.ref f) ∧ Binds K fd ps []
theorem fnd_mk {x : Str} {st : Stmt} {N ps : List Str} {k : Nat} {d : DS} (T : Tx K mg x st ps) (S : FnScope N ps (defScope st))
    (h : ∀ (f : Addr) (cdv : Value) (A : Around) (outer : List Env) (s : Shared) (H : Hp) (E : XK), Room k (A.deeper (envOfC x (defScope st) s.heap.objs.size f cdv)) → PSsd (cxOf CX0 P w K mg base N x (defScope st) f cdv A outer s H E).nox ct E0 (defBody st) d) :
    FnD P w K mg base ct (k + 1) x (dDef ps.length N.length d) := by
  obtain ⟨f, fd, F, hm, hb⟩ := T
  exact ⟨f, fd, ps, fn_d F S (h f), hm, F.kp, hb⟩
theorem fnd_zero {x : Str} {st : Stmt} {ps : List Str} (T : Tx K mg x st ps) : FnD P w K mg base ct 0 x (fun _ _ => .no) := by
  obtain ⟨f, fd, F, hm, hb⟩ := T
  refine ⟨f, fd, ps, ⟨fun vs H Q E hs => ?_, fun A outer s H args us vs Q E _ _ _ _ hs => ?_⟩, hm, F.kp, hb⟩
  · obtain ⟨_, _, _, _, _, h3⟩ := hs
    exact h3.elim
  · obtain ⟨_, _, _, _, _, h3⟩ := hs
    exact h3.elim
end
section
variable {X : Cx} {ct : Nat → Addr × List Str} {E : XK} {e : Expr} {es : List Expr} {pos p : Pos} {dr : DA}
theorem xe_call {k : Nat} {x : Str} {fn : DL} (F : FnD X.prog X.w X.K X.mg X.base ct k x fn) (hr : Room k X.A) (hg : Gl X x) (ha : PAd X ct E (e :: es) dr) (hdb : (x == ("__debug__" : Str)) = false := by decide)
    (he : starEach (e :: es) X.env = (false, eval e X.env) :: starEach es X.env := by rfl) (hpl : (backTo pos (starEach es X.env)).any (·.1) = false := by rfl) : PEd X ct E (.Call (.Name x p) (e :: es) [] pos) (dCall fn dr) := by
  obtain ⟨f, fd, ps, h1, hm, hk, hb⟩ := F
  obtain ⟨ta, a1, a2⟩ := ha
  refine ⟨_, pe_call h1 hr hg hm hk hb .nil pass0 a1 hdb he hpl, fun ρ σ H es eh Q rel h => ?_⟩
  refine a2.bind rel h fun ρ1 H1 xs eh1 us e1 rel1 v1 h1 => ?_
  exact ⟨ρ1, xs, eh1, by rw [List.append_nil]; exact v1, rel1.hr, wr_noer h1⟩
def tE (G : Gx) (E : XK) (d : DE) : TE := fun σ H Q => ∃ ρ es eh, Rel G ρ σ H es eh ∧ wr G (VR G.K) ρ H (d es eh) Q E
def tT (G : Gx) (E : XK) (d : DT) : TT := fun σ H Q => ∃ ρ es eh, Rel G ρ σ H es eh ∧ wr G RB ρ H (d es eh) Q E
theorem PEd.can {d : DE} (h : PEd X ct E e d) : PE X e (tE ⟨X.K, ct⟩ E d) := by
  obtain ⟨t, h1, h2⟩ := h
  exact ⟨fun pins s σ H Q I ⟨ρ, es, eh, r, w⟩ => h1.run pins s σ H Q I (h2 ρ σ H es eh Q r w)⟩
theorem PTd.can {d : DT} (h : PTd X ct E e d) : PT X e (tT ⟨X.K, ct⟩ E d) := by
  obtain ⟨t, h1, h2⟩ := h
  exact ⟨fun pins s σ H Q I ⟨ρ, es, eh, r, w⟩ => h1.run pins s σ H Q I (h2 ρ σ H es eh Q r w)⟩
theorem snd_tE {G : Gx} {d : DE} : SndE G E (tE G E d) d := fun ρ σ H es eh Q r w => ⟨ρ, es, eh, r, w⟩
theorem snd_tT {G : Gx} {d : DT} : SndT G E (tT G E d) d := fun ρ σ H es eh Q r w => ⟨ρ, es, eh, r, w⟩
def dYes : DT := fun _ h => .ok true h
theorem snd_yes {G : Gx} : SndT G E tYes dYes := fun ρ σ H es eh Q rel h => h ρ H true (Ext.refl _ _ _) rel.hr rfl
variable {elt tg iter c : Expr} {scope : Scope} {di : DI} {dt : DT} {de : DE}
theorem xe_lc1 (i : Nat) {x : Str} {px : Pos} (hc : X.calm = true) (hN : X.N.Nodup) (hi : PId X ct E (.Name x px) iter di) (he : ∀ (s : Shared) (H : Hp) (C : Addr) (cl : List (Str × Addr)) (fp : List Addr), PEd (X.blk s H scope (compEnvC scope cl C X.env) fp) ct E elt de)
    (ok : blkC X.N X.env.scope scope [(x, i)] = true := by kernel_rfl)
    (hg : ∀ (s : Shared) (H : Hp) (C : Addr) (cl : List (Str × Addr)) (fp : List Addr), PG (X.blk s H scope (compEnvC scope cl C X.env) fp) (.Name x px) (gName i) := by exact fun _ _ _ _ _ => pg_name (by assumption) rfl (by first | exact Or.inl rfl | exact Or.inr rfl))
    (hs : ∀ x, foldedSetIterable iter X.env x = pure x := by intro _; rfl) :
    PEd X ct E (.ListComp elt [⟨.Name x px, iter, [], 0⟩] scope pos) (dLc di (dName i) dYes de [i]) := by
  obtain ⟨wi, i1, i2⟩ := hi
  exact ⟨_, pe_lc (own := [(x, i)]) hc hN i1 (blkOk_by ok) hg (fun _ _ _ _ _ => pts_nil) (fun s H C cl fp => (he s H C cl fp).can) hs, snd_lc i2 snd_gname (only_name (by simp)) snd_yes snd_tE⟩
theorem xe_lc1i (i : Nat) {x : Str} {px : Pos} (hc : X.calm = true) (hN : X.N.Nodup) (hi : PId X ct E (.Name x px) iter di) (ht : ∀ (s : Shared) (H : Hp) (C : Addr) (cl : List (Str × Addr)) (fp : List Addr), PTd (X.blk s H scope (compEnvC scope cl C X.env) fp) ct E c dt)
    (he : ∀ (s : Shared) (H : Hp) (C : Addr) (cl : List (Str × Addr)) (fp : List Addr), PEd (X.blk s H scope (compEnvC scope cl C X.env) fp) ct E elt de)
    (ok : blkC X.N X.env.scope scope [(x, i)] = true := by kernel_rfl)
    (hg : ∀ (s : Shared) (H : Hp) (C : Addr) (cl : List (Str × Addr)) (fp : List Addr), PG (X.blk s H scope (compEnvC scope cl C X.env) fp) (.Name x px) (gName i) := by exact fun _ _ _ _ _ => pg_name (by assumption) rfl (by first | exact Or.inl rfl | exact Or.inr rfl))
    (hs : ∀ x, foldedSetIterable iter X.env x = pure x := by intro _; rfl) :
    PEd X ct E (.ListComp elt [⟨.Name x px, iter, [c], 0⟩] scope pos) (dLc di (dName i) dt de [i]) := by
  obtain ⟨wi, i1, i2⟩ := hi
  exact ⟨_, pe_lc (own := [(x, i)]) hc hN i1 (blkOk_by ok) hg (fun s H C cl fp => pts_one (ht s H C cl fp).can) (fun s H C cl fp => (he s H C cl fp).can) hs, snd_lc i2 snd_gname (only_name (by simp)) snd_tT snd_tE⟩
theorem xs_setLc1 (j i : Nat) {x y : Str} {px py spos : Pos} (hc : X.calm = true) (hN : X.N.Nodup) (hi : PId X ct E (.Name x px) iter di) (he : ∀ (s : Shared) (H : Hp) (C : Addr) (cl : List (Str × Addr)) (fp : List Addr), PEd (X.blk s H scope (compEnvC scope cl C X.env) fp) ct E elt de)
    (hsw : swapsWith (.ListComp elt [⟨.Name x px, iter, [], 0⟩] scope pos) (some (.Name y py)) spos.line X.env = pure true)
    (ok : blkC X.N X.env.scope scope [(x, i)] = true := by kernel_rfl)
    (hg : ∀ (s : Shared) (H : Hp) (C : Addr) (cl : List (Str × Addr)) (fp : List Addr), PG (X.blk s H scope (compEnvC scope cl C X.env) fp) (.Name x px) (gName i) := by exact fun _ _ _ _ _ => pg_name (by assumption) rfl (by first | exact Or.inl rfl | exact Or.inr rfl))
    (hy : X.N[j]? = some y := by rfl) (hyl : X.env.scope.names.lookup y = some .local := by rfl) (hs : ∀ x, foldedSetIterable iter X.env x = pure x := by intro _; rfl) :
    PSd X ct E (.Assign [.Name y py] (.ListComp elt [⟨.Name x px, iter, [], 0⟩] scope pos) spos) (dAsg (dLc di (dName i) dYes de [i]) (dName j)) := by
  obtain ⟨wi, i1, i2⟩ := hi
  exact ⟨_, ps_setLc (own := [(x, i)]) hc hN hy hyl hsw i1 (blkOk_by ok) hg (fun _ _ _ _ _ => pts_nil) (fun s H C cl fp => (he s H C cl fp).can) hs, snd_asg (snd_lc i2 snd_gname (only_name (by simp)) snd_yes snd_tE) snd_gname⟩
theorem xs_setLc1i (j i : Nat) {x y : Str} {px py spos : Pos} (hc : X.calm = true) (hN : X.N.Nodup) (hi : PId X ct E (.Name x px) iter di) (ht : ∀ (s : Shared) (H : Hp) (C : Addr) (cl : List (Str × Addr)) (fp : List Addr), PTd (X.blk s H scope (compEnvC scope cl C X.env) fp) ct E c dt)
    (he : ∀ (s : Shared) (H : Hp) (C : Addr) (cl : List (Str × Addr)) (fp : List Addr), PEd (X.blk s H scope (compEnvC scope cl C X.env) fp) ct E elt de)
    (hsw : swapsWith (.ListComp elt [⟨.Name x px, iter, [c], 0⟩] scope pos) (some (.Name y py)) spos.line X.env = pure true)
    (ok : blkC X.N X.env.scope scope [(x, i)] = true := by kernel_rfl)
    (hg : ∀ (s : Shared) (H : Hp) (C : Addr) (cl : List (Str × Addr)) (fp : List Addr), PG (X.blk s H scope (compEnvC scope cl C X.env) fp) (.Name x px) (gName i) := by exact fun _ _ _ _ _ => pg_name (by assumption) rfl (by first | exact Or.inl rfl | exact Or.inr rfl))
    (hy : X.N[j]? = some y := by rfl) (hyl : X.env.scope.names.lookup y = some .local := by rfl) (hs : ∀ x, foldedSetIterable iter X.env x = pure x := by intro _; rfl) :
    PSd X ct E (.Assign [.Name y py] (.ListComp elt [⟨.Name x px, iter, [c], 0⟩] scope pos) spos) (dAsg (dLc di (dName i) dt de [i]) (dName j)) := by
  obtain ⟨wi, i1, i2⟩ := hi
  exact ⟨_, ps_setLc (own := [(x, i)]) hc hN hy hyl hsw i1 (blkOk_by ok) hg (fun s H C cl fp => pts_one (ht s H C cl fp).can) (fun s H C cl fp => (he s H C cl fp).can) hs, snd_asg (snd_lc i2 snd_gname (only_name (by simp)) snd_tT snd_tE) snd_gname⟩
end
def LawOk (fn : DL) : Prop := ∀ ns : List Int, ns.length ≤ 63 → ∃ h, fn [.ref 0] [.ro (ns.map EV.int)] = .ok (.bl true) h
theorem law_sp {K : Fg} {ct : Nat → Addr × List Str} {fn : DL} (hl : LawOk fn) {H : Hp} {a : Addr} {ns : List Int} (hn : ns.length ≤ 63) (hO : Only H) (hS : SqL K H a (ns.map V.int)) : spD0 ⟨K, ct⟩ fn [.ref a] H (fun v _ => v = .bl true) E0 := by
  obtain ⟨h', e⟩ := hl ns hn
  have hro : RoL K H a (ns.map V.int) := by
    rcases hS with (h | ⟨o, h⟩) | h
    · rcases hO a with z | ⟨o, xs, z⟩
      · rw [h] at z; cases z
      · rw [h] at z; cases z
    · exact .inl ⟨o, h⟩
    · exact .inr h
  refine ⟨[(false, a)], [.ref 0], [.ro (ns.map EV.int)], VRs.one (vr_ref.mpr ⟨a, rfl, rfl⟩), ⟨rfl, fun m n b h1 h2 => ?_, fun n o ho => ?_⟩, ?_⟩
  · cases m with
    | zero => simp at h1
    | succ m => simp at h1
  · cases n with
    | zero =>
      simp only [List.getElem?_cons_zero, Option.some.injEq] at ho
      subst ho
      exact ⟨a, rfl, ns.map V.int, hro, VRs.ints ns⟩
    | succ n => simp at ho
  · rw [e]
    intro ρ' H' u _ _ hv
    exact vr_bl.mp hv
end EE
set_option Elab.async false
set_option linter.all false
set_option maxRecDepth 100000
set_option maxHeartbeats 1000000
namespace EE
open PySem PySem.Spec PyProof.Rows L2
abbrev fAdd : D2 := d2or fAddI fCat
abbrev fMul : D2 := d2or fMulI fRep
abbrev fIn : D2 := fInL false
abbrev fNotIn : D2 := fInL true
section
variable {X : Cx} {ct : Nat → Addr × List Str} {E : XK}
theorem o_add : Opd X ct E (binaryOp .Add) fAdd := o_addI.or o_cat
theorem o_mul : Opd X ct E (binaryOp .Mult) fMul := o_mulI.or o_rep
theorem o_in (hu : X.A.units + 65 < cLine) : Opd X ct E (compareOp .In) fIn := o_inL hu
theorem o_notIn (hu : X.A.units + 65 < cLine) : Opd X ct E (compareOp .NotIn) fNotIn := o_notInL hu
theorem hu64 {k : Nat} {A : Around} (hr : Room k A) : A.units + 64 < cLine := by have := hr.un; omega
theorem hu65 {k : Nat} {A : Around} (hr : Room k A) : A.units + 65 < cLine := by have := hr.un; omega
end
end EE
set_option Elab.async false
set_option linter.all false
set_option maxRecDepth 100000
set_option maxHeartbeats 1000000
namespace EE
open PySem L2
def Tri {α : Type} (r : Res α) (Q : α → EH → Prop) : Prop := match r with
  | .ok v h => Q v h
  | .er _ _ => False
  | .no => False
@[simp] theorem tri_ok {α : Type} (v : α) (h : EH) (Q : α → EH → Prop) : Tri (.ok v h) Q ↔ Q v h := Iff.rfl
@[simp] theorem tri_no {α : Type} (Q : α → EH → Prop) : Tri (.no) Q ↔ False := Iff.rfl
@[simp] theorem tri_er {α : Type} (x : Exn) (h : EH) (Q : α → EH → Prop) : Tri (.er x h) Q ↔ False := Iff.rfl
@[simp] theorem tri_noer {α : Type} (r : Res α) (Q : α → EH → Prop) : Tri r.noer Q ↔ Tri r Q := by cases r <;> rfl
theorem tri_bind {α β : Type} (r : Res α) (k : α → EH → Res β) (Q : β → EH → Prop) : Tri (r.bind k) Q ↔ Tri r (fun v h => Tri (k v h) Q) := by cases r <;> rfl
theorem Tri.mono {α : Type} {r : Res α} {Q Q' : α → EH → Prop} (h : Tri r Q) (hq : ∀ v h, Q v h → Q' v h) : Tri r Q' := by
  cases r with
  | ok v h' => exact hq v h' h
  | er _ _ => exact h
  | no => exact h
theorem Tri.bind {α β : Type} {r : Res α} {k : α → EH → Res β} {Q : β → EH → Prop} {P : α → EH → Prop} (h : Tri r P) (hq : ∀ v h, P v h → Tri (k v h) Q) : Tri (r.bind k) Q := by
  rw [tri_bind]
  exact h.mono hq
theorem Tri.ex {α : Type} {r : Res α} {Q : α → EH → Prop} (h : Tri r Q) : ∃ v h', r = .ok v h' ∧ Q v h' := by
  cases r with
  | ok v h' => exact ⟨v, h', rfl, h⟩
  | er _ _ => exact h.elim
  | no => exact h.elim
section
variable (es : ES) (h : EH)
def gV (o : Option (Option EV)) (h : EH) : Res EV := match o with
  | some (some v) => .ok v h
  | _ => .no
@[simp] theorem gV_some (v : EV) : gV (some (some v)) h = .ok v h := rfl
@[simp] theorem ap_var (i : Nat) : dVar i es h = gV es[i]? h := rfl
@[simp] theorem ap_c (v : EV) : dC v es h = .ok v h := rfl
def kOp2 (f : D2) (x : EV) : EV → EH → Res EV := fun y h => f x y h
def kOp (f : D2) (b : DE) (es : ES) : EV → EH → Res EV := fun x h => (b es h).bind (kOp2 f x)
@[simp] theorem ap_op (f : D2) (a b : DE) : dOp f a b es h = (a es h).bind (kOp f b es) := rfl
@[simp] theorem ap_kOp (f : D2) (b : DE) (x : EV) : kOp f b es x h = (b es h).bind (kOp2 f x) := rfl
@[simp] theorem ap_kOp2 (f : D2) (x y : EV) : kOp2 f x y h = f x y h := rfl
@[simp] theorem ap_un (f : D1) (a : DE) : dUn f a es h = (a es h).bind f := rfl
@[simp] theorem ap_nil : dNil es h = .ok [] h := rfl
def kCons2 (x : EV) : List EV → EH → Res (List EV) := fun xs h => .ok (x :: xs) h
def kCons (r : DA) (es : ES) : EV → EH → Res (List EV) := fun x h => (r es h).bind (kCons2 x)
@[simp] theorem ap_cons (a : DE) (r : DA) : dCons a r es h = (a es h).bind (kCons r es) := rfl
@[simp] theorem ap_kCons (r : DA) (x : EV) : kCons r es x h = (r es h).bind (kCons2 x) := rfl
@[simp] theorem ap_kCons2 (x : EV) (xs : List EV) : kCons2 x xs h = .ok (x :: xs) h := rfl
@[simp] theorem ap_cb (f : DL) (a : DA) : dCB f a es h = (a es h).bind f := rfl
def kCall (f : DL) : List EV → EH → Res EV := fun xs h => (f xs h).noer
@[simp] theorem ap_call (f : DL) (a : DA) : dCall f a es h = (a es h).bind (kCall f) := rfl
@[simp] theorem ap_kCall (f : DL) (xs : List EV) : kCall f xs h = (f xs h).noer := rfl
def kTup : List EV → EH → Res EV := fun xs h => if xs.length ≤ 100000 then .ok (.tup xs) h else .no
@[simp] theorem ap_tup (a : DA) : dTup a es h = (a es h).bind kTup := rfl
@[simp] theorem ap_kTup (xs : List EV) : kTup xs h = if xs.length ≤ 100000 then .ok (.tup xs) h else .no := rfl
def kLst : List EV → EH → Res EV := fun xs h => if xs.length ≤ 100000 then .ok (.ref h.length) (h ++ [.lst xs]) else .no
@[simp] theorem ap_lst (a : DA) : dLst a es h = (a es h).bind kLst := rfl
@[simp] theorem ap_kLst (xs : List EV) : kLst xs h = if xs.length ≤ 100000 then .ok (.ref h.length) (h ++ [.lst xs]) else .no := rfl
def kB : EV → EH → Res Bool := fun x h => match x with
  | .bl b => .ok b h
  | _ => .no
@[simp] theorem ap_B (a : DE) : dB a es h = (a es h).bind kB := rfl
@[simp] theorem ap_kB (b : Bool) : kB (.bl b) h = .ok b h := rfl
def kAnd (b : DT) (es : ES) : Bool → EH → Res Bool := fun c h => if c = true then b es h else .ok false h
@[simp] theorem ap_and (a b : DT) : dAnd a b es h = (a es h).bind (kAnd b es) := rfl
@[simp] theorem ap_kAnd (b : DT) (c : Bool) : kAnd b es c h = if c = true then b es h else .ok false h := rfl
def kOr (b : DT) (es : ES) : Bool → EH → Res Bool := fun c h => if c = true then .ok true h else b es h
@[simp] theorem ap_or (a b : DT) : dOr a b es h = (a es h).bind (kOr b es) := rfl
@[simp] theorem ap_kOr (b : DT) (c : Bool) : kOr b es c h = if c = true then .ok true h else b es h := rfl
def kNot : Bool → EH → Res Bool := fun c h => .ok (!c) h
@[simp] theorem ap_not (a : DT) : dNot a es h = (a es h).bind kNot := rfl
@[simp] theorem ap_kNot (c : Bool) : kNot c h = .ok (!c) h := rfl
def kAndV (b : DE) (es : ES) : EV → EH → Res EV := fun x h => match x with
  | .bl c => if c = true then b es h else .ok (.bl false) h
  | _ => .no
@[simp] theorem ap_andV (a b : DE) : dAndV a b es h = (a es h).bind (kAndV b es) := rfl
@[simp] theorem ap_kAndV (b : DE) (c : Bool) : kAndV b es (.bl c) h = if c = true then b es h else .ok (.bl false) h := rfl
def kOrV (b : DE) (es : ES) : EV → EH → Res EV := fun x h => match x with
  | .bl c => if c = true then .ok (.bl true) h else b es h
  | _ => .no
@[simp] theorem ap_orV (a b : DE) : dOrV a b es h = (a es h).bind (kOrV b es) := rfl
@[simp] theorem ap_kOrV (b : DE) (c : Bool) : kOrV b es (.bl c) h = if c = true then .ok (.bl true) h else b es h := rfl
def kNotV : EV → EH → Res EV := fun x h => match x with
  | .bl c => .ok (.bl (!c)) h
  | _ => .no
@[simp] theorem ap_notV (a : DE) : dNotV a es h = (a es h).bind kNotV := rfl
@[simp] theorem ap_kNotV (c : Bool) : kNotV (.bl c) h = .ok (.bl (!c)) h := rfl
def kIf (a b : DE) (es : ES) : Bool → EH → Res EV := fun c h => if c = true then a es h else b es h
@[simp] theorem ap_if (t : DT) (a b : DE) : dIf t a b es h = (t es h).bind (kIf a b es) := rfl
@[simp] theorem ap_kIf (a b : DE) (c : Bool) : kIf a b es c h = if c = true then a es h else b es h := rfl
def kCh3 (g : D2) (y : EV) : EV → EH → Res EV := fun w h => g y w h
def kCh2 (g : D2) (c : DE) (es : ES) (y : EV) : EV → EH → Res EV := fun z h => match z with
  | .bl k => if k = true then (c es h).bind (kCh3 g y) else .ok (.bl false) h
  | _ => .no
def kCh1 (f g : D2) (c : DE) (es : ES) (x : EV) : EV → EH → Res EV := fun y h => (f x y h).bind (kCh2 g c es y)
def kCh (f g : D2) (b c : DE) (es : ES) : EV → EH → Res EV := fun x h => (b es h).bind (kCh1 f g c es x)
@[simp] theorem ap_chain (f g : D2) (a b c : DE) : dChain f g a b c es h = (a es h).bind (kCh f g b c es) := rfl
@[simp] theorem ap_kCh (f g : D2) (b c : DE) (x : EV) : kCh f g b c es x h = (b es h).bind (kCh1 f g c es x) := rfl
@[simp] theorem ap_kCh1 (f g : D2) (c : DE) (x y : EV) : kCh1 f g c es x y h = (f x y h).bind (kCh2 g c es y) := rfl
@[simp] theorem ap_kCh2 (g : D2) (c : DE) (y : EV) (k : Bool) : kCh2 g c es y (.bl k) h = if k = true then (c es h).bind (kCh3 g y) else .ok (.bl false) h := rfl
@[simp] theorem ap_kCh3 (g : D2) (y w : EV) : kCh3 g y w h = g y w h := rfl
def kIsi (c : Ty) : EV → EH → Res EV := fun x h => match tyOf h x with
  | some t => .ok (.bl (t.isa c)) h
  | none => .no
@[simp] theorem ap_isi (c : Ty) (a : DE) : fIsi c a es h = (a es h).bind (kIsi c) := rfl
def kIsi2 (c c' : Ty) : EV → EH → Res EV := fun x h => match tyOf h x with
  | some t => .ok (.bl (t.isa c || t.isa c')) h
  | none => .no
@[simp] theorem ap_isi2 (c c' : Ty) (a : DE) : fIsi2 c c' a es h = (a es h).bind (kIsi2 c c') := rfl
@[simp] theorem kIsi_int (c : Ty) (i : Int) : kIsi c (.int i) h = .ok (.bl (Ty.isa .int_ c)) h := rfl
@[simp] theorem kIsi_bl (c : Ty) (i : Bool) : kIsi c (.bl i) h = .ok (.bl (Ty.isa .bool_ c)) h := rfl
@[simp] theorem kIsi_str (c : Ty) (i : Str) : kIsi c (.str i) h = .ok (.bl (Ty.isa .str_ c)) h := rfl
@[simp] theorem kIsi_non (c : Ty) : kIsi c .non h = .ok (.bl (Ty.isa .none_ c)) h := rfl
@[simp] theorem kIsi_tup (c : Ty) (xs : List EV) : kIsi c (.tup xs) h = .ok (.bl (Ty.isa .tuple_ c)) h := rfl
@[simp] theorem kIsi2_int (c c' : Ty) (i : Int) : kIsi2 c c' (.int i) h = .ok (.bl (Ty.isa .int_ c || Ty.isa .int_ c')) h := rfl
@[simp] theorem kIsi2_bl (c c' : Ty) (i : Bool) : kIsi2 c c' (.bl i) h = .ok (.bl (Ty.isa .bool_ c || Ty.isa .bool_ c')) h := rfl
@[simp] theorem kIsi2_str (c c' : Ty) (i : Str) : kIsi2 c c' (.str i) h = .ok (.bl (Ty.isa .str_ c || Ty.isa .str_ c')) h := rfl
@[simp] theorem kIsi2_non (c c' : Ty) : kIsi2 c c' .non h = .ok (.bl (Ty.isa .none_ c || Ty.isa .none_ c')) h := rfl
@[simp] theorem kIsi2_tup (c c' : Ty) (xs : List EV) : kIsi2 c c' (.tup xs) h = .ok (.bl (Ty.isa .tuple_ c || Ty.isa .tuple_ c')) h := rfl
theorem kIsi_lst {h : EH} (c : Ty) {n : Nat} {xs : List EV} (e : lstAt h n = some xs) : kIsi c (.ref n) h = .ok (.bl (Ty.isa .list_ c)) h := by
  unfold lstAt at e
  unfold kIsi
  simp only [tyOf]
  split at e <;> simp_all
theorem kIsi2_lst {h : EH} (c c' : Ty) {n : Nat} {xs : List EV} (e : lstAt h n = some xs) : kIsi2 c c' (.ref n) h = .ok (.bl (Ty.isa .list_ c || Ty.isa .list_ c')) h := by
  unfold lstAt at e
  unfold kIsi2
  simp only [tyOf]
  split at e <;> simp_all
@[simp] theorem ap_next : dNext es h = .ok (.nx es) h := rfl
def kSeq (b : DS) : Flw → EH → Res Flw := fun f h1 => match f with
  | .nx es1 => b es1 h1
  | .rt v => .ok (.rt v) h1
  | .bk e => .ok (.bk e) h1
  | .ct e => .ok (.ct e) h1
@[simp] theorem ap_seq (a b : DS) : dSeq a b es h = (a es h).bind (kSeq b) := rfl
@[simp] theorem kSeq_nx (b : DS) : kSeq b (.nx es) h = b es h := rfl
@[simp] theorem kSeq_rt (b : DS) (v : EV) : kSeq b (.rt v) h = .ok (.rt v) h := rfl
@[simp] theorem kSeq_bk (b : DS) : kSeq b (.bk es) h = .ok (.bk es) h := rfl
@[simp] theorem kSeq_ct (b : DS) : kSeq b (.ct es) h = .ok (.ct es) h := rfl
def kIfS (a b : DS) (es : ES) : Bool → EH → Res Flw := fun c h => if c = true then a es h else b es h
@[simp] theorem ap_ifS (t : DT) (a b : DS) : dIfS t a b es h = (t es h).bind (kIfS a b es) := rfl
@[simp] theorem ap_kIfS (a b : DS) (c : Bool) : kIfS a b es c h = if c = true then a es h else b es h := rfl
def kRet : EV → EH → Res Flw := fun x h => .ok (.rt x) h
@[simp] theorem ap_ret (a : DE) : dRet a es h = (a es h).bind kRet := rfl
@[simp] theorem ap_kRet (x : EV) : kRet x h = .ok (.rt x) h := rfl
@[simp] theorem ap_retN : dRetN es h = .ok (.rt .non) h := rfl
def kDrop (es : ES) : EV → EH → Res Flw := fun _ h => .ok (.nx es) h
@[simp] theorem ap_drop (a : DE) : dDrop a es h = (a es h).bind (kDrop es) := rfl
@[simp] theorem ap_kDrop (x : EV) : kDrop es x h = .ok (.nx es) h := rfl
@[simp] theorem ap_break : dBreak es h = .ok (.bk es) h := rfl
@[simp] theorem ap_cont : dCont es h = .ok (.ct es) h := rfl
@[simp] theorem ap_name (i : Nat) (x : EV) : dName i x es h = .ok (es.set i (some x)) h := rfl
@[simp] theorem ap_gnil : dGNil [] es h = .ok es h := rfl
def kG (r : DGs) (xs : List EV) : ES → EH → Res ES := fun es h => r xs es h
@[simp] theorem ap_gcons (g : DG) (r : DGs) (x : EV) (xs : List EV) : dGCons g r (x :: xs) es h = (g x es h).bind (kG r xs) := rfl
@[simp] theorem ap_kG (r : DGs) (xs : List EV) : kG r xs es h = r xs es h := rfl
@[simp] theorem ap_gtup (n : Nat) (r : DGs) (xs : List EV) : dGTup n r (.tup xs) es h = if xs.length = n then r xs es h else .no := rfl
def kGS3 (es : ES) : Unit → EH → Res ES := fun _ h => .ok es h
def kGS2 (f : DSet) (x o : EV) (es : ES) : EV → EH → Res ES := fun i h => (f o i x h).bind (kGS3 es)
def kGS (b : DE) (f : DSet) (x : EV) (es : ES) : EV → EH → Res ES := fun o h => (b es h).bind (kGS2 f x o es)
@[simp] theorem ap_gsub (a b : DE) (f : DSet) (x : EV) : dGSub a b f x es h = (a es h).bind (kGS b f x es) := rfl
@[simp] theorem ap_kGS (b : DE) (f : DSet) (x o : EV) : kGS b f x es o h = (b es h).bind (kGS2 f x o es) := rfl
@[simp] theorem ap_kGS2 (f : DSet) (x o i : EV) : kGS2 f x o es i h = (f o i x h).bind (kGS3 es) := rfl
@[simp] theorem ap_kGS3 : kGS3 es () h = .ok es h := rfl
def kAsg2 : ES → EH → Res Flw := fun es h => .ok (.nx es) h
def kAsg (g : DG) (es : ES) : EV → EH → Res Flw := fun x h => (g x es h).bind kAsg2
@[simp] theorem ap_asg (a : DE) (g : DG) : dAsg a g es h = (a es h).bind (kAsg g es) := rfl
@[simp] theorem ap_kAsg (g : DG) (x : EV) : kAsg g es x h = (g x es h).bind kAsg2 := rfl
@[simp] theorem ap_kAsg2 : kAsg2 es h = .ok (.nx es) h := rfl
def kPar (i j : Nat) (es : ES) : List EV → EH → Res Flw := fun xs h => match xs with
  | [x, y] => .ok (.nx ((es.set i (some x)).set j (some y))) h
  | _ => .no
@[simp] theorem ap_par (i j : Nat) (a : DA) : dPar i j a es h = (a es h).bind (kPar i j es) := rfl
@[simp] theorem ap_kPar (i j : Nat) (x y : EV) : kPar i j es [x, y] h = .ok (.nx ((es.set i (some x)).set j (some y))) h := rfl
def kBM2 (f : EV → DL) (x : EV) : List EV → EH → Res EV := fun xs h => f x xs h
def kBM (f : EV → DL) (a : DA) (es : ES) : EV → EH → Res EV := fun x h => match x with
  | .ref n => match lstAt h n with
    | some _ => (a es h).bind (kBM2 f x)
    | none => .no
  | _ => .no
@[simp] theorem ap_bm (f : EV → DL) (o : DE) (a : DA) : dBM f o a es h = (o es h).bind (kBM f a es) := rfl
theorem kBM_ref {h : EH} (f : EV → DL) (a : DA) {n : Nat} {xs : List EV} (e : lstAt h n = some xs) : kBM f a es (.ref n) h = (a es h).bind (kBM2 f (.ref n)) := by
  simp [kBM, e]
@[simp] theorem ap_kBM2 (f : EV → DL) (x : EV) (xs : List EV) : kBM2 f x xs h = f x xs h := rfl
def kItL : EV → EH → Res Wlk := fun x h => match x with
  | .ref n => match lstAt h n with
    | some _ => .ok ⟨some n, [], fun _ x => x⟩ h
    | none => .no
  | _ => .no
@[simp] theorem ap_itL (a : DE) : dItL a es h = (a es h).bind kItL := by
  rfl
theorem kItL_ref {h : EH} {n : Nat} {xs : List EV} (e : lstAt h n = some xs) : kItL (.ref n) h = .ok ⟨some n, [], fun _ x => x⟩ h := by
  simp [kItL, e]
def kItT : EV → EH → Res Wlk := fun x h => match x with
  | .tup xs => .ok ⟨none, xs, fun _ x => x⟩ h
  | _ => .no
@[simp] theorem ap_itT (a : DE) : dItT a es h = (a es h).bind kItT := rfl
@[simp] theorem ap_kItT (xs : List EV) : kItT (.tup xs) h = .ok ⟨none, xs, fun _ x => x⟩ h := rfl
def kItR1 : List EV → EH → Res Wlk := fun xs h => match xs with
  | [.int n] => if decide (-100000 ≤ n) && decide (n ≤ 100000) = true then .ok ⟨none, rng 0 n.toNat, fun _ x => x⟩ h else .no
  | _ => .no
@[simp] theorem ap_itR1 (a : DA) : dItR1 a es h = (a es h).bind kItR1 := rfl
theorem ap_kItR1 (n : Int) (h1 : -100000 ≤ n) (h2 : n ≤ 100000) : kItR1 [.int n] h = .ok ⟨none, rng 0 n.toNat, fun _ x => x⟩ h := by
  simp [kItR1, h1, h2]
def kItR2 : List EV → EH → Res Wlk := fun xs h => match xs with
  | [.int lo, .int n] => if decide (-100000 ≤ n) && decide (n ≤ 100000) && decide (-100000 ≤ lo) && decide (lo ≤ 100000) = true then .ok ⟨none, rng lo (n - lo).toNat, fun _ x => x⟩ h else .no
  | _ => .no
@[simp] theorem ap_itR2 (a : DA) : dItR2 a es h = (a es h).bind kItR2 := rfl
theorem ap_kItR2 (lo n : Int) (h1 : -100000 ≤ n) (h2 : n ≤ 100000) (h3 : -100000 ≤ lo) (h4 : lo ≤ 100000) : kItR2 [.int lo, .int n] h = .ok ⟨none, rng lo (n - lo).toNat, fun _ x => x⟩ h := by
  simp [kItR2, h1, h2, h3, h4]
def kFor (g : DG) (b : DS) (es : ES) : Wlk → EH → Res Flw := fun it h1 => match it.cur h1 with
  | none => .no
  | some xs => forGo it g b (xs.length + 1) 0 es h1
@[simp] theorem ap_for (di : DI) (g : DG) (b : DS) : dFor di g b es h = (di es h).bind (kFor g b es) := rfl
def kLc2 : List EV → EH → Res EV := fun ys h2 => .ok (.ref h2.length) (h2 ++ [.lst ys])
@[simp] theorem ap_kLc2 (ys : List EV) : kLc2 ys h = .ok (.ref h.length) (h ++ [.lst ys]) := rfl
def kLc (g : DG) (t : DT) (e : DE) (vs : List Nat) (es : ES) : Wlk → EH → Res EV := fun it h1 => match it.cur h1 with
  | none => .no
  | some xs => (lcGo it g t e vs (xs.length + 1) 0 [] es h1).bind kLc2
@[simp] theorem ap_lc (di : DI) (g : DG) (t : DT) (e : DE) (vs : List Nat) : dLc di g t e vs es h = (di es h).bind (kLc g t e vs es) := rfl
@[simp] theorem ap_yes : dYes es h = .ok true h := rfl
def kPart : EV → EH → Res (Option Int) := fun x h1 => match x with
    | .int i => .ok (some i) h1
    | _ => .no
@[simp] theorem ap_part0 : dPart none es h = .ok none h := rfl
@[simp] theorem ap_part (d : DE) : dPart (some d) es h = (d es h).bind kPart := rfl
@[simp] theorem ap_kPart (i : Int) : kPart (.int i) h = .ok (some i) h := rfl
def kSl3 (f : EV → Option Int → Option Int → EH → Res EV) (x : EV) (l : Option Int) : Option Int → EH → Res EV := fun u h => f x l u h
def kSl2 (f : EV → Option Int → Option Int → EH → Res EV) (hi : ES → EH → Res (Option Int)) (es : ES) (x : EV) : Option Int → EH → Res EV := fun l h => (hi es h).bind (kSl3 f x l)
def kSl (f : EV → Option Int → Option Int → EH → Res EV) (lo hi : ES → EH → Res (Option Int)) (es : ES) : EV → EH → Res EV := fun x h => (lo es h).bind (kSl2 f hi es x)
@[simp] theorem ap_sl (f : EV → Option Int → Option Int → EH → Res EV) (a : DE) (lo hi : ES → EH → Res (Option Int)) : dSl f a lo hi es h = (a es h).bind (kSl f lo hi es) := rfl
@[simp] theorem ap_kSl (f : EV → Option Int → Option Int → EH → Res EV) (lo hi : ES → EH → Res (Option Int)) (x : EV) : kSl f lo hi es x h = (lo es h).bind (kSl2 f hi es x) := rfl
@[simp] theorem ap_kSl2 (f : EV → Option Int → Option Int → EH → Res EV) (hi : ES → EH → Res (Option Int)) (x : EV) (l : Option Int) : kSl2 f hi es x l h = (hi es h).bind (kSl3 f x l) := rfl
@[simp] theorem ap_kSl3 (f : EV → Option Int → Option Int → EH → Res EV) (x : EV) (l u : Option Int) : kSl3 f x l u h = f x l u h := rfl
def kDef : Flw → EH → Res EV := fun f h1 => match f with
  | .nx _ => .ok .non h1
  | .rt v => .ok v h1
  | .bk _ => .no
  | .ct _ => .no
theorem ap_def (np N : Nat) (b : DS) (args : List EV) (hl : args.length = np) : dDef np N b args h = (b (args.map some ++ List.replicate (N - args.length) none) h).bind kDef := by
  unfold dDef
  rw [if_pos hl]
  rfl
@[simp] theorem kDef_nx : kDef (.nx es) h = .ok .non h := rfl
@[simp] theorem kDef_rt (v : EV) : kDef (.rt v) h = .ok v h := rfl
end
section
variable (h : EH) (i j : Int)
@[simp] theorem orE_no {α : Type} (k : Unit → Res α) : (Res.no).orElse k = k () := rfl
@[simp] theorem orE_ok {α : Type} (v : α) (h : EH) (k : Unit → Res α) : (Res.ok v h).orElse k = .ok v h := rfl
@[simp] theorem f_add : fAdd (.int i) (.int j) h = .ok (.int (i + j)) h := rfl
@[simp] theorem f_sub : fSub (.int i) (.int j) h = .ok (.int (i - j)) h := rfl
theorem f_mul (hj : -18446744073709551616 < j) (hj2 : j < 18446744073709551616) : fMul (.int i) (.int j) h = .ok (.int (i * j)) h := by
  show (fInt _ _ _ _ _).orElse _ = _
  simp only [fInt]
  rw [if_pos (by simp [hj, hj2])]
  rfl
theorem f_mulL (hj : -18446744073709551616 < i) (hj2 : i < 18446744073709551616) : fMul (.int i) (.int j) h = .ok (.int (i * j)) h := by
  show (fInt _ _ _ _ _).orElse _ = _
  simp only [fInt]
  rw [if_pos (by simp [hj, hj2])]
  rfl
theorem f_mod (hj : 0 < j) : fMod (.int i) (.int j) h = .ok (.int (i % j)) h := by
  simp [fMod, fInt, hj]
theorem f_div (hj : 0 < j) (hj2 : j < 18446744073709551616) : fDiv (.int i) (.int j) h = .ok (.int (i / j)) h := by
  simp only [fDiv, fInt]
  rw [if_pos (by simp [hj, hj2])]
@[simp] theorem f_pow10 : fPow (.int 10) (.int 18) h = .ok (.int 1000000000000000000) h := by
  simp only [fPow, fInt]
  rw [if_pos (by decide)]
  rfl
@[simp] theorem f_lt : fLt (.int i) (.int j) h = .ok (.bl (decide (i < j))) h := rfl
@[simp] theorem f_le : fLe (.int i) (.int j) h = .ok (.bl (decide (i ≤ j))) h := rfl
@[simp] theorem f_gt : fGt (.int i) (.int j) h = .ok (.bl (decide (j < i))) h := rfl
@[simp] theorem f_ge : fGe (.int i) (.int j) h = .ok (.bl (decide (j ≤ i))) h := rfl
@[simp] theorem f_eqI : fEq (.int i) (.int j) h = .ok (.bl (decide (i = j))) h := by
  show (Res.ok _ _).orElse _ = _
  simp
@[simp] theorem f_neI : fNe (.int i) (.int j) h = .ok (.bl (!decide (i = j))) h := by
  show (Res.ok _ _).orElse _ = _
  simp
@[simp] theorem f_eqB (a b : Bool) : fEq (.bl a) (.bl b) h = .ok (.bl (decide (a = b))) h := by
  show (Res.ok _ _).orElse _ = _
  simp
@[simp] theorem f_eqStr (a b : Str) : fEq (.str a) (.str b) h = .ok (.bl (decide (a = b))) h := by
  show (Res.ok _ _).orElse _ = _
  simp
@[simp] theorem f_neStr (a b : Str) : fNe (.str a) (.str b) h = .ok (.bl (!decide (a = b))) h := by
  show (Res.ok _ _).orElse _ = _
  simp
@[simp] theorem f_neB (a b : Bool) : fNe (.bl a) (.bl b) h = .ok (.bl (!decide (a = b))) h := by
  show (Res.ok _ _).orElse _ = _
  simp
@[simp] theorem f_isN_non : fIsN false .non .non h = .ok (.bl true) h := rfl
@[simp] theorem f_isN_int : fIsN false (.int i) .non h = .ok (.bl false) h := rfl
@[simp] theorem f_isN_bl (b : Bool) : fIsN false (.bl b) .non h = .ok (.bl false) h := rfl
@[simp] theorem f_isN_str (b : Str) : fIsN false (.str b) .non h = .ok (.bl false) h := rfl
@[simp] theorem f_isN_ref (b : Nat) : fIsN false (.ref b) .non h = .ok (.bl false) h := rfl
@[simp] theorem f_isN_tup (b : List EV) : fIsN false (.tup b) .non h = .ok (.bl false) h := rfl
variable {h}
theorem f_ixL {m : Nat} {xs : List EV} {v : EV} (e : lstAt h m = some xs) (k : Nat) (ek : i = (k : Int)) (ev : xs[k]? = some v) : fIx (.ref m) (.int i) h = .ok v h := by
  subst ek
  show (fIxL _ _ _).orElse _ = _
  simp only [fIxL, e, atI_nat ev]
  rfl
theorem f_ixT {xs : List EV} {v : EV} (k : Nat) (ek : i = (k : Int)) (ev : xs[k]? = some v) : fIx (.tup xs) (.int i) h = .ok v h := by
  subst ek
  show (Res.no).orElse _ = _
  simp only [orE_no, fIxT, atI_nat ev]
theorem ixN_of {n k : Nat} (hk : k < n) : ixN n (k : Int) = some k := by
  unfold ixN
  rw [if_pos (by omega), if_pos (by omega)]
  simp
theorem s_lst {m : Nat} {xs : List EV} {x : EV} (e : mutAt h m = some xs) (k : Nat) (ek : i = (k : Int)) (hk : k < xs.length) : sLst (.ref m) (.int i) x h = .ok () (h.set m (.lst (xs.set k x))) := by
  subst ek
  simp only [sLst, e, ixN_of hk]
theorem m_append {m : Nat} {xs : List EV} {x : EV} (e : mutAt h m = some xs) (hl : xs.length < 100000) : mApp (.ref m) [x] h = .ok .non (h.set m (.lst (xs ++ [x]))) := by
  simp only [mApp, e, if_pos hl]
theorem f_len {m : Nat} {xs : List EV} (e : lstAt h m = some xs) : fLen [.ref m] h = .ok (.int xs.length) h := by
  simp only [fLen, e]
@[simp] theorem f_lenT (xs : List EV) : fLen [.tup xs] h = .ok (.int xs.length) h := rfl
theorem f_list {m : Nat} {xs : List EV} (e : lstAt h m = some xs) : fListOf [.ref m] h = .ok (.ref h.length) (h ++ [.lst xs]) := by
  simp only [fListOf, e]
theorem f_cat {m n : Nat} {xs ys : List EV} (e : mutAt h m = some xs) (e2 : mutAt h n = some ys) (hl : xs.length + ys.length ≤ 100000) : fAdd (.ref m) (.ref n) h = .ok (.ref h.length) (h ++ [.lst (xs ++ ys)]) := by
  show (Res.no).orElse _ = _
  simp only [orE_no, fCat, e, e2, if_pos hl]
theorem f_slice {m : Nat} {xs : List EV} (e : lstAt h m = some xs) (lo hi : Option Int) : fSl (.ref m) lo hi h = .ok (.ref h.length) (h ++ [.lst (cutE xs lo hi)]) := by
  simp only [fSl, e]
theorem f_rep {m : Nat} {xs : List EV} (e : mutAt h m = some xs) (h0 : 0 ≤ i) (h1 : i ≤ 1000) (hl : xs.length ≤ 10) : fMul (.ref m) (.int i) h = .ok (.ref h.length) (h ++ [.lst (List.replicate i.toNat xs).flatten]) := by
  show (Res.no).orElse _ = _
  simp only [orE_no, fRep, e]
  rw [if_pos (by simp [h0, h1, hl])]
end
theorem lst_mut {h : EH} {n : Nat} {xs : List EV} (e : mutAt h n = some xs) : lstAt h n = some xs := by
  unfold mutAt at e
  unfold lstAt
  split at e
  · rename_i q
    rw [q]
    exact e
  · cases e
theorem mutAt_lt {h : EH} {n : Nat} {xs : List EV} (e : mutAt h n = some xs) : n < h.length := by
  unfold mutAt at e
  split at e
  · rename_i q
    exact (List.getElem?_eq_some_iff.mp q).1
  · cases e
theorem lstAt_lt {h : EH} {n : Nat} {xs : List EV} (e : lstAt h n = some xs) : n < h.length := by
  unfold lstAt at e
  split at e
  · rename_i q
    exact (List.getElem?_eq_some_iff.mp q).1
  · rename_i q
    exact (List.getElem?_eq_some_iff.mp q).1
  · cases e
theorem lstAt_app {h t : EH} {n : Nat} {xs : List EV} (e : lstAt h n = some xs) : lstAt (h ++ t) n = some xs := by
  have hl := lstAt_lt e
  unfold lstAt at e ⊢
  rw [List.getElem?_append_left hl]
  exact e
theorem mutAt_app {h t : EH} {n : Nat} {xs : List EV} (e : mutAt h n = some xs) : mutAt (h ++ t) n = some xs := by
  have hl := mutAt_lt e
  unfold mutAt at e ⊢
  rw [List.getElem?_append_left hl]
  exact e
@[simp] theorem mutAt_new {h : EH} {xs : List EV} : mutAt (h ++ [.lst xs]) h.length = some xs := by
  unfold mutAt
  simp
@[simp] theorem lstAt_new {h : EH} {xs : List EV} : lstAt (h ++ [.lst xs]) h.length = some xs := lst_mut mutAt_new
theorem mutAt_set {h : EH} {n : Nat} {xs : List EV} (hn : n < h.length) : mutAt (h.set n (.lst xs)) n = some xs := by
  unfold mutAt
  rw [List.getElem?_set_self hn]
@[simp] theorem mutAt_new2 {h : EH} {o : EO} {xs : List EV} : mutAt (h ++ [o, .lst xs]) (h.length + 1) = some xs := by
  unfold mutAt
  rw [List.getElem?_append_right (by omega), Nat.add_sub_cancel_left]
  rfl
@[simp] theorem lstAt_new2 {h : EH} {o : EO} {xs : List EV} : lstAt (h ++ [o, .lst xs]) (h.length + 1) = some xs := lst_mut mutAt_new2
theorem lstAt_set {h : EH} {n : Nat} {xs : List EV} (hn : n < h.length) : lstAt (h.set n (.lst xs)) n = some xs := lst_mut (mutAt_set hn)
theorem mutAt_ne {h : EH} {m n : Nat} {o : EO} (hn : n ≠ m) : mutAt (h.set n o) m = mutAt h m := by
  unfold mutAt
  rw [List.getElem?_set_ne hn]
theorem lstAt_ne {h : EH} {m n : Nat} {o : EO} (hn : n ≠ m) : lstAt (h.set n o) m = lstAt h m := by
  unfold lstAt
  rw [List.getElem?_set_ne hn]
def Fr (X : List Nat) (h h' : EH) : Prop := h.length ≤ h'.length ∧ ∀ n, n < h.length → n ∉ X → h'[n]? = h[n]?
theorem Fr.refl (X : List Nat) (h : EH) : Fr X h h := ⟨Nat.le_refl _, fun _ _ _ => rfl⟩
theorem Fr.trans {X : List Nat} {h h1 h2 : EH} (a : Fr X h h1) (b : Fr X h1 h2) : Fr X h h2 := ⟨Nat.le_trans a.1 b.1, fun n hn hx => (b.2 n (Nat.lt_of_lt_of_le hn a.1) hx).trans (a.2 n hn hx)⟩
theorem Fr.app (X : List Nat) (h t : EH) : Fr X h (h ++ t) := ⟨by simp, fun n hn _ => List.getElem?_append_left hn⟩
theorem Fr.weak {X Y : List Nat} {h h' : EH} (a : Fr X h h') (hx : ∀ n ∈ X, n ∈ Y) : Fr Y h h' := ⟨a.1, fun n hn h => a.2 n hn fun q => h (hx n q)⟩
theorem Fr.set {X : List Nat} {h h' : EH} (a : Fr X h h') {n : Nat} {o : EO} (hn : n ∈ X ∨ h.length ≤ n) : Fr X h (h'.set n o) := ⟨by rw [List.length_set]; exact a.1, fun m hm hx => by
  rw [List.getElem?_set_ne]
  · exact a.2 m hm hx
  · intro e
    subst e
    rcases hn with z | z
    · exact hx z
    · omega⟩
theorem Fr.lst {X : List Nat} {h h' : EH} (a : Fr X h h') {n : Nat} {xs : List EV} (e : lstAt h n = some xs) (hx : n ∉ X) : lstAt h' n = some xs := by
  have hl := lstAt_lt e
  unfold lstAt at e ⊢
  rw [a.2 n hl hx]
  exact e
theorem Fr.mut {X : List Nat} {h h' : EH} (a : Fr X h h') {n : Nat} {xs : List EV} (e : mutAt h n = some xs) (hx : n ∉ X) : mutAt h' n = some xs := by
  have hl := mutAt_lt e
  unfold mutAt at e ⊢
  rw [a.2 n hl hx]
  exact e
theorem Fr.at {X : List Nat} {h h' : EH} (a : Fr X h h') {n : Nat} {o : EO} (e : h[n]? = some o) (hx : n ∉ X) : h'[n]? = some o := by
  rw [a.2 n (List.getElem?_eq_some_iff.mp e).1 hx]
  exact e
theorem tri_for {it : Wlk} {g : DG} {b : DS} {xs : List EV} {es : ES} {h : EH} {Q : Flw → EH → Prop} (I : Nat → ES → EH → Prop) (h0 : I 0 es h) (hcur : ∀ i es h, I i es h → it.cur h = some xs)
    (hstep : ∀ (i : Nat) (x : EV) es h (K : Flw → EH → Prop), xs[i]? = some x → I i es h → (∀ es2 h2, I (i + 1) es2 h2 → K (.nx es2) h2) → (∀ es2 h2, I (i + 1) es2 h2 → K (.ct es2) h2) → (∀ es2 h2, Q (.nx es2) h2 → K (.bk es2) h2) → (∀ v h2, Q (.rt v) h2 → K (.rt v) h2) →
      Tri (g (it.tl i x) es h) fun es1 h1 => Tri (b es1 h1) K)
    (hend : ∀ es h, I xs.length es h → Q (.nx es) h) : Tri (kFor g b es it h) Q := by
  have key : ∀ (m i : Nat) es h, i + m = xs.length + 1 → i ≤ xs.length → I i es h → Tri (forGo it g b m i es h) Q := by
    intro m
    induction m with
    | zero =>
      intro i es h hi hl hI
      exact absurd hi (by omega)
    | succ m ih =>
      intro i es h hi hl hI
      unfold forGo
      rw [hcur i es h hI]
      simp only
      cases hx : xs[i]? with
      | none =>
        have hge := List.getElem?_eq_none_iff.mp hx
        have : i = xs.length := by omega
        subst this
        exact hend es h hI
      | some x =>
        simp only
        have hlt := (List.getElem?_eq_some_iff.mp hx).1
        have hs := hstep i x es h (fun f h2 => match f with
          | .nx es2 => I (i + 1) es2 h2
          | .ct es2 => I (i + 1) es2 h2
          | .bk es2 => Q (.nx es2) h2
          | .rt v => Q (.rt v) h2) hx hI (fun _ _ q => q) (fun _ _ q => q) (fun _ _ q => q) (fun _ _ q => q)
        rw [tri_bind]
        refine hs.mono fun es1 h1 hs1 => ?_
        rw [tri_bind]
        refine hs1.mono fun f h2 hf => ?_
        cases f with
        | nx es2 => exact ih (i + 1) es2 h2 (by omega) (by omega) hf
        | ct es2 => exact ih (i + 1) es2 h2 (by omega) (by omega) hf
        | bk es2 => exact hf
        | rt v => exact hf
  unfold kFor
  rw [hcur 0 es h h0]
  exact key _ 0 es h (by omega) (by omega) h0
theorem tri_lc {it : Wlk} {g : DG} {t : DT} {e : DE} {vs : List Nat} {xs : List EV} {es : ES} {h : EH} {Q : EV → EH → Prop} (J : Nat → List EV → EH → Prop) (h0 : J 0 [] h) (hcur : ∀ i acc h, J i acc h → it.cur h = some xs)
    (hstep : ∀ (i : Nat) (x : EV) acc h, xs[i]? = some x → J i acc h → Tri (g (it.tl i x) (wip es vs) h) fun es1 h1 => Tri (t es1 h1) fun b h2 => if b = true then Tri (e es1 h2) fun y h3 => acc.length < 50000 ∧ J (i + 1) (acc ++ [y]) h3 else J (i + 1) acc h2)
    (hend : ∀ acc h, J xs.length acc h → Q (.ref h.length) (h ++ [.lst acc])) : Tri (kLc g t e vs es it h) Q := by
  have key : ∀ (m i : Nat) acc h, i + m = xs.length + 1 → i ≤ xs.length → J i acc h → Tri (lcGo it g t e vs m i acc es h) fun acc h => J xs.length acc h := by
    intro m
    induction m with
    | zero =>
      intro i acc h hi hl hI
      exact absurd hi (by omega)
    | succ m ih =>
      intro i acc h hi hl hI
      unfold lcGo
      rw [hcur i acc h hI]
      simp only
      cases hx : xs[i]? with
      | none =>
        have hge := List.getElem?_eq_none_iff.mp hx
        have : i = xs.length := by omega
        subst this
        exact hI
      | some x =>
        simp only
        have hs := hstep i x acc h hx hI
        have hlt := (List.getElem?_eq_some_iff.mp hx).1
        rw [tri_bind]
        refine hs.mono fun es1 h1 hs1 => ?_
        rw [tri_bind]
        refine hs1.mono fun b h2 hb => ?_
        cases b with
        | false => exact ih (i + 1) acc h2 (by omega) (by omega) hb
        | true =>
          simp only [if_true] at hb ⊢
          rw [tri_bind]
          refine hb.mono fun y h3 hy => ?_
          rw [if_pos hy.1]
          exact ih (i + 1) _ h3 (by omega) (by omega) hy.2
  unfold kLc
  rw [hcur 0 [] h h0]
  simp only
  rw [tri_bind]
  exact (key _ 0 [] h (by omega) (by omega) h0).mono fun acc h' hJ => hend acc h' hJ
def gvn (n : Nat) (p : Nat → Bool) (v : Nat → EV) : List EV := ((List.range n).filter p).map v
theorem gvn_zero (p : Nat → Bool) (v : Nat → EV) : gvn 0 p v = [] := rfl
theorem gvn_yes {n : Nat} {p : Nat → Bool} {v : Nat → EV} (h : p n = true) : gvn (n + 1) p v = gvn n p v ++ [v n] := by
  unfold gvn
  rw [List.range_succ, List.filter_append, List.map_append]
  simp [h]
theorem gvn_no {n : Nat} {p : Nat → Bool} {v : Nat → EV} (h : p n = false) : gvn (n + 1) p v = gvn n p v := by
  unfold gvn
  rw [List.range_succ, List.filter_append, List.map_append]
  simp [h]
theorem gvn_len (n : Nat) (p : Nat → Bool) (v : Nat → EV) : (gvn n p v).length ≤ n := by
  unfold gvn
  rw [List.length_map]
  have h := List.length_filter_le p (List.range n)
  rw [List.length_range] at h
  exact h
theorem tri_lcJ {it : Wlk} {j : Nat} {t : DT} {e : DE} {vs : List Nat} {xs : List EV} {es : ES} {h : EH} {Q : EV → EH → Prop} (J : Nat → List EV → EH → Prop) (h0 : J 0 [] h) (hcur : ∀ i acc h, J i acc h → it.cur h = some xs) (hacc : ∀ i acc h, J i acc h → acc.length < 50000)
    (hstep : ∀ (i : Nat) (x : EV) acc h (K : Bool → EH → Prop), xs[i]? = some x → J i acc h → (∀ h2, J (i + 1) acc h2 → K false h2) →
      (∀ h2, (∀ Ke : EV → EH → Prop, (∀ y h3, J (i + 1) (acc ++ [y]) h3 → Ke y h3) → Tri (e ((wip es vs).set j (some (it.tl i x))) h2) Ke) → K true h2) → Tri (t ((wip es vs).set j (some (it.tl i x))) h) K)
    (hend : ∀ acc h, J xs.length acc h → Q (.ref h.length) (h ++ [.lst acc])) : Tri (kLc (dName j) t e vs es it h) Q := by
  refine tri_lc (xs := xs) J h0 hcur (fun i x acc h' hx q => ?_) hend
  simp only [ap_name, tri_ok]
  refine hstep i x acc h' _ hx q (fun h2 q2 => ?_) (fun h2 q2 => ?_)
  · rw [if_neg (by decide)]
    exact q2
  · rw [if_pos rfl]
    refine q2 _ fun y h3 q3 => ⟨hacc i acc h' q, q3⟩
theorem tri_lcP {it : Wlk} {j : Nat} {t : DT} {e : DE} {vs : List Nat} {xs : List EV} {es : ES} {h : EH} {Q : EV → EH → Prop} (p : Nat → Bool) (v : Nat → EV) (hl : xs.length < 50000) (hcur : ∀ h', Fr [] h h' → it.cur h' = some xs)
    (ht : ∀ (i : Nat) (x : EV) h' (K : Bool → EH → Prop), xs[i]? = some x → Fr [] h h' → (∀ h2, Fr [] h' h2 → K (p i) h2) → Tri (t ((wip es vs).set j (some (it.tl i x))) h') K)
    (he : ∀ (i : Nat) (x : EV) h' (K : EV → EH → Prop), xs[i]? = some x → Fr [] h h' → p i = true → (∀ h2, Fr [] h' h2 → K (v i) h2) → Tri (e ((wip es vs).set j (some (it.tl i x))) h') K)
    (hend : ∀ h', Fr [] h h' → Q (.ref h'.length) (h' ++ [.lst (gvn xs.length p v)])) : Tri (kLc (dName j) t e vs es it h) Q := by
  refine tri_lc (xs := xs) (fun i acc h' => Fr [] h h' ∧ acc = gvn i p v) ⟨Fr.refl _ _, rfl⟩ (fun i acc h' q => hcur h' q.1) (fun i x acc h' hx q => ?_) fun acc h' q => ?_
  · obtain ⟨hf, rfl⟩ := q
    simp only [ap_name, tri_ok]
    have hlt := (List.getElem?_eq_some_iff.mp hx).1
    refine ht i x h' _ hx hf fun h2 f2 => ?_
    cases hp : p i with
    | false =>
      rw [if_neg (by decide)]
      exact ⟨hf.trans f2, (gvn_no hp).symm⟩
    | true =>
      rw [if_pos rfl]
      refine he i x h2 _ hx (hf.trans f2) hp fun h3 f3 => ?_
      exact ⟨by have := gvn_len i p v; omega, (hf.trans f2).trans f3, (gvn_yes hp).symm⟩
  · obtain ⟨hf, rfl⟩ := q
    exact hend h' hf
theorem gvn_false (n : Nat) (v : Nat → EV) : gvn n (fun _ => false) v = [] := by
  unfold gvn
  simp
theorem gvn_true (n : Nat) (v : Nat → EV) : gvn n (fun _ => true) v = (List.range n).map v := by
  unfold gvn
  congr 1
  exact List.filter_eq_self.mpr (by simp)
end EE
set_option Elab.async false
set_option linter.all false
set_option maxRecDepth 100000
set_option maxHeartbeats 4000000
namespace LW
open PySem L2 EE
def b__law_start : DS :=
  (dSeq (dAsg (dC (.int 1)) (dName 1))
  (dSeq (dFor (dItL (dVar 0)) (dName 2)
  (dAsg (dOp fMod (dOp fAdd (dOp fAdd (dOp fMul (dVar 1) (dC (.int 48271))) (dVar 2)) (dC (.int 7))) (dC (.int 2147483647))) (dName 1)))
  (dRet (dLst (dCons (dVar 0) (dCons (dC (.int 0)) (dCons (dVar 1) (dCons (dC (.int 0)) dNil))))))))
def m__law_start : DL := dDef 1 3 b__law_start
theorem u__law_start (a0 : EV) (h : EH) : m__law_start [a0] h = (b__law_start [some a0, none, none] h).bind kDef := rfl
def b__law_drawn : DS :=
  (dSeq (dIfS (dB (dOp fGt (dOp fIx (dVar 0) (dC (.int 3))) (dC (.int 0)))) (dSeq (dAsg (dOp fMod (dOp fIx (dVar 0) (dC (.int 3))) (dVar 1)) (dName 2))
  (dSeq (dAsg (dOp fDiv (dOp fIx (dVar 0) (dC (.int 3))) (dVar 1)) (dGSub (dVar 0) (dC (.int 3)) sLst))
  (dRet (dVar 2))))
  dNext)
  (dSeq (dAsg (dOp fAdd (dOp fIx (dVar 0) (dC (.int 1))) (dC (.int 1))) (dGSub (dVar 0) (dC (.int 1)) sLst))
  (dSeq (dIfS (dB (dOp fLe (dOp fIx (dVar 0) (dC (.int 1))) (dCB fLen (dCons (dOp fIx (dVar 0) (dC (.int 0))) dNil)))) (dSeq (dAsg (dOp fIx (dOp fIx (dVar 0) (dC (.int 0))) (dOp fSub (dOp fIx (dVar 0) (dC (.int 1))) (dC (.int 1)))) (dName 3))
  (dSeq (dAsg (dIf (dB (dOp fGe (dVar 3) (dOp fPow (dC (.int 10)) (dC (.int 18))))) (dOp fDiv (dVar 3) (dVar 1)) (dC (.int 0))) (dGSub (dVar 0) (dC (.int 3)) sLst))
  (dRet (dOp fMod (dVar 3) (dVar 1)))))
  dNext)
  (dSeq (dAsg (dOp fMod (dOp fAdd (dOp fMul (dOp fIx (dVar 0) (dC (.int 2))) (dC (.int 48271))) (dC (.int 11))) (dC (.int 2147483647))) (dGSub (dVar 0) (dC (.int 2)) sLst))
  (dRet (dOp fMod (dOp fDiv (dOp fIx (dVar 0) (dC (.int 2))) (dC (.int 7))) (dVar 1)))))))
def m__law_drawn : DL := dDef 2 4 b__law_drawn
theorem u__law_drawn (a0 : EV) (a1 : EV) (h : EH) : m__law_drawn [a0, a1] h = (b__law_drawn [some a0, some a1, none, none] h).bind kDef := rfl
def b__law_same (rec : DL) : DS :=
  (dSeq (dIfS (dB (fIsi2 .tuple_ .list_ (dVar 1))) (dSeq (dIfS (dOr (dNot (dB (fIsi2 .tuple_ .list_ (dVar 0)))) (dB (dOp fNe (fIsi .list_ (dVar 0)) (fIsi .list_ (dVar 1))))) (dRet (dC (.bl false)))
  dNext)
  (dSeq (dIfS (dB (dOp fNe (dCB fLen (dCons (dVar 0) dNil)) (dCB fLen (dCons (dVar 1) dNil)))) (dRet (dC (.bl false)))
  dNext)
  (dRet (dOp fEq (dLc (dItR1 (dCons (dCB fLen (dCons (dVar 1) dNil)) dNil)) (dName 2) (dNot (dB (dCall rec (dCons (dOp fIx (dVar 0) (dVar 2)) (dCons (dOp fIx (dVar 1) (dVar 2)) dNil))))) (dVar 2) [2]) (dLst dNil)))))
  dNext)
  (dSeq (dIfS (dB (dOp (fIsN false) (dVar 1) (dC .non))) (dRet (dOp (fIsN false) (dVar 0) (dC .non)))
  dNext)
  (dSeq (dIfS (dB (fIsi .str_ (dVar 1))) (dRet (dAndV (fIsi .str_ (dVar 0)) (dOp fEq (dVar 0) (dVar 1))))
  dNext)
  (dSeq (dIfS (dOr (dB (fIsi .bool_ (dVar 1))) (dB (fIsi .bool_ (dVar 0)))) (dRet (dAndV (fIsi .bool_ (dVar 1)) (dAndV (fIsi .bool_ (dVar 0)) (dOp fEq (dVar 0) (dVar 1)))))
  dNext)
  (dRet (dAndV (fIsi .int_ (dVar 0)) (dOp fEq (dVar 0) (dVar 1))))))))
def m__law_same : Nat → DL
  | 0 => fun _ _ => .no
  | n + 1 => dDef 2 3 (b__law_same (m__law_same n))
theorem u__law_same (n : Nat) (a0 : EV) (a1 : EV) (h : EH) : m__law_same (n + 1) [a0, a1] h = (b__law_same (m__law_same n) [some a0, some a1, none] h).bind kDef := rfl
def b__law_ties : DS :=
  (dSeq (dAsg (dLst dNil) (dName 2))
  (dSeq (dFor (dItR1 (dCons (dCall m__law_drawn (dCons (dVar 0) (dCons (dOp fIx (dLst (dCons (dC (.int 3)) (dCons (dOp fAdd (dVar 1) (dC (.int 1))) (dCons (dOp fMul (dC (.int 3)) (dVar 1)) dNil)))) (dCall m__law_drawn (dCons (dVar 0) (dCons (dC (.int 3)) dNil)))) dNil))) dNil)) (dName 3)
  (dSeq (dAsg (dCall m__law_drawn (dCons (dVar 0) (dCons (dVar 1) dNil))) (dName 4))
  (dSeq (dAsg (dOp fMod (dOp fAdd (dOp fAdd (dVar 4) (dC (.int 1))) (dCall m__law_drawn (dCons (dVar 0) (dCons (dOp fSub (dVar 1) (dC (.int 1))) dNil)))) (dVar 1)) (dName 5))
  (dDrop (dBM mApp (dVar 2) (dCons (dTup (dCons (dVar 4) (dCons (dVar 5) dNil))) dNil))))))
  (dSeq (dIfS (dB (dOp fEq (dCall m__law_drawn (dCons (dVar 0) (dCons (dC (.int 3)) dNil))) (dC (.int 0)))) (dAsg (dOp fAdd (dVar 2) (dSl fSl (dLc (dItR1 (dCons (dOp fSub (dVar 1) (dC (.int 1))) dNil)) (dName 6) dYes (dTup (dCons (dVar 6) (dCons (dOp fAdd (dVar 6) (dC (.int 1))) dNil))) [6]) (dPart (some (dCall m__law_drawn (dCons (dVar 0) (dCons (dC (.int 2)) dNil))))) (dPart none))) (dName 2))
  dNext)
  (dRet (dVar 2)))))
def m__law_ties : DL := dDef 2 7 b__law_ties
theorem u__law_ties (a0 : EV) (a1 : EV) (h : EH) : m__law_ties [a0, a1] h = (b__law_ties [some a0, some a1, none, none, none, none, none] h).bind kDef := rfl
def b__law_near : DS :=
  (dRet (dLc (dItR1 (dCons (dVar 0) dNil)) (dName 2) dYes (dLc (dItR1 (dCons (dVar 0) dNil)) (dName 3) (dOr (dB (dOp fIn (dTup (dCons (dVar 2) (dCons (dVar 3) dNil))) (dVar 1))) (dB (dOp fIn (dTup (dCons (dVar 3) (dCons (dVar 2) dNil))) (dVar 1)))) (dVar 3) [3]) [2]))
def m__law_near : DL := dDef 2 4 b__law_near
theorem u__law_near (a0 : EV) (a1 : EV) (h : EH) : m__law_near [a0, a1] h = (b__law_near [some a0, some a1, none, none] h).bind kDef := rfl
def b_is_whole : DS :=
  (dSeq (dIfS (dOr (dB (fIsi .bool_ (dVar 0))) (dNot (dB (fIsi .int_ (dVar 0))))) (dRet (dC (.bl false)))
  dNext)
  (dRet (dChain fLe fLe (dVar 1) (dVar 0) (dVar 2))))
def m_is_whole : DL := dDef 3 3 b_is_whole
theorem u_is_whole (a0 : EV) (a1 : EV) (a2 : EV) (h : EH) : m_is_whole [a0, a1, a2] h = (b_is_whole [some a0, some a1, some a2] h).bind kDef := rfl
def b_is_two : DS :=
  (dSeq (dIfS (dOr (dNot (dB (fIsi .tuple_ (dVar 0)))) (dB (dOp fNe (dCB fLen (dCons (dVar 0) dNil)) (dC (.int 2))))) (dRet (dC (.bl false)))
  dNext)
  (dRet (dAndV (dCall m_is_whole (dCons (dOp fIx (dVar 0) (dC (.int 0))) (dCons (dC (.int 0)) (dCons (dVar 1) dNil)))) (dCall m_is_whole (dCons (dOp fIx (dVar 0) (dC (.int 1))) (dCons (dC (.int 0)) (dCons (dVar 2) dNil)))))))
def m_is_two : DL := dDef 3 3 b_is_two
theorem u_is_two (a0 : EV) (a1 : EV) (a2 : EV) (h : EH) : m_is_two [a0, a1, a2] h = (b_is_two [some a0, some a1, some a2] h).bind kDef := rfl
def b_is_pair : DS :=
  (dRet (dCall m_is_two (dCons (dVar 0) (dCons (dOp fSub (dVar 1) (dC (.int 1))) (dCons (dOp fSub (dVar 1) (dC (.int 1))) dNil)))))
def m_is_pair : DL := dDef 2 2 b_is_pair
theorem u_is_pair (a0 : EV) (a1 : EV) (h : EH) : m_is_pair [a0, a1] h = (b_is_pair [some a0, some a1] h).bind kDef := rfl
def b_check_count : DS :=
  (dIfS (dNot (dB (dCall m_is_whole (dCons (dVar 0) (dCons (dC (.int 2)) (dCons (dC (.int 8)) dNil)))))) dNever
  dNext)
def m_check_count : DL := dDef 1 1 b_check_count
theorem u_check_count (a0 : EV) (h : EH) : m_check_count [a0] h = (b_check_count [some a0] h).bind kDef := rfl
def b_check_house : DS :=
  (dIfS (dNot (dB (dCall m_is_whole (dCons (dVar 0) (dCons (dC (.int 0)) (dCons (dOp fSub (dVar 1) (dC (.int 1))) dNil)))))) dNever
  dNext)
def m_check_house : DL := dDef 2 2 b_check_house
theorem u_check_house (a0 : EV) (a1 : EV) (h : EH) : m_check_house [a0, a1] h = (b_check_house [some a0, some a1] h).bind kDef := rfl
def b__neighbours : DS :=
  (dSeq (dDrop (dCall m_check_count (dCons (dVar 0) dNil)))
  (dSeq (dFor (dItL (dVar 1)) (dName 2)
  (dIfS (dOr (dNot (dB (dCall m_is_pair (dCons (dVar 2) (dCons (dVar 0) dNil))))) (dB (dOp fEq (dOp fIx (dVar 2) (dC (.int 0))) (dOp fIx (dVar 2) (dC (.int 1)))))) dNever
  dNext))
  (dSeq (dAsg (dLc (dItR1 (dCons (dVar 0) dNil)) (dName 6) dYes (dLst dNil) [6]) (dName 3))
  (dSeq (dFor (dItL (dVar 1)) (dGTup 2 (dGCons (dName 4) (dGCons (dName 5) dGNil)))
  (dSeq (dDrop (dBM mApp (dOp fIx (dVar 3) (dVar 4)) (dCons (dVar 5) dNil)))
  (dDrop (dBM mApp (dOp fIx (dVar 3) (dVar 5)) (dCons (dVar 4) dNil)))))
  (dRet (dVar 3))))))
def m__neighbours : DL := dDef 2 7 b__neighbours
theorem u__neighbours (a0 : EV) (a1 : EV) (h : EH) : m__neighbours [a0, a1] h = (b__neighbours [some a0, some a1, none, none, none, none, none] h).bind kDef := rfl
end LW
set_option Elab.async false
set_option linter.all false
set_option maxRecDepth 100000
set_option maxHeartbeats 4000000
namespace LW
open PySem L2 EE
def StO (o : EO) : Prop := ∃ b x l : Int, o = .lst [.ref 0, .int b, .int x, .int l] ∧ 0 ≤ b ∧ 0 ≤ x ∧ x < 2147483647
def St (ns : List Int) (h : EH) (s : Nat) : Prop := ∃ o, h[s]? = some o ∧ StO o ∧ h[0]? = some (.ro (ns.map EV.int)) ∧ s ≠ 0
theorem St.set {ns : List Int} {h : EH} {s : Nat} {o : EO} (hs : St ns h s) (ho : StO o) : St ns (h.set s o) s := by
  obtain ⟨o', h1, h2, h3, h4⟩ := hs
  exact ⟨o, List.getElem?_set_self (List.getElem?_eq_some_iff.mp h1).1, ho, by rw [List.getElem?_set_ne h4]; exact h3, h4⟩
theorem St.lt {ns : List Int} {h : EH} {s : Nat} (hs : St ns h s) : s < h.length := by
  obtain ⟨o', h1, _⟩ := hs
  exact (List.getElem?_eq_some_iff.mp h1).1
theorem St.fr {ns : List Int} {h h' : EH} {s : Nat} (hs : St ns h s) (f : Fr [] h h') : St ns h' s := by
  obtain ⟨o', h1, h2, h3, h4⟩ := hs
  exact ⟨o', f.at h1 (by simp), h2, f.at h3 (by simp), h4⟩
theorem drawn {ns : List Int} {h : EH} {s : Nat} {m : Int} {Q : EV → EH → Prop} (hs : St ns h s) (h0 : 0 < m) (h1 : m ≤ 1000000000000000000) (q : ∀ (r : Int) o, 0 ≤ r → r < m → StO o → Q (.int r) (h.set s o)) : Tri (m__law_drawn [.ref s, .int m] h) Q := by
  obtain ⟨o, g1, ⟨b, x, l, rfl, hb, hx, hx2⟩, g3, g4⟩ := hs
  have hsl := (List.getElem?_eq_some_iff.mp g1).1
  have e : mutAt h s = some [.ref 0, .int b, .int x, .int l] := by unfold mutAt; rw [g1]
  have e' := lst_mut e
  have i3 : fIx (.ref s) (.int 3) h = .ok (.int l) h := f_ixL 3 e' 3 rfl rfl
  have i1 : fIx (.ref s) (.int 1) h = .ok (.int b) h := f_ixL 1 e' 1 rfl rfl
  have m64 : m < 18446744073709551616 := by omega
  rw [u__law_drawn]
  by_cases hl : 0 < l
  · simp [b__law_drawn, i3, hl, f_mod _ _ _ h0, f_div _ _ _ h0 m64, s_lst 3 e 3 rfl (by simp)]
    exact q _ _ (Int.emod_nonneg _ (by omega)) (Int.emod_lt_of_pos _ h0) ⟨b, x, l / m, rfl, hb, hx, hx2⟩
  · simp [b__law_drawn, i3, hl, i1, s_lst 1 e 1 rfl (by simp)]
    generalize eh1 : h.set s (.lst [.ref 0, .int (b + 1), .int x, .int l]) = h1
    have l1 : s < h1.length := by rw [← eh1, List.length_set]; exact hsl
    have e1 : mutAt h1 s = some [.ref 0, .int (b + 1), .int x, .int l] := by rw [← eh1]; exact mutAt_set hsl
    have e1' := lst_mut e1
    have es : lstAt h1 0 = some (ns.map EV.int) := by
      rw [← eh1, lstAt_ne g4]
      unfold lstAt
      rw [g3]
    have j1 : fIx (.ref s) (.int 1) h1 = .ok (.int (b + 1)) h1 := f_ixL 1 e1' 1 rfl rfl
    have j0 : fIx (.ref s) (.int 0) h1 = .ok (.ref 0) h1 := f_ixL 0 e1' 0 rfl rfl
    have j2 : fIx (.ref s) (.int 2) h1 = .ok (.int x) h1 := f_ixL 2 e1' 2 rfl rfl
    have hset : ∀ o, h1.set s o = h.set s o := fun o => by rw [← eh1, List.set_set]
    by_cases hn : b + 1 ≤ (ns.length : Int)
    · obtain ⟨k, rfl⟩ := Int.eq_ofNat_of_zero_le hb
      have hk : k < ns.length := by omega
      have jc : fIx (.ref 0) (.int (k : Int)) h1 = .ok (.int ns[k]) h1 := f_ixL _ es k rfl (by rw [List.getElem?_map, List.getElem?_eq_getElem hk]; rfl)
      by_cases hc : 1000000000000000000 ≤ ns[k]
      · simp [j0, j1, f_len es, hn, jc, hc, f_div _ _ _ h0 m64, s_lst 3 e1 3 rfl (by simp), f_mod _ _ _ h0, hset]
        exact q _ _ (Int.emod_nonneg _ (by omega)) (Int.emod_lt_of_pos _ h0) ⟨_, _, _, rfl, by omega, hx, hx2⟩
      · simp [j0, j1, f_len es, hn, jc, hc, f_div _ _ _ h0 m64, s_lst 3 e1 3 rfl (by simp), f_mod _ _ _ h0, hset]
        exact q _ _ (Int.emod_nonneg _ (by omega)) (Int.emod_lt_of_pos _ h0) ⟨_, _, _, rfl, by omega, hx, hx2⟩
    · simp [j0, j1, j2, f_len es, hn, f_mul _ _ _ (show -18446744073709551616 < (48271 : Int) by decide) (by decide), f_mod _ _ _ (show (0 : Int) < 2147483647 by decide), s_lst 2 e1 2 rfl (by simp)]
      have hx0 : 0 ≤ (x * 48271 + 11) % 2147483647 := Int.emod_nonneg _ (by decide)
      have hx1 : (x * 48271 + 11) % 2147483647 < 2147483647 := Int.emod_lt_of_pos _ (by decide)
      generalize (x * 48271 + 11) % 2147483647 = x' at hx0 hx1
      rw [hset]
      have k2 : fIx (.ref s) (.int 2) (h.set s (.lst [.ref 0, .int (b + 1), .int x', .int l])) = .ok (.int x') (h.set s (.lst [.ref 0, .int (b + 1), .int x', .int l])) := f_ixL 2 (lstAt_set hsl) 2 rfl rfl
      simp [k2, f_div _ _ _ (show (0 : Int) < 7 by decide) (by decide), f_mod _ _ _ h0]
      exact q _ _ (Int.emod_nonneg _ (by omega)) (Int.emod_lt_of_pos _ h0) ⟨_, _, _, rfl, by omega, hx0, hx1⟩
theorem drawnF {ns : List Int} {h : EH} {s : Nat} {m : Int} {Q : EV → EH → Prop} (hs : St ns h s) (h0 : 0 < m) (h1 : m ≤ 1000000000000000000) (q : ∀ (r : Int) h', 0 ≤ r → r < m → St ns h' s → Fr [s] h h' → h'.length = h.length → Q (.int r) h') : Tri (m__law_drawn [.ref s, .int m] h) Q :=
  drawn hs h0 h1 fun r o a b ho => q r _ a b (hs.set ho) ((Fr.refl _ _).set (.inl (by simp))) (List.length_set ..)
theorem start {ns : List Int} {h : EH} {Q : EV → EH → Prop} (hs : h[0]? = some (.ro (ns.map EV.int))) (q : ∀ h', St ns h' h.length → Fr [] h h' → Q (.ref h.length) h') : Tri (m__law_start [.ref 0] h) Q := by
  have es : lstAt h 0 = some (ns.map EV.int) := by
    unfold lstAt
    rw [hs]
  rw [u__law_start]
  simp [b__law_start, kItL_ref es, tri_bind]
  refine tri_for (xs := ns.map EV.int) (fun i es' h' => h' = h ∧ ∃ x c, es' = [some (.ref 0), some (.int x), c] ∧ 0 ≤ x ∧ x < 2147483647) ⟨rfl, 1, none, rfl, by decide, by decide⟩ (fun i es' h' ⟨e, _⟩ => by subst e; exact es) ?_ ?_
  · rintro i v es' h' K hv ⟨rfl, x, c, rfl, hx, hx2⟩ hK _ _ _
    rw [List.getElem?_map] at hv
    obtain ⟨n, hn, rfl⟩ := Option.map_eq_some_iff.mp hv
    simp [f_mul _ _ _ (show -18446744073709551616 < (48271 : Int) by decide) (by decide), f_mod _ _ _ (show (0 : Int) < 2147483647 by decide)]
    exact hK _ _ ⟨rfl, _, _, rfl, Int.emod_nonneg _ (by decide), Int.emod_lt_of_pos _ (by decide)⟩
  · rintro es' h' ⟨rfl, x, c, rfl, hx, hx2⟩
    simp
    refine q _ ⟨_, by simp, ⟨0, x, 0, rfl, by decide, hx, hx2⟩, ?_, ?_⟩ (Fr.app _ _ _)
    · rw [List.getElem?_append_left (List.getElem?_eq_some_iff.mp hs).1]
      exact hs
    · have := (List.getElem?_eq_some_iff.mp hs).1
      omega
end LW
set_option Elab.async false
set_option linter.all false
set_option maxRecDepth 100000
set_option maxHeartbeats 4000000
namespace LW
open PySem L2 EE
mutual
def Dt (h : EH) : PyData → EV → Prop
  | .none, x => x = .non
  | .bool b, x => x = .bl b
  | .int i, x => x = .int i
  | .str s, x => x = .str s
  | .list ds, x => ∃ n xs, x = .ref n ∧ lstAt h n = some xs ∧ Dts h ds xs
  | .tuple ds, x => ∃ xs, x = .tup xs ∧ Dts h ds xs
  | .dict _, _ => False
def Dts (h : EH) : List PyData → List EV → Prop
  | [], xs => xs = []
  | d :: ds, xs => ∃ x r, xs = x :: r ∧ Dt h d x ∧ Dts h ds r
end
mutual
theorem Dt.fr {h h' : EH} (f : Fr [] h h') : ∀ (d : PyData) (x : EV), Dt h d x → Dt h' d x
  | .none, x, e => by simp only [Dt] at e ⊢; exact e
  | .bool b, x, e => by simp only [Dt] at e ⊢; exact e
  | .int b, x, e => by simp only [Dt] at e ⊢; exact e
  | .str b, x, e => by simp only [Dt] at e ⊢; exact e
  | .list ds, x, e => by
    simp only [Dt] at e ⊢
    obtain ⟨n, xs, e1, e2, e3⟩ := e
    exact ⟨n, xs, e1, f.lst e2 (by simp), Dts.fr f ds xs e3⟩
  | .tuple ds, x, e => by
    simp only [Dt] at e ⊢
    obtain ⟨xs, e1, e3⟩ := e
    exact ⟨xs, e1, Dts.fr f ds xs e3⟩
  | .dict _, x, e => by simp only [Dt] at e
theorem Dts.fr {h h' : EH} (f : Fr [] h h') : ∀ (d : List PyData) (x : List EV), Dts h d x → Dts h' d x
  | [], x, e => by simp only [Dts] at e ⊢; exact e
  | d :: ds, x, e => by
    simp only [Dts] at e ⊢
    obtain ⟨y, r, e1, e2, e3⟩ := e
    exact ⟨y, r, e1, Dt.fr f d y e2, Dts.fr f ds r e3⟩
end
theorem Dts.length {h : EH} : ∀ {ds : List PyData} {xs : List EV}, Dts h ds xs → xs.length = ds.length
  | [], xs, e => by simp only [Dts] at e; subst e; rfl
  | d :: ds, xs, e => by
    simp only [Dts] at e
    obtain ⟨x, r, rfl, _, e3⟩ := e
    simp [Dts.length e3]
theorem Dts.get {h : EH} : ∀ {ds : List PyData} {xs : List EV} {i : Nat} {d : PyData}, Dts h ds xs → ds[i]? = some d → ∃ x, xs[i]? = some x ∧ Dt h d x
  | [], xs, i, d, e, he => by simp at he
  | d :: ds, xs, 0, d', e, he => by
    simp only [Dts] at e
    obtain ⟨x, r, rfl, e2, e3⟩ := e
    simp only [List.getElem?_cons_zero, Option.some.injEq] at he
    subst he
    exact ⟨x, rfl, e2⟩
  | d :: ds, xs, i + 1, d', e, he => by
    simp only [Dts] at e
    obtain ⟨x, r, rfl, e2, e3⟩ := e
    simp only [List.getElem?_cons_succ] at he ⊢
    exact Dts.get e3 he
theorem depth_get : ∀ {ds : List PyData} {i : Nat} {d : PyData}, ds[i]? = some d → d.depth ≤ PyData.depthAll ds
  | [], i, d, he => by simp at he
  | d :: ds, 0, d', he => by
    simp only [List.getElem?_cons_zero, Option.some.injEq] at he
    subst he
    simp only [PyData.depthAll]
    omega
  | d :: ds, i + 1, d', he => by
    simp only [List.getElem?_cons_succ] at he
    have := depth_get he
    simp only [PyData.depthAll]
    omega
theorem f_eqNil {h : EH} {a b : Nat} (ha : lstAt h a = some []) (hb : lstAt h b = some []) : fEq (.ref a) (.ref b) h = .ok (.bl true) h := by
  show (Res.no).orElse _ = _
  simp only [orE_no]
  have key : ∀ k, lstAt h k = some [] → dat h (.ref k) = some (.list []) := fun k hk => by
    unfold dat
    simp only [dat0, datF, hk, dat0s, Option.map_some]
  simp only [fEqD, key a ha, key b hb]
  rfl
theorem rng_at {n i : Nat} {x : EV} (h : (rng 0 n)[i]? = some x) : i < n ∧ x = .int (i : Int) := by
  obtain ⟨h1, h2⟩ := rng_get h
  exact ⟨h1, by rw [h2]; congr 1; omega⟩
mutual
def sm : PyData → Bool
  | .none => true
  | .bool _ => true
  | .int _ => true
  | .str _ => true
  | .list ds => decide (ds.length < 40000) && sms ds
  | .tuple ds => decide (ds.length < 40000) && sms ds
  | .dict _ => false
def sms : List PyData → Bool
  | [] => true
  | d :: ds => sm d && sms ds
end
theorem sm_get : ∀ {ds : List PyData} {i : Nat} {d : PyData}, sms ds = true → ds[i]? = some d → sm d = true
  | [], i, d, _, he => by simp at he
  | d :: ds, 0, d', hs, he => by
    simp only [List.getElem?_cons_zero, Option.some.injEq] at he
    subst he
    simp only [sms, Bool.and_eq_true] at hs
    exact hs.1
  | d :: ds, i + 1, d', hs, he => by
    simp only [List.getElem?_cons_succ] at he
    simp only [sms, Bool.and_eq_true] at hs
    exact sm_get hs.2 he
theorem same_comp {rec : DL} {h : EH} {ds : List PyData} {X Y : EV} {xs ys : List EV} (hx : Dts h ds xs) (hy : Dts h ds ys) (hl : ds.length < 40000)
    (ix : ∀ h', Fr [] h h' → ∀ (i : Nat) (x : EV), xs[i]? = some x → fIx X (.int (i : Int)) h' = .ok x h') (iy : ∀ h', Fr [] h h' → ∀ (i : Nat) (x : EV), ys[i]? = some x → fIx Y (.int (i : Int)) h' = .ok x h')
    (ih : ∀ h', Fr [] h h' → ∀ (i : Nat) (d : PyData) (x y : EV), ds[i]? = some d → Dt h' d x → Dt h' d y → Tri (rec [x, y] h') fun v h2 => v = .bl true ∧ Fr [] h' h2)
    {Q : EV → EH → Prop} (q : ∀ k h', lstAt h' k = some [] → Fr [] h h' → Q (.ref k) h') :
    Tri (kLc (dName 2) (dNot (dB (dCall rec (dCons (dOp fIx (dVar 0) (dVar 2)) (dCons (dOp fIx (dVar 1) (dVar 2)) dNil))))) (dVar 2) [2] [some X, some Y, none] ⟨none, rng 0 (ds.length : Int).toNat, fun _ x => x⟩ h) Q := by
  refine tri_lcP (xs := rng 0 (ds.length : Int).toNat) (fun _ => false) (fun _ => .non) (by rw [rng_len]; omega) (fun h' _ => rfl) (fun i x h' K hxi hf hK => ?_) (fun _ _ _ _ _ _ hp _ => by cases hp) fun h' hf => ?_
  · obtain ⟨h1, rfl⟩ := rng_at hxi
    have hi : i < ds.length := by omega
    obtain ⟨x, e1, e2⟩ := hx.get (List.getElem?_eq_getElem hi)
    obtain ⟨y, e3, e4⟩ := hy.get (List.getElem?_eq_getElem hi)
    simp [wip, ix h' hf i x e1, iy h' hf i y e3, tri_bind]
    refine (ih h' hf i _ x y (List.getElem?_eq_getElem hi) (Dt.fr hf _ _ e2) (Dt.fr hf _ _ e4)).mono ?_
    rintro v h2 ⟨rfl, f2⟩
    exact hK _ f2
  · refine q _ _ ?_ (hf.trans (Fr.app _ _ _))
    rw [gvn_false]
    simp
theorem same : ∀ (n : Nat) (d : PyData) (x y : EV) (h : EH), Dt h d x → Dt h d y → d.depth < n → sm d = true → Tri (m__law_same n [x, y] h) fun v h' => v = .bl true ∧ Fr [] h h'
  | 0, d, x, y, h, _, _, hd, _ => by omega
  | n + 1, .none, x, y, h, hx, hy, hd, _ => by
    simp only [Dt] at hx hy
    subst hx hy
    rw [u__law_same]
    simp [b__law_same, Ty.isa, Fr.refl]
  | n + 1, .bool b, x, y, h, hx, hy, hd, _ => by
    simp only [Dt] at hx hy
    subst hx hy
    rw [u__law_same]
    simp [b__law_same, Ty.isa, Fr.refl]
  | n + 1, .int b, x, y, h, hx, hy, hd, _ => by
    simp only [Dt] at hx hy
    subst hx hy
    rw [u__law_same]
    simp [b__law_same, Ty.isa, Fr.refl]
  | n + 1, .str b, x, y, h, hx, hy, hd, _ => by
    simp only [Dt] at hx hy
    subst hx hy
    rw [u__law_same]
    simp [b__law_same, Ty.isa, Fr.refl]
  | n + 1, .dict _, x, y, h, hx, hy, hd, _ => by simp only [Dt] at hx
  | n + 1, .tuple ds, x, y, h, hx, hy, hd, hs => by
    simp only [Dt] at hx hy
    obtain ⟨xs, rfl, hx⟩ := hx
    obtain ⟨ys, rfl, hy⟩ := hy
    simp only [sm, Bool.and_eq_true, decide_eq_true_eq] at hs
    rw [u__law_same]
    simp [b__law_same, Ty.isa, Fr.refl, hx.length, hy.length, ap_kItR1 h (ds.length : Int) (by omega) (by omega), tri_bind]
    refine same_comp hx hy hs.1 (fun h' _ i x e => f_ixT _ i rfl e) (fun h' _ i x e => f_ixT _ i rfl e) (fun h' hf i d x y hd2 h1 h2 => same n d x y h' h1 h2 (by have := depth_get hd2; simp only [PyData.depth] at hd; omega) (sm_get hs.2 hd2)) fun k h' hk hf => ?_
    simp [f_eqNil (lstAt_app hk) lstAt_new, hf.trans (Fr.app _ _ _)]
  | n + 1, .list ds, x, y, h, hx, hy, hd, hs => by
    simp only [Dt] at hx hy
    obtain ⟨a, xs, rfl, hxs, hx⟩ := hx
    obtain ⟨b, ys, rfl, hys, hy⟩ := hy
    simp only [sm, Bool.and_eq_true, decide_eq_true_eq] at hs
    rw [u__law_same]
    simp [b__law_same, Ty.isa, Fr.refl, hx.length, hy.length, kIsi2_lst _ _ hxs, kIsi2_lst _ _ hys, kIsi_lst _ hxs, kIsi_lst _ hys, f_len hxs, f_len hys, ap_kItR1 h (ds.length : Int) (by omega) (by omega), tri_bind]
    refine same_comp hx hy hs.1 (fun h' f i x e => f_ixL _ (f.lst hxs (by simp)) i rfl e) (fun h' f i x e => f_ixL _ (f.lst hys (by simp)) i rfl e) (fun h' hf i d x y hd2 h1 h2 => same n d x y h' h1 h2 (by have := depth_get hd2; simp only [PyData.depth] at hd; omega) (sm_get hs.2 hd2)) fun k h' hk hf => ?_
    simp [f_eqNil (lstAt_app hk) lstAt_new, hf.trans (Fr.app _ _ _)]
end LW
set_option Elab.async false
set_option linter.all false
set_option maxRecDepth 100000
set_option maxHeartbeats 4000000
namespace LW
open PySem L2 EE
abbrev prE (p : Nat × Nat) : EV := .tup [.int (p.1 : Int), .int (p.2 : Int)]
abbrev prD (p : Nat × Nat) : PyData := .tuple [.int (p.1 : Int), .int (p.2 : Int)]
def prs (ps : List (Nat × Nat)) : List EV := ps.map prE
theorem dat_pr {h : EH} (a b : Int) : dat h (.tup [.int a, .int b]) = some (.tuple [.int a, .int b]) := by
  simp [dat, dat0, dat0s]
theorem dat0s_prs (f : Nat → Option (List PyData)) : ∀ ps : List (Nat × Nat), dat0s f (prs ps) = some (ps.map prD)
  | [] => by simp [prs, dat0s]
  | p :: ps => by
    have := dat0s_prs f ps
    simp only [prs] at this ⊢
    simp [dat0s, dat0, this]
theorem datF_prs {h : EH} {t : Nat} {ps : List (Nat × Nat)} (e : lstAt h t = some (prs ps)) (m : Nat) : datF h (m + 1) t = some (ps.map prD) := by
  simp only [datF, e]
  exact dat0s_prs _ ps
theorem eqv_pr (a b c d : Int) : PyData.eqv (.tuple [.int a, .int b]) (.tuple [.int c, .int d]) = (decide (a = c) && decide (b = d)) := by
  simp only [PyData.eqv, PyData.eqvAll, Bool.and_true]
  rw [Bool.beq_eq_decide_eq, Bool.beq_eq_decide_eq]
theorem canLay_prs : ∀ ps : List (Nat × Nat), PyData.canLayAll0 (ps.map prD) = true
  | [] => by simp [PyData.canLayAll0]
  | p :: ps => by simp [PyData.canLayAll0, PyData.canLay0, canLay_prs ps]
theorem depth_prs : ∀ ps : List (Nat × Nat), PyData.depthAll (ps.map prD) ≤ 1
  | [] => by simp [PyData.depthAll]
  | p :: ps => by
    have := depth_prs ps
    simp only [List.map_cons, PyData.depthAll, PyData.depth]
    omega
theorem shaped_prs (ps : List (Nat × Nat)) : SeqAt.shaped (.list (ps.map prD)) = true := by
  unfold SeqAt.shaped
  have := depth_prs ps
  simp only [PyData.canLay0, canLay_prs, PyData.depth, Bool.true_and, decide_eq_true_eq]
  exact decide_eq_true (Nat.le_trans (Nat.succ_le_succ this) (show 2 ≤ 64 by decide))
theorem shaped_pr (a b : Int) : SeqAt.shaped (.tuple [.int a, .int b]) = true := by
  simp [SeqAt.shaped, PyData.canLay0, PyData.canLayAll0, PyData.depth, PyData.depthAll]
theorem f_inPr {h : EH} {t : Nat} {ps : List (Nat × Nat)} (e : lstAt h t = some (prs ps)) (a b : Nat) : fIn (.tup [.int (a : Int), .int (b : Int)]) (.ref t) h = .ok (.bl (decide ((a, b) ∈ ps))) h := by
  show fInL false _ _ _ = _
  simp only [fInL, dat_pr, datF_prs e 3, shaped_pr, shaped_prs, Bool.and_self, if_true]
  congr 2
  rw [Bool.eq_iff_iff]
  simp only [Bool.and_true, Bool.false_bne, List.any_map, List.any_eq_true, Function.comp_apply, decide_eq_true_eq]
  constructor
  · rintro ⟨⟨c, d⟩, hm, he⟩
    rw [eqv_pr] at he
    simp only [Bool.and_eq_true, decide_eq_true_eq] at he
    have e1 : c = a := by omega
    have e2 : d = b := by omega
    rw [← e1, ← e2]
    exact hm
  · intro hm
    exact ⟨(a, b), hm, by rw [eqv_pr]; simp⟩
def TiesOk (n : Nat) (ps : List (Nat × Nat)) : Prop := ∀ p ∈ ps, p.1 < n ∧ p.2 < n ∧ p.1 ≠ p.2
theorem other_ne {n a r : Int} (h2 : 2 ≤ n) (h8 : n ≤ 8) (ha : 0 ≤ a) (ha2 : a < n) (hr : 0 ≤ r) (hr2 : r < n - 1) : 0 ≤ (a + 1 + r) % n ∧ (a + 1 + r) % n < n ∧ (a + 1 + r) % n ≠ a := by
  have : n = 2 ∨ n = 3 ∨ n = 4 ∨ n = 5 ∨ n = 6 ∨ n = 7 ∨ n = 8 := by omega
  rcases this with rfl | rfl | rfl | rfl | rfl | rfl | rfl <;> omega
theorem prs_app (ps qs : List (Nat × Nat)) : prs ps ++ prs qs = prs (ps ++ qs) := by simp [prs]
theorem cut_drop (ps : List EV) (k : Nat) : cutE ps (some (k : Int)) none = ps.drop k := by
  unfold cutE
  rw [show HT.sIx ps.length 0 (some (k : Int)) = min k ps.length from HT.sIx_nat _ _ _, show HT.sIx ps.length ps.length none = ps.length from rfl]
  by_cases hk : k ≤ ps.length
  · rw [Nat.min_eq_left hk]
    apply List.take_of_length_le
    rw [List.length_drop]
    exact Nat.le_refl _
  · rw [Nat.min_eq_right (by omega), List.drop_of_length_le (Nat.le_refl _), List.drop_of_length_le (by omega)]
    simp
theorem ties {ns : List Int} {h : EH} {s n : Nat} {Q : EV → EH → Prop} (hs : St ns h s) (h2 : 2 ≤ n) (h8 : n ≤ 8) (q : ∀ t ps h', TiesOk n ps → ps.length ≤ 40 → mutAt h' t = some (prs ps) → h.length ≤ t → St ns h' s → Fr [s] h h' → Q (.ref t) h') : Tri (m__law_ties [.ref s, .int (n : Int)] h) Q := by
  rw [u__law_ties]
  simp [b__law_ties, tri_bind, f_mulL _ 3 (n : Int) (by decide) (by decide)]
  have hs1 : St ns (h ++ [.lst []] ++ [.lst [.int 3, .int (n + 1), .int (3 * n)]]) s := (hs.fr (Fr.app _ _ _)).fr (Fr.app _ _ _)
  have f1 : Fr [s] h (h ++ [.lst []] ++ [.lst [.int 3, .int (n + 1), .int (3 * n)]]) := (Fr.app _ _ _).trans (Fr.app _ _ _)
  have hc : h.length ≠ s := by have := hs.lt; omega
  have e0 : mutAt (h ++ [.lst []] ++ [.lst [.int 3, .int (n + 1), .int (3 * n)]]) h.length = some [] := mutAt_app mutAt_new
  have e1 : lstAt (h ++ [.lst []] ++ [.lst [.int 3, .int (n + 1), .int (3 * n)]]) (h ++ [EO.lst []]).length = some [.int 3, .int (n + 1), .int (3 * n)] := lstAt_new
  simp only [List.append_assoc, List.cons_append, List.nil_append, List.length_append, List.length_singleton] at hs1 f1 e0 e1
  refine drawnF hs1 (by decide) (by decide) fun r1 ha r1a r1b hsa fa la => ?_
  have e0a := fa.mut e0 (by simp [hc])
  have e1a := fa.lst e1 (by simp; have := hs.lt; omega)
  have f1a := f1.trans fa
  have : ∃ m : Int, fIx (.ref (h.length + 1)) (.int r1) ha = .ok (.int m) ha ∧ 0 < m ∧ m ≤ 24 := by
    have : r1 = 0 ∨ r1 = 1 ∨ r1 = 2 := by omega
    rcases this with rfl | rfl | rfl
    · exact ⟨3, f_ixL _ e1a 0 rfl rfl, by omega, by omega⟩
    · exact ⟨n + 1, f_ixL _ e1a 1 rfl rfl, by omega, by omega⟩
    · exact ⟨3 * n, f_ixL _ e1a 2 rfl rfl, by omega, by omega⟩
  obtain ⟨m, em, hm, hm2⟩ := this
  simp only [em, tri_ok]
  refine drawnF hsa hm (by omega) fun r2 hb r2a r2b hsb fb lb => ?_
  have e0b := fb.mut e0a (by simp [hc])
  have f1b := f1a.trans fb
  simp only [ap_kItR1 hb r2 (by omega) (by omega), tri_ok]
  refine tri_for (xs := rng 0 r2.toNat) (fun i es h' => ∃ ps a b c, es = [some (.ref s), some (.int n), some (.ref h.length), a, b, c, none] ∧ TiesOk n ps ∧ ps.length = i ∧ mutAt h' h.length = some (prs ps) ∧ St ns h' s ∧ Fr [s] h h')
    ⟨[], none, none, none, rfl, fun _ hp => by simp at hp, rfl, e0b, hsb, f1b⟩ (fun _ _ _ _ => rfl) ?_ ?_
  · rintro i x es h' K hx ⟨ps, a, b, c, rfl, hp, hpl, hmu, hst, hf⟩ hK _ _ _
    obtain ⟨hi, rfl⟩ := rng_at hx
    simp [tri_bind]
    refine drawnF hst (by omega) (by omega) fun r3 hc3 r3a r3b hsc fc lc => ?_
    have hmu3 := fc.mut hmu (by simp [hc])
    simp
    refine drawnF hsc (by omega) (by omega) fun r4 hc4 r4a r4b hsd fd ld => ?_
    have hmu4 := fd.mut hmu3 (by simp [hc])
    obtain ⟨o1, o2, o3⟩ := other_ne (n := (n : Int)) (by omega) (by omega) r3a r3b r4a r4b
    simp [f_mod _ _ _ (show (0 : Int) < n by omega), kBM_ref _ _ _ (lst_mut hmu4), m_append hmu4 (by simp [prs]; omega)]
    obtain ⟨k1, rfl⟩ := Int.eq_ofNat_of_zero_le r3a
    obtain ⟨k2, hk2⟩ := Int.eq_ofNat_of_zero_le o1
    rw [hk2] at o2 o3 ⊢
    have hlt := mutAt_lt hmu4
    refine hK _ _ ⟨ps ++ [(k1, k2)], _, _, _, rfl, ?_, by simp [hpl], ?_, ?_, ((hf.trans fc).trans fd).set (.inr (Nat.le_refl _))⟩
    · intro p hpm
      rcases List.mem_append.mp hpm with hpm | hpm
      · exact hp p hpm
      · rw [List.mem_singleton.mp hpm]
        exact ⟨by show k1 < n; omega, by show k2 < n; omega, by show k1 ≠ k2; omega⟩
    · rw [mutAt_set hlt, ← prs_app]
      rfl
    · obtain ⟨o, w1, w2, w3, w4⟩ := hsd
      refine ⟨o, by rw [List.getElem?_set_ne hc]; exact w1, w2, ?_, w4⟩
      rw [List.getElem?_set_ne]
      · exact w3
      · have := hs.lt
        omega
  · rintro es h' ⟨ps, a, b, c, rfl, hp, hpl, hmu, hst, hf⟩
    rw [rng_len] at hpl
    simp [tri_bind]
    refine drawnF hst (by decide) (by decide) fun r5 hd r5a r5b hse fe le => ?_
    have hmu5 := fe.mut hmu (by simp [hc])
    have f5 := hf.trans fe
    by_cases h5 : r5 = 0
    · simp [h5, ap_kItR1 hd ((n : Int) - 1) (by omega) (by omega), tri_bind]
      refine tri_lcP (xs := rng 0 (n - 1)) (fun _ => true) (fun i => prE (i, i + 1)) (by rw [rng_len]; omega) (fun _ _ => rfl) (fun i x h' K hx hf hK => ?_) (fun i x h' K hx hf _ hK => ?_) fun h6 f6 => ?_
      · simp
        exact hK _ (Fr.refl _ _)
      · obtain ⟨hi, rfl⟩ := rng_at hx
        simp [wip]
        exact hK _ (Fr.refl _ _)
      · rw [gvn_true, rng_len]
        have hst6 := (hse.fr f6).fr (Fr.app _ _ [EO.lst ((List.range (n - 1)).map fun i => prE (i, i + 1))])
        have hmu6 := (f6.trans (Fr.app _ _ [EO.lst ((List.range (n - 1)).map fun i => prE (i, i + 1))])).mut hmu5 (by simp)
        have hnew : lstAt (h6 ++ [EO.lst ((List.range (n - 1)).map fun i => prE (i, i + 1))]) h6.length = some ((List.range (n - 1)).map fun i => prE (i, i + 1)) := lstAt_new
        have f7 := f5.trans ((f6.trans (Fr.app _ _ [EO.lst ((List.range (n - 1)).map fun i => prE (i, i + 1))])).weak (by simp))
        generalize h6 ++ [EO.lst ((List.range (n - 1)).map fun i => prE (i, i + 1))] = h7 at *
        refine drawnF hst6 (by decide) (by decide) fun r8 h8' r8a r8b hs8 f8 l8 => ?_
        have hmu8 := f8.mut hmu6 (by simp [hc])
        have hne6 : h6.length ≠ s := by
          have := hs.lt
          have := f6.1
          have := fe.1
          have := hf.1
          omega
        have hnew8 := f8.lst hnew (by simp [hne6])
        obtain ⟨k, rfl⟩ := Int.eq_ofNat_of_zero_le r8a
        have ep : ((List.range (n - 1)).map fun i => prE (i, i + 1)) = prs ((List.range (n - 1)).map fun i => (i, i + 1)) := by
          unfold prs
          rw [List.map_map]
          rfl
        rw [ep] at hnew8
        simp [f_slice hnew8, cut_drop]
        have ed : (prs ((List.range (n - 1)).map fun i => (i, i + 1))).drop k = prs (((List.range (n - 1)).map fun i => (i, i + 1)).drop k) := by
          unfold prs
          rw [List.map_drop]
        rw [ed]
        have hmu9 := mutAt_app (t := [EO.lst (prs (((List.range (n - 1)).map fun i => (i, i + 1)).drop k))]) hmu8
        have hl9 : (prs ps).length + (prs (((List.range (n - 1)).map fun i => (i, i + 1)).drop k)).length ≤ 100000 := by
          simp [prs]
          omega
        simp [f_cat hmu9 mutAt_new hl9, prs_app]
        refine q _ (ps ++ ((List.range (n - 1)).map fun i => (i, i + 1)).drop k) _ ?_ ?_ ?_ ?_ ?_ ?_
        · intro p hpm
          rcases List.mem_append.mp hpm with hpm | hpm
          · exact hp p hpm
          · obtain ⟨i, hi, rfl⟩ := List.mem_map.mp (List.mem_of_mem_drop hpm)
            have := List.mem_range.mp hi
            exact ⟨by show i < n; omega, by show i + 1 < n; omega, by show i ≠ i + 1; omega⟩
        · simp
          omega
        · have e9 : h8'.length + 1 = (h8' ++ [EO.lst (prs (((List.range (n - 1)).map fun i => (i, i + 1)).drop k))]).length := by simp
          rw [e9, show h8' ++ [EO.lst (prs (((List.range (n - 1)).map fun i => (i, i + 1)).drop k)), EO.lst (prs (ps ++ ((List.range (n - 1)).map fun i => (i, i + 1)).drop k))] = (h8' ++ [EO.lst (prs (((List.range (n - 1)).map fun i => (i, i + 1)).drop k))]) ++ [EO.lst (prs (ps ++ ((List.range (n - 1)).map fun i => (i, i + 1)).drop k))] by simp]
          exact mutAt_new
        · have := (f7.trans f8).1
          omega
        · exact hs8.fr (Fr.app _ _ _)
        · exact (f7.trans f8).trans (Fr.app _ _ _)
    · simp [h5]
      exact q _ ps _ hp (by omega) hmu5 (Nat.le_refl _) hse f5
end LW
set_option Elab.async false
set_option linter.all false
set_option maxRecDepth 100000
set_option maxHeartbeats 4000000
namespace LW
open PySem L2 EE
def adj (ps : List (Nat × Nat)) (i k : Nat) : Bool := decide ((i, k) ∈ ps) || decide ((k, i) ∈ ps)
def nats (xs : List Nat) : List EV := xs.map fun (i : Nat) => EV.int (i : Int)
theorem gvn_nats (n : Nat) (p : Nat → Bool) : gvn n p (fun i => .int (i : Int)) = nats ((List.range n).filter p) := rfl
def Rows (h : EH) (r : Nat) (n : Nat) (f : Nat → List EV) : Prop := ∃ rs : List Nat, lstAt h r = some (rs.map EV.ref) ∧ rs.length = n ∧ ∀ (i k : Nat), rs[i]? = some k → lstAt h k = some (f i)
theorem Rows.fr {h h' : EH} {r n : Nat} {f : Nat → List EV} (e : Rows h r n f) (fr : Fr [] h h') : Rows h' r n f := by
  obtain ⟨rs, h1, h2, h3⟩ := e
  exact ⟨rs, fr.lst h1 (by simp), h2, fun i k hk => fr.lst (h3 i k hk) (by simp)⟩
theorem Rows.get {h : EH} {r n : Nat} {f : Nat → List EV} (e : Rows h r n f) {i : Nat} (hi : i < n) : ∃ k, fIx (.ref r) (.int (i : Int)) h = .ok (.ref k) h ∧ lstAt h k = some (f i) := by
  obtain ⟨rs, h1, h2, h3⟩ := e
  have hl : i < rs.length := by omega
  exact ⟨rs[i], f_ixL _ h1 i rfl (by rw [List.getElem?_map, List.getElem?_eq_getElem hl]; rfl), h3 i _ (List.getElem?_eq_getElem hl)⟩
theorem near {h : EH} {t n : Nat} {ps : List (Nat × Nat)} {Q : EV → EH → Prop} (ht : lstAt h t = some (prs ps)) (h8 : n ≤ 8) (q : ∀ r h', Rows h' r n (fun i => nats ((List.range n).filter (adj ps i))) → Fr [] h h' → Q (.ref r) h') : Tri (m__law_near [.int (n : Int), .ref t] h) Q := by
  rw [u__law_near]
  simp [b__law_near, tri_bind, ap_kItR1 h (n : Int) (by omega) (by omega)]
  refine tri_lcJ (xs := rng 0 n) (fun i acc h' => Fr [] h h' ∧ ∃ rs : List Nat, acc = rs.map EV.ref ∧ rs.length = i ∧ i ≤ n ∧ ∀ (j k : Nat), rs[j]? = some k → lstAt h' k = some (nats ((List.range n).filter (adj ps j))))
    ⟨Fr.refl _ _, [], rfl, rfl, Nat.zero_le _, fun j k hk => by simp at hk⟩ (fun _ _ _ _ => rfl) (fun i acc h' q => ?_) (fun i x acc h' K hx q _ hK => ?_) fun acc h' q2 => ?_
  · obtain ⟨_, rs, rfl, hl, hn, _⟩ := q
    simp
    omega
  · obtain ⟨hf, rs, rfl, hl, hn, hr⟩ := q
    obtain ⟨hi, rfl⟩ := rng_at hx
    simp
    refine hK _ fun Ke hKe => ?_
    simp [wip, tri_bind, ap_kItR1 h' (n : Int) (by omega) (by omega)]
    refine tri_lcP (xs := rng 0 n) (adj ps i) (fun k => .int (k : Int)) (by rw [rng_len]; omega) (fun _ _ => rfl) (fun k x h2 K hx2 hf2 hK2 => ?_) (fun k x h2 K hx2 hf2 _ hK2 => ?_) fun h2 f2 => ?_
    · obtain ⟨hk, rfl⟩ := rng_at hx2
      simp [wip, tri_bind, f_inPr ((hf.trans hf2).lst ht (by simp))]
      have e : adj ps i k = (decide ((i, k) ∈ ps) || decide ((k, i) ∈ ps)) := rfl
      by_cases h1 : (i, k) ∈ ps
      · simp [h1]
        have := hK2 h2 (Fr.refl _ _)
        simp [e, h1] at this
        exact this
      · simp [h1, f_inPr ((hf.trans hf2).lst ht (by simp))]
        have := hK2 h2 (Fr.refl _ _)
        simp [e, h1] at this
        exact this
    · obtain ⟨hk, rfl⟩ := rng_at hx2
      simp [wip]
      exact hK2 h2 (Fr.refl _ _)
    · rw [rng_len, gvn_nats]
      refine hKe _ _ ⟨(hf.trans f2).trans (Fr.app _ _ _), rs ++ [h2.length], by simp, by simp [hl], by omega, fun j k hjk => ?_⟩
      by_cases hj : j < rs.length
      · rw [List.getElem?_append_left hj] at hjk
        exact lstAt_app (f2.lst (hr j k hjk) (by simp))
      · have hj2 : j = rs.length := by
          have := (List.getElem?_eq_some_iff.mp hjk).1
          simp at this
          omega
        subst hj2
        simp at hjk
        subst hjk
        rw [hl]
        exact lstAt_new
  · obtain ⟨hf, rs, rfl, hl, hn, hr⟩ := q2
    rw [rng_len] at hl
    refine q _ _ ⟨rs, lstAt_new, hl, fun i k hk => lstAt_app (hr i k hk)⟩ (hf.trans (Fr.app _ _ _))
theorem whole (v lo hi : Int) (h : EH) : m_is_whole [.int v, .int lo, .int hi] h = .ok (.bl (decide (lo ≤ v) && decide (v ≤ hi))) h := by
  rw [u_is_whole]
  by_cases h1 : lo ≤ v
  · simp [b_is_whole, Ty.isa, h1]
  · simp [b_is_whole, Ty.isa, h1]
theorem count (n : Int) (h : EH) (h2 : 2 ≤ n) (h8 : n ≤ 8) : m_check_count [.int n] h = .ok .non h := by
  rw [u_check_count]
  simp [b_check_count, whole, h2, h8]
theorem house (a n : Int) (h : EH) (h2 : 0 ≤ a) (h8 : a < n) : m_check_house [.int a, .int n] h = .ok .non h := by
  rw [u_check_house]
  simp [b_check_house, whole, h2, show a ≤ n - 1 by omega]
theorem two (a b n k : Int) (h : EH) : m_is_two [.tup [.int a, .int b], .int n, .int k] h = .ok (.bl ((decide (0 ≤ a) && decide (a ≤ n)) && (decide (0 ≤ b) && decide (b ≤ k)))) h := by
  rw [u_is_two]
  have e1 : fIx (.tup [.int a, .int b]) (.int 0) h = .ok (.int a) h := f_ixT _ 0 rfl rfl
  have e2 : fIx (.tup [.int a, .int b]) (.int 1) h = .ok (.int b) h := f_ixT _ 1 rfl rfl
  by_cases hc : 0 ≤ a ∧ a ≤ n
  · simp [b_is_two, Ty.isa, e1, e2, whole, hc]
  · have : (decide (0 ≤ a) && decide (a ≤ n)) = false := by
      rw [← Bool.not_eq_true]
      simp
      omega
    simp [b_is_two, Ty.isa, e1, e2, whole, this]
theorem pair (a b n : Int) (h : EH) : m_is_pair [.tup [.int a, .int b], .int n] h = .ok (.bl ((decide (0 ≤ a) && decide (a ≤ n - 1)) && (decide (0 ≤ b) && decide (b ≤ n - 1)))) h := by
  rw [u_is_pair]
  simp [b_is_pair, two]
end LW
set_option Elab.async false
set_option linter.all false
set_option maxRecDepth 100000
set_option maxHeartbeats 4000000
namespace LW
open PySem L2 EE
def nbr (ps : List (Nat × Nat)) (j : Nat) : List Nat := ps.flatMap fun p => (if p.1 = j then [p.2] else []) ++ (if p.2 = j then [p.1] else [])
theorem nbr_mem {ps : List (Nat × Nat)} {j k : Nat} : k ∈ nbr ps j ↔ adj ps j k = true := by
  unfold nbr adj
  simp only [List.mem_flatMap, Bool.or_eq_true, decide_eq_true_eq, List.mem_append]
  constructor
  · rintro ⟨⟨a, b⟩, hm, h | h⟩
    · by_cases e : a = j
      · simp [e] at h
        subst h e
        exact .inl hm
      · simp [e] at h
    · by_cases e : b = j
      · simp [e] at h
        subst h e
        exact .inr hm
      · simp [e] at h
  · rintro (h | h)
    · exact ⟨(j, k), h, .inl (by simp)⟩
    · exact ⟨(k, j), h, .inr (by simp)⟩
theorem nbr_snoc (ps : List (Nat × Nat)) (a b j : Nat) : nbr (ps ++ [(a, b)]) j = (nbr ps j ++ (if a = j then [b] else [])) ++ (if b = j then [a] else []) := by
  unfold nbr
  simp
theorem nbr_len (ps : List (Nat × Nat)) (j : Nat) : (nbr ps j).length ≤ 2 * ps.length := by
  induction ps with
  | nil => simp [nbr]
  | cons p ps ih =>
    have e : nbr (p :: ps) j = ((if p.1 = j then [p.2] else []) ++ (if p.2 = j then [p.1] else [])) ++ nbr ps j := by simp [nbr]
    rw [e]
    simp only [List.length_append, List.length_cons]
    have h1 : (if p.1 = j then [p.2] else []).length ≤ 1 := by split <;> simp
    have h2 : (if p.2 = j then [p.1] else []).length ≤ 1 := by split <;> simp
    omega
theorem nats_app (a b : List Nat) : nats a ++ nats b = nats (a ++ b) := by simp [nats]
def Bank (h : EH) (b n : Nat) (f : Nat → List Nat) : Prop := ∀ j, j < n → mutAt h (b + j) = some (nats (f j))
theorem Bank.push {h : EH} {b n : Nat} {f : Nat → List Nat} (B : Bank h b n f) {i c : Nat} (hi : i < n) : Bank (h.set (b + i) (.lst (nats (f i) ++ [.int (c : Int)]))) b n (fun j => f j ++ (if i = j then [c] else [])) := fun j hj => by
  have hl := mutAt_lt (B j hj)
  by_cases e : i = j
  · subst e
    rw [mutAt_set hl]
    simp only [if_pos, ← nats_app]
    rfl
  · rw [mutAt_ne (by omega), B j hj]
    simp [e]
theorem neighbours {h : EH} {t n : Nat} {ps : List (Nat × Nat)} {Q : EV → EH → Prop} (ht : lstAt h t = some (prs ps)) (hp : TiesOk n ps) (hl : ps.length ≤ 100) (h2 : 2 ≤ n) (h8 : n ≤ 8)
    (q : ∀ r h', Rows h' r n (fun i => nats (nbr ps i)) → Fr [] h h' → Q (.ref r) h') : Tri (m__neighbours [.int (n : Int), .ref t] h) Q := by
  rw [u__neighbours]
  simp [b__neighbours, tri_bind, count (n : Int) h (by omega) (by omega), kItL_ref ht]
  refine tri_for (xs := prs ps) (fun i es h' => h' = h ∧ ∃ x, es = [some (.int n), some (.ref t), x, none, none, none, none]) ⟨rfl, none, rfl⟩ (fun i es h' ⟨e, _⟩ => by subst e; exact ht) ?_ ?_
  · rintro i v es h' K hv ⟨rfl, x, rfl⟩ hK _ _ _
    unfold prs at hv
    rw [List.getElem?_map] at hv
    obtain ⟨p, hn, rfl⟩ := Option.map_eq_some_iff.mp hv
    obtain ⟨a, b⟩ := p
    obtain ⟨ha, hb, hab⟩ := hp _ (List.mem_of_getElem? hn)
    simp only at ha hb hab
    have e1 : fIx (.tup [.int (a : Int), .int (b : Int)]) (.int 0) h' = .ok (.int a) h' := f_ixT _ 0 rfl rfl
    have e2 : fIx (.tup [.int (a : Int), .int (b : Int)]) (.int 1) h' = .ok (.int b) h' := f_ixT _ 1 rfl rfl
    simp [tri_bind, pair, e1, e2, show (a : Int) ≤ n - 1 by omega, show (b : Int) ≤ n - 1 by omega, show ¬ (a : Int) = b by omega]
    exact hK _ _ ⟨rfl, _, rfl⟩
  · rintro es h' ⟨rfl, x, rfl⟩
    simp [tri_bind, ap_kItR1 h' (n : Int) (by omega) (by omega)]
    refine tri_lcJ (xs := rng 0 n) (fun i acc h2 => h2 = h' ++ List.replicate i (.lst []) ∧ acc = (List.range i).map (fun j => EV.ref (h'.length + j)) ∧ i ≤ n) ⟨by simp, by simp, Nat.zero_le _⟩ (fun _ _ _ _ => rfl) (fun i acc h2 q2 => by obtain ⟨_, rfl, hn⟩ := q2; simp; omega)
      (fun i x acc h2 K hx q2 _ hK => ?_) fun acc h2 q2 => ?_
    · obtain ⟨rfl, rfl, hn⟩ := q2
      obtain ⟨hi, rfl⟩ := rng_at hx
      simp
      refine hK _ fun Ke hKe => ?_
      simp
      refine hKe _ _ ⟨?_, ?_, by omega⟩
      · rw [List.replicate_succ']
      · rw [List.range_succ, List.map_append]
        rfl
    · obtain ⟨rfl, rfl, hn⟩ := q2
      rw [rng_len]
      generalize eh2 : h' ++ List.replicate n (EO.lst []) = h2
      have l2 : h2.length = h'.length + n := by rw [← eh2]; simp
      have f2 : Fr [] h' h2 := by rw [← eh2]; exact Fr.app _ _ _
      have B0 : Bank (h2 ++ [.lst ((List.range n).map fun j => EV.ref (h'.length + j))]) h'.length n (nbr []) := fun j hj => by
        refine mutAt_app ?_
        rw [← eh2]
        unfold mutAt
        rw [List.getElem?_append_right (by omega), Nat.add_sub_cancel_left, List.getElem?_replicate, if_pos hj]
        rfl
      have e0 : lstAt (h2 ++ [.lst ((List.range n).map fun j => EV.ref (h'.length + j))]) h2.length = some ((List.range n).map fun j => EV.ref (h'.length + j)) := lstAt_new
      have f3 : Fr [] h' (h2 ++ [.lst ((List.range n).map fun j => EV.ref (h'.length + j))]) := f2.trans (Fr.app _ _ _)
      generalize h2 ++ [.lst ((List.range n).map fun j => EV.ref (h'.length + j))] = h3 at *
      simp [tri_bind, kItL_ref (f3.lst ht (by simp))]
      refine tri_for (xs := prs ps) (fun i es h4 => ∃ x y z, es = [some (.int n), some (.ref t), x, some (.ref h2.length), y, z, none] ∧ Fr [] h' h4 ∧ Bank h4 h'.length n (nbr (ps.take i)) ∧ lstAt h4 h2.length = some ((List.range n).map fun j => EV.ref (h'.length + j)))
        ⟨x, none, none, rfl, f3, by simpa using B0, e0⟩ (fun i es h4 ⟨_, _, _, _, f, _⟩ => f.lst ht (by simp)) ?_ ?_
      · rintro i v es h4 K hv ⟨x, y, z, rfl, f4, B4, e4⟩ hK _ _ _
        unfold prs at hv
        rw [List.getElem?_map] at hv
        obtain ⟨p, hpi, rfl⟩ := Option.map_eq_some_iff.mp hv
        obtain ⟨a, b⟩ := p
        obtain ⟨ha, hb, hab⟩ := hp _ (List.mem_of_getElem? hpi)
        simp only at ha hb hab
        have ia : fIx (.ref h2.length) (.int (a : Int)) h4 = .ok (.ref (h'.length + a)) h4 := f_ixL _ e4 a rfl (by simp [ha])
        have hil := (List.getElem?_eq_some_iff.mp hpi).1
        have len1 := nbr_len (ps.take i) a
        have len2 := nbr_len (ps.take i) b
        simp only [List.length_take] at len1 len2
        have l1 : (nats (nbr (ps.take i) a)).length < 100000 := by simp [nats]; omega
        have B5 := B4.push (c := b) ha
        have e5 : lstAt (h4.set (h'.length + a) (.lst (nats (nbr (ps.take i) a) ++ [.int (b : Int)]))) h2.length = some ((List.range n).map fun j => EV.ref (h'.length + j)) := by
          rw [lstAt_ne (by omega)]
          exact e4
        have f5 : Fr [] h' (h4.set (h'.length + a) (.lst (nats (nbr (ps.take i) a) ++ [.int (b : Int)]))) := f4.set (.inr (by omega))
        simp [tri_bind, ia, kBM_ref _ _ _ (lst_mut (B4 a ha)), m_append (B4 a ha) l1]
        generalize h4.set (h'.length + a) (.lst (nats (nbr (ps.take i) a) ++ [.int (b : Int)])) = h5 at *
        have ib : fIx (.ref h2.length) (.int (b : Int)) h5 = .ok (.ref (h'.length + b)) h5 := f_ixL _ e5 b rfl (by simp [hb])
        have l3 : (nats (nbr (ps.take i) b ++ if a = b then [b] else [])).length < 100000 := by
          rw [if_neg hab]
          simp [nats]
          omega
        have B6 := B5.push (c := a) hb
        simp [ib, kBM_ref _ _ _ (lst_mut (B5 b hb)), m_append (B5 b hb) l3]
        refine hK _ _ ⟨_, _, _, rfl, f5.set (.inr (by omega)), ?_, ?_⟩
        · rw [List.take_add_one, hpi]
          have : nbr (ps.take i ++ [(a, b)]) = fun j => (nbr (ps.take i) j ++ (if a = j then [b] else [])) ++ (if b = j then [a] else []) := by
            funext j
            exact nbr_snoc _ a b j
          show Bank _ _ _ (nbr (ps.take i ++ [(a, b)]))
          rw [this]
          exact B6
        · rw [lstAt_ne (by omega)]
          exact e5
      · rintro es h4 ⟨x, y, z, rfl, f4, B4, e4⟩
        simp
        refine q _ _ ⟨(List.range n).map fun j => h'.length + j, ?_, by simp, fun i k hk => ?_⟩ f4
        · rw [e4, List.map_map]
          rfl
        · rw [List.getElem?_map] at hk
          obtain ⟨j, hj, rfl⟩ := Option.map_eq_some_iff.mp hk
          obtain ⟨h5, h6⟩ := List.getElem?_eq_some_iff.mp hj
          simp at h5 h6
          subst h6
          have := B4 i h5
          rw [List.take_of_length_le (by simp [prs])] at this
          exact lst_mut this
end LW
set_option Elab.async false
set_option linter.all false
set_option maxRecDepth 100000
set_option maxHeartbeats 4000000
namespace LW
open PySem L2 EE
abbrev naD (xs : List Nat) : List PyData := xs.map fun (i : Nat) => PyData.int (i : Int)
theorem dat0s_nats (f : Nat → Option (List PyData)) : ∀ xs : List Nat, dat0s f (nats xs) = some (naD xs)
  | [] => by simp [nats, dat0s]
  | p :: ps => by
    have := dat0s_nats f ps
    simp only [nats] at this ⊢
    simp [dat0s, dat0, this]
theorem datF_nats {h : EH} {t : Nat} {xs : List Nat} (e : lstAt h t = some (nats xs)) (m : Nat) : datF h (m + 1) t = some (naD xs) := by
  simp only [datF, e]
  exact dat0s_nats _ xs
theorem canLay_nats : ∀ xs : List Nat, PyData.canLayAll0 (naD xs) = true
  | [] => by simp [PyData.canLayAll0]
  | p :: ps => by
    have := canLay_nats ps
    simp [PyData.canLayAll0, PyData.canLay0, this]
theorem depth_nats : ∀ xs : List Nat, PyData.depthAll (naD xs) = 0
  | [] => by simp [PyData.depthAll]
  | p :: ps => by
    have := depth_nats ps
    simp only [List.map_cons, PyData.depthAll, PyData.depth, this]
    rfl
theorem shaped_nats (xs : List Nat) : SeqAt.shaped (.list (naD xs)) = true := by
  unfold SeqAt.shaped
  simp [PyData.canLay0, canLay_nats, PyData.depth, depth_nats]
theorem shaped_int (a : Int) : SeqAt.shaped (.int a) = true := by
  simp [SeqAt.shaped, PyData.canLay0, PyData.depth]
theorem f_inNat {h : EH} {t : Nat} {xs : List Nat} (e : lstAt h t = some (nats xs)) (a : Nat) : fIn (.int (a : Int)) (.ref t) h = .ok (.bl (decide (a ∈ xs))) h := by
  show fInL false _ _ _ = _
  have ed : dat h (.int (a : Int)) = some (.int a) := by simp [dat, dat0]
  simp only [fInL, ed, datF_nats e 3, shaped_int, shaped_nats, Bool.and_self, if_true]
  congr 2
  rw [Bool.eq_iff_iff]
  simp only [Bool.false_bne, List.any_map, List.any_eq_true, Function.comp_apply, decide_eq_true_eq, PyData.eqv]
  constructor
  · rintro ⟨b, hm, he⟩
    have e1 := eq_of_beq he
    have : b = a := by omega
    rw [← this]
    exact hm
  · intro hm
    exact ⟨a, hm, by simp⟩
theorem f_notInNat {h : EH} {t : Nat} {xs : List Nat} (e : lstAt h t = some (nats xs)) (a : Nat) : fNotIn (.int (a : Int)) (.ref t) h = .ok (.bl (decide (a ∉ xs))) h := by
  have h1 := f_inNat e a
  show fInL true _ _ _ = _
  have h1 : fInL false (.int (a : Int)) (.ref t) h = .ok (.bl (decide (a ∈ xs))) h := h1
  have ed : dat h (.int (a : Int)) = some (.int a) := by simp [dat, dat0]
  simp only [fInL, ed, datF_nats e 3, shaped_int, shaped_nats, Bool.and_self, if_true] at h1 ⊢
  injection h1 with h1 _
  injection h1 with h1
  simp only [Bool.false_bne] at h1
  rw [h1]
  simp
theorem dat_lst {h : EH} {n : Nat} {xs : List EV} {ds : List PyData} (e : lstAt h n = some xs) (hd : dat0s (datF h 3) xs = some ds) : dat h (.ref n) = some (.list ds) := by
  have h4 : datF h 4 n = some ds := by
    rw [show datF h 4 n = (match lstAt h n with | some xs => dat0s (datF h 3) xs | none => none) from rfl, e]
    exact hd
  unfold dat
  simp only [dat0, h4, Option.map_some]
theorem f_neNil {h : EH} {a b : Nat} {xs : List Nat} (ha : lstAt h a = some (nats xs)) (hb : lstAt h b = some []) : fNe (.ref a) (.ref b) h = .ok (.bl (!xs.isEmpty)) h := by
  show (Res.no).orElse _ = _
  have e1 := dat_lst ha (dat0s_nats _ xs)
  have e2 := dat_lst hb (show dat0s (datF h 3) [] = some [] by simp [dat0s])
  simp only [orE_no, fEqD, e1, e2, shaped_nats, Bool.true_and]
  rw [if_pos (by rfl)]
  cases xs with
  | nil => simp [PyData.eqv, PyData.eqvAll]
  | cons x xs => simp [PyData.eqv, PyData.eqvAll]
theorem eqv_prs : ∀ ps : List (Nat × Nat), PyData.eqvAll (ps.map prD) (ps.map prD) = true
  | [] => by simp [PyData.eqvAll]
  | p :: ps => by
    have := eqv_prs ps
    simp [PyData.eqvAll, PyData.eqv, this]
theorem f_nePrs {h : EH} {a b : Nat} {ps : List (Nat × Nat)} (ha : lstAt h a = some (prs ps)) (hb : lstAt h b = some (prs ps)) : fNe (.ref a) (.ref b) h = .ok (.bl false) h := by
  show (Res.no).orElse _ = _
  have e1 := dat_lst ha (dat0s_prs _ ps)
  have e2 := dat_lst hb (dat0s_prs _ ps)
  simp only [orE_no, fEqD, e1, e2, shaped_prs, Bool.and_self, if_true]
  simp [PyData.eqv, eqv_prs]
theorem gvn_filter (p : Nat → Bool) (xs : List Nat) : gvn xs.length (fun i => p (xs.getD i 0)) (fun i => .int ((xs.getD i 0 : Nat) : Int)) = nats (xs.filter p) := by
  have key : ∀ m, m ≤ xs.length → gvn m (fun i => p (xs.getD i 0)) (fun i => .int ((xs.getD i 0 : Nat) : Int)) = nats ((xs.take m).filter p) := by
    intro m
    induction m with
    | zero => intro _; simp [gvn, nats]
    | succ m ih =>
      intro hm
      have hlt : m < xs.length := by omega
      have ed : xs.getD m 0 = xs[m] := by simp [List.getD, hlt]
      rw [List.take_add_one, List.getElem?_eq_getElem hlt]
      simp only [Option.toList, List.filter_append]
      cases hp : p xs[m] with
      | true =>
        rw [gvn_yes (by rw [ed]; exact hp), ih (by omega), ed]
        simp [nats, hp]
      | false =>
        rw [gvn_no (by rw [ed]; exact hp), ih (by omega)]
        simp [nats, hp]
  rw [key _ (Nat.le_refl _), List.take_length]
theorem lc_nats {it : Wlk} {j : Nat} {t : DT} {vs : List Nat} {xs : List Nat} {es : ES} {h : EH} {Q : EV → EH → Prop} (p : Nat → Bool) (hl : xs.length < 50000) (hcur : ∀ h', Fr [] h h' → it.cur h' = some (nats xs)) (htl : ∀ i x, it.tl i x = x) (hj : j < es.length) (hvs : vs = [j])
    (ht : ∀ (x : Nat) h' (K : Bool → EH → Prop), x ∈ xs → Fr [] h h' → (∀ h2, Fr [] h' h2 → K (p x) h2) → Tri (t (es.set j (some (.int (x : Int)))) h') K)
    (hend : ∀ h', Fr [] h h' → Q (.ref h'.length) (h' ++ [.lst (nats (xs.filter p))])) : Tri (kLc (dName j) t (dVar j) vs es it h) Q := by
  subst hvs
  have eset : ∀ v : EV, (wip es [j]).set j (some v) = es.set j (some v) := fun v => by
    show ((es.set j none).set j (some v)) = _
    rw [List.set_set]
  refine tri_lcP (xs := nats xs) (fun i => p (xs.getD i 0)) (fun i => .int ((xs.getD i 0 : Nat) : Int)) (by simpa [nats] using hl) hcur (fun i v h' K hv hf hK => ?_) (fun i v h' K hv hf _ hK => ?_) fun h' hf => ?_
  · unfold nats at hv
    rw [List.getElem?_map] at hv
    obtain ⟨x, hx, rfl⟩ := Option.map_eq_some_iff.mp hv
    have ed : xs.getD i 0 = x := by simp [List.getD, hx]
    rw [htl, eset]
    rw [ed] at hK
    exact ht x h' K (List.mem_of_getElem? hx) hf hK
  · unfold nats at hv
    rw [List.getElem?_map] at hv
    obtain ⟨x, hx, rfl⟩ := Option.map_eq_some_iff.mp hv
    have ed : xs.getD i 0 = x := by simp [List.getD, hx]
    rw [htl, eset]
    rw [ed] at hK
    simp [List.getElem?_set_self hj]
    exact hK _ (Fr.refl _ _)
  · have : (nats xs).length = xs.length := by simp [nats]
    rw [this, gvn_filter]
    exact hend h' hf
theorem St.no {ns : List Int} {h : EH} {s k : Nat} (hs : St ns h s) {xs : List Nat} (e : lstAt h k = some (nats xs)) : k ≠ s := by
  rintro rfl
  obtain ⟨o, h1, ⟨b, x, l, rfl, _⟩, _⟩ := hs
  unfold lstAt at e
  rw [h1] at e
  cases xs with
  | nil => simp [nats] at e
  | cons y ys => simp [nats] at e
theorem St.noR {ns : List Int} {h : EH} {s k : Nat} (hs : St ns h s) {xs : List Nat} (e : lstAt h k = some (xs.map EV.ref)) : k ≠ s := by
  rintro rfl
  obtain ⟨o, h1, ⟨b, x, l, rfl, _⟩, _⟩ := hs
  unfold lstAt at e
  rw [h1] at e
  cases xs with
  | nil => simp at e
  | cons y ys =>
    cases ys with
    | nil => simp at e
    | cons z zs => simp at e
theorem Rows.frS {ns : List Int} {h h' : EH} {s r n : Nat} {g : Nat → List Nat} (hs : St ns h s) (e : Rows h r n fun i => nats (g i)) (f : Fr [s] h h') : Rows h' r n fun i => nats (g i) := by
  obtain ⟨rs, h1, h2, h3⟩ := e
  exact ⟨rs, f.lst h1 (by simp [hs.noR h1]), h2, fun i k hk => f.lst (h3 i k hk) (by simp [hs.no (h3 i k hk)])⟩
end LW
set_option Elab.async false
set_option linter.all false
set_option maxRecDepth 100000
set_option maxHeartbeats 4000000
namespace K07
open PySem PySem.Spec PyProof.Rows L2 EE
def topS (i : Nat) : Stmt := PySem.Challenge.pw_newsflood_k07_rounds_anywhere.main.body.getD i (.Pass ⟨0, 0, 0, 0⟩)
abbrev s__law_start : Stmt := topS 16
theorem sc__law_start : FnScope ["_law_script", "_law_mixed", "_law_cell"] ["_law_script"] (defScope s__law_start) := ⟨rfl, rfl, rfl, by decide +kernel, rfl, by decide +kernel, by decide +kernel⟩
abbrev s__law_drawn : Stmt := topS 17
theorem sc__law_drawn : FnScope ["_law_state", "_law_many", "_law_found", "_law_cell"] ["_law_state", "_law_many"] (defScope s__law_drawn) := ⟨rfl, rfl, rfl, by decide +kernel, rfl, by decide +kernel, by decide +kernel⟩
abbrev s__law_ties : Stmt := topS 19
theorem sc__law_ties : FnScope ["_law_state", "_law_many", "_law_found", "_law_k", "_law_one", "_law_other", "_law_house"] ["_law_state", "_law_many"] (defScope s__law_ties) := ⟨rfl, rfl, rfl, by decide +kernel, rfl, by decide +kernel, by decide +kernel⟩
abbrev s__law_near : Stmt := topS 20
theorem sc__law_near : FnScope ["_law_many", "_law_ties_here", "_law_house", "_law_k"] ["_law_many", "_law_ties_here"] (defScope s__law_near) := ⟨rfl, rfl, rfl, by decide +kernel, rfl, by decide +kernel, by decide +kernel⟩
abbrev s_is_whole : Stmt := topS 7
theorem sc_is_whole : FnScope ["value", "low", "high"] ["value", "low", "high"] (defScope s_is_whole) := ⟨rfl, rfl, rfl, by decide +kernel, rfl, by decide +kernel, by decide +kernel⟩
abbrev s_check_count : Stmt := topS 10
theorem sc_check_count : FnScope ["many"] ["many"] (defScope s_check_count) := ⟨rfl, rfl, rfl, by decide +kernel, rfl, by decide +kernel, by decide +kernel⟩
abbrev s_is_two : Stmt := topS 8
theorem sc_is_two : FnScope ["value", "first", "second"] ["value", "first", "second"] (defScope s_is_two) := ⟨rfl, rfl, rfl, by decide +kernel, rfl, by decide +kernel, by decide +kernel⟩
abbrev s_is_pair : Stmt := topS 9
theorem sc_is_pair : FnScope ["value", "many"] ["value", "many"] (defScope s_is_pair) := ⟨rfl, rfl, rfl, by decide +kernel, rfl, by decide +kernel, by decide +kernel⟩
abbrev s__neighbours : Stmt := topS 14
theorem sc__neighbours : FnScope ["many", "ties", "tie", "near", "one", "other", "house"] ["many", "ties"] (defScope s__neighbours) := ⟨rfl, rfl, rfl, by decide +kernel, rfl, by decide +kernel, by decide +kernel⟩
abbrev s_check_house : Stmt := topS 11
theorem sc_check_house : FnScope ["house", "many"] ["house", "many"] (defScope s_check_house) := ⟨rfl, rfl, rfl, by decide +kernel, rfl, by decide +kernel, by decide +kernel⟩
abbrev s_rounds : Stmt := topS 13
theorem sc_rounds : FnScope ["many", "ties", "start", "near", "found", "latest", "turn", "newcomers", "one", "other"] ["many", "ties", "start"] (defScope s_rounds) := ⟨rfl, rfl, rfl, by decide +kernel, rfl, by decide +kernel, by decide +kernel⟩
def b_rounds : DS :=
  (dSeq (dAsg (dCall LW.m__neighbours (dCons (dVar 0) (dCons (dVar 1) dNil))) (dName 3))
  (dSeq (dDrop (dCall LW.m_check_house (dCons (dVar 2) (dCons (dVar 0) dNil))))
  (dSeq (dAsg (dOp fMul (dLst (dCons (dC .non) dNil)) (dVar 0)) (dName 4))
  (dSeq (dAsg (dC (.int 0)) (dGSub (dVar 4) (dVar 2) sLst))
  (dSeq (dAsg (dLst (dCons (dVar 2) dNil)) (dName 5))
  (dSeq (dFor (dItR2 (dCons (dC (.int 1)) (dCons (dVar 0) dNil))) (dName 6)
  (dSeq (dAsg (dLst dNil) (dName 7))
  (dSeq (dFor (dItL (dVar 5)) (dName 8)
  (dFor (dItL (dOp fIx (dVar 3) (dVar 8))) (dName 9)
  (dIfS (dB (dOp (fIsN false) (dOp fIx (dVar 4) (dVar 9)) (dC .non))) (dSeq (dAsg (dVar 6) (dGSub (dVar 4) (dVar 9) sLst))
  (dDrop (dBM mApp (dVar 7) (dCons (dVar 9) dNil))))
  dNext)))
  (dAsg (dVar 7) (dName 5)))))
  (dRet (dVar 4))))))))
def m_rounds : DL := dDef 3 10 b_rounds
theorem u_rounds (a0 : EV) (a1 : EV) (a2 : EV) (h : EH) : m_rounds [a0, a1, a2] h = (b_rounds [some a0, some a1, some a2, none, none, none, none, none, none, none] h).bind kDef := rfl
abbrev s__law_same : Stmt := topS 18
theorem sc__law_same : FnScope ["_law_found", "_law_due", "_law_k"] ["_law_found", "_law_due"] (defScope s__law_same) := ⟨rfl, rfl, rfl, by decide +kernel, rfl, by decide +kernel, by decide +kernel⟩
abbrev s_law : Stmt := topS 22
theorem sc_law : FnScope ["_law_script", "_law_state", "_law_turn", "_law_many", "_law_ties_here", "_law_near_here", "_law_start_here", "_law_due", "_law_has", "_law_count", "_law_handed", "_law_again", "_law_found", "_law_k", "_law_j"] ["_law_script"] (defScope s_law) := ⟨rfl, rfl, rfl, by decide +kernel, rfl, by decide +kernel, by decide +kernel⟩
def b_law : DS :=
  (dSeq (dAsg (dCall LW.m__law_start (dCons (dVar 0) dNil)) (dName 1))
  (dSeq (dFor (dItR1 (dCons (dC (.int 6)) dNil)) (dName 2)
  (dSeq (dAsg (dOp fAdd (dC (.int 2)) (dCall LW.m__law_drawn (dCons (dVar 1) (dCons (dC (.int 7)) dNil)))) (dName 3))
  (dSeq (dAsg (dCall LW.m__law_ties (dCons (dVar 1) (dCons (dVar 3) dNil))) (dName 4))
  (dSeq (dAsg (dTup (dCons (dCall LW.m__law_near (dCons (dVar 3) (dCons (dVar 4) dNil))) (dCons (dCall LW.m__law_drawn (dCons (dVar 1) (dCons (dVar 3) dNil))) dNil))) (dGTup 2 (dGCons (dName 5) (dGCons (dName 6) dGNil))))
  (dSeq (dAsg (dTup (dCons (dOp fMul (dLst (dCons (dC .non) dNil)) (dVar 3)) (dCons (dLst dNil) dNil))) (dGTup 2 (dGCons (dName 7) (dGCons (dName 8) dGNil))))
  (dSeq (dFor (dItR1 (dCons (dVar 3) dNil)) (dName 9)
  (dSeq (dAsg (dLc (dItR1 (dCons (dVar 3) dNil)) (dName 13) (dOr (dB (dOp fIn (dVar 13) (dVar 8))) (dOr (dAnd (dB (dOp fEq (dVar 9) (dC (.int 0)))) (dB (dOp fEq (dVar 13) (dVar 6)))) (dAnd (dB (dOp fGt (dVar 9) (dC (.int 0)))) (dB (dOp fNe (dLc (dItL (dOp fIx (dVar 5) (dVar 13))) (dName 14) (dB (dOp fIn (dVar 14) (dVar 8))) (dVar 14) [14]) (dLst dNil)))))) (dVar 13) [13]) (dName 8))
  (dAsg (dLc (dItR1 (dCons (dVar 3) dNil)) (dName 13) dYes (dIf (dAnd (dB (dOp (fIsN false) (dOp fIx (dVar 7) (dVar 13)) (dC .non))) (dB (dOp fIn (dVar 13) (dVar 8)))) (dVar 9) (dOp fIx (dVar 7) (dVar 13))) [13]) (dName 7))))
  (dSeq (dAsg (dCB fListOf (dCons (dVar 4) dNil)) (dName 10))
  (dFor (dItR1 (dCons (dC (.int 2)) dNil)) (dName 11)
  (dSeq (dAsg (dCall m_rounds (dCons (dVar 3) (dCons (dVar 10) (dCons (dVar 6) dNil)))) (dName 12))
  (dSeq (dIfS (dOr (dNot (dB (dCall (LW.m__law_same 6) (dCons (dVar 12) (dCons (dVar 7) dNil))))) (dB (dOp fNe (dVar 10) (dVar 4)))) (dRet (dC (.bl false)))
  dNext)
  (dDrop (dBM mApp (dVar 12) (dCons (dC (.int 0)) dNil)))))))))))))
  (dRet (dC (.bl true)))))
def m_law : DL := dDef 1 15 b_law
theorem u_law (a0 : EV) (h : EH) : m_law [a0] h = (b_law [some a0, none, none, none, none, none, none, none, none, none, none, none, none, none, none] h).bind kDef := rfl
structure Top (K : Fg) (mg : Str → Option Value) : Prop where
  b_bool : mg "bool" = none
  b_int : mg "int" = none
  b_isinstance : mg "isinstance" = none
  b_len : mg "len" = none
  b_list : mg "list" = none
  b_range : mg "range" = none
  b_str : mg "str" = none
  b_tuple : mg "tuple" = none
  g_FEWEST_HOUSES : ∃ t, mg "FEWEST_HOUSES" = some (.int 2 t)
  g_MOST_HOUSES : ∃ t, mg "MOST_HOUSES" = some (.int 8 t)
  f__law_start : Tx K mg "_law_start" s__law_start ["_law_script"]
  f__law_drawn : Tx K mg "_law_drawn" s__law_drawn ["_law_state", "_law_many"]
  f__law_ties : Tx K mg "_law_ties" s__law_ties ["_law_state", "_law_many"]
  f__law_near : Tx K mg "_law_near" s__law_near ["_law_many", "_law_ties_here"]
  f_is_whole : Tx K mg "is_whole" s_is_whole ["value", "low", "high"]
  f_check_count : Tx K mg "check_count" s_check_count ["many"]
  f_is_two : Tx K mg "is_two" s_is_two ["value", "first", "second"]
  f_is_pair : Tx K mg "is_pair" s_is_pair ["value", "many"]
  f__neighbours : Tx K mg "_neighbours" s__neighbours ["many", "ties"]
  f_check_house : Tx K mg "check_house" s_check_house ["house", "many"]
  f_rounds : Tx K mg "rounds" s_rounds ["many", "ties", "start"]
  f__law_same : Tx K mg "_law_same" s__law_same ["_law_found", "_law_due"]
  f_law : Tx K mg "law" s_law ["_law_script"]
section
variable {P : Program} {w : World} {K : Fg} {mg : Str → Option Value} {base : Heap} {ct : Nat → Addr × List Str}
theorem d__law_start (T : Top K mg) : FnD P w K mg base ct 1 "_law_start" LW.m__law_start := by
  refine fnd_mk T.f__law_start sc__law_start fun f cdv A outer s H E hr => ?_
  exact (xss_cons (xs_set 1 sc__law_start.nd xe_int)
    (xss_cons (xs_for PassesOwn.never rfl (xi_list (xe_var 0)) (xg_name 2 sc__law_start.nd)
    (xss_one (xs_set 1 sc__law_start.nd (xe_op o_mod (xe_op o_add (xe_op o_add (xe_op o_mul (xe_var 1) xe_int) (xe_var 2)) xe_int) xe_int))))
    (xss_one (xs_ret (xe_lst (xa_cons (xe_var 0) (xa_cons xe_int (xa_cons (xe_var 1) (xa_cons xe_int xa_nil)))))))))
theorem d__law_drawn (T : Top K mg) : FnD P w K mg base ct 1 "_law_drawn" LW.m__law_drawn := by
  refine fnd_mk T.f__law_drawn sc__law_drawn fun f cdv A outer s H E hr => ?_
  exact (xss_cons (xs_if (xt_cmp o_gt (xe_ix i_ix (xe_var 0) xe_int) xe_int) (xss_cons (xs_set 2 sc__law_drawn.nd (xe_op o_mod (xe_ix i_ix (xe_var 0) xe_int) (xe_var 1)))
    (xss_cons (xs_asg (xe_op o_div (xe_ix i_ix (xe_var 0) xe_int) (xe_var 1)) (xg_sub (xe_var 0) xe_int set_lst))
    (xss_one (xs_ret (xe_var 2)))))
    xss_nil)
    (xss_cons (xs_asg (xe_op o_add (xe_ix i_ix (xe_var 0) xe_int) xe_int) (xg_sub (xe_var 0) xe_int set_lst))
    (xss_cons (xs_if (xt_cmp o_le (xe_ix i_ix (xe_var 0) xe_int) (xe_callB c_len (by rfl) T.b_len (by decide +kernel) (xa_cons (xe_ix i_ix (xe_var 0) xe_int) xa_nil))) (xss_cons (xs_set 3 sc__law_drawn.nd (xe_ix i_ix (xe_ix i_ix (xe_var 0) xe_int) (xe_op o_sub (xe_ix i_ix (xe_var 0) xe_int) xe_int)))
    (xss_cons (xs_asg (xe_if (xt_cmp o_ge (xe_var 3) (xe_op o_pow xe_int xe_int)) (xe_op o_div (xe_var 3) (xe_var 1)) xe_int) (xg_sub (xe_var 0) xe_int set_lst))
    (xss_one (xs_ret (xe_op o_mod (xe_var 3) (xe_var 1))))))
    xss_nil)
    (xss_cons (xs_asg (xe_op o_mod (xe_op o_add (xe_op o_mul (xe_ix i_ix (xe_var 0) xe_int) xe_int) xe_int) xe_int) (xg_sub (xe_var 0) xe_int set_lst))
    (xss_one (xs_ret (xe_op o_mod (xe_op o_div (xe_ix i_ix (xe_var 0) xe_int) xe_int) (xe_var 1))))))))
theorem d__law_ties (T : Top K mg) : FnD P w K mg base ct 2 "_law_ties" LW.m__law_ties := by
  have c__law_drawn := (d__law_drawn (P := P) (w := w) (base := base) (ct := ct) T).mono (show 1 ≤ 1 by decide)
  refine fnd_mk T.f__law_ties sc__law_ties fun f cdv A outer s H E hr => ?_
  exact (xss_cons (xs_set 2 sc__law_ties.nd (xe_lst xa_nil))
    (xss_cons (xs_for PassesOwn.never rfl (xi_rng1 (by rfl) T.b_range (xa_cons (xe_call c__law_drawn hr (by rfl) (xa_cons (xe_var 0) (xa_cons (xe_ix i_ix (xe_lst (xa_cons xe_int (xa_cons (xe_op o_add (xe_var 1) xe_int) (xa_cons (xe_op o_mul xe_int (xe_var 1)) xa_nil)))) (xe_call c__law_drawn hr (by rfl) (xa_cons (xe_var 0) (xa_cons xe_int xa_nil)))) xa_nil))) xa_nil)) (xg_name 3 sc__law_ties.nd)
    (xss_cons (xs_set 4 sc__law_ties.nd (xe_call c__law_drawn hr (by rfl) (xa_cons (xe_var 0) (xa_cons (xe_var 1) xa_nil))))
    (xss_cons (xs_set 5 sc__law_ties.nd (xe_op o_mod (xe_op o_add (xe_op o_add (xe_var 4) xe_int) (xe_call c__law_drawn hr (by rfl) (xa_cons (xe_var 0) (xa_cons (xe_op o_sub (xe_var 1) xe_int) xa_nil)))) (xe_var 1)))
    (xss_one (xs_expr (xe_append (xe_var 2) (xa_cons (xe_tup (xa_cons (xe_var 4) (xa_cons (xe_var 5) xa_nil))) xa_nil)))))))
    (xss_cons (xs_if (xt_cmp (o_eq (hu64 hr)) (xe_call c__law_drawn hr (by rfl) (xa_cons (xe_var 0) (xa_cons xe_int xa_nil))) xe_int) (xss_one (xs_set 2 sc__law_ties.nd (xe_op o_add (xe_var 2) (xe_slice (xe_lc1 6 rfl sc__law_ties.nd (xi_rng1 (by rfl) T.b_range (xa_cons (xe_op o_sub (xe_var 1) xe_int) xa_nil)) (fun _ _ _ _ _ => (xe_tup (xa_cons (xe_var 6) (xa_cons (xe_op o_add (xe_var 6) xe_int) xa_nil)))) (hg := fun _ _ _ _ _ => pg_name sc__law_ties.nd rfl (by first | exact Or.inl rfl | exact Or.inr rfl))) (xo_some (xe_call c__law_drawn hr (by rfl) (xa_cons (xe_var 0) (xa_cons xe_int xa_nil)))) xo_none))))
    xss_nil)
    (xss_one (xs_ret (xe_var 2))))))
theorem d__law_near (T : Top K mg) : FnD P w K mg base ct 1 "_law_near" LW.m__law_near := by
  refine fnd_mk T.f__law_near sc__law_near fun f cdv A outer s H E hr => ?_
  exact (xss_one (xs_ret (xe_lc1 2 rfl sc__law_near.nd (xi_rng1 (by rfl) T.b_range (xa_cons (xe_var 0) xa_nil)) (fun _ _ _ _ _ => (xe_lc1i 3 rfl sc__law_near.nd (xi_rng1 (by rfl) T.b_range (xa_cons (xe_var 0) xa_nil)) (fun _ _ _ _ _ => (xt_w (xw_or (xt_cmp (o_in (hu65 hr)) (xe_tup (xa_cons (xe_var 2) (xa_cons (xe_var 3) xa_nil))) (xe_var 1)) (xw_or1 (xt_cmp (o_in (hu65 hr)) (xe_tup (xa_cons (xe_var 3) (xa_cons (xe_var 2) xa_nil))) (xe_var 1)))))) (fun _ _ _ _ _ => (xe_var 3)) (hg := fun _ _ _ _ _ => pg_name sc__law_near.nd rfl (by first | exact Or.inl rfl | exact Or.inr rfl)))) (hg := fun _ _ _ _ _ => pg_name sc__law_near.nd rfl (by first | exact Or.inl rfl | exact Or.inr rfl)))))
theorem d_is_whole (T : Top K mg) : FnD P w K mg base ct 1 "is_whole" LW.m_is_whole := by
  refine fnd_mk T.f_is_whole sc_is_whole fun f cdv A outer s H E hr => ?_
  exact (xss_cons (xs_if (xt_w (xw_or (xt_val (xe_isi .bool_ (by rfl) T.b_isinstance (by rfl) T.b_bool (by decide +kernel) (xe_var 0))) (xw_or1 (xt_not (xt_val (xe_isi .int_ (by rfl) T.b_isinstance (by rfl) T.b_int (by decide +kernel) (xe_var 0))))))) (xss_one (xs_ret xe_bl))
    xss_nil)
    (xss_one (xs_ret (xe_chain o_le o_le (xe_var 1) (xe_var 0) (xe_var 2)))))
theorem d_check_count (T : Top K mg) : FnD P w K mg base ct 2 "check_count" LW.m_check_count := by
  have c_is_whole := (d_is_whole (P := P) (w := w) (base := base) (ct := ct) T).mono (show 1 ≤ 1 by decide)
  refine fnd_mk T.f_check_count sc_check_count fun f cdv A outer s H E hr => ?_
  exact (xss_one (xs_if (xt_not (xt_val (xe_call c_is_whole hr (by rfl) (xa_cons (xe_var 0) (xa_cons (xe_globI (by rfl) T.g_FEWEST_HOUSES) (xa_cons (xe_globI (by rfl) T.g_MOST_HOUSES) xa_nil)))))) (xss_one xs_never)
    xss_nil))
theorem d_is_two (T : Top K mg) : FnD P w K mg base ct 2 "is_two" LW.m_is_two := by
  have c_is_whole := (d_is_whole (P := P) (w := w) (base := base) (ct := ct) T).mono (show 1 ≤ 1 by decide)
  refine fnd_mk T.f_is_two sc_is_two fun f cdv A outer s H E hr => ?_
  exact (xss_cons (xs_if (xt_w (xw_or (xt_not (xt_val (xe_isi .tuple_ (by rfl) T.b_isinstance (by rfl) T.b_tuple (by decide +kernel) (xe_var 0)))) (xw_or1 (xt_cmp (o_ne (hu64 hr)) (xe_callB c_len (by rfl) T.b_len (by decide +kernel) (xa_cons (xe_var 0) xa_nil)) xe_int)))) (xss_one (xs_ret xe_bl))
    xss_nil)
    (xss_one (xs_ret (xe_and (xe_call c_is_whole hr (by rfl) (xa_cons (xe_ix i_ix (xe_var 0) xe_int) (xa_cons xe_int (xa_cons (xe_var 1) xa_nil)))) (xe_one (xe_call c_is_whole hr (by rfl) (xa_cons (xe_ix i_ix (xe_var 0) xe_int) (xa_cons xe_int (xa_cons (xe_var 2) xa_nil)))))))))
theorem d_is_pair (T : Top K mg) : FnD P w K mg base ct 3 "is_pair" LW.m_is_pair := by
  have c_is_two := (d_is_two (P := P) (w := w) (base := base) (ct := ct) T).mono (show 2 ≤ 2 by decide)
  refine fnd_mk T.f_is_pair sc_is_pair fun f cdv A outer s H E hr => ?_
  exact (xss_one (xs_ret (xe_call c_is_two hr (by rfl) (xa_cons (xe_var 0) (xa_cons (xe_op o_sub (xe_var 1) xe_int) (xa_cons (xe_op o_sub (xe_var 1) xe_int) xa_nil))))))
theorem d__neighbours (T : Top K mg) : FnD P w K mg base ct 4 "_neighbours" LW.m__neighbours := by
  have c_check_count := (d_check_count (P := P) (w := w) (base := base) (ct := ct) T).mono (show 2 ≤ 3 by decide)
  have c_is_pair := (d_is_pair (P := P) (w := w) (base := base) (ct := ct) T).mono (show 3 ≤ 3 by decide)
  refine fnd_mk T.f__neighbours sc__neighbours fun f cdv A outer s H E hr => ?_
  exact (xss_cons (xs_expr (xe_call c_check_count hr (by rfl) (xa_cons (xe_var 0) xa_nil)))
    (xss_cons (xs_for PassesOwn.never rfl (xi_list (xe_var 1)) (xg_name 2 sc__neighbours.nd)
    (xss_one (xs_if (xt_w (xw_or (xt_not (xt_val (xe_call c_is_pair hr (by rfl) (xa_cons (xe_var 2) (xa_cons (xe_var 0) xa_nil))))) (xw_or1 (xt_cmp (o_eq (hu64 hr)) (xe_ix i_ix (xe_var 2) xe_int) (xe_ix i_ix (xe_var 2) xe_int))))) (xss_one xs_never)
    xss_nil)))
    (xss_cons (xs_setLc1 3 6 rfl sc__neighbours.nd (xi_rng1 (by rfl) T.b_range (xa_cons (xe_var 0) xa_nil)) (fun _ _ _ _ _ => (xe_lst xa_nil)) (sw_true rfl rfl rfl (by decide +kernel)) (hg := fun _ _ _ _ _ => pg_name sc__neighbours.nd rfl (by first | exact Or.inl rfl | exact Or.inr rfl)))
    (xss_cons (xs_for PassesOwn.never rfl (xi_list (xe_var 1)) (xg_tup rfl (xgs_cons (xg_name 4 sc__neighbours.nd) (xgs_cons (xg_name 5 sc__neighbours.nd) xgs_nil)))
    (xss_cons (xs_expr (xe_append (xe_ix i_ix (xe_var 3) (xe_var 4)) (xa_cons (xe_var 5) xa_nil)))
    (xss_one (xs_expr (xe_append (xe_ix i_ix (xe_var 3) (xe_var 5)) (xa_cons (xe_var 4) xa_nil))))))
    (xss_one (xs_ret (xe_var 3)))))))
theorem d_check_house (T : Top K mg) : FnD P w K mg base ct 2 "check_house" LW.m_check_house := by
  have c_is_whole := (d_is_whole (P := P) (w := w) (base := base) (ct := ct) T).mono (show 1 ≤ 1 by decide)
  refine fnd_mk T.f_check_house sc_check_house fun f cdv A outer s H E hr => ?_
  exact (xss_one (xs_if (xt_not (xt_val (xe_call c_is_whole hr (by rfl) (xa_cons (xe_var 0) (xa_cons xe_int (xa_cons (xe_op o_sub (xe_var 1) xe_int) xa_nil)))))) (xss_one xs_never)
    xss_nil))
theorem d_rounds (T : Top K mg) : FnD P w K mg base ct 5 "rounds" m_rounds := by
  have c__neighbours := (d__neighbours (P := P) (w := w) (base := base) (ct := ct) T).mono (show 4 ≤ 4 by decide)
  have c_check_house := (d_check_house (P := P) (w := w) (base := base) (ct := ct) T).mono (show 2 ≤ 4 by decide)
  refine fnd_mk T.f_rounds sc_rounds fun f cdv A outer s H E hr => ?_
  exact (xss_cons (xs_set 3 sc_rounds.nd (xe_call c__neighbours hr (by rfl) (xa_cons (xe_var 0) (xa_cons (xe_var 1) xa_nil))))
    (xss_cons (xs_expr (xe_call c_check_house hr (by rfl) (xa_cons (xe_var 2) (xa_cons (xe_var 0) xa_nil))))
    (xss_cons (xs_set 4 sc_rounds.nd (xe_op o_mul (xe_lst (xa_cons xe_non xa_nil)) (xe_var 0)))
    (xss_cons (xs_asg xe_int (xg_sub (xe_var 4) (xe_var 2) set_lst))
    (xss_cons (xs_set 5 sc_rounds.nd (xe_lst (xa_cons (xe_var 2) xa_nil)))
    (xss_cons (xs_for PassesOwn.never rfl (xi_rng2 (by rfl) T.b_range (xa_cons xe_int (xa_cons (xe_var 0) xa_nil))) (xg_name 6 sc_rounds.nd)
    (xss_cons (xs_set 7 sc_rounds.nd (xe_lst xa_nil))
    (xss_cons (xs_for PassesOwn.never rfl (xi_list (xe_var 5)) (xg_name 8 sc_rounds.nd)
    (xss_one (xs_for PassesOwn.never rfl (xi_list (xe_ix i_ix (xe_var 3) (xe_var 8))) (xg_name 9 sc_rounds.nd)
    (xss_one (xs_if (xt_cmp o_isN (xe_ix i_ix (xe_var 4) (xe_var 9)) xe_non) (xss_cons (xs_asg (xe_var 6) (xg_sub (xe_var 4) (xe_var 9) set_lst))
    (xss_one (xs_expr (xe_append (xe_var 7) (xa_cons (xe_var 9) xa_nil)))))
    xss_nil)))))
    (xss_one (xs_set 5 sc_rounds.nd (xe_var 7))))))
    (xss_one (xs_ret (xe_var 4)))))))))
theorem d__law_same_n (T : Top K mg) : ∀ n, FnD P w K mg base ct (0 + n) "_law_same" (LW.m__law_same n)
  | 0 => (fnd_zero T.f__law_same).mono (Nat.zero_le _)
  | n + 1 => by
    have hrec := d__law_same_n T n
    refine fnd_mk T.f__law_same sc__law_same fun f cdv A outer s H E hr => ?_
    exact (xss_cons (xs_if (xt_val (xe_isi2 .tuple_ .list_ (by rfl) T.b_isinstance (by rfl) T.b_tuple (by decide +kernel) (by rfl) T.b_list (by decide +kernel) (xe_var 1))) (xss_cons (xs_if (xt_w (xw_or (xt_not (xt_val (xe_isi2 .tuple_ .list_ (by rfl) T.b_isinstance (by rfl) T.b_tuple (by decide +kernel) (by rfl) T.b_list (by decide +kernel) (xe_var 0)))) (xw_or1 (xt_cmp (o_ne (hu64 hr)) (xe_isi .list_ (by rfl) T.b_isinstance (by rfl) T.b_list (by decide +kernel) (xe_var 0)) (xe_isi .list_ (by rfl) T.b_isinstance (by rfl) T.b_list (by decide +kernel) (xe_var 1)))))) (xss_one (xs_ret xe_bl))
    xss_nil)
    (xss_cons (xs_if (xt_cmp (o_ne (hu64 hr)) (xe_callB c_len (by rfl) T.b_len (by decide +kernel) (xa_cons (xe_var 0) xa_nil)) (xe_callB c_len (by rfl) T.b_len (by decide +kernel) (xa_cons (xe_var 1) xa_nil))) (xss_one (xs_ret xe_bl))
    xss_nil)
    (xss_one (xs_ret (xe_cmp (o_eq (hu64 hr)) (xe_lc1i 2 rfl sc__law_same.nd (xi_rng1 (by rfl) T.b_range (xa_cons (xe_callB c_len (by rfl) T.b_len (by decide +kernel) (xa_cons (xe_var 1) xa_nil)) xa_nil)) (fun _ _ _ _ _ => (xt_not (xt_val (xe_call hrec hr (by rfl) (xa_cons (xe_ix i_ix (xe_var 0) (xe_var 2)) (xa_cons (xe_ix i_ix (xe_var 1) (xe_var 2)) xa_nil)))))) (fun _ _ _ _ _ => (xe_var 2)) (hg := fun _ _ _ _ _ => pg_name sc__law_same.nd rfl (by first | exact Or.inl rfl | exact Or.inr rfl))) (xe_lst xa_nil))))))
    xss_nil)
    (xss_cons (xs_if (xt_cmp o_isN (xe_var 1) xe_non) (xss_one (xs_ret (xe_cmp o_isN (xe_var 0) xe_non)))
    xss_nil)
    (xss_cons (xs_if (xt_val (xe_isi .str_ (by rfl) T.b_isinstance (by rfl) T.b_str (by decide +kernel) (xe_var 1))) (xss_one (xs_ret (xe_and (xe_isi .str_ (by rfl) T.b_isinstance (by rfl) T.b_str (by decide +kernel) (xe_var 0)) (xe_one (xe_cmp (o_eq (hu64 hr)) (xe_var 0) (xe_var 1))))))
    xss_nil)
    (xss_cons (xs_if (xt_w (xw_or (xt_val (xe_isi .bool_ (by rfl) T.b_isinstance (by rfl) T.b_bool (by decide +kernel) (xe_var 1))) (xw_or1 (xt_val (xe_isi .bool_ (by rfl) T.b_isinstance (by rfl) T.b_bool (by decide +kernel) (xe_var 0)))))) (xss_one (xs_ret (xe_and (xe_isi .bool_ (by rfl) T.b_isinstance (by rfl) T.b_bool (by decide +kernel) (xe_var 1)) (xe_and (xe_isi .bool_ (by rfl) T.b_isinstance (by rfl) T.b_bool (by decide +kernel) (xe_var 0)) (xe_one (xe_cmp (o_eq (hu64 hr)) (xe_var 0) (xe_var 1)))))))
    xss_nil)
    (xss_one (xs_ret (xe_and (xe_isi .int_ (by rfl) T.b_isinstance (by rfl) T.b_int (by decide +kernel) (xe_var 0)) (xe_one (xe_cmp (o_eq (hu64 hr)) (xe_var 0) (xe_var 1))))))))))
theorem d__law_same (T : Top K mg) : FnD P w K mg base ct 6 "_law_same" (LW.m__law_same 6) := d__law_same_n T 6
theorem d_law_at {f : Addr} {fd : FuncData} (F : Fun K "law" "law" s_law f fd) (T : Top K mg) : FnOk P w K mg base CX0 7 f fd ["_law_script"] (spD0 ⟨K, ct⟩ m_law) := by
  have c__law_start := (d__law_start (P := P) (w := w) (base := base) (ct := ct) T).mono (show 1 ≤ 6 by decide)
  have c__law_ties := (d__law_ties (P := P) (w := w) (base := base) (ct := ct) T).mono (show 2 ≤ 6 by decide)
  have c__law_drawn := (d__law_drawn (P := P) (w := w) (base := base) (ct := ct) T).mono (show 1 ≤ 6 by decide)
  have c__law_near := (d__law_near (P := P) (w := w) (base := base) (ct := ct) T).mono (show 1 ≤ 6 by decide)
  have c_rounds := (d_rounds (P := P) (w := w) (base := base) (ct := ct) T).mono (show 5 ≤ 6 by decide)
  have c__law_same := (d__law_same (P := P) (w := w) (base := base) (ct := ct) T).mono (show 6 ≤ 6 by decide)
  refine fn_d F sc_law fun cdv A outer s H E hr => ?_
  exact (xss_cons (xs_set 1 sc_law.nd (xe_call c__law_start hr (by rfl) (xa_cons (xe_var 0) xa_nil)))
    (xss_cons (xs_for PassesOwn.never rfl (xi_rng1 (by rfl) T.b_range (xa_cons xe_int xa_nil)) (xg_name 2 sc_law.nd)
    (xss_cons (xs_set 3 sc_law.nd (xe_op o_add xe_int (xe_call c__law_drawn hr (by rfl) (xa_cons (xe_var 1) (xa_cons xe_int xa_nil)))))
    (xss_cons (xs_set 4 sc_law.nd (xe_call c__law_ties hr (by rfl) (xa_cons (xe_var 1) (xa_cons (xe_var 3) xa_nil))))
    (xss_cons (xs_asg (xe_tup (xa_cons (xe_call c__law_near hr (by rfl) (xa_cons (xe_var 3) (xa_cons (xe_var 4) xa_nil))) (xa_cons (xe_call c__law_drawn hr (by rfl) (xa_cons (xe_var 1) (xa_cons (xe_var 3) xa_nil))) xa_nil))) (xg_tup rfl (xgs_cons (xg_name 5 sc_law.nd) (xgs_cons (xg_name 6 sc_law.nd) xgs_nil))))
    (xss_cons (xs_asg (xe_tup (xa_cons (xe_op o_mul (xe_lst (xa_cons xe_non xa_nil)) (xe_var 3)) (xa_cons (xe_lst xa_nil) xa_nil))) (xg_tup rfl (xgs_cons (xg_name 7 sc_law.nd) (xgs_cons (xg_name 8 sc_law.nd) xgs_nil))))
    (xss_cons (xs_for PassesOwn.never rfl (xi_rng1 (by rfl) T.b_range (xa_cons (xe_var 3) xa_nil)) (xg_name 9 sc_law.nd)
    (xss_cons (xs_set 8 sc_law.nd (xe_lc1i 13 rfl sc_law.nd (xi_rng1 (by rfl) T.b_range (xa_cons (xe_var 3) xa_nil)) (fun _ _ _ _ _ => (xt_w (xw_or (xt_cmp (o_in (hu65 hr)) (xe_var 13) (xe_var 8)) (xw_or (xt_w (xw_and (xt_cmp (o_eq (hu64 hr)) (xe_var 9) xe_int) (xw_and1 (xt_cmp (o_eq (hu64 hr)) (xe_var 13) (xe_var 6))))) (xw_or1 (xt_w (xw_and (xt_cmp o_gt (xe_var 9) xe_int) (xw_and1 (xt_cmp (o_ne (hu64 hr)) (xe_lc1i 14 rfl sc_law.nd (xi_list (xe_ix i_ix (xe_var 5) (xe_var 13))) (fun _ _ _ _ _ => (xt_cmp (o_in (hu65 hr)) (xe_var 14) (xe_var 8))) (fun _ _ _ _ _ => (xe_var 14)) (hg := fun _ _ _ _ _ => pg_name sc_law.nd rfl (by first | exact Or.inl rfl | exact Or.inr rfl))) (xe_lst xa_nil)))))))))) (fun _ _ _ _ _ => (xe_var 13)) (hg := fun _ _ _ _ _ => pg_name sc_law.nd rfl (by first | exact Or.inl rfl | exact Or.inr rfl))))
    (xss_one (xs_set 7 sc_law.nd (xe_lc1 13 rfl sc_law.nd (xi_rng1 (by rfl) T.b_range (xa_cons (xe_var 3) xa_nil)) (fun _ _ _ _ _ => (xe_if (xt_w (xw_and (xt_cmp o_isN (xe_ix i_ix (xe_var 7) (xe_var 13)) xe_non) (xw_and1 (xt_cmp (o_in (hu65 hr)) (xe_var 13) (xe_var 8))))) (xe_var 9) (xe_ix i_ix (xe_var 7) (xe_var 13)))) (hg := fun _ _ _ _ _ => pg_name sc_law.nd rfl (by first | exact Or.inl rfl | exact Or.inr rfl)))))))
    (xss_cons (xs_set 10 sc_law.nd (xe_callTy c_list (by rfl) T.b_list (by decide +kernel) (xa_cons (xe_var 4) xa_nil)))
    (xss_one (xs_for PassesOwn.never rfl (xi_rng1 (by rfl) T.b_range (xa_cons xe_int xa_nil)) (xg_name 11 sc_law.nd)
    (xss_cons (xs_set 12 sc_law.nd (xe_call c_rounds hr (by rfl) (xa_cons (xe_var 3) (xa_cons (xe_var 10) (xa_cons (xe_var 6) xa_nil)))))
    (xss_cons (xs_if (xt_w (xw_or (xt_not (xt_val (xe_call c__law_same hr (by rfl) (xa_cons (xe_var 12) (xa_cons (xe_var 7) xa_nil))))) (xw_or1 (xt_cmp (o_ne (hu64 hr)) (xe_var 10) (xe_var 4))))) (xss_one (xs_ret xe_bl))
    xss_nil)
    (xss_one (xs_expr (xe_append (xe_var 12) (xa_cons xe_int xa_nil)))))))))))))))
    (xss_one (xs_ret xe_bl))))
end
theorem all_mk {l : PySem.W.OpenLaw} {w : World} {K : Fg} {h : Heap} {mg : Str → Option Value} {fa : Addr} (X : K.In h) (G : h.Ns mainGlobals mg) (hfa : mg "law" = some (.ref fa))
    {od0 an0 : Option Addr} {sl0 : Array (Option Value)} {oc0 kV0 dc0 pm0 cd0 ct0 : Value} {f0 : Addr}
    (a0 : PySem.W.nsIn K mainGlobals "_law_start" = some (some (.ref f0)))
    (l0 : K.lookup f0 = some ⟨oc0, od0, .func (PySem.W.fnOf "_law_start" "_law_start" (defArgs s__law_start) (defBody s__law_start) (defScope s__law_start) .none kV0 dc0 pm0 an0 cd0 ct0), sl0⟩) (c0 : PySem.W.codeIn K cd0 "_law_start" = true) (k0 : PySem.W.keepIn K (.ref f0) = true)
    {od1 an1 : Option Addr} {sl1 : Array (Option Value)} {oc1 kV1 dc1 pm1 cd1 ct1 : Value} {f1 : Addr}
    (a1 : PySem.W.nsIn K mainGlobals "_law_drawn" = some (some (.ref f1)))
    (l1 : K.lookup f1 = some ⟨oc1, od1, .func (PySem.W.fnOf "_law_drawn" "_law_drawn" (defArgs s__law_drawn) (defBody s__law_drawn) (defScope s__law_drawn) .none kV1 dc1 pm1 an1 cd1 ct1), sl1⟩) (c1 : PySem.W.codeIn K cd1 "_law_drawn" = true) (k1 : PySem.W.keepIn K (.ref f1) = true)
    {od2 an2 : Option Addr} {sl2 : Array (Option Value)} {oc2 kV2 dc2 pm2 cd2 ct2 : Value} {f2 : Addr}
    (a2 : PySem.W.nsIn K mainGlobals "_law_ties" = some (some (.ref f2)))
    (l2 : K.lookup f2 = some ⟨oc2, od2, .func (PySem.W.fnOf "_law_ties" "_law_ties" (defArgs s__law_ties) (defBody s__law_ties) (defScope s__law_ties) .none kV2 dc2 pm2 an2 cd2 ct2), sl2⟩) (c2 : PySem.W.codeIn K cd2 "_law_ties" = true) (k2 : PySem.W.keepIn K (.ref f2) = true)
    {od3 an3 : Option Addr} {sl3 : Array (Option Value)} {oc3 kV3 dc3 pm3 cd3 ct3 : Value} {f3 : Addr}
    (a3 : PySem.W.nsIn K mainGlobals "_law_near" = some (some (.ref f3)))
    (l3 : K.lookup f3 = some ⟨oc3, od3, .func (PySem.W.fnOf "_law_near" "_law_near" (defArgs s__law_near) (defBody s__law_near) (defScope s__law_near) .none kV3 dc3 pm3 an3 cd3 ct3), sl3⟩) (c3 : PySem.W.codeIn K cd3 "_law_near" = true) (k3 : PySem.W.keepIn K (.ref f3) = true)
    {od4 an4 : Option Addr} {sl4 : Array (Option Value)} {oc4 kV4 dc4 pm4 cd4 ct4 : Value} {f4 : Addr}
    (a4 : PySem.W.nsIn K mainGlobals "is_whole" = some (some (.ref f4)))
    (l4 : K.lookup f4 = some ⟨oc4, od4, .func (PySem.W.fnOf "is_whole" "is_whole" (defArgs s_is_whole) (defBody s_is_whole) (defScope s_is_whole) .none kV4 dc4 pm4 an4 cd4 ct4), sl4⟩) (c4 : PySem.W.codeIn K cd4 "is_whole" = true) (k4 : PySem.W.keepIn K (.ref f4) = true)
    {od5 an5 : Option Addr} {sl5 : Array (Option Value)} {oc5 kV5 dc5 pm5 cd5 ct5 : Value} {f5 : Addr}
    (a5 : PySem.W.nsIn K mainGlobals "check_count" = some (some (.ref f5)))
    (l5 : K.lookup f5 = some ⟨oc5, od5, .func (PySem.W.fnOf "check_count" "check_count" (defArgs s_check_count) (defBody s_check_count) (defScope s_check_count) .none kV5 dc5 pm5 an5 cd5 ct5), sl5⟩) (c5 : PySem.W.codeIn K cd5 "check_count" = true) (k5 : PySem.W.keepIn K (.ref f5) = true)
    {od6 an6 : Option Addr} {sl6 : Array (Option Value)} {oc6 kV6 dc6 pm6 cd6 ct6 : Value} {f6 : Addr}
    (a6 : PySem.W.nsIn K mainGlobals "is_two" = some (some (.ref f6)))
    (l6 : K.lookup f6 = some ⟨oc6, od6, .func (PySem.W.fnOf "is_two" "is_two" (defArgs s_is_two) (defBody s_is_two) (defScope s_is_two) .none kV6 dc6 pm6 an6 cd6 ct6), sl6⟩) (c6 : PySem.W.codeIn K cd6 "is_two" = true) (k6 : PySem.W.keepIn K (.ref f6) = true)
    {od7 an7 : Option Addr} {sl7 : Array (Option Value)} {oc7 kV7 dc7 pm7 cd7 ct7 : Value} {f7 : Addr}
    (a7 : PySem.W.nsIn K mainGlobals "is_pair" = some (some (.ref f7)))
    (l7 : K.lookup f7 = some ⟨oc7, od7, .func (PySem.W.fnOf "is_pair" "is_pair" (defArgs s_is_pair) (defBody s_is_pair) (defScope s_is_pair) .none kV7 dc7 pm7 an7 cd7 ct7), sl7⟩) (c7 : PySem.W.codeIn K cd7 "is_pair" = true) (k7 : PySem.W.keepIn K (.ref f7) = true)
    {od8 an8 : Option Addr} {sl8 : Array (Option Value)} {oc8 kV8 dc8 pm8 cd8 ct8 : Value} {f8 : Addr}
    (a8 : PySem.W.nsIn K mainGlobals "_neighbours" = some (some (.ref f8)))
    (l8 : K.lookup f8 = some ⟨oc8, od8, .func (PySem.W.fnOf "_neighbours" "_neighbours" (defArgs s__neighbours) (defBody s__neighbours) (defScope s__neighbours) .none kV8 dc8 pm8 an8 cd8 ct8), sl8⟩) (c8 : PySem.W.codeIn K cd8 "_neighbours" = true) (k8 : PySem.W.keepIn K (.ref f8) = true)
    {od9 an9 : Option Addr} {sl9 : Array (Option Value)} {oc9 kV9 dc9 pm9 cd9 ct9 : Value} {f9 : Addr}
    (a9 : PySem.W.nsIn K mainGlobals "check_house" = some (some (.ref f9)))
    (l9 : K.lookup f9 = some ⟨oc9, od9, .func (PySem.W.fnOf "check_house" "check_house" (defArgs s_check_house) (defBody s_check_house) (defScope s_check_house) .none kV9 dc9 pm9 an9 cd9 ct9), sl9⟩) (c9 : PySem.W.codeIn K cd9 "check_house" = true) (k9 : PySem.W.keepIn K (.ref f9) = true)
    {od10 an10 : Option Addr} {sl10 : Array (Option Value)} {oc10 kV10 dc10 pm10 cd10 ct10 : Value} {f10 : Addr}
    (a10 : PySem.W.nsIn K mainGlobals "rounds" = some (some (.ref f10)))
    (l10 : K.lookup f10 = some ⟨oc10, od10, .func (PySem.W.fnOf "rounds" "rounds" (defArgs s_rounds) (defBody s_rounds) (defScope s_rounds) .none kV10 dc10 pm10 an10 cd10 ct10), sl10⟩) (c10 : PySem.W.codeIn K cd10 "rounds" = true) (k10 : PySem.W.keepIn K (.ref f10) = true)
    {od11 an11 : Option Addr} {sl11 : Array (Option Value)} {oc11 kV11 dc11 pm11 cd11 ct11 : Value} {f11 : Addr}
    (a11 : PySem.W.nsIn K mainGlobals "_law_same" = some (some (.ref f11)))
    (l11 : K.lookup f11 = some ⟨oc11, od11, .func (PySem.W.fnOf "_law_same" "_law_same" (defArgs s__law_same) (defBody s__law_same) (defScope s__law_same) .none kV11 dc11 pm11 an11 cd11 ct11), sl11⟩) (c11 : PySem.W.codeIn K cd11 "_law_same" = true) (k11 : PySem.W.keepIn K (.ref f11) = true)
    {od12 an12 : Option Addr} {sl12 : Array (Option Value)} {oc12 kV12 dc12 pm12 cd12 ct12 : Value} {f12 : Addr}
    (a12 : PySem.W.nsIn K mainGlobals "law" = some (some (.ref f12)))
    (l12 : K.lookup f12 = some ⟨oc12, od12, .func (PySem.W.fnOf "law" "law" (defArgs s_law) (defBody s_law) (defScope s_law) .none kV12 dc12 pm12 an12 cd12 ct12), sl12⟩) (c12 : PySem.W.codeIn K cd12 "law" = true) (k12 : PySem.W.keepIn K (.ref f12) = true)
    (z_bool : PySem.W.nsIn K mainGlobals "bool" = some none)
    (z_int : PySem.W.nsIn K mainGlobals "int" = some none)
    (z_isinstance : PySem.W.nsIn K mainGlobals "isinstance" = some none)
    (z_len : PySem.W.nsIn K mainGlobals "len" = some none)
    (z_list : PySem.W.nsIn K mainGlobals "list" = some none)
    (z_range : PySem.W.nsIn K mainGlobals "range" = some none)
    (z_str : PySem.W.nsIn K mainGlobals "str" = some none)
    (z_tuple : PySem.W.nsIn K mainGlobals "tuple" = some none)
    {t_FEWEST_HOUSES : Tok} (y_FEWEST_HOUSES : PySem.W.nsIn K mainGlobals "FEWEST_HOUSES" = some (some (.int 2 t_FEWEST_HOUSES)))
    {t_MOST_HOUSES : Tok} (y_MOST_HOUSES : PySem.W.nsIn K mainGlobals "MOST_HOUSES" = some (some (.int 8 t_MOST_HOUSES))) :
    ∃ fd : FuncData, (∀ (s : Shared) (v : Value), BindsTo s fd ⟨[v], []⟩ [("_law_script", v)]) ∧ ∀ base : Heap, K.In base → base.Ns mainGlobals mg → FnOk l.prog w K mg base CX0 7 fa fd ["_law_script"] (spD0 ⟨K, fun _ => (0, [])⟩ m_law) := by
  have e := hfa.symm.trans (PySem.W.mg_of X G a12)
  cases e
  have F0 := fun_mk (st := s__law_start) l0 c0 k0
  have b0 := F0.binds (ps := ["_law_script"]) fun _ _ _ _ _ _ us hl => match us, hl with | [_], _ => rfl
  have F1 := fun_mk (st := s__law_drawn) l1 c1 k1
  have b1 := F1.binds (ps := ["_law_state", "_law_many"]) fun _ _ _ _ _ _ us hl => match us, hl with | [_, _], _ => rfl
  have F2 := fun_mk (st := s__law_ties) l2 c2 k2
  have b2 := F2.binds (ps := ["_law_state", "_law_many"]) fun _ _ _ _ _ _ us hl => match us, hl with | [_, _], _ => rfl
  have F3 := fun_mk (st := s__law_near) l3 c3 k3
  have b3 := F3.binds (ps := ["_law_many", "_law_ties_here"]) fun _ _ _ _ _ _ us hl => match us, hl with | [_, _], _ => rfl
  have F4 := fun_mk (st := s_is_whole) l4 c4 k4
  have b4 := F4.binds (ps := ["value", "low", "high"]) fun _ _ _ _ _ _ us hl => match us, hl with | [_, _, _], _ => rfl
  have F5 := fun_mk (st := s_check_count) l5 c5 k5
  have b5 := F5.binds (ps := ["many"]) fun _ _ _ _ _ _ us hl => match us, hl with | [_], _ => rfl
  have F6 := fun_mk (st := s_is_two) l6 c6 k6
  have b6 := F6.binds (ps := ["value", "first", "second"]) fun _ _ _ _ _ _ us hl => match us, hl with | [_, _, _], _ => rfl
  have F7 := fun_mk (st := s_is_pair) l7 c7 k7
  have b7 := F7.binds (ps := ["value", "many"]) fun _ _ _ _ _ _ us hl => match us, hl with | [_, _], _ => rfl
  have F8 := fun_mk (st := s__neighbours) l8 c8 k8
  have b8 := F8.binds (ps := ["many", "ties"]) fun _ _ _ _ _ _ us hl => match us, hl with | [_, _], _ => rfl
  have F9 := fun_mk (st := s_check_house) l9 c9 k9
  have b9 := F9.binds (ps := ["house", "many"]) fun _ _ _ _ _ _ us hl => match us, hl with | [_, _], _ => rfl
  have F10 := fun_mk (st := s_rounds) l10 c10 k10
  have b10 := F10.binds (ps := ["many", "ties", "start"]) fun _ _ _ _ _ _ us hl => match us, hl with | [_, _, _], _ => rfl
  have F11 := fun_mk (st := s__law_same) l11 c11 k11
  have b11 := F11.binds (ps := ["_law_found", "_law_due"]) fun _ _ _ _ _ _ us hl => match us, hl with | [_, _], _ => rfl
  have F12 := fun_mk (st := s_law) l12 c12 k12
  have b12 := F12.binds (ps := ["_law_script"]) fun _ _ _ _ _ _ us hl => match us, hl with | [_], _ => rfl
  have T : Top K mg := ⟨PySem.W.mg_none_of X G z_bool, PySem.W.mg_none_of X G z_int, PySem.W.mg_none_of X G z_isinstance, PySem.W.mg_none_of X G z_len, PySem.W.mg_none_of X G z_list, PySem.W.mg_none_of X G z_range, PySem.W.mg_none_of X G z_str, PySem.W.mg_none_of X G z_tuple, ⟨_, PySem.W.mg_of X G y_FEWEST_HOUSES⟩, ⟨_, PySem.W.mg_of X G y_MOST_HOUSES⟩, ⟨_, _, F0, PySem.W.mg_of X G a0, b0⟩, ⟨_, _, F1, PySem.W.mg_of X G a1, b1⟩, ⟨_, _, F2, PySem.W.mg_of X G a2, b2⟩, ⟨_, _, F3, PySem.W.mg_of X G a3, b3⟩, ⟨_, _, F4, PySem.W.mg_of X G a4, b4⟩, ⟨_, _, F5, PySem.W.mg_of X G a5, b5⟩, ⟨_, _, F6, PySem.W.mg_of X G a6, b6⟩, ⟨_, _, F7, PySem.W.mg_of X G a7, b7⟩, ⟨_, _, F8, PySem.W.mg_of X G a8, b8⟩, ⟨_, _, F9, PySem.W.mg_of X G a9, b9⟩, ⟨_, _, F10, PySem.W.mg_of X G a10, b10⟩, ⟨_, _, F11, PySem.W.mg_of X G a11, b11⟩, ⟨_, _, F12, PySem.W.mg_of X G a12, b12⟩⟩
  refine ⟨PySem.W.fnOf "law" "law" (defArgs s_law) (defBody s_law) (defScope s_law) .none kV12 dc12 pm12 an12 cd12 ct12, fun s v => .of_eq rfl, fun base _ _ => ?_⟩
  exact d_law_at F12 T
end K07
set_option Elab.async false
set_option linter.all false
set_option maxRecDepth 100000
set_option maxHeartbeats 4000000
namespace K07
open PySem L2 EE LW
section
variable (ps : List (Nat × Nat)) (n a : Nat)
def has : Nat → Nat → Bool
  | 0, _ => false
  | c + 1, k => has c k || ((decide (c = 0) && decide (k = a)) || (decide (0 < c) && (List.range n).any fun j => adj ps k j && has c j))
def du : Nat → Nat → Option Nat
  | 0, _ => none
  | c + 1, k => if (du c k).isNone && has ps n a (c + 1) k then some c else du c k
end
variable {ps : List (Nat × Nat)} {n a : Nat}
theorem has_mono {c k : Nat} (h : has ps n a c k = true) : has ps n a (c + 1) k = true := by
  show (has ps n a c k || _) = true
  rw [h, Bool.true_or]
theorem has_le {c d k : Nat} (hcd : c ≤ d) (h : has ps n a c k = true) : has ps n a d k = true := by
  induction hcd with
  | refl => exact h
  | step _ ih => exact has_mono ih
theorem du_none {c k : Nat} : du ps n a c k = none ↔ has ps n a c k = false := by
  induction c with
  | zero => simp [du, has]
  | succ c ih =>
    show (if (du ps n a c k).isNone && has ps n a (c + 1) k then some c else du ps n a c k) = none ↔ _
    cases hd : du ps n a c k with
    | none =>
      cases hh : has ps n a (c + 1) k with
      | true => simp
      | false => simp
    | some d =>
      have h1 : has ps n a c k = true := by
        cases hq : has ps n a c k with
        | true => rfl
        | false => rw [ih.mpr hq] at hd; cases hd
      simp [has_mono h1]
theorem du_lt {c k d : Nat} (h : du ps n a c k = some d) : d < c := by
  induction c with
  | zero => cases h
  | succ c ih =>
    unfold du at h
    split at h
    · cases h; omega
    · have := ih h; omega
theorem du_last {c k : Nat} : du ps n a (c + 1) k = some c ↔ has ps n a (c + 1) k = true ∧ has ps n a c k = false := by
  constructor
  · intro h
    have h1 : has ps n a (c + 1) k = true := by
      cases hq : has ps n a (c + 1) k with
      | true => rfl
      | false => rw [du_none.mpr hq] at h; cases h
    refine ⟨h1, ?_⟩
    cases hq : has ps n a c k with
    | false => rfl
    | true =>
      have hn : (du ps n a c k) ≠ none := fun z => by rw [du_none.mp z] at hq; cases hq
      unfold du at h
      rw [if_neg (by
        intro z
        rw [Bool.and_eq_true, Option.isNone_iff_eq_none] at z
        exact hn z.1)] at h
      have := du_lt h
      omega
  · rintro ⟨h1, h2⟩
    unfold du
    rw [du_none.mpr h2, h1]
    rfl
theorem du_step {t k : Nat} (hk : k < n) : du ps n a (t + 2) k = if du ps n a (t + 1) k = none ∧ ∃ j, j < n ∧ adj ps j k = true ∧ du ps n a (t + 1) j = some t then some (t + 1) else du ps n a (t + 1) k := by
  have sym : ∀ i j, adj ps i j = adj ps j i := fun i j => by
    unfold adj
    rw [Bool.or_comm]
  show (if (du ps n a (t + 1) k).isNone && has ps n a (t + 2) k then some (t + 1) else du ps n a (t + 1) k) = _
  by_cases hd : du ps n a (t + 1) k = none
  · have h1 := du_none.mp hd
    have key : has ps n a (t + 2) k = true ↔ ∃ j, j < n ∧ adj ps j k = true ∧ du ps n a (t + 1) j = some t := by
      show (has ps n a (t + 1) k || ((decide (t + 1 = 0) && decide (k = a)) || (decide (0 < t + 1) && (List.range n).any fun j => adj ps k j && has ps n a (t + 1) j))) = true ↔ _
      rw [h1]
      simp only [Bool.false_or, Nat.succ_ne_zero, decide_false, Bool.false_and, Nat.zero_lt_succ, decide_true, Bool.true_and, List.any_eq_true, List.mem_range, Bool.and_eq_true]
      constructor
      · rintro ⟨j, hj, h2, h3⟩
        refine ⟨j, hj, by rw [sym]; exact h2, du_last.mpr ⟨h3, ?_⟩⟩
        cases hq : has ps n a t j with
        | false => rfl
        | true =>
          exfalso
          cases t with
          | zero => cases hq
          | succ t =>
            have : has ps n a (t + 2) k = true := by
              show (has ps n a (t + 1) k || ((decide (t + 1 = 0) && decide (k = a)) || (decide (0 < t + 1) && (List.range n).any fun j => adj ps k j && has ps n a (t + 1) j))) = true
              have : (List.range n).any (fun j => adj ps k j && has ps n a (t + 1) j) = true := List.any_eq_true.mpr ⟨j, List.mem_range.mpr hj, by rw [h2, hq]; rfl⟩
              rw [this]
              simp
            rw [this] at h1
            cases h1
      · rintro ⟨j, hj, h2, h3⟩
        exact ⟨j, hj, by rw [sym]; exact h2, (du_last.mp h3).1⟩
    by_cases hh : ∃ j, j < n ∧ adj ps j k = true ∧ du ps n a (t + 1) j = some t
    · rw [if_pos (c := du ps n a (t + 1) k = none ∧ _) ⟨hd, hh⟩, hd, key.mpr hh]
      rfl
    · have : has ps n a (t + 2) k = false := by
        rw [← Bool.not_eq_true, key]
        exact hh
      rw [if_neg (c := du ps n a (t + 1) k = none ∧ _) (fun z => hh z.2), hd, this]
      rfl
  · rw [if_neg (c := du ps n a (t + 1) k = none ∧ _) (fun z => hd z.1), if_neg]
    intro z
    rw [Bool.and_eq_true, Option.isNone_iff_eq_none] at z
    exact hd z.1
theorem du_one {k : Nat} : du ps n a 1 k = if k = a then some 0 else none := by
  show (if (du ps n a 0 k).isNone && has ps n a 1 k then some 0 else du ps n a 0 k) = _
  by_cases hk : k = a
  · simp [du, has, hk]
  · simp [du, has, hk]
theorem nodup_len : ∀ (n : Nat) (W : List Nat), W.Nodup → (∀ k ∈ W, k < n) → W.length ≤ n
  | 0, W, _, h => by
    cases W with
    | nil => simp
    | cons k W => exact absurd (h k (by simp)) (by omega)
  | n + 1, W, hn, h => by
    by_cases hm : n ∈ W
    · have h1 := List.length_erase_of_mem hm
      have h2 := nodup_len n (W.erase n) (hn.erase n) (fun k hk => by
        have := (List.Nodup.mem_erase_iff hn).mp hk
        have := h k this.2
        omega)
      omega
    · have := nodup_len n W hn (fun k hk => by
        have h1 := h k hk
        have : k ≠ n := fun e => hm (e ▸ hk)
        omega)
      omega
def oE : Option Nat → EV
  | none => .non
  | some d => .int (d : Int)
def fnd (ps : List (Nat × Nat)) (n a T : Nat) (V : List Nat) : List EV := (List.range n).map fun k => if du ps n a T k = none ∧ k ∈ V then .int (T : Int) else oE (du ps n a T k)
theorem fnd_nil (T : Nat) : fnd ps n a T [] = (List.range n).map fun k => oE (du ps n a T k) := by
  unfold fnd
  congr 1
  funext k
  simp
theorem fnd_get {T k : Nat} {V : List Nat} (hk : k < n) : (fnd ps n a T V)[k]? = some (if du ps n a T k = none ∧ k ∈ V then .int (T : Int) else oE (du ps n a T k)) := by
  unfold fnd
  rw [List.getElem?_map, List.getElem?_range hk]
  rfl
theorem fnd_len (T : Nat) (V : List Nat) : (fnd ps n a T V).length = n := by simp [fnd]
theorem list_ext {α : Type} {xs ys : List α} (hl : xs.length = ys.length) (h : ∀ (i : Nat), i < xs.length → xs[i]? = ys[i]?) : xs = ys := by
  apply List.ext_getElem? 
  intro i
  by_cases hi : i < xs.length
  · exact h i hi
  · rw [List.getElem?_eq_none (by omega), List.getElem?_eq_none (by omega)]
theorem fnd_skip {T k : Nat} {V : List Nat} (h : du ps n a T k ≠ none ∨ k ∈ V) : fnd ps n a T (V ++ [k]) = fnd ps n a T V := by
  unfold fnd
  apply List.map_congr_left
  intro j _
  by_cases e : j = k
  · subst e
    rcases h with h | h
    · simp [h]
    · simp [h]
  · simp [e]
theorem fnd_new {T k : Nat} {V : List Nat} (h : du ps n a T k = none) : (fnd ps n a T V).set k (.int (T : Int)) = fnd ps n a T (V ++ [k]) := by
  refine list_ext (by simp [fnd]) fun i hi => ?_
  simp [fnd_len] at hi
  rw [fnd_get hi]
  by_cases e : k = i
  · subst e
    rw [List.getElem?_set_self (by rw [fnd_len]; exact hi)]
    simp [h]
  · rw [List.getElem?_set_ne e, fnd_get hi]
    simp [show ¬ i = k from fun z => e z.symm]
theorem fnd_step {t : Nat} {L : List Nat} (hL : ∀ j, j ∈ L ↔ (j < n ∧ du ps n a (t + 1) j = some t)) : fnd ps n a (t + 1) (L.flatMap (nbr ps)) = (List.range n).map fun k => oE (du ps n a (t + 2) k) := by
  unfold fnd
  apply List.map_congr_left
  intro k hk
  rw [du_step (List.mem_range.mp hk)]
  have : k ∈ L.flatMap (nbr ps) ↔ ∃ j, j < n ∧ adj ps j k = true ∧ du ps n a (t + 1) j = some t := by
    rw [List.mem_flatMap]
    constructor
    · rintro ⟨j, h1, h2⟩
      exact ⟨j, ((hL j).mp h1).1, nbr_mem.mp h2, ((hL j).mp h1).2⟩
    · rintro ⟨j, h1, h2, h3⟩
      exact ⟨j, (hL j).mpr ⟨h1, h3⟩, nbr_mem.mpr h2⟩
  by_cases hc : du ps n a (t + 1) k = none ∧ k ∈ L.flatMap (nbr ps)
  · rw [if_pos hc, if_pos ⟨hc.1, this.mp hc.2⟩]
    rfl
  · rw [if_neg hc, if_neg (fun z => hc ⟨z.1, this.mpr z.2⟩)]
theorem adj_lt (hp : TiesOk n ps) {j k : Nat} (h : adj ps j k = true) : k < n := by
  unfold adj at h
  simp only [Bool.or_eq_true, decide_eq_true_eq] at h
  rcases h with h | h
  · exact (hp _ h).2.1
  · exact (hp _ h).1
theorem rounds {h : EH} {t : Nat} {Q : EV → EH → Prop} (ht : lstAt h t = some (prs ps)) (hp : TiesOk n ps) (hl : ps.length ≤ 100) (h2 : 2 ≤ n) (h8 : n ≤ 8) (ha : a < n)
    (q : ∀ F h', mutAt h' F = some ((List.range n).map fun k => oE (du ps n a n k)) → h.length ≤ F → Fr [] h h' → Q (.ref F) h') : Tri (m_rounds [.int (n : Int), .ref t, .int (a : Int)] h) Q := by
  rw [u_rounds]
  simp [b_rounds, tri_bind]
  refine neighbours ht hp hl h2 h8 fun r h1 hR f1 => ?_
  simp [tri_bind, house _ _ _ (show (0 : Int) ≤ a by omega) (show (a : Int) < n by omega), f_rep (h := h1 ++ [EO.lst [EV.non]]) (n : Int) mutAt_new (by omega) (by omega) (by simp)]
  have e1 : (List.replicate n EV.non).set a (.int 0) = (List.range n).map fun k => oE (du ps n a 1 k) := by
    refine list_ext (by simp) fun i hi => ?_
    have hi2 : i < n := by simpa using hi
    rw [List.getElem?_map, List.getElem?_range hi2]
    show _ = some (oE (du ps n a 1 i))
    rw [du_one]
    by_cases e : a = i
    · subst e
      rw [List.getElem?_set_self (by simpa using hi2), if_pos rfl]
      rfl
    · rw [List.getElem?_set_ne e, List.getElem?_replicate, if_pos hi2, if_neg (fun z => e z.symm)]
      rfl
  have hlen := f1.1
  simp [s_lst (h := h1 ++ [EO.lst [EV.non], EO.lst (List.replicate n EV.non)]) (a : Int) mutAt_new2 a rfl (by simpa using ha), e1]
  generalize eh4 : h1 ++ [EO.lst [EV.non], EO.lst (List.map (fun k => oE (du ps n a 1 k)) (List.range n)), EO.lst [EV.int (a : Int)]] = h4
  have f4 : Fr [] h1 h4 := by rw [← eh4]; exact Fr.app _ _ _
  have hF : mutAt h4 (h1.length + 1) = some ((List.range n).map fun k => oE (du ps n a 1 k)) := by
    rw [← eh4]
    unfold mutAt
    rw [List.getElem?_append_right (by omega), Nat.add_sub_cancel_left]
    rfl
  have hL : lstAt h4 (h1.length + 2) = some (nats [a]) := by
    rw [← eh4]
    unfold lstAt
    rw [List.getElem?_append_right (by omega), Nat.add_sub_cancel_left]
    rfl
  have hl4 : h4.length = h1.length + 3 := by rw [← eh4]; simp
  rw [ap_kItR2 h4 1 (n : Int) (by omega) (by omega) (by decide) (by decide)]
  simp
  refine tri_for (xs := rng 1 (n - 1)) (fun i es h' => ∃ Lr L x6 x7 x8 x9, es = [some (.int n), some (.ref t), some (.int a), some (.ref r), some (.ref (h1.length + 1)), some (.ref Lr), x6, x7, x8, x9] ∧ Fr [] h1 h' ∧
      mutAt h' (h1.length + 1) = some ((List.range n).map fun k => oE (du ps n a (i + 1) k)) ∧ lstAt h' Lr = some (nats L) ∧ (∀ j, j ∈ L ↔ (j < n ∧ du ps n a (i + 1) j = some i)) ∧ h1.length + 1 < Lr)
    ⟨h1.length + 2, [a], none, none, none, none, rfl, f4, hF, hL, fun j => ?_, by omega⟩ (fun _ _ _ _ => rfl) ?_ ?_
  · rw [du_one]
    by_cases e : j = a
    · simp [e, ha]
    · simp [e]
  · rintro i v es h5 K hv ⟨Lr, L, x6, x7, x8, x9, rfl, f5, hF5, hL5, hLm, hLr⟩ hK _ _ _
    obtain ⟨hi, rfl⟩ := rng_get hv
    have eT : (1 : Int) + (i : Int) = ((i + 1 : Nat) : Int) := by omega
    rw [eT]
    obtain ⟨T, hT⟩ : ∃ T : Int, T = ((i + 1 : Nat) : Int) := ⟨_, rfl⟩
    rw [← hT]
    have hLt := lstAt_lt hL5
    have hL6 : lstAt (h5 ++ [EO.lst []]) Lr = some (nats L) := lstAt_app hL5
    have hF6 : mutAt (h5 ++ [EO.lst []]) (h1.length + 1) = some (fnd ps n a (i + 1) []) := by
      rw [fnd_nil]
      exact mutAt_app hF5
    have hW6 : mutAt (h5 ++ [EO.lst []]) h5.length = some (nats []) := mutAt_new
    have f6 : Fr [] h1 (h5 ++ [EO.lst []]) := f5.trans (Fr.app _ _ _)
    simp [tri_bind, kItL_ref hL6]
    generalize h5 ++ [EO.lst []] = h6 at *
    have hw : h1.length + 1 ≠ h5.length ∧ Lr ≠ h5.length ∧ h1.length ≤ h5.length := by
      have := f5.1
      omega
    generalize h5.length = w at *
    refine tri_for (xs := nats L) (fun m es h' => ∃ W x8 x9, es = [some (.int n), some (.ref t), some (.int a), some (.ref r), some (.ref (h1.length + 1)), some (.ref Lr), some (.int T), some (.ref w), x8, x9] ∧ Fr [] h1 h' ∧
        mutAt h' (h1.length + 1) = some (fnd ps n a (i + 1) ((L.take m).flatMap (nbr ps))) ∧ lstAt h' Lr = some (nats L) ∧ mutAt h' w = some (nats W) ∧ W.Nodup ∧ (∀ k, k ∈ W ↔ (du ps n a (i + 1) k = none ∧ k ∈ (L.take m).flatMap (nbr ps))))
      ⟨[], x8, x9, by simp, f6, by simpa using hF6, hL6, hW6, List.nodup_nil, fun k => by simp⟩ (fun m es h' ⟨_, _, _, _, _, _, hh, _⟩ => hh) ?_ ?_
    · rintro m v es h7 K hv ⟨W, x8, x9, rfl, f7, hF7, hL7, hW7, hnd, hWm⟩ hK _ _ _
      unfold nats at hv
      rw [List.getElem?_map] at hv
      obtain ⟨one, hone, rfl⟩ := Option.map_eq_some_iff.mp hv
      have hone1 := (hLm one).mp (List.mem_of_getElem? hone)
      obtain ⟨row, hr1, hr2⟩ := (hR.fr f7).get hone1.1
      obtain ⟨row0, hr3, hr4⟩ := hR.get hone1.1
      have hrow : row = row0 ∧ row < h1.length := by
        obtain ⟨rs, q1, q2, q3⟩ := hR
        have hlr : one < rs.length := by omega
        have a1 : fIx (.ref r) (.int (one : Int)) h1 = .ok (.ref rs[one]) h1 := f_ixL _ q1 one rfl (by rw [List.getElem?_map, List.getElem?_eq_getElem hlr]; rfl)
        have a2 : fIx (.ref r) (.int (one : Int)) h7 = .ok (.ref rs[one]) h7 := f_ixL _ (f7.lst q1 (by simp)) one rfl (by rw [List.getElem?_map, List.getElem?_eq_getElem hlr]; rfl)
        rw [hr3] at a1
        rw [hr1] at a2
        have b1 : row0 = rs[one] := by injection a1 with z _; injection z
        have b2 : row = rs[one] := by injection a2 with z _; injection z
        have := lstAt_lt hr4
        omega
      simp [tri_bind, hr1, kItL_ref hr2]
      refine tri_for (xs := nats (nbr ps one)) (fun p es h' => ∃ W x9, es = [some (.int n), some (.ref t), some (.int a), some (.ref r), some (.ref (h1.length + 1)), some (.ref Lr), some (.int T), some (.ref w), some (.int (one : Int)), x9] ∧ Fr [] h1 h' ∧
          mutAt h' (h1.length + 1) = some (fnd ps n a (i + 1) ((L.take m).flatMap (nbr ps) ++ (nbr ps one).take p)) ∧ lstAt h' Lr = some (nats L) ∧ lstAt h' row = some (nats (nbr ps one)) ∧ mutAt h' w = some (nats W) ∧ W.Nodup ∧ (∀ k, k ∈ W ↔ (du ps n a (i + 1) k = none ∧ k ∈ (L.take m).flatMap (nbr ps) ++ (nbr ps one).take p)))
        ⟨W, x9, by simp, f7, by simpa using hF7, hL7, hr2, hW7, hnd, fun k => by simpa using hWm k⟩ (fun p es h' ⟨_, _, _, _, _, _, hh, _⟩ => hh) ?_ ?_
      · rintro p v es h8 K hv ⟨W, x9, rfl, f8, hF8, hL8, hr8, hW8, hnd, hWm⟩ hK _ _ _
        unfold nats at hv
        rw [List.getElem?_map] at hv
        obtain ⟨ot, hot, rfl⟩ := Option.map_eq_some_iff.mp hv
        have hotn : ot < n := adj_lt hp (nbr_mem.mp (List.mem_of_getElem? hot))
        have etk : (nbr ps one).take (p + 1) = (nbr ps one).take p ++ [ot] := by rw [List.take_add_one, hot]; rfl
        generalize hV : (L.take m).flatMap (nbr ps) ++ (nbr ps one).take p = V at *
        have eV : (L.take m).flatMap (nbr ps) ++ (nbr ps one).take (p + 1) = V ++ [ot] := by rw [etk, ← List.append_assoc, hV]
        have hix : fIx (.ref (h1.length + 1)) (.int (ot : Int)) h8 = .ok (if du ps n a (i + 1) ot = none ∧ ot ∈ V then .int ((i + 1 : Nat) : Int) else oE (du ps n a (i + 1) ot)) h8 := f_ixL _ (lst_mut hF8) ot rfl (fnd_get hotn)
        by_cases hc : du ps n a (i + 1) ot = none ∧ ot ∉ V
        · rw [if_neg (fun z => hc.2 z.2), hc.1] at hix
          have hW9 : mutAt (h8.set (h1.length + 1) (.lst (fnd ps n a (i + 1) (V ++ [ot])))) w = some (nats W) := by
            rw [mutAt_ne hw.1]
            exact hW8
          have hWl : (nats W).length < 100000 := by
            have := nodup_len n W hnd (fun k hk => by
              have := ((hWm k).mp hk).2
              rw [← hV] at this
              rcases List.mem_append.mp this with z | z
              · obtain ⟨j, _, hj⟩ := List.mem_flatMap.mp z
                exact adj_lt hp (nbr_mem.mp hj)
              · exact adj_lt hp (nbr_mem.mp (List.mem_of_mem_take z)))
            simp [nats]
            omega
          have hs : sLst (.ref (h1.length + 1)) (.int (ot : Int)) (.int T) h8 = .ok () (h8.set (h1.length + 1) (.lst (fnd ps n a (i + 1) (V ++ [ot])))) := by
            rw [← fnd_new hc.1, ← hT]
            exact s_lst (ot : Int) hF8 ot rfl (by rw [fnd_len]; exact hotn)
          simp [tri_bind, hix, oE, hs, kBM_ref _ _ _ (lst_mut hW9), m_append hW9 hWl]
          refine hK _ _ ⟨W ++ [ot], _, rfl, ?_, ?_, ?_, ?_, ?_, ?_, ?_⟩
          · exact (f8.set (.inr (by omega))).set (.inr (by omega))
          · rw [mutAt_ne (fun z => hw.1 z.symm), mutAt_set (mutAt_lt hF8), eV]
          · rw [lstAt_ne (fun z => hw.2.1 z.symm), lstAt_ne (by omega)]
            exact hL8
          · have := f7.1
            rw [lstAt_ne (by omega), lstAt_ne (by omega)]
            exact hr8
          · rw [mutAt_set (by rw [List.length_set]; exact mutAt_lt hW8), ← nats_app]
            rfl
          · rw [List.nodup_append]
            refine ⟨hnd, by simp, fun x hx y hy e => ?_⟩
            rw [List.mem_singleton.mp hy] at e
            subst e
            exact hc.2 ((hWm x).mp hx).2
          · intro k
            rw [eV, List.mem_append, List.mem_append, hWm k, List.mem_singleton]
            constructor
            · rintro (h1 | h1)
              · exact ⟨h1.1, .inl h1.2⟩
              · subst h1
                exact ⟨hc.1, .inr rfl⟩
            · rintro ⟨h1, h2 | h2⟩
              · exact .inl ⟨h1, h2⟩
              · exact .inr h2
        · have hval : ∃ z : Int, (if du ps n a (i + 1) ot = none ∧ ot ∈ V then EV.int ((i + 1 : Nat) : Int) else oE (du ps n a (i + 1) ot)) = .int z := by
            by_cases hv : ot ∈ V
            · cases hd : du ps n a (i + 1) ot with
              | none => exact ⟨_, by simp [hv]; rfl⟩
              | some d => exact ⟨_, by simp [oE]; rfl⟩
            · cases hd : du ps n a (i + 1) ot with
              | none => exact absurd ⟨hd, hv⟩ hc
              | some d => exact ⟨_, by simp [oE]; rfl⟩
          obtain ⟨z, hz⟩ := hval
          rw [hz] at hix
          simp [tri_bind, hix]
          have hc' : du ps n a (i + 1) ot ≠ none ∨ ot ∈ V := by
            by_cases hv : ot ∈ V
            · exact .inr hv
            · exact .inl fun hd => hc ⟨hd, hv⟩
          refine hK _ _ ⟨W, _, rfl, f8, by rw [eV, fnd_skip hc']; exact hF8, hL8, hr8, hW8, hnd, fun k => ?_⟩
          rw [eV, hWm k, List.mem_append, List.mem_singleton]
          constructor
          · rintro ⟨h1, h2⟩
            exact ⟨h1, .inl h2⟩
          · rintro ⟨h1, h2 | h2⟩
            · exact ⟨h1, h2⟩
            · subst h2
              rcases hc' with z | z
              · exact absurd h1 z
              · exact ⟨h1, z⟩
      · rintro es h8 ⟨W, x9, rfl, f8, hF8, hL8, hr8, hW8, hnd, hWm⟩
        have e : (L.take (m + 1)).flatMap (nbr ps) = (L.take m).flatMap (nbr ps) ++ nbr ps one := by
          rw [List.take_add_one, hone]
          simp
        have et : (nbr ps one).take (nats (nbr ps one)).length = nbr ps one := List.take_of_length_le (by simp [nats])
        simp only [et] at hF8 hWm
        exact hK _ _ ⟨W, _, _, rfl, f8, by rw [e]; exact hF8, hL8, hW8, hnd, fun k => by rw [e]; exact hWm k⟩
    · rintro es h7 ⟨W, x8, x9, rfl, f7, hF7, hL7, hW7, hnd, hWm⟩
      have et : L.take (nats L).length = L := List.take_of_length_le (by simp [nats])
      simp only [et] at hF7 hWm
      simp
      refine hK _ _ ⟨w, W, _, _, _, _, rfl, f7, ?_, lst_mut hW7, fun j => ?_, by omega⟩
      · rw [hF7, fnd_step hLm]
      · rw [hWm j]
        constructor
        · rintro ⟨h1, h2⟩
          obtain ⟨k, hk1, hk2⟩ := List.mem_flatMap.mp h2
          have hjn := adj_lt hp (nbr_mem.mp hk2)
          refine ⟨hjn, ?_⟩
          rw [du_step hjn, if_pos ⟨h1, k, ((hLm k).mp hk1).1, nbr_mem.mp hk2, ((hLm k).mp hk1).2⟩]
        · rintro ⟨hjn, h1⟩
          rw [du_step hjn] at h1
          split at h1
          · rename_i hc
            obtain ⟨k, hk1, hk2, hk3⟩ := hc.2
            exact ⟨hc.1, List.mem_flatMap.mpr ⟨k, (hLm k).mpr ⟨hk1, hk3⟩, nbr_mem.mpr hk2⟩⟩
          · have := du_lt h1
            omega
  · rintro es h5 ⟨Lr, L, x6, x7, x8, x9, rfl, f5, hF5, hL5, hLm, hLr⟩
    rw [rng_len] at hF5
    simp
    refine q _ _ ?_ (by omega) (f1.trans f5)
    rw [hF5, show n - 1 + 1 = n by omega]
end K07
set_option Elab.async false
set_option linter.all false
set_option maxRecDepth 100000
set_option maxHeartbeats 4000000
namespace K07
open PySem L2 EE LW
def oD : Option Nat → PyData
  | none => .none
  | some d => .int (d : Int)
theorem dts_o (h : EH) : ∀ xs : List (Option Nat), Dts h (xs.map oD) (xs.map oE)
  | [] => by simp [Dts]
  | x :: xs => by
    simp only [List.map_cons, Dts]
    refine ⟨oE x, xs.map oE, rfl, ?_, dts_o h xs⟩
    cases x <;> simp [oD, oE, Dt]
theorem depth_o : ∀ xs : List (Option Nat), PyData.depthAll (xs.map oD) = 0
  | [] => by simp [PyData.depthAll]
  | x :: xs => by
    have := depth_o xs
    cases x <;> simp [PyData.depthAll, oD, PyData.depth, this]
theorem sm_o : ∀ xs : List (Option Nat), sms (xs.map oD) = true
  | [] => by simp [sms]
  | x :: xs => by
    have := sm_o xs
    cases x <;> simp [sms, oD, sm, this]
theorem same_o {h : EH} {F D : Nat} {xs : List (Option Nat)} (hl : xs.length < 100) (hF : lstAt h F = some (xs.map oE)) (hD : lstAt h D = some (xs.map oE)) : Tri (m__law_same 6 [.ref F, .ref D] h) fun v h' => v = .bl true ∧ Fr [] h h' :=
  same 6 (.list (xs.map oD)) _ _ h (by simp only [Dt]; exact ⟨F, _, rfl, hF, dts_o h xs⟩) (by simp only [Dt]; exact ⟨D, _, rfl, hD, dts_o h xs⟩) (by simp [PyData.depth, depth_o]) (by simp [sm, sm_o]; omega)
variable {ps : List (Nat × Nat)} {n a : Nat}
theorem has_succ (c k : Nat) : has ps n a (c + 1) k = (has ps n a c k || ((decide (c = 0) && decide (k = a)) || (decide (0 < c) && !(((List.range n).filter (adj ps k)).filter fun j => decide (j ∈ (List.range n).filter (has ps n a c))).isEmpty))) := by
  show (has ps n a c k || ((decide (c = 0) && decide (k = a)) || (decide (0 < c) && (List.range n).any fun j => adj ps k j && has ps n a c j))) = _
  congr 3
  rw [Bool.eq_iff_iff]
  simp only [List.any_eq_true, List.mem_range, Bool.and_eq_true, Bool.not_eq_true', List.isEmpty_eq_false_iff_exists_mem, List.mem_filter, decide_eq_true_eq]
  constructor
  · rintro ⟨j, h1, h2, h3⟩
    exact ⟨j, ⟨h1, h2⟩, h1, h3⟩
  · rintro ⟨j, ⟨h1, h2⟩, _, h3⟩
    exact ⟨j, h1, h2, h3⟩
theorem law_ok : EE.LawOk m_law := fun ns hns => by
  suffices h : Tri (m_law [.ref 0] [.ro (ns.map EV.int)]) fun v _ => v = .bl true by
    obtain ⟨v, h', e, rfl⟩ := h.ex
    exact ⟨h', e⟩
  rw [u_law]
  simp [b_law, tri_bind]
  refine start (ns := ns) rfl fun h0 hs f0 => ?_
  simp [tri_bind, ap_kItR1 h0 6 (by decide) (by decide)]
  refine tri_for (xs := rng 0 6) (fun i es h' => St ns h' 1 ∧ ∃ x2 x3 x4 x5 x6 x7 x8 x9 x10 x11 x12, es = [some (.ref 0), some (.ref 1), x2, x3, x4, x5, x6, x7, x8, x9, x10, x11, x12, none, none]) ⟨hs, _, _, _, _, _, _, _, _, _, _, _, rfl⟩ (fun _ _ _ _ => rfl) ?_ ?_
  · rintro i v es h K hv ⟨hs, x2, x3, x4, x5, x6, x7, x8, x9, x10, x11, x12, rfl⟩ hK _ _ _
    clear hv
    simp [tri_bind]
    refine drawnF hs (by decide) (by decide) fun r h1 ra rb hs1 f1 _ => ?_
    obtain ⟨n, hn⟩ : ∃ n : Nat, (2 : Int) + r = (n : Int) := Int.eq_ofNat_of_zero_le (by omega)
    simp only [tri_ok, f_add, hn]
    refine ties hs1 (by omega) (by omega) fun t ps h2 hp hpl ht htl hs2 f2 => ?_
    refine near (lst_mut ht) (by omega) fun r3 h3 hR f3 => ?_
    skip
    have hs3 := hs2.fr f3
    refine drawnF hs3 (by omega) (by omega) fun r4 h4 r4a r4b hs4 f4 l4 => ?_
    obtain ⟨a, rfl⟩ := Int.eq_ofNat_of_zero_le r4a
    have ha : a < n := by omega
    simp [f_rep (h := h4 ++ [EO.lst [EV.non]]) (n : Int) mutAt_new (by omega) (by omega) (by simp), ap_kItR1 _ (n : Int) (show (-100000 : Int) ≤ n by omega) (by omega)]
    have hR4 := hR.frS hs3 f4
    have ht4 := f4.lst (f3.lst (lst_mut ht) (by simp)) (by have := hs.lt; have := f1.1; simp; omega)
    have e0 : (List.replicate n EV.non) = (List.range n).map fun k => oE (du ps n a 0 k) := by
      refine list_ext (by simp) fun i hi => ?_
      have hi2 : i < n := by simpa using hi
      rw [List.getElem?_map, List.getElem?_range hi2, List.getElem?_replicate, if_pos hi2]
      rfl
    have f5 : Fr [] h4 (h4 ++ [EO.lst [EV.non], EO.lst (List.replicate n EV.non), EO.lst []]) := Fr.app _ _ _
    have hD5 : lstAt (h4 ++ [EO.lst [EV.non], EO.lst (List.replicate n EV.non), EO.lst []]) (h4.length + 1) = some ((List.range n).map fun k => oE (du ps n a 0 k)) := by
      unfold lstAt
      rw [List.getElem?_append_right (by omega), Nat.add_sub_cancel_left, ← e0]
      rfl
    have hH5 : lstAt (h4 ++ [EO.lst [EV.non], EO.lst (List.replicate n EV.non), EO.lst []]) (h4.length + 2) = some (nats ((List.range n).filter (has ps n a 0))) := by
      unfold lstAt
      rw [List.getElem?_append_right (by omega), Nat.add_sub_cancel_left]
      have : (List.range n).filter (has ps n a 0) = [] := by
        rw [List.filter_eq_nil_iff]
        intro k _
        simp [has]
      rw [this]
      rfl
    have hs5 := hs4.fr f5
    have hR5 := hR4.fr f5
    have ht5 := f5.lst ht4 (by simp)
    generalize h4 ++ [EO.lst [EV.non], EO.lst (List.replicate n EV.non), EO.lst []] = h5 at *
    refine tri_for (xs := rng 0 n) (fun c es h' => ∃ D H x9, es = [some (.ref 0), some (.ref 1), some v, some (.int (n : Int)), some (.ref t), some (.ref r3), some (.int (a : Int)), some (.ref D), some (.ref H), x9, x10, x11, x12, none, none] ∧ Fr [] h5 h' ∧
        lstAt h' D = some ((List.range n).map fun k => oE (du ps n a c k)) ∧ lstAt h' H = some (nats ((List.range n).filter (has ps n a c))))
      ⟨_, _, _, rfl, Fr.refl _ _, hD5, hH5⟩ (fun _ _ _ _ => rfl) ?_ ?_
    · rintro c w es h6 K hw ⟨D, H, x9, rfl, f6, hD, hH⟩ hK _ _ _
      obtain ⟨hc, rfl⟩ := rng_at hw
      have hR6 := hR5.fr f6
      simp [tri_bind, ap_kItR1 h6 (n : Int) (by omega) (by omega)]
      have ern : rng 0 n = nats (List.range n) := by
        unfold rng nats
        apply List.map_congr_left
        intro k _
        simp
      refine lc_nats (xs := List.range n) (has ps n a (c + 1)) (by simp; omega) (fun _ _ => by exact congrArg some ern) (fun _ _ => by rfl) (by simp) (by rfl) (fun k h7 K hk f7 hK => ?_) fun h7 f7 => ?_
      · have hkn := List.mem_range.mp hk
        rw [has_succ] at hK
        have i1 := f_inNat (f7.lst hH (by simp)) k
        have hkm : decide (k ∈ (List.range n).filter (has ps n a c)) = has ps n a c k := by
          rw [Bool.eq_iff_iff]
          simp [hkn]
        rw [hkm] at i1
        simp [tri_bind, i1]
        cases h1 : has ps n a c k with
        | true =>
          simp
          rw [h1] at hK
          simpa using hK h7 (Fr.refl _ _)
        | false =>
          rw [h1] at hK
          simp
          by_cases hc0 : c = 0
          · subst hc0
            by_cases hka : k = a
            · subst hka
              simp
              simpa using hK h7 (Fr.refl _ _)
            · have : ¬ (k : Int) = (a : Int) := by omega
              simp [this]
              simpa [hka] using hK h7 (Fr.refl _ _)
          · have hcp : 0 < c := by omega
            have hc0' : ¬ (c : Int) = 0 := by omega
            obtain ⟨row, g1, g2⟩ := (hR6.fr f7).get hkn
            simp [hc0, hc0', hcp, g1, kItL_ref g2, tri_bind]
            refine lc_nats (xs := (List.range n).filter (adj ps k)) (fun j => decide (j ∈ (List.range n).filter (has ps n a c))) (by have := List.length_filter_le (adj ps k) (List.range n); simp at this; omega) (fun h8 f8 => by exact f8.lst g2 (by simp)) (fun _ _ => by rfl) (by simp) (by rfl) (fun j h8 K hj f8 hK => ?_) fun h8 f8 => ?_
            · simp [tri_bind, f_inNat ((f7.trans f8).lst hH (by simp)) j]
              simpa using hK h8 (Fr.refl _ _)
            · have hK2 := hK (h8 ++ [EO.lst (nats (((List.range n).filter (adj ps k)).filter fun j => decide (j ∈ (List.range n).filter (has ps n a c)))), EO.lst []]) (f8.trans (Fr.app _ _ _))
              generalize ((List.range n).filter (adj ps k)).filter (fun j => decide (j ∈ (List.range n).filter (has ps n a c))) = X at *
              have l1 : lstAt (h8 ++ [EO.lst (nats X), EO.lst []]) h8.length = some (nats X) := by
                unfold lstAt
                rw [List.getElem?_append_right (Nat.le_refl _), Nat.sub_self]
                rfl
              simp [tri_bind, f_neNil l1 lstAt_new2]
              simpa [hc0, hcp] using hK2
      · have hs7 : lstAt (h7 ++ [EO.lst (nats ((List.range n).filter (has ps n a (c + 1))))]) h7.length = some (nats ((List.range n).filter (has ps n a (c + 1)))) := lstAt_new
        have f8 := f7.trans (Fr.app _ _ [EO.lst (nats ((List.range n).filter (has ps n a (c + 1))))])
        generalize h7 ++ [EO.lst (nats ((List.range n).filter (has ps n a (c + 1))))] = h8 at *
        have hD8 := f8.lst hD (by simp)
        simp [tri_bind, ap_kItR1 h8 (n : Int) (by omega) (by omega)]
        refine tri_lcP (xs := rng 0 n) (fun _ => true) (fun k => oE (du ps n a (c + 1) k)) (by rw [rng_len]; omega) (fun _ _ => rfl) (fun k v h9 K hv f9 hK => ?_) (fun k v h9 K hv f9 _ hK => ?_) fun h9 f9 => ?_
        · simp
          exact hK _ (Fr.refl _ _)
        · obtain ⟨hk, rfl⟩ := rng_at hv
          have i1 : fIx (.ref D) (.int (k : Int)) h9 = .ok (oE (du ps n a c k)) h9 := f_ixL _ (f9.lst hD8 (by simp)) k rfl (by rw [List.getElem?_map, List.getElem?_range hk]; rfl)
          have i2 := f_inNat (f9.lst hs7 (by simp)) k
          have hkm : decide (k ∈ (List.range n).filter (has ps n a (c + 1))) = has ps n a (c + 1) k := by
            rw [Bool.eq_iff_iff]
            simp [hk]
          rw [hkm] at i2
          have ed : du ps n a (c + 1) k = if (du ps n a c k).isNone && has ps n a (c + 1) k then some c else du ps n a c k := rfl
          have hK' := hK h9 (Fr.refl _ _)
          rw [ed] at hK'
          cases hd : du ps n a c k with
          | none =>
            rw [hd] at i1 hK'
            cases hh : has ps n a (c + 1) k with
            | true =>
              rw [hh] at i2 hK'
              simp [wip, tri_bind, i1, i2, oE]
              simpa [oE] using hK'
            | false =>
              rw [hh] at i2 hK'
              simp [wip, tri_bind, i1, i2, oE]
              simpa [oE] using hK'
          | some d =>
            rw [hd] at i1 hK'
            simp [wip, tri_bind, i1, oE]
            simpa [oE] using hK'
        · rw [gvn_true, rng_len]
          refine hK _ _ ⟨_, _, _, rfl, (f6.trans (f8.trans f9)).trans (Fr.app _ _ _), lstAt_new, lstAt_app (f9.lst hs7 (by simp))⟩
    · rintro es h6 ⟨D, H, x9, rfl, f6, hD, hH⟩
      rw [rng_len] at hD hH
      have ht6 := f6.lst ht5 (by simp)
      have hs6 := hs5.fr f6
      simp [tri_bind, f_list ht6]
      have f7 : Fr [] h6 (h6 ++ [EO.lst (prs ps)]) := Fr.app _ _ _
      have hd7 : lstAt (h6 ++ [EO.lst (prs ps)]) h6.length = some (prs ps) := lstAt_new
      have ht7 := f7.lst ht6 (by simp)
      have hD7 := f7.lst hD (by simp)
      have hs7 := hs6.fr f7
      generalize h6 ++ [EO.lst (prs ps)] = h7 at *
      generalize h6.length = hd at *
      rw [ap_kItR1 h7 2 (by decide) (by decide)]
      simp
      refine tri_for (xs := rng 0 2) (fun c es h' => ∃ x11 x12, es = [some (.ref 0), some (.ref 1), some v, some (.int (n : Int)), some (.ref t), some (.ref r3), some (.int (a : Int)), some (.ref D), some (.ref H), x9, some (.ref hd), x11, x12, none, none] ∧ Fr [] h7 h')
        ⟨_, _, rfl, Fr.refl _ _⟩ (fun _ _ _ _ => rfl) ?_ ?_
      · rintro c w es h8 K hw ⟨x11, x12, rfl, f8⟩ hK _ _ _
        simp [tri_bind]
        refine rounds (f8.lst hd7 (by simp)) hp (by omega) (by omega) (by omega) ha fun F h9 hF hFl f9 => ?_
        have e1 : ((List.range n).map fun k => oE (du ps n a n k)) = ((List.range n).map fun k => du ps n a n k).map oE := by rw [List.map_map]; rfl
        rw [e1] at hF
        have hD9 : lstAt h9 D = some (((List.range n).map fun k => du ps n a n k).map oE) := by
          rw [← e1]
          exact f9.lst (f8.lst hD7 (by simp)) (by simp)
        refine (same_o (by simp; omega) (lst_mut hF) hD9).mono ?_
        rintro w2 h10 ⟨rfl, f10⟩
        have f810 := (f8.trans f9).trans f10
        have hF10 := f10.mut hF (by simp)
        simp [f_nePrs (f810.lst hd7 (by simp)) (f810.lst ht7 (by simp)), kBM_ref _ _ _ (lst_mut hF10), m_append hF10 (by simp; omega), tri_bind]
        exact hK _ _ ⟨_, _, rfl, f810.set (.inr (by have := f8.1; omega))⟩
      · rintro es h8 ⟨x11, x12, rfl, f8⟩
        exact hK _ _ ⟨hs7.fr f8, _, _, _, _, _, _, _, _, _, _, _, rfl⟩
  · rintro es h' ⟨hs, x2, x3, x4, x5, x6, x7, x8, x9, x10, x11, x12, rfl⟩
    simp
end K07
open PySem PySem.W PyProof.Rows
set_option maxHeartbeats 0 in
theorem PySem.Challenge.cw_newsflood_k07_rounds_anywhere_holds : PySem.Challenge.rw_newsflood_k07_rounds_anywhere.Holds := by
  w_on; o_law; k_head; (case hw => w_witness2)
  k_fill
  refine L2.walk_of (l := PySem.Challenge.rw_newsflood_k07_rounds_anywhere) (n := 63) (k := 7) (x := "_law_script") (CX := fun _ => L2.CX0) (sp := fun w => EE.spD0 ⟨_, fun _ => (0, [])⟩ K07.m_law) rfl (by decide) rfl ⟨rfl, by decide, by decide⟩ (fun w h Y => PySem.W.kIn_of Y) ?F (fun _ H a ns hl hO hS => EE.law_sp K07.law_ok hl hO hS) (fun _ _ _ _ _ h => h)
  case F =>
    intro w mg fa h KX G hmg
    refine' K07.all_mk KX G hmg ?a0 ?l0 ?c0 ?k0 ?a1 ?l1 ?c1 ?k1 ?a2 ?l2 ?c2 ?k2 ?a3 ?l3 ?c3 ?k3 ?a4 ?l4 ?c4 ?k4 ?a5 ?l5 ?c5 ?k5 ?a6 ?l6 ?c6 ?k6 ?a7 ?l7 ?c7 ?k7 ?a8 ?l8 ?c8 ?k8 ?a9 ?l9 ?c9 ?k9 ?a10 ?l10 ?c10 ?k10 ?a11 ?l11 ?c11 ?k11 ?a12 ?l12 ?c12 ?k12 ?z_bool ?z_int ?z_isinstance ?z_len ?z_list ?z_range ?z_str ?z_tuple ?y_FEWEST_HOUSES ?y_MOST_HOUSES
    (case a0 => k_is); (case l0 => k_is); (case c0 => k_is); (case k0 => k_is); (case a1 => k_is); (case l1 => k_is); (case c1 => k_is); (case k1 => k_is); (case a2 => k_is); (case l2 => k_is); (case c2 => k_is); (case k2 => k_is); (case a3 => k_is); (case l3 => k_is); (case c3 => k_is); (case k3 => k_is); (case a4 => k_is); (case l4 => k_is); (case c4 => k_is); (case k4 => k_is); (case a5 => k_is); (case l5 => k_is); (case c5 => k_is); (case k5 => k_is); (case a6 => k_is); (case l6 => k_is); (case c6 => k_is); (case k6 => k_is); (case a7 => k_is); (case l7 => k_is); (case c7 => k_is); (case k7 => k_is); (case a8 => k_is); (case l8 => k_is); (case c8 => k_is); (case k8 => k_is); (case a9 => k_is); (case l9 => k_is); (case c9 => k_is); (case k9 => k_is); (case a10 => k_is); (case l10 => k_is); (case c10 => k_is); (case k10 => k_is); (case a11 => k_is); (case l11 => k_is); (case c11 => k_is); (case k11 => k_is); (case a12 => k_is); (case l12 => k_is); (case c12 => k_is); (case k12 => k_is); (case z_bool => k_is); (case z_int => k_is); (case z_isinstance => k_is); (case z_len => k_is); (case z_list => k_is); (case z_range => k_is); (case z_str => k_is); (case z_tuple => k_is); (case y_FEWEST_HOUSES => k_is); (case y_MOST_HOUSES => k_is)
